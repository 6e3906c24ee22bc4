import PyProof.Rows.All
import Wide.All
import OpenK.AllK
import Wide.FinOn
import HandS.ForMost
import HandS.IsInst
import HandS.Wide
import HandS.WideBits
import HandS.EndBits
import HandS.Style
import HandS.RaiseMore
import PyProof.ReprRoads
import PyProof.ListStr
import HandS.ForExc
import HandS.Exc
import HandS.ExcIs
import HandS.CallSlots
import HandS.HotCalls
import HandS.Defaults
import HandS.MakeKw
import HandS.MakeKwOnly
import HandS.Nested
import HandS.ExcInit
import KE.KExcSuper
import HandS.ExcField
import HandS.FStr
import HandS.Words
import KE.KExcIs
import HandS.Walk
import HandS.Flow
import HandS.Zip
import PyProof.EqKinds
import PyProof.NeKinds
import KE.KFmtOwn
import HandS.OwnEq
import KE.DatumOrd
import HandS.FStrTup
import KE.DataMinMax
import HandS.TupMul
import PySem.Challenge.RW_lightturns_k36_whole_no_fewer_goings
import HandS.Sort
import HandS.More
import HandS.Finally
import HandS.DictComp
set_option Elab.async false
set_option linter.all false
set_option maxRecDepth 100000
/-! Own layer: defs called where no repr is under way (FnG), repr of data, the end of a law by such a def. -/
namespace LT
open PySem PySem.Spec PyProof.Rows L2

structure FnG (P : Program) (w : World) (K : PySem.W.Frag) (mg : Str → Option Value) (base : Heap)
    (CX : CXT) (k : Nat) (f : Addr) (fd : FuncData) (ps : List Str) (sp : Sp) : Prop where
  argc : ∀ {vs : List V} {H : Hp} {Q : VK} {E : XK}, sp vs H Q E → vs.length = ps.length
  go : ∀ {A : Around} {outer : List Env} {s : Shared} {H : Hp} {args : Args} {us : List Value} {vs : List V}
    {Q : VK} {E : XK}, A.guards = some [] → Room k A → Env0 P w K mg base A outer s H →
    BindsTo s fd args (ps.zip us) → Vals vs us → sp vs H Q E →
    codeAny (model P w) A (.call (.ref f) args) (CR CX outer P w H s Q E) s

section
variable {P : Program} {w : World} {K : PySem.W.Frag} {mg : Str → Option Value} {base : Heap}
theorem FnG.of {CX : CXT} {k : Nat} {f : Addr} {fd : FuncData} {ps : List Str} {sp : Sp}
    (F : FnOk P w K mg base CX k f fd ps sp) : FnG P w K mg base CX k f fd ps sp :=
  ⟨fun h => F.len _ _ _ _ h, fun _ hr e b v h => F.run _ _ _ _ _ _ _ _ _ hr e b v h⟩

theorem okG {x qual : Str} {st : Stmt} {f : Addr} {fd : FuncData} {N ps : List Str} {k : Nat} {sp : Sp}
    (F : Fun K x qual st f fd) (S : FnScope N ps (defScope st))
    (argc : ∀ {vs : List V} {H : Hp} {Q : VK} {E : XK}, sp vs H Q E → vs.length = ps.length)
    (body : ∀ (cdv : Value) (A : Around) (outer : List Env) (s : Shared) (H : Hp) (vs : List V) (Q : VK) (E : XK),
      A.guards = some [] → Room k (A.deeper (envOfC qual (defScope st) s.heap.objs.size f cdv)) → sp vs H Q E →
      ∃ t, PSs (cxOf CX0 P w K mg base N qual (defScope st) f cdv A outer s H E).nox (defBody st) t ∧
        t { nx := fun _ H' => Q .non H', rt := Q } (start N vs) H) :
    FnG P w K mg base CX0 (k + 1) f fd ps sp := by
  obtain ⟨oc, od, kV, doc, pm, an, cdv, ct, osl, rfl, lk, hcd⟩ := F.ex
  refine ⟨argc, ?_⟩
  intro A outer s H args us vs Q E hg hr e0 hb r hsp
  have inS : ∀ b o, base.get? b = some o → s.heap.get? b = some o := fun b o e => (e0.bs b o e).1
  have KX : K.In s.heap := e0.mod.kin.keeps inS
  have hkind : ∀ y ∈ ps.zip us, (defScope st).names.lookup y.1 = some .local ∨
      ((defScope st).names.lookup y.1 = some .cell ∧
        ((cellsFrom (s.heap.objs.size + 1) (defScope st).names []).lookup y.1).isSome = true) := by
    rintro ⟨n, v⟩ hy
    rcases S.par n (List.of_mem_zip hy).1 with q | q
    · exact Or.inl q
    · exact Or.inr ⟨q, PySem.W.cellsFrom_some _ _ _ (Or.inl q)⟩
  refine codeAny_call_function hr.depth (KX _ _ lk) rfl S.co S.gen rfl (PySem.W.codeRec_of KX hcd)
    (hb _ _ _ _ (wpAny_newFunctionEnv_cells S.kind hkind fun env he s1 x => ?_))
  subst he
  refine ⟨(e0.mod.nolimit.keeps inS).keeps x.toInCall.keep, codeAny_func ?_⟩
  obtain ⟨t, ht, hq⟩ := body cdv A outer s H vs Q E hg (hr.deeper _) hsp
  have I := inv_start (CX := CX0) (N := N) (qual := qual) (f := f) (cd := cdv) (E := E) S hr.hd e0 (argc hsp) r x
  refine wpAny_mono (ht.nox.run [] s1 (start N vs) H _ I hq) (fun fl s' hs => ?_) (fun e s' hs => hs)
  cases fl with
  | brk => obtain ⟨_, _, _, q⟩ := hs; exact q.elim
  | cont => obtain ⟨_, _, _, q⟩ := hs; exact q.elim
  | next =>
    obtain ⟨σ', H', J, q⟩ := hs
    exact ⟨V.non, H', J.os, J.bare, J.base, J.hok, rfl, q⟩
  | ret u =>
    obtain ⟨v, σ', H', J, rv, q⟩ := hs
    exact ⟨v, H', J.os, J.bare, J.base, J.hok, rv, q⟩
end

/-! ### the call of such a def -/
section
variable {X : Cx} {CX : CXT} {k : Nat} {f : Addr} {fd : FuncData} {ps : List Str} {sp : Sp} {dvs : List V}
  {ds : List Value} {E : XK} {x : Str} {p pos : Pos} {e : Expr} {es : List Expr} {t : TA}
theorem runG {pins : List (Addr × Obj)} {σ : L2.St} {H : Hp} {s : Shared} {Q : VK} {us : List Value} {vs : List V}
    (F : FnG X.prog X.w X.K X.mg X.base CX k f fd ps sp) (hg : X.A.guards = some []) (hr : Room k X.A)
    (hb : Binds X.K fd ps ds) (hd : Vals dvs ds) (hx : Passes CX X E)
    (I : Inv X pins σ H s) (r : Vals vs us) (h : sp (vs ++ dvs) H Q E) :
    wpAny (model X.prog X.w) X.A (call (.ref f) us) (EP X pins σ Q) X.xe s := by
  have r2 : Vals (vs ++ dvs) (us ++ ds) := r.append hd
  have hl : (us ++ ds).length = ps.length := r2.length.symm.trans (F.argc h)
  refine wpAny_call (codeAny_mono (F.go hg hr I.env0 (hb s us I.kIn hl) r2 h) fun r s' hq => ?_)
  match r, hq with
  | .error e, hq => exact hx pins σ H s e s' I hq
  | .ok (.ret u), hq => exact I.after hq
  | .ok .next, hq => exact hq.elim
  | .ok .brk, hq => exact hq.elim
  | .ok .cont, hq => exact hq.elim
theorem pe_callG (F : FnG X.prog X.w X.K X.mg X.base CX k f fd ps sp) (hG : X.A.guards = some []) (hr : Room k X.A)
    (hg : Gl X x) (hm : X.mg x = some (.ref f)) (hk : PySem.W.keepIn X.K (.ref f) = true) (hb : Binds X.K fd ps ds)
    (hd : Vals dvs ds) (hx : Passes CX X E) (ha : PA X (e :: es) t)
    (hdb : (x == ("__debug__" : Str)) = false := by decide)
    (he : starEach (e :: es) X.env = (false, eval e X.env) :: starEach es X.env := by rfl)
    (hpl : (backTo pos (starEach es X.env)).any (·.1) = false := by rfl) :
    PE X (.Call (.Name x p) (e :: es) [] pos) (tCall sp dvs E t) := by
  refine ⟨fun pins s σ H Q I h => wpAny_Call_Name_kw (ld_glob I hg hm ?_ hdb)⟩
  refine PySem.W.callWith_K (h₀ := X.base) I.ok.mod.kin hk ?_ he hpl
  exact thn (ha.run pos pins s σ H _ I h) fun us s1 ⟨vs, H1, I1, r, q⟩ => ⟨I1.kIn, runG F hG hr hb hd hx I1 r q⟩

/-- f(k = v, ..), keywords alone -/
theorem pe_callKw {ks : List Str} {kws : List Keyword} {tk : TA} {g : List Value → List Value → List Value} {gV : List V → List V → List V}
    (F : FnOk X.prog X.w X.K X.mg X.base CX k f fd ps sp) (hr : Room k X.A) (hg : Gl X x) (hm : X.mg x = some (.ref f))
    (hk : PySem.W.keepIn X.K (.ref f) = true) (hb : KBinds X.K fd ps ks g gV) (hx : Passes CX X E) (hkw : PK X kws tk)
    (hall : (backToKw pos (keywordEach kws X.env)).all (·.1.isSome) = true := by rfl)
    (hks : (backToKw pos (keywordEach kws X.env)).filterMap (·.1) = ks := by rfl)
    (hdb : (x == ("__debug__" : Str)) = false := by decide)
    (hpl : ((backTo pos (starEach [] X.env)).any (·.1) || (backToKw pos (keywordEach kws X.env)).any (·.1.isNone)) = false := by rfl) :
    PE X (.Call (.Name x p) [] kws pos) (tCallK sp gV E tNil tk) := by
  refine ⟨fun pins s σ H Q I h => wpAny_Call_Name_kw (ld_glob I hg hm ?_ hdb)⟩
  refine PySem.W.callWith_KW0 (h₀ := X.base) I.ok.mod.kin hk hall ?_ hpl
  refine thn (hkw.run pos pins s σ H _ I h) fun ws s2 ⟨zs, H2, I2, rz, q2⟩ => ⟨I2.kIn, ?_⟩
  rw [hks]
  exact run_fnk (us := []) F hr hb hx I2 .nil rz q2
/-- positional values, then those of keywords, in the order of the parameters -/
theorem kb_of {K : PySem.W.Frag} {y qual : Str} {st : Stmt} {f : Addr} {fd : FuncData} {ps ks : List Str} (F : Fun K y qual st f fd)
    (h : ∀ (kV doc pm : Value) (an : Option Addr) (cdv ct : Value) (us ws : List Value), (us ++ ws).length = ps.length →
      bindArgs (PySem.W.fnOf y qual (defArgs st) (defBody st) (defScope st) .none kV doc pm an cdv ct) ⟨us, ks.zip ws⟩ = pure (ps.zip (us ++ ws))) :
    KBinds K fd ps ks (· ++ ·) (· ++ ·) := by
  obtain ⟨oc, od, kV, doc, pm, an, cdv, ct, osl, rfl, lk, hcd⟩ := F.ex
  exact ⟨fun s us ws _ hl => .of_eq (h kV doc pm an cdv ct us ws hl), fun r z => r.append z⟩
end

/-! ### repr of data -/
inductive Sh (K : PySem.W.Frag) (H : Hp) : V → PyData → Prop
  | dp {v : V} {d : PyData} : Dp K H v d → d.hasDict = false → Sh K H v d
  | one {a : Addr} {k : Str} {i : Int} : H a = some (.dK [(.inr k, .int i)]) → Sh K H (.ref a) (.dict [(.str k, .int i)])
section
variable {X : Cx} {pins : List (Addr × Obj)} {σ : L2.St} {H : Hp} {s : Shared}
theorem Sh.reads (I : Inv X pins σ H s) {v : V} {d : PyData} {u : Value} (h : Sh X.K H v d) (r : RelV v u) :
    ∃ as, Reads s.heap u d as ∧ (d.hasDict = true → sysModules ∉ as) := by
  cases h with
  | dp h hd =>
    obtain ⟨as, q⟩ := Dp.reads I d v u h r
    exact ⟨as, q, PyData.noDict_hsm hd⟩
  | one h =>
    rename_i a k i
    cases r
    obtain ⟨_, hs, vs, rel, o, es, ep, ho, hx, hd, hko, hp, hn⟩ := I.hok a _ h
    cases rel with
    | cons r1 r2 =>
      cases r2
      rename_i kv
      obtain ⟨kk, uu⟩ := kv
      obtain ⟨e1, t, e2⟩ := r1
      cases e1
      cases e2
      generalize hes : es.toList = l at hp
      cases hp with
      | cons k1 k2 k3 =>
        cases k3
        rename_i e
        have k0 : keyIs (Sum.inr k) e.key = true := k1
        obtain ⟨_, _, z, _⟩ | ⟨y, t', z, e3⟩ := keyIs_shape k0
        · cases z
        · cases z
          refine ⟨_, Reads.dict (as := []) (bs := []) ho hx.1 hd ?_ ?_, fun _ z => ?_⟩
          · rw [hes, List.map_cons, List.map_nil, e3]
            exact ReadsAll.cons (Reads.str _ _) .nil
          · rw [hes, List.map_cons, List.map_nil, k2]
            exact ReadsAll.cons (Reads.int _ _) .nil
          · have z2 : sysModules = a := by simpa using z
            rw [z2] at hs
            simp at hs
theorem call_reprSh (hG : X.A.guards = some []) (hu : X.A.units + 64 < cLine) : CallR X (.builtin "repr")
    (fun xs H Q => ∃ x d, xs = [x] ∧ Sh X.K H x d ∧ d.showable = true ∧ d.depth ≤ 60 ∧ d.shown.length ≤ sizeLine ∧
      Q (.str d.shown) H) := by
  intro pins s σ H xs us Q I r h
  obtain ⟨x, d, rfl, hs, sh, dp, sz, q⟩ := h
  obtain ⟨u, rfl, ru⟩ := vals1 r
  obtain ⟨as, rd, hm⟩ := hs.reads I ru
  cases rd with
  | none => exact PySem.P.repr_of_none ⟨.str _, H, I.tok _, ⟨_, rfl⟩, q⟩
  | bool b => exact PySem.P.repr_of_bool ⟨.str _, H, I.tok _, ⟨_, rfl⟩, q⟩
  | int i t => exact PySem.P.repr_of_int (of_decide_eq_true sh) ⟨.str _, H, I.tok _, ⟨_, rfl⟩, q⟩
  | str y t => exact PySem.P.repr_of_str ⟨.str _, H, I.tok _, ⟨_, rfl⟩, q⟩ sz
  | list h1 h2 h3 h4 =>
    exact repr_of_reads' (.list h1 h2 h3 h4) sh hm hG (by omega) (fun _ _ e => e) (fun h' u tk hk => ⟨.str _, H, I.kept hk, ⟨_, rfl⟩, q⟩) sz
  | tuple h1 h2 h3 h4 =>
    exact repr_of_reads' (.tuple h1 h2 h3 h4) sh hm hG (by omega) (fun _ _ e => e) (fun h' u tk hk => ⟨.str _, H, I.kept hk, ⟨_, rfl⟩, q⟩) sz
  | dict h1 h2 h3 h4 h5 =>
    exact repr_of_reads' (.dict h1 h2 h3 h4 h5) sh hm hG (by omega) (fun _ _ e => e) (fun h' u tk hk => ⟨.str _, H, I.kept hk, ⟨_, rfl⟩, q⟩) sz
end

/-! ### text * number, list(text) -/
section
variable {X : Cx}
theorem rep_list (a : Array Nat) : ∀ (n : Nat) (acc : Array Nat),
    ((List.replicate n a).foldl (· ++ ·) acc).toList = acc.toList ++ (List.replicate n a.toList).flatten
  | 0, acc => by simp
  | n + 1, acc => by
    rw [List.replicate_succ, List.foldl_cons, rep_list a n, List.replicate_succ, List.flatten_cons, Array.toList_append, List.append_assoc]
theorem rep_len (a : Str) (n : Nat) : (Str.mk ((List.replicate n a.cps).foldl (· ++ ·) #[])).length = n * a.length := by
  show Array.size _ = n * a.cps.size
  rw [← Array.length_toList, rep_list]
  simp [List.sum_replicate_nat]
theorem op_mul_str : OpR X (binaryOp .Mult) (fun x y H Q => ∃ (a : Str) (n : Int), x = .str a ∧ y = .int n ∧ 2 ≤ n ∧ n ≤ 1000 ∧ 1 ≤ a.length ∧ a.length ≤ 1000 ∧
    Q (.str ⟨(List.replicate n.toNat a.cps).foldl (· ++ ·) #[]⟩) H) := by
  intro pins s σ H x y v u Q I rx ry h
  obtain ⟨a, n, rfl, rfl, h2, hn, h1, ha, q⟩ := h
  obtain ⟨t, rfl⟩ := rx
  obtain ⟨t', rfl⟩ := ry
  have hz : a.length * n.toNat ≤ 1000000 := Nat.le_trans (Nat.mul_le_mul ha (show n.toNat ≤ 1000 by omega)) (by decide)
  refine PySem.P.mul_str ?_ (fun _ _ => ?_) (fun _ _ => ?_) ?_
  · rw [decide_eq_false (by omega), decide_eq_false (by omega)]
    rfl
  · have h3 : (1000 : Int) ≤ (2 ^ 63 - 1) / n := by
      rw [Int.le_ediv_iff_mul_le (by omega)]
      omega
    omega
  · exact decide_eq_false (by rw [sizeLine_eq]; omega)
  · rw [if_neg (by omega), if_neg]
    · refine ⟨?_, .str _, H, I.tok _, ⟨_, rfl⟩, q⟩
      rw [rep_len, sizeLine_eq, Nat.mul_comm]
      omega
    · rw [Bool.or_eq_true, beq_iff_eq, beq_iff_eq]
      omega
theorem paired_of {α β : Type} {R : α → β → Prop} : ∀ {xs : List α} {ys : List β}, xs.length = ys.length →
    (∀ (j : Nat) x y, xs[j]? = some x → ys[j]? = some y → R x y) → Paired R xs ys
  | [], [], _, _ => .nil
  | [], _ :: _, h, _ => by cases h
  | _ :: _, [], h, _ => by cases h
  | x :: xs, y :: ys, h, f => .cons (f 0 x y rfl rfl) (paired_of (Nat.succ.inj h) fun j a b h1 h2 => f (j + 1) a b h1 h2)
theorem call_list_txt (hc : X.calm = true) : CallR X (.type "list") (fun xs H Q => ∃ (a : Str), xs = [.str a] ∧ a.length ≤ sizeLine ∧
    ∀ l, H l = none → Q (.ref l) (upd H l (.lst (a.cps.toList.map fun c => V.str ⟨#[c]⟩)))) := by
  intro pins s σ H xs us Q I r h
  obtain ⟨a, rfl, hl, q⟩ := h
  obtain ⟨u, rfl, t, rfl⟩ := vals1 r
  refine call_list_str (I.ok.hd hc) a t (hn := hl) fun h' tk acc c hk ho hit => ?_
  have hn : H s.heap.objs.size = none := I.hok.fresh (Nat.le_refl _)
  refine ⟨.ref s.heap.objs.size, _, I.laid (t' := tk) hk (Nat.le_refl _) ?_, rfl, q _ hn⟩
  refine ⟨?_, acc.toList, c, ?_, by simpa using ho⟩
  · rw [List.length_map, Array.length_toList]
    exact hl
  · refine paired_of (by rw [List.length_map, Array.length_toList, Array.length_toList, hit.1]) fun j v u h1 h2 => ?_
    rw [List.getElem?_map, Array.getElem?_toList] at h1
    obtain ⟨d, t', h3, rfl⟩ := hit.2 j u (by rw [← Array.getElem?_toList]; exact h2)
    rw [h3] at h1
    cases h1
    exact ⟨t', rfl⟩
end

/-! ### the end of a law whose def wants that no repr is under way -/
theorem end_call {P : Program} {w : World} {K : PySem.W.Frag} {mg mb : Str → Option Value} {CX : CXT} {k : Nat} {fa a : Addr}
    {fd : FuncData} {x : Str} {sp : Sp} {s₁ : Shared} {vs : List Value} {ns : List Int}
    (KX : K.In s₁.heap) (hns : s₁.heap.Ns mainGlobals mg) (hb : s₁.heap.Ns builtinsNs mb)
    (hbb : ∀ x : Str, x ≠ "__name__" → mb x = bootBuiltins x) (hlim : s₁.heap.NoLimit) (hg : s₁.gens = #[])
    (ha : s₁.heap.get? a = some { cls := .type "list", data := .seq vs.toArray }) (hi : IntsAre vs ns)
    (hl : ns.length ≤ sizeLine) (hr : Room k callerA)
    (F : ∀ base : Heap, K.In base → base.Ns mainGlobals mg → FnG P w K mg base CX k fa fd [x] sp)
    (hbind : ∀ (s : Shared) (u : Value), BindsTo s fd ⟨[u], []⟩ [(x, u)])
    (hsp : ∀ H : Hp, Only H → SqL K H a (ns.map V.int) → sp [.ref a] H (fun v _ => v = .bl true) fun _ _ _ => False)
    (hCX : ∀ H e s', CX [] H s₁ (fun _ _ _ => False) e s' → False) :
    codeAny (model P w) callerA (.call (.ref fa) ⟨[.ref a], []⟩)
      (fun r s' => r = .ok (.ret (.bool true)) ∧ OldK s₁.heap s'.heap ∧ s'.os = s₁.os ∧ AllBare s'.gens) s₁ := by
  have lenV := hi.length
  have start : ∀ H : Hp, Only H → SqL K H a (ns.map V.int) → HOk P w H s₁.heap → (∀ b, H b ≠ none → b = a) →
      (H a ≠ none → K.lookup a = none) → codeAny (model P w) callerA (.call (.ref fa) ⟨[.ref a], []⟩)
        (fun r s' => r = .ok (.ret (.bool true)) ∧ OldK s₁.heap s'.heap ∧ s'.os = s₁.os ∧ AllBare s'.gens) s₁ := by
    intro H hO hS hok hA hK
    have free : ∀ {b : Addr}, (b = a → False) → H b = none := fun {b} hne => by
      cases q : H b with
      | none => rfl
      | some u => exact (hne (hA b (by rw [q]; exact Option.some_ne_none u))).elim
    have nsK : ∀ {b : Addr} {m : Str → Option Value}, s₁.heap.Ns b m → (hidT s₁.heap H).Ns b m := by
      rintro b m ⟨o, es, ep, e, d, r⟩
      refine ⟨o, es, ep, hidT_get e (free fun z => ?_), d, r⟩
      subst z
      rw [ha] at e
      cases e
      cases d
    have inK : K.In (hidT s₁.heap H) := fun b o e => hidT_get (KX b o e) (by
      cases q : H b with
      | none => rfl
      | some u =>
        obtain rfl : b = a := hA b (by rw [q]; exact Option.some_ne_none u)
        have z := hK (by rw [q]; exact Option.some_ne_none u)
        rw [z] at e
        cases e)
    have hM : Mod K mg (hidT s₁.heap H) := ⟨inK, nsK hns, ⟨mb, nsK hb, hbb⟩, hlim.imp fun _ z => ⟨nsK z.1, z.2⟩⟩
    have e0 : Env0 P w K mg (hidT s₁.heap H) callerA [] s₁ H :=
      ⟨rfl, hM, fun b o e => of_hidT e, Nat.le_of_eq (hidT_size _ _), trivial,
        fun b z => absurd (show b ∈ ([] : List Addr) from z) List.not_mem_nil, hok, .of_eq hg⟩
    refine codeAny_mono ((F _ inK (nsK hns)).go (us := [.ref a]) (vs := [.ref a]) rfl hr e0 (hbind s₁ (.ref a)) (.cons rfl .nil) (hsp H hO hS)) fun r s' h => ?_
    match r, h with
    | .error e, h => exact (hCX H e s' h).elim
    | .ok .next, h => exact h.elim
    | .ok .brk, h => exact h.elim
    | .ok .cont, h => exact h.elim
    | .ok (.ret u), h =>
      obtain ⟨v, H', os, bare, un, hok', r', rfl⟩ := h
      obtain rfl : u = Value.bool true := r'
      refine ⟨rfl, OldK.of_keep fun b o e => ?_, os, bare⟩
      rcases hO b with z | ⟨ob, xs, z⟩
      · exact un.keep b o e z (fun y => absurd (show b ∈ ([] : List Addr) from y) List.not_mem_nil) List.not_mem_nil
      · have z1 := (hok b _ z).1
        rw [e] at z1
        cases z1
        exact (hok' b _ (un.frzs b _ _ z)).1
  cases hk : K.lookup a with
  | some o =>
    have e := KX a o hk
    rw [ha] at e
    cases e
    refine start (fun _ => none) (fun _ => .inl rfl) (.inr ⟨_, vs.toArray, _, hk, rfl, rfl, rfl, ?_, by simpa using vals_ints hi⟩)
      (fun b u z => nomatch z) (fun b z => absurd rfl z) fun z => absurd rfl z
    rw [List.size_toArray, lenV]
    exact hl
  | none =>
    refine start (upd (fun _ => none) a (.frz { cls := .type "list", data := .seq vs.toArray } (.lst (ns.map V.int))))
      (fun b => ?_) (.inl (.inr ⟨_, upd_same⟩)) (fun b u z => ?_) (fun b z => ?_) fun _ => hk
    · by_cases q : b = a
      · exact .inr ⟨_, _, by rw [q]; exact upd_same⟩
      · exact .inl (upd_ne q)
    · by_cases q : b = a
      · subst q
        rw [upd_same] at z
        cases z
        exact ⟨ha, by rw [List.length_map]; exact hl, vs, _, vals_ints hi, ha⟩
      · rw [upd_ne q] at z
        cases z
    · by_cases q : b = a
      · exact q
      · exact absurd (upd_ne q) z

theorem end_of {l : PySem.W.OpenLaw} {n k : Nat} {q : Program} {loose : List Str} {XP : (Str → Option Value) → Heap → Prop}
    {YP : World → Heap → Prop} {d : DefRec} {K : Params → PySem.W.Frag} {CX : World → CXT} {sp : World → Sp} {x : Str}
    (hn : l.most = some n) (hn2 : n ≤ sizeLine) (hdf : d.params.defaults = []) (hr : Room k callerA)
    (hY : ∀ (w : World) (h : Heap), YP w h → (K w.params).In h)
    (F : ∀ (w : World) (mg : Str → Option Value) (fa : Addr) (h : Heap), (K w.params).In h → h.Ns mainGlobals mg →
      mg d.name = some (.ref fa) → ∃ fd : FuncData, (∀ (s : Shared) (u : Value), BindsTo s fd ⟨[u], []⟩ [(x, u)]) ∧
        ∀ base : Heap, (K w.params).In base → base.Ns mainGlobals mg →
          FnG l.prog w (K w.params) mg base (CX w) k fa fd [x] (sp w))
    (hsp : ∀ (w : World) (H : Hp) (a : Addr) (ns : List Int), ns.length ≤ n →
      (∀ z ∈ ns, Builtin.Int.intBits z ≤ 1048576) → Only H → SqL (K w.params) H a (ns.map V.int) →
      sp w [.ref a] H (fun v _ => v = .bl true) fun _ _ _ => False)
    (hCX : ∀ (w : World) (H : Hp) (s : Shared) (e : Value) (s' : Shared), CX w [] H s (fun _ _ _ => False) e s' → False) :
    PySem.W.WalkO q loose XP YP l.row.toRowW d [] (fun f vs => PySem.call f vs) :=
  Att.attach_callB hn hdf fun w _ s₁ mg mb fa o pm cd doc a vs ns G Y ho hd hcd hmg hobj hints hlen hbits hg => by
    obtain ⟨fd, hb, hF⟩ := F w mg fa _ (hY w _ Y) G.T.g hmg
    exact end_call (hY w _ Y) G.T.g G.T.b G.T.builtins G.T.nolimit hg hobj hints (Nat.le_trans hlen hn2) hr hF hb
      (fun H hO hS => hsp w H a ns hlen hbits hO hS) fun H e s' => hCX w H s₁ e s'
end LT

set_option Elab.async false
set_option linter.all false
set_option maxRecDepth 100000
/-! Own layer: a def to which the caught error is handed; isinstance of it there. -/
namespace LT
open PySem PySem.Spec PyProof.Rows L2
/-- as FnOk, called within an except suite; p is the caught error, which the promise may name -/
structure FnE (P : Program) (w : World) (K : PySem.W.Frag) (mg : Str → Option Value) (base : Heap)
    (k : Nat) (f : Addr) (fd : FuncData) (ps : List Str) (sp : Addr × Obj → Sp) : Prop where
  argc : ∀ {p : Addr × Obj} {vs : List V} {H : Hp} {Q : VK} {E : XK}, sp p vs H Q E → vs.length = ps.length
  go : ∀ {A : Around} {outer : List Env} {s : Shared} {H : Hp} {args : Args} {us : List Value} {vs : List V}
    {Q : VK} {E : XK} {p : Addr × Obj}, L2H.RoomH k A → L2H.PinOk outer H s p → Env0 P w K mg base A outer s H →
    BindsTo s fd args (ps.zip us) → Vals vs us → sp p vs H Q E →
    codeAny (model P w) A (.call (.ref f) args) (CR CX0 outer P w H s Q E) s
section
variable {P : Program} {w : World} {K : PySem.W.Frag} {mg : Str → Option Value} {base : Heap}
theorem okE {x qual : Str} {st : Stmt} {f : Addr} {fd : FuncData} {N ps : List Str} {k : Nat} {sp : Addr × Obj → Sp}
    (F : Fun K x qual st f fd) (S : FnScope N ps (defScope st))
    (argc : ∀ {p : Addr × Obj} {vs : List V} {H : Hp} {Q : VK} {E : XK}, sp p vs H Q E → vs.length = ps.length)
    (body : ∀ (cdv : Value) (A : Around) (outer : List Env) (s : Shared) (H : Hp) (vs : List V) (Q : VK) (E : XK) (p : Addr × Obj),
      L2H.RoomH k (A.deeper (envOfC qual (defScope st) s.heap.objs.size f cdv)) → sp p vs H Q E →
      ∃ t, PSs (L2H.cxH CX0 P w K mg base N qual (defScope st) f cdv A outer s H E p).nox (defBody st) t ∧
        t { nx := fun _ H' => Q .non H', rt := Q } (start N vs) H) :
    FnE P w K mg base (k + 1) f fd ps sp := by
  obtain ⟨oc, od, kV, doc, pm, an, cdv, ct, osl, rfl, lk, hcd⟩ := F.ex
  refine ⟨argc, ?_⟩
  intro A outer s H args us vs Q E p hr hpin e0 hb r hsp
  have inS : ∀ b o, base.get? b = some o → s.heap.get? b = some o := fun b o e => (e0.bs b o e).1
  have KX : K.In s.heap := e0.mod.kin.keeps inS
  have hkind : ∀ y ∈ ps.zip us, (defScope st).names.lookup y.1 = some .local ∨
      ((defScope st).names.lookup y.1 = some .cell ∧
        ((cellsFrom (s.heap.objs.size + 1) (defScope st).names []).lookup y.1).isSome = true) := by
    rintro ⟨n, v⟩ hy
    rcases S.par n (List.of_mem_zip hy).1 with q | q
    · exact Or.inl q
    · exact Or.inr ⟨q, PySem.W.cellsFrom_some _ _ _ (Or.inl q)⟩
  refine codeAny_call_function hr.depth (KX _ _ lk) rfl S.co S.gen rfl (PySem.W.codeRec_of KX hcd)
    (hb _ _ _ _ (wpAny_newFunctionEnv_cells S.kind hkind fun env he s1 x => ?_))
  subst he
  refine ⟨(e0.mod.nolimit.keeps inS).keeps x.toInCall.keep, codeAny_func ?_⟩
  obtain ⟨t, ht, hq⟩ := body cdv A outer s H vs Q E p (hr.deeper _) hsp
  have I := L2H.inv_startH (CX := CX0) (N := N) (qual := qual) (f := f) (cd := cdv) (E := E) S hpin e0 (argc hsp) r x
  refine wpAny_mono (ht.nox.run [] s1 (start N vs) H _ I hq) (fun fl s' hs => ?_) (fun e s' hs => hs)
  cases fl with
  | brk => obtain ⟨_, _, _, q⟩ := hs; exact q.elim
  | cont => obtain ⟨_, _, _, q⟩ := hs; exact q.elim
  | next =>
    obtain ⟨σ', H', J, q⟩ := hs
    exact ⟨V.non, H', J.os, J.bare, J.base, J.hok, rfl, q⟩
  | ret u =>
    obtain ⟨v, σ', H', J, rv, q⟩ := hs
    exact ⟨v, H', J.os, J.bare, J.base, J.hok, rv, q⟩
end
section
variable {X : Cx} {k : Nat} {f : Addr} {fd : FuncData} {ps : List Str} {sp : Addr × Obj → Sp} {x : Str} {q pos : Pos} {e : Expr}
  {es : List Expr} {t : TA} {p : Addr × Obj}
/-- the call of such a def, where p is pinned -/
def tCallE (p : Addr × Obj) (sp : Addr × Obj → Sp) (t : TA) : TE := fun σ H Q => t σ H fun vs H1 => sp p vs H1 Q E0
theorem pe_callE (F : FnE X.prog X.w X.K X.mg X.base k f fd ps sp) (hr : L2H.RoomH k X.A) (hp : p ∈ X.pn) (hg : Gl X x)
    (hm : X.mg x = some (.ref f)) (hk : PySem.W.keepIn X.K (.ref f) = true) (hb : L2.Binds X.K fd ps []) (ha : PA X (e :: es) t)
    (hdb : (x == ("__debug__" : Str)) = false := by decide)
    (he : starEach (e :: es) X.env = (false, eval e X.env) :: starEach es X.env := by rfl)
    (hpl : (backTo pos (starEach es X.env)).any (·.1) = false := by rfl) :
    PE X (.Call (.Name x q) (e :: es) [] pos) (tCallE p sp t) := by
  refine ⟨fun pins s σ H Q I h => wpAny_Call_Name_kw (ld_glob I hg hm ?_ hdb)⟩
  refine PySem.W.callWith_K (h₀ := X.base) I.ok.mod.kin hk ?_ he hpl
  refine thn (ha.run pos pins s σ H _ I h) fun us s1 ⟨vs, H1, I1, r, h1⟩ => ⟨I1.kIn, ?_⟩
  have hl : (us ++ []).length = ps.length := by
    rw [List.append_nil, ← r.length]
    exact F.argc h1
  have b := hb s1 us I1.kIn hl
  rw [List.append_nil] at b
  obtain ⟨p1, p2, p3, p4, p5⟩ := I1.pin p (List.mem_append_left _ hp)
  have pin : L2H.PinOk X.stack H1 s1 p := ⟨p1, p2, fun z => (List.mem_cons.mp (I1.stkSub p.1 z)).elim p3 p4, p5⟩
  refine wpAny_call (codeAny_mono (F.go hr pin I1.env0 b r h1) fun r s' hq => ?_)
  match r, hq with
  | .error _, hq => exact hq.elim
  | .ok (.ret u), hq => exact I1.after hq
  | .ok .next, hq => exact hq.elim
  | .ok .brk, hq => exact hq.elim
  | .ok .cont, hq => exact hq.elim
end
section
variable {X : Cx} {k : Nat} {f a : Addr} {oe : Obj} {cls : Value} {d : Option Addr} {fd : FuncData} {ps : List Str} {sp : Addr × Obj → Sp} {x : Str} {q pos : Pos} {e : Expr}
  {es : List Expr} {t : TA} {pn : List (Addr × Obj)}
/-- .. in an except suite; its reading names the error by its class and dict alone -/
def tCallZ (a : Addr) (cls : Value) (d : Option Addr) (sp : Addr × Obj → Sp) (t : TA) : TE := fun σ H Q => t σ H fun vs H1 =>
  ∀ oe : Obj, Zc cls d oe → (∃ vs, oe.data = .fields vs) → sp (a, oe) vs H1 Q E0
theorem pe_callZ (F : FnE X.prog X.w X.K X.mg X.base k f fd ps sp) (hr : Room k X.A) (hz : Zc cls d oe) (hf : ∃ vs, oe.data = .fields vs) (hg : Gl X x)
    (hm : X.mg x = some (.ref f)) (hk : PySem.W.keepIn X.K (.ref f) = true) (hb : L2.Binds X.K fd ps []) (ha : PA (X.suite a ((a, oe) :: pn)) (e :: es) t)
    (hdb : (x == ("__debug__" : Str)) = false := by decide)
    (he : starEach (e :: es) X.env = (false, eval e X.env) :: starEach es X.env := by rfl)
    (hpl : (backTo pos (starEach es X.env)).any (·.1) = false := by rfl) :
    PE (X.suite a ((a, oe) :: pn)) (.Call (.Name x q) (e :: es) [] pos) (tCallZ a cls d sp t) := by
  refine ⟨fun pins s σ H Q I h => ?_⟩
  have h2 : t σ H fun vs H1 => (fun vs H1 => ∀ oe : Obj, Zc cls d oe → (∃ vs, oe.data = .fields vs) → sp (a, oe) vs H1 Q E0) vs H1 := h
  refine (wpAny_Call_Name_kw (ld_glob (X := X.suite a ((a, oe) :: pn)) I hg hm ?_ hdb))
  refine PySem.W.callWith_K (h₀ := X.base) I.ok.mod.kin hk ?_ he hpl
  refine thn (ha.run pos pins s σ H _ I h2) fun us s1 ⟨vs, H1, I1, r, h1⟩ => ⟨I1.kIn, ?_⟩
  have h1 := h1 oe hz hf
  have hl : (us ++ []).length = ps.length := by
    rw [List.append_nil, ← r.length]
    exact F.argc h1
  have b := hb s1 us I1.kIn hl
  rw [List.append_nil] at b
  obtain ⟨p1, p2, p3, p4, p5⟩ := I1.pin (a, oe) (List.mem_append_left _ List.mem_cons_self)
  have pin : L2H.PinOk X.stack H1 s1 (a, oe) := ⟨p1, p2, fun z => (List.mem_cons.mp (I1.stkSub a z)).elim p3 p4, p5⟩
  refine wpAny_call (codeAny_mono (F.go (A := X.A.mark (some (.ref a))) ⟨hr.dp, hr.un⟩ pin I1.env0 b r h1) fun r s' hq => ?_)
  match r, hq with
  | .error _, hq => exact hq.elim
  | .ok (.ret u), hq => exact I1.after hq
  | .ok .next, hq => exact hq.elim
  | .ok .brk, hq => exact hq.elim
  | .ok .cont, hq => exact hq.elim
end
/-! ### isinstance of the pinned error -/
section
variable {X : Cx} {a D : Addr} {oe : Obj}
theorem pinned_at {pins : List (Addr × Obj)} {σ : L2.St} {H : Hp} {s : Shared} (I : Inv X pins σ H s) (hp : (a, oe) ∈ X.pn) (hz : Zc (.ref D) none oe)
    (hf : ∃ vs, oe.data = .fields vs) : PySem.W.InstAt s.heap a oe D none := by
  obtain ⟨hget, _⟩ := I.pin (a, oe) (List.mem_append_left _ hp)
  obtain ⟨vs, hv⟩ := hf
  obtain ⟨oc, od, oda, osl⟩ := oe
  obtain ⟨h1, h2⟩ := hz
  dsimp only at h1 h2 hv
  subst h1 h2 hv
  exact ⟨hget, rfl, rfl, trivial⟩
theorem call_isP (hp : (a, oe) ∈ X.pn) (C : ExcC X.K D) (hz : Zc (.ref D) none oe) (hf : ∃ vs, oe.data = .fields vs) :
    CallR X (.builtin "isinstance") (fun xs H Q => ∃ (c : V) (cv : Value) (b : Bool), xs = [.ref a, c] ∧ ClsV c cv ∧ PySem.W.kitOne X.K (.ref D) cv = some b ∧ Q (.bl b) H) := by
  intro pins s σ H xs us Q I r h
  obtain ⟨c, cv, b, rfl, hc, e, q⟩ := h
  obtain ⟨u1, u2, rfl, r1, r2⟩ := vals2 r
  have e2 := hc.eq r2
  subst e2
  cases r1
  exact PySem.W.kia_one (PySem.W.handS_kitx_exc C.hg C.hk C.hs C.hd C.ha C.hn C.ht C.hm) I.kIn (pinned_at I hp hz hf) e (fun z => nomatch z)
    fun tk => ⟨.bl b, H, I.tok tk, rfl, q⟩
theorem call_isPT (hp : (a, oe) ∈ X.pn) (C : ExcC X.K D) (hz : Zc (.ref D) none oe) (hf : ∃ vs, oe.data = .fields vs) :
    CallR X (.builtin "isinstance") (fun xs H Q => ∃ (tp : Addr) (cs : List V) (us : List Value) (b : Bool), xs = [.ref a, .ref tp] ∧ H tp = some (.tup cs) ∧ Paired ClsV cs us ∧
      PySem.W.kitAny X.K (.ref D) us = some b ∧ Q (.bl b) H) := by
  intro pins s σ H xs us Q I r h
  obtain ⟨tp, cs, ws, b, rfl, hT, k, e, q⟩ := h
  obtain ⟨u1, u2, rfl, r1, r2⟩ := vals2 r
  cases r1
  cases (show u2 = Value.ref tp from r2)
  obtain ⟨_, its, rv, o, h1, h2, n, h3⟩ := (show ObjOk X.prog X.w H s.heap tp (.tup cs) from I.hok tp _ hT)
  have e3 := ClsV.all k rv
  subst e3
  obtain ⟨oc, od, dt, sl⟩ := o
  simp only at h2 h3
  subst h2 h3
  exact PySem.W.kia_tup (PySem.W.handS_kitx_exc C.hg C.hk C.hs C.hd C.ha C.hn C.ht C.hm) I.kIn (pinned_at I hp hz hf) h1 e (fun z => nomatch z)
    fun tk => ⟨.bl b, H, I.tok tk, rfl, q⟩
end
end LT

set_option Elab.async false
set_option linter.all false
set_option maxRecDepth 100000
set_option maxHeartbeats 1600000
/-! an own error whose __init__ begins with super().__init__(..): the def by its body -/
namespace LT
open PySem PySem.Spec PyProof.Rows L2 NdefX
/-- what the written part says of it -/
structure SupC (K : PySem.W.Frag) (prog : Program) (mg : Str → Option Value) (C cc : Addr) (F : NF) (ar : Arg) : Prop where
  oex : OexC K C
  cl : F.cl = [(("__class__" : Str), cc)]
  cell : ∃ a b c, K.lookup cc = some ⟨a, b, .cell (some (.ref C)), c⟩
  file : ∃ (a : Value) (b : Option Addr) (vs : Array Value) (c : Array (Option Value)) (fl : Str) (tf : Tok), K.lookup F.c = some ⟨a, b, .fields vs, c⟩ ∧ vs[2]? = some (.str fl tf) ∧ ((prog.main.file : Str) == fl) = true
  hsub : PySem.W.mroIn K C (.ref C) = some true
  sup : PySem.W.ks_superIn K C C "__init__" = some (some (.builtin "ValueError.__init__"))
  sB : PySem.W.subIn K (.ref C) (.type "ValueError") = some true
  op : PySem.W.nsIn K cStatics "thirdparty.any" = some none
  hp : (F.params.posonlyargs ++ F.params.args).head? = some ar
  cd : PySem.W.codeIn K (.ref F.c) F.qual = true
  ks : F.scope.names.lookup ("super" : Str) = some .globalImplicit
  top : (prog.main.scope.names.lookup ("super" : Str)).isSome = false
  ms : mg "super" = none
section
variable {X : Cx} {pins : List (Addr × Obj)} {σ : L2.St} {H : Hp} {s : Shared} {a C u : Addr} {E : Value → Shared → Prop} {A : Around}
/-- the bound ValueError.__init__ called -/
theorem mw_ok {us : List Value} {Q : Value → Shared → Prop} (T : OexC X.K C) (I : Inv X pins σ H s) (e : H a = some (exo a C none)) (hu : s.heap.get? u = some (PySem.W.kxs_mw "ValueError.__init__" a)) (hl : us.length ≤ sizeLine) (h : ∀ s', Inv X pins σ H s' → Q .none s') :
    wpAny (model X.prog X.w) A (call (.ref u) us) Q E s := by
  obtain ⟨nm, q, N, bs, bm, sn, sub, ab, col, dd, k0, k1, k2, k3, k5, hC, hbm⟩ := T.cls
  obtain ⟨t1, ho⟩ := exo_at I.hok e
  have hCh := I.kIn _ _ hC
  have fin : ∀ h', (∀ b o, b ≠ a → s.heap.get? b = some o → h'.get? b = some o) → h'.get? a = some (PySem.W.excObj C s.heap.objs.size none .none) → Q .none { s with heap := h' } := fun h' k hx => by
    have J := I.write (t' := s.toks) (x := a) (e := a) (o := exo a C none) (by rw [e]; exact True.intro) (.inl rfl) k ⟨_, hx⟩ (exo_ok hx)
    have eu : upd H a (exo a C none) = H := by
      funext b
      by_cases hb : b = a
      · rw [hb, upd_same, e]
      · rw [upd_ne hb]
    rw [eu] at J
    exact h _ J
  obtain ⟨hh, g, d, tk, os⟩ := s
  refine wpAny_call (codeAny_of_tree ?_)
  show wpAny _ A.in1 (callAny (.ref u) ⟨us, []⟩) _ _ _
  simp only [callAny]
  refine wpAny_bind (wpAny_load hu ?_)
  simp only [PySem.W.kxs_mw, show (Value.type "method-wrapper" == Value.type "method" || Value.type "method-wrapper" == Value.type "builtin_function_or_method" || Value.type "method-wrapper" == Value.type "method-wrapper") = true by decide, if_true]
  refine PySem.W.KFB.if_so (by decide) ?_
  refine wpAny_bind (PySem.W.check_bound_init F.excBase_ValueError.toExcCallFacts hCh ho rfl ?_)
  refine wpAny_bind (wpAny_pure (wpAny_pure ?_))
  refine ⟨plainId_quiet F.excBase_ValueError.init.plain _, codeAny_builtin F.excBase_ValueError.initEntry ?_⟩
  exact PySem.W.exc_init_tree (cls := .ref C) (t0 := t1) (dv := none) (c2 := .none) (c3 := .none) (b4 := .bool false) ho hl fun h' k hx _ => fin h' k hx
end
section
variable {CX : CXT} {P : Program} {w : World} {K : PySem.W.Frag} {mg : Str → Option Value} {base : Heap} {N ps pr : List Str} {F : NF} {f : Addr} {fd : FuncData} {C cc : Addr} {ar : Arg} {k : Nat} {sp : Sp}
/-- THE RULE -/
theorem sup_of {e : Expr} {es : List Expr} {rest : List Stmt} {p0 p1 p2 pos pos' : Pos} {pl : Env → Sem Bool} (D : SupC K P mg C cc F ar)
    (lk : ∃ (oc : Value) (od : Option Addr) (dV kV doc pm : Value) (an : Option Addr) (ct : Value) (osl : Array (Option Value)), fd = PySem.W.fnX F.name F.qual F.params F.body F.scope F.cl dV kV doc pm an (.ref F.c) ct ∧ K.lookup f = some ⟨oc, od, .func fd, osl⟩)
    (S : NScope N ps ["__class__"] F.scope) (hps : ps = ar.arg :: pr) (hB : F.body = .Expr (.Call (.Attribute (.Call (.Name "super" p0) [] [] p1) "__init__" p2) (e :: es) [] pos) pos' :: rest)
    (len : ∀ vs H Q E, sp vs H Q E → vs.length = ps.length)
    (hc : ∀ env, eval (.Call (.Attribute (.Call (.Name "super" p0) [] [] p1) "__init__" p2) (e :: es) [] pos) env = (do
      let ov ← attributeBase (.Call (.Name "super" p0) [] [] p1) "__init__" env (eval (.Call (.Name "super" p0) [] [] p1) env)
      standAt p2.atName
      let (f, first) ← holding [ov] (getMethod ov "__init__" (pl env))
      callWith pos f first (backTo pos (starEach (e :: es) env)) []))
    (he : ∀ env, starEach (e :: es) env = (false, eval e env) :: starEach es env) (hpl : ∀ env, (backTo pos (starEach es env)).any (·.1) = false)
    (hi : ∀ env : Env, env.scope = F.scope → interactive env = false) (hs : ∀ env, swapsWith (.Call (.Attribute (.Call (.Name "super" p0) [] [] p1) "__init__" p2) (e :: es) [] pos) none pos'.line env = pure false)
    (hbody : ∀ (A : Around) (outer : List Env) (s : Shared) (H : Hp) (vs : List V) (Q : VK) (E : XK), Room k (A.deeper (envF F f s.heap.objs.size)) → sp vs H Q E →
      ∃ (a : Addr) (vr : List V) (ta : TA) (t : TS), vs = .ref a :: vr ∧ H a = some (exo a C none) ∧ PA (ncx CX P w K mg base N F f A outer s H E) (e :: es) ta ∧ PSs (ncx CX P w K mg base N F f A outer s H E) rest t ∧
        ta (startF N vs [some (.ref C)]) H (fun ws H1 => ws.length ≤ 1000 ∧ H1 a = some (exo a C none) ∧ t { nx := fun _ H' => Q .non H', rt := Q } (startF N vs [some (.ref C)]) H1)) :
    FnOk P w K mg base CX (k + 1) f fd ps sp := by
  obtain ⟨oc, od, dV, kV, doc, pm, an, ct, osl, rfl, lk⟩ := lk
  refine ⟨len, fun A outer s H args us vs Q E hr e0 hb r hsp => ?_⟩
  have KB : K.In base := e0.mod.kin
  have KX : K.In s.heap := e0.mod.kin.keeps fun b o e => (e0.bs b o e).1
  have hl := len _ _ _ _ hsp
  have lim : s.heap.NoLimit := e0.mod.nolimit.keeps fun b o e => (e0.bs b o e).1
  obtain ⟨c1, c2, c3, hcell⟩ := D.cell
  obtain ⟨f1, f2, fvs, f3, fl, tf, hfc, hfv, hfl⟩ := D.file
  refine codeAny_call_function hr.depth (KX _ _ lk) rfl S.co S.gen rfl (PySem.W.codeRec_of KX D.cd) (hb _ _ _ _ ?_)
  refine wpAny_newFunctionEnv S.nocell (fun ⟨n, _⟩ hy => S.par n (List.of_mem_zip hy).1) (fun h₁ hns hsb => ⟨lim.fresh _ hsb, ?_⟩) S.kind
  show codeAny _ _ (.func F.body (envF F f s.heap.objs.size)) _ _
  have kp : ∀ b o, s.heap.get? b = some o → h₁.get? b = some o := fun b o e => hsb.extBut b o (Nat.ne_of_lt (Heap.lt_size e)) (Heap.get?_push_of_some _ e)
  obtain ⟨a, vr, ta, t, rfl, ha, hA, hT, hq⟩ := hbody A outer s H vs Q E (hr.deeper _) hsp
  have CA : CellsAt F.cl ["__class__"] [some (.ref C)] s.heap H := by
    rw [D.cl]
    refine ⟨rfl, fun y c e => ?_, fun x y c h1 h2 => ?_, fun i y hi => ?_⟩
    · have e' : c = cc := by
        simp only [List.lookup] at e
        split at e
        · exact (Option.some.inj e).symm
        · cases e
      subst e'
      exact ⟨(e0.bs _ _ (KB _ _ hcell)).2, _, _, KX _ _ hcell, rfl⟩
    · have one : ∀ {z : Str} {c : Addr}, ([(("__class__" : Str), cc)] : List (Str × Addr)).lookup z = some c → z = "__class__" := fun {z c} e => by
        simp only [List.lookup] at e
        split at e
        · rename_i h
          exact eq_of_beq h
        · cases e
      rw [one h1, one h2]
    · cases i with
      | zero =>
        cases hi
        exact ⟨cc, by simp [List.lookup], fun v hv => by cases hv; exact ⟨.ref C, rfl, _, KX _ _ hcell, rfl⟩⟩
      | succ i => cases hi
  have I : Inv (ncx CX P w K mg base N F f A outer s H E) [] (startF N (.ref a :: vr) [some (.ref C)]) H { s with heap := h₁, toks := s.toks + (ps.zip us).length } := inv_startN S hr.hd e0 hl r CA hns kp
  refine PySem.ks_codeAny_funcAt ?_
  have fin : ∀ {σ' : L2.St} {H' : Hp} {v : V} {u : Value} {s' : Shared}, Inv (ncx CX P w K mg base N F f A outer s H E) [] σ' H' s' → L2.RelV v u → Q v H' → CE outer P w H s Q u s' :=
    fun {σ' H' v u s'} J rv q => ⟨v, H', J.os, J.bare, J.base, J.hok, rv, q⟩
  -- the rest of the body
  have last : ∀ {H1 : Hp} {s1 : Shared}, Inv (ncx CX P w K mg base N F f A outer s H E) [] (startF N (.ref a :: vr) [some (.ref C)]) H1 s1 → t { nx := fun _ H' => Q .non H', rt := Q } (startF N (.ref a :: vr) [some (.ref C)]) H1 →
      PySem.wpAt (model P w) (A.deeper (envF F f s.heap.objs.size)) (.func F.body (envF F f s.heap.objs.size)) (execs rest (envF F f s.heap.objs.size)) (fun fl s' => CR CX outer P w H s Q E (.ok (.ret (match fl with | .ret v => v | _ => .none))) s')
        (fun e s' => wpAny (model P w) (A.deeper (envF F f s.heap.objs.size)) (leaving (envF F f s.heap.objs.size) e) (fun _ s'' => CR CX outer P w H s Q E (.error e) s'') (fun e' s'' => CR CX outer P w H s Q E (.error e') s'') s') s1 := by
    intro H1 s1 J q
    refine PySem.wpAt_of_wpAny (wpAny_mono (hT.run [] s1 _ H1 _ J q) (fun fl s' hs => ?_) fun e s' hs => hs)
    cases fl with
    | ret u =>
      obtain ⟨v, σ', H', J, rv, q⟩ := hs
      exact fin J rv q
    | next =>
      obtain ⟨σ', H', J, q⟩ := hs
      exact fin (v := V.non) (u := Value.none) J rfl q
    | brk =>
      obtain ⟨_, _, _, q⟩ := hs
      exact False.elim q
    | cont =>
      obtain ⟨_, _, _, q⟩ := hs
      exact False.elim q
  rw [hB]
  rw [hB] at last
  obtain ⟨nm, qn, Nn, bs, bm, sn, sub, ab, col, dd, k0, k1, k2, k3, k5, hCk, hbm⟩ := D.oex.cls
  obtain ⟨t1, hx⟩ := exo_at I.hok ha
  obtain ⟨cd, hcl, hal⟩ : ∃ cd, PySem.W.clsIn K C = some cd ∧ PySem.W.alongIn K "__init__" ((cd.mro.dropWhile (· != .ref C)).drop 1) = some (some (.builtin "ValueError.__init__")) := by
    have z := D.sup
    unfold PySem.W.ks_superIn at z
    cases hc : PySem.W.clsIn K C with
    | none => rw [hc] at z; cases z
    | some cd => rw [hc] at z; exact ⟨cd, rfl, z⟩
  have hv : (ps.zip us).reverse.lookup ar.arg = some (.ref a) := by
    have ndP : ps.Nodup := by
      have q := S.nd.sublist (List.take_sublist (ps.length + [("__class__" : Str)].length) N)
      rw [S.pre] at q
      exact (List.nodup_append.mp q).1
    cases r with
    | @cons _ u0 _ ur ra rr =>
      obtain rfl : u0 = Value.ref a := ra
      exact zip_look (i := 0) ndP (by rw [hps]; rfl) rfl
  obtain ⟨mb, b1, b2⟩ := e0.mod.blt
  have K1 : K.In h₁ := KX.keeps kp
  have hcl0 : F.cl.lookup ("__class__" : Str) = some cc := by rw [D.cl]; simp [List.lookup]
  refine PySem.ks_wpAt_execs_cons (PySem.ks_wpAt_Expr_any (PySem.ks_wpAt_MethodCall (pl := pl _) ?_ (hc _)) (hi _ rfl) (hs _))
  refine PySem.ks_wpAt_super_base (ar := ar) D.ks (S.frk _ (.head _)) (by decide) rfl (K1 _ _ lk) rfl D.hp rfl (K1 _ _ hfc) rfl hfv hfl D.top ?_
  refine PySem.W.ks_loadName_global S.kind D.ks (PySem.Calls.loadGlobal_builtin (env := envF F f s.heap.objs.size) (e0.mod.glob.keeps I.bk) D.ms (b1.keeps I.bk) ((b2 "super" (by decide)).trans (show bootBuiltins "super" = some (.type "super") by decide +kernel)) ⟨rfl, ?_⟩)
  refine wpAny_loadName_free S.kind (S.frk _ (.head _)) hcl0 ⟨_, K1 _ _ hcell, rfl⟩ ?_
  refine wpAny_loadName_local S.kind (S.par ar.arg (by rw [hps]; exact .head _)) hns hv ?_
  refine PySem.ks_wpAny_isType_cls (K1 _ _ hCk) rfl ⟨rfl, ?_⟩
  refine PySem.ks_wpAny_call_super (K1 _ _ hCk) rfl hx rfl (fun c e => nomatch e) (PySem.W.looks_mroIn K1 D.hsub) (fun h2 eo k2 => ?_)
  have I2 := I.un (t' := s.toks + (ps.zip us).length) (h' := h2) (Un.kept k2) (I.hok.kept k2)
  have K2 : K.In h2 := K1.keeps k2
  have IA : PySem.W.InstAt h2 a (PySem.W.excObj C t1 none .none) C none := ⟨k2 _ _ hx, rfl, rfl, trivial⟩
  refine PySem.W.kxs_getMethod PySem.W.kxs_ValueError eo (PySem.W.looks_opaque K2 D.op) (l₀ := cd.mro) (fun A Q E s k q => wpAny_bind ((PySem.W.looks_clsIn K2 hcl) A _ E s k (wpAny_pure q))) rfl K2 hal (IA.type.andThen (PySem.W.looks_subIn K2 D.sB)) (PySem.W.ks_ne K2 IA hcl) (by decide) ?_
  have k3 : ∀ b o, h2.get? b = some o → (h2.push (PySem.W.kxs_mw "ValueError.__init__" a)).get? b = some o := fun b o e => Heap.get?_push_of_some _ e
  have I3 := I2.un (t' := s.toks + (ps.zip us).length + 1) (h' := h2.push (PySem.W.kxs_mw "ValueError.__init__" a)) (Un.kept k3) (I2.hok.kept k3)
  have hu3 : (h2.push (PySem.W.kxs_mw "ValueError.__init__" a)).get? h2.objs.size = some (PySem.W.kxs_mw "ValueError.__init__" a) := Heap.get?_push_at rfl rfl
  have I4 : Inv (ncx CX P w K mg base N F f A outer s H E) [(h2.objs.size, PySem.W.kxs_mw "ValueError.__init__" a)] (startF N (.ref a :: vr) [some (.ref C)]) H _ := I3.pins_of fun p hp => by
    rw [List.mem_singleton.mp hp]
    exact ⟨hu3, I2.hok.fresh (Nat.le_refl _), Nat.ne_of_gt I2.lt, I2.nofs (Nat.le_refl _), fun v z => nomatch z⟩
  have args : wpAny (model P w) (A.deeper (envF F f s.heap.objs.size)) (spliced (backTo pos (starEach (e :: es) (envF F f s.heap.objs.size)))) _ _ _ := hA.run pos _ _ _ H _ I4 hq
  rw [he] at args
  show wpAny _ _ (callWith pos (.ref h2.objs.size) [] (backTo pos (starEach (e :: es) (envF F f s.heap.objs.size))) []) _ _ _
  rw [he]
  refine PySem.W.kxs_callWith (i := "ValueError.__init__") (x := a) (by show (false || (backTo pos (starEach es _)).any (·.1)) = false; rw [hpl]; rfl) (PySem.Calls.evalArgs_plain ?_)
  refine wpAny_mono args (fun ws s1 hw => ?_) fun e s' hs => hs
  obtain ⟨vs, H1, J, rv, hlen, e1, q⟩ := hw
  have hu := (J.pin _ (List.mem_append_right _ (.head _))).1
  have J0 : Inv (ncx CX P w K mg base N F f A outer s H E) [] (startF N (.ref a :: vr) [some (.ref C)]) H1 s1 := J.pins_of fun p hp => absurd hp (by simp)
  have hlen' : ws.length ≤ sizeLine := by rw [← rv.length, sizeLine_eq]; omega
  exact ⟨hu, mw_ok (X := ncx CX P w K mg base N F f A outer s H E) D.oex J0 e1 hu hlen' fun s' J' => last J' q⟩
end
end LT

set_option Elab.async false
set_option linter.all false
set_option maxRecDepth 100000
set_option maxHeartbeats 1600000
/-! Own layer: a def to which a caught error with a field is handed: isinstance of it, its field; repr of lists of data; the __init__ of such errors. -/
namespace LT
open PySem PySem.Spec PyProof.Rows L2 NdefX
section
variable {X : Cx} {a D dd : Addr} {oe : Obj} {fs : List (Str × V)}
theorem pinned_dd {pins : List (Addr × Obj)} {σ : L2.St} {H : Hp} {s : Shared} (I : Inv X pins σ H s) (hp : (a, oe) ∈ X.pn) (hz : Zc (.ref D) (some dd) oe)
    (hf : ∃ vs, oe.data = .fields vs) (hd : H dd = some (.xd fs)) : ∃ od, PySem.W.InstAt s.heap a oe D (some od) := by
  obtain ⟨hget, _⟩ := I.pin (a, oe) (List.mem_append_left _ hp)
  obtain ⟨vs, hv⟩ := hf
  have hx : ObjOk X.prog X.w H s.heap dd (.xd fs) := I.hok dd _ hd
  obtain ⟨mA, hns, hr⟩ := hx
  obtain ⟨od, ho, hl⟩ := lookIn_ns hns
  exact ⟨od, hget, hz.1, by unfold PySem.W.notCls; rw [hv] <;> rfl, by rw [hz.2]; exact ho⟩
theorem cls_some {K : PySem.W.Frag} {D : Addr} (h : PySem.W.hasDictIn K D = true) : (PySem.W.clsIn K D).isSome = true := by
  obtain ⟨cd, hc, _⟩ := PySem.W.any_some h
  rw [hc]
  rfl
theorem call_isF (hp : (a, oe) ∈ X.pn) (C : ExcC X.K D) (hz : Zc (.ref D) (some dd) oe) (hf : ∃ vs, oe.data = .fields vs) :
    CallR X (.builtin "isinstance") (fun xs H Q => ∃ (fs : List (Str × V)) (c : V) (cv : Value) (b : Bool), H dd = some (.xd fs) ∧ xs = [.ref a, c] ∧ ClsV c cv ∧ PySem.W.kitOne X.K (.ref D) cv = some b ∧ Q (.bl b) H) := by
  intro pins s σ H xs us Q I r h
  obtain ⟨fs, c, cv, b, hd, rfl, hc, e, q⟩ := h
  obtain ⟨u1, u2, rfl, r1, r2⟩ := vals2 r
  have e2 := hc.eq r2
  subst e2
  cases r1
  obtain ⟨od, J⟩ := pinned_dd I hp hz hf hd
  exact PySem.W.kia_one (PySem.W.kitx_exc (cls_some C.hd) C.hg C.hk C.hs C.ha C.hn C.ht C.hm) I.kIn J e (fun z => nomatch z)
    fun tk => ⟨.bl b, H, I.tok tk, rfl, q⟩
theorem call_isFT (hp : (a, oe) ∈ X.pn) (C : ExcC X.K D) (hz : Zc (.ref D) (some dd) oe) (hf : ∃ vs, oe.data = .fields vs) :
    CallR X (.builtin "isinstance") (fun xs H Q => ∃ (fs : List (Str × V)) (tp : Addr) (cs : List V) (us : List Value) (b : Bool), H dd = some (.xd fs) ∧ xs = [.ref a, .ref tp] ∧ H tp = some (.tup cs) ∧ Paired ClsV cs us ∧
      PySem.W.kitAny X.K (.ref D) us = some b ∧ Q (.bl b) H) := by
  intro pins s σ H xs us Q I r h
  obtain ⟨fs, tp, cs, ws, b, hd, rfl, hT, k, e, q⟩ := h
  obtain ⟨u1, u2, rfl, r1, r2⟩ := vals2 r
  cases r1
  cases (show u2 = Value.ref tp from r2)
  obtain ⟨_, its, rv, o, h1, h2, n, h3⟩ := (show ObjOk X.prog X.w H s.heap tp (.tup cs) from I.hok tp _ hT)
  have e3 := ClsV.all k rv
  subst e3
  obtain ⟨oc, od', dt, sl⟩ := o
  simp only at h2 h3
  subst h2 h3
  obtain ⟨od, J⟩ := pinned_dd I hp hz hf hd
  exact PySem.W.kia_tup (PySem.W.kitx_exc (cls_some C.hd) C.hg C.hk C.hs C.ha C.hn C.ht C.hm) I.kIn J h1 e (fun z => nomatch z)
    fun tk => ⟨.bl b, H, I.tok tk, rfl, q⟩
/-- e.f of the pinned error -/
theorem pe_xfP {e : Expr} {te : TE} {pos : Pos} {n : Str} (hp : (a, oe) ∈ X.pn) (T : XfC X.K D) (hno : PySem.W.findIn X.K (.ref D) n = some none)
    (hz : Zc (.ref D) (some dd) oe) (hf : ∃ vs, oe.data = .fields vs) (he : PE X e te) (hb : attributeBase e n X.env (eval e X.env) = eval e X.env := by rfl) :
    PE X (.Attribute e n pos) (tXf a (.ref D) (some dd) D n te) := by
  refine ⟨fun pins s σ H Q I h => ?_⟩
  refine attr_of hb (thn (he.run pins s σ H _ I h) fun u s1 hh => ?_)
  obtain ⟨x, H1, I1, rx, ex, _, dd', fs, v, ed, ea, l, q⟩ := hh
  subst ex
  obtain rfl : u = Value.ref a := rx
  cases ed
  obtain ⟨ha, _⟩ := I1.pin (a, oe) (List.mem_append_left _ hp)
  obtain ⟨vs, hd⟩ := hf
  have hx : ObjOk X.prog X.w H1 s1.heap dd (.xd fs) := I1.hok dd _ ea
  obtain ⟨mA, hns, hr⟩ := hx
  obtain ⟨od, ho, hl⟩ := lookIn_ns hns
  obtain ⟨u, hu, ru⟩ := RelO.some_of (v := v) (o := mA n) (by rw [← l]; exact hr n)
  have J : PySem.W.InstAt s1.heap a oe D (some od) := ⟨ha, hz.1, by unfold PySem.W.notCls; rw [hd] <;> rfl, by rw [hz.2]; exact ho⟩
  exact HandSPX.exc_get I1.kIn J T.ga T.gg T.exC (PySem.W.findObj_own T.hdC hno rfl (by rw [hl, hu])) (handed_of ru) ⟨v, H1, I1.tok _, ru, q⟩
end

/-! ### an own error's __init__(self, field): super().__init__(f".. {field}"); self.field = field -/
abbrev nfI (st : Stmt) (qual : Str) (cc c : Addr) : NF := ⟨"__init__", qual, defArgs st, defBody st, defScope st, [(("__class__" : Str), cc)], c⟩
abbrev arI (st : Stmt) : Arg := ((defArgs st).posonlyargs ++ (defArgs st).args).head!
abbrev LkI (K : PySem.W.Frag) (F : NF) (f : Addr) (fd : FuncData) : Prop := ∃ (oc : Value) (od : Option Addr) (dV kV doc pm : Value) (an : Option Addr) (ct : Value) (osl : Array (Option Value)), fd = PySem.W.fnX F.name F.qual F.params F.body F.scope F.cl dV kV doc pm an (.ref F.c) ct ∧ K.lookup f = some ⟨oc, od, .func fd, osl⟩
theorem nil_app (x : Str) : Str.empty ++ x = x := by
  cases x with
  | mk a =>
    show Str.mk (#[] ++ a) = Str.mk a
    rw [Array.empty_append]
/-- its promise: the field is kept -/
def spErr (C : Addr) (fld : Str) : Sp := fun vs H Q _ => ∃ (a : Addr) (z : Str), vs = [.ref a, .str z] ∧ z.length ≤ 1000 ∧ H a = some (exo a C none) ∧ ∀ dx, H dx = none → dx ≠ a → Q .non (upd (upd H dx (exd dx [(fld, .str z)])) a (exo a C (some dx)))
/-- raise X("..."), as its maker leaves the heap -/
theorem err_made {H : Hp} {a C : Addr} {fld z : Str} {Q : XK} (na : H a = none) (hz : z.length ≤ 1000) (h : ∀ d H', H d = none → Same H H' → H' d = some (.xd [(fld, .str z)]) → Q (.ref C) (some d) H') :
    spErr C fld (.ref a :: ([.str z] ++ [])) (upd H a (exo a C none))
      (fun v H2 => v = .non ∧ ∃ (d : Addr) (fs : List (Str × V)), H2 a = some (exo a C (some d)) ∧ H2 d = some (exd d fs) ∧ H d = none ∧ Q (.ref C) (some d) (upd (del H2 a) d (.xd fs))) (fun _ _ _ => False) := by
  refine ⟨a, z, rfl, hz, upd_same, fun dx n1 n2 => ⟨rfl, dx, [(fld, .str z)], upd_same, ?_, ?_, ?_⟩⟩
  · rw [upd_ne n2, upd_same]
  · rw [upd_ne n2] at n1
    exact n1
  · rw [upd_ne n2] at n1
    refine h dx _ n1 (fun b o e => ?_) upd_same
    have nb := ne_of_none e na
    have nd := ne_of_none e n1
    rw [upd_ne nd, del_ne nb, upd_ne nb, upd_ne nd, upd_ne nb]
    exact e

/-! ### repr of a list of data, among them dicts without entries -/
inductive Sd (K : PySem.W.Frag) (H : Hp) : V → PyData → Prop
  | dp {v : V} {d : PyData} : Dp K H v d → d.hasDict = false → Sd K H v d
  | ed {a : Addr} : H a = some (.dK []) → Sd K H (.ref a) (.dict [])
theorem Sd.mono {K : PySem.W.Frag} {H H' : Hp} {v : V} {d : PyData} (s : Same H H') (h : Sd K H v d) (hm : Dp K H v d → Dp K H' v d) : Sd K H' v d := by
  cases h with
  | dp h hd => exact .dp (hm h) hd
  | ed h => exact .ed (s _ _ h)
section
variable {X : Cx} {pins : List (Addr × Obj)} {σ : L2.St} {H : Hp} {s : Shared}
theorem Sd.reads (I : Inv X pins σ H s) {v : V} {d : PyData} {u : Value} (h : Sd X.K H v d) (r : RelV v u) :
    ∃ as, Reads s.heap u d as ∧ (d.hasDict = true → sysModules ∉ as) := by
  cases h with
  | dp h hd =>
    obtain ⟨as, q⟩ := Dp.reads I d v u h r
    exact ⟨as, q, PyData.noDict_hsm hd⟩
  | ed h =>
    rename_i a
    cases r
    obtain ⟨_, hs, vs, rel, o, es, ep, ho, hx, hd, hko, hp, hn⟩ := I.hok a _ h
    cases rel
    generalize hes : es.toList = l at hp
    cases hp
    refine ⟨_, Reads.dict (as := []) (bs := []) (kvs := []) ho hx.1 hd ?_ ?_, fun _ z => ?_⟩
    · rw [hes]; exact .nil
    · rw [hes]; exact .nil
    · have z2 : sysModules = a := by simpa using z
      rw [z2] at hs
      simp at hs
theorem Sd.all (I : Inv X pins σ H s) : ∀ {vs : List V} {ds : List PyData} {us : List Value}, Paired (Sd X.K H) vs ds → Vals vs us → PyData.showableAll ds = true → (∀ t ∈ PyData.shownAll ds, t.length ≤ sizeLine) →
    ∃ as bs, ReadsAll s.heap us ds as ∧ ReadAtMost s.heap (PyData.depthAll ds) bs ∧ ReprAllK X.prog X.w bs s.heap (PyData.depthAll ds) us (PyData.shownAll ds)
  | _, _, _, .nil, r, _, _ => by
    cases r
    exact ⟨_, [], .nil, (fun _ h => nomatch h), by simp only [PyData.shownAll]; exact .nil⟩
  | _ :: _, d :: ds, _, .cons h hs, r, sh, hz => by
    cases r with
    | cons r1 r2 =>
      have sh' : d.showable = true ∧ PyData.showableAll ds = true := by simpa [PyData.showableAll] using sh
      obtain ⟨as, q1, n1⟩ := h.reads I r1
      obtain ⟨b1, hb1, k1⟩ := ReprK.of_reads (prog := X.prog) (w := X.w) q1 sh'.1 n1 (hz _ (by simp only [PyData.shownAll]; exact List.mem_cons_self ..))
      obtain ⟨bs, b2, q2, hb2, k2⟩ := Sd.all I hs r2 sh'.2 (fun t ht => hz t (by simp only [PyData.shownAll]; exact List.mem_cons_of_mem _ ht))
      refine ⟨_, b1 ++ b2, .cons q1 q2, ?_, ?_⟩
      · simp only [PyData.depthAll]
        exact (hb1.mono (Nat.le_max_left _ _)).append (hb2.mono (Nat.le_max_right _ _))
      · simp only [PyData.depthAll, PyData.shownAll]
        exact .cons ((k1.more fun b hb => List.mem_append_left _ hb).level_le (Nat.le_max_left _ _)) (k2.more_le (fun b hb => List.mem_append_right _ hb) (Nat.le_max_right _ _))
theorem call_reprSd (hG : X.A.guards = some []) (hu : X.A.units + 64 < cLine) : CallR X (.builtin "repr")
    (fun xs H Q => ∃ l vs ds, xs = [.ref l] ∧ SqL X.K H l vs ∧ Paired (Sd X.K H) vs ds ∧ (PyData.list ds).showable = true ∧ (PyData.list ds).depth ≤ 60 ∧ (PyData.list ds).shown.length ≤ sizeLine ∧
      Q (.str (PyData.list ds).shown) H) := by
  intro pins s σ H xs us Q I r h
  obtain ⟨l, vs, ds, rfl, hl, hs, sh, dp, sz, q⟩ := h
  obtain ⟨u, rfl, ru⟩ := vals1 r
  cases ru
  obtain ⟨its, rv, ⟨o, n, ho, hc, _, hd⟩, _⟩ := I.list hl
  have hz' : (listText (PyData.shownAll ds)).length ≤ sizeLine := by simpa only [PyData.shown] using sz
  obtain ⟨as, bs, rd, hb, hk⟩ := Sd.all I hs rv (by simpa [PyData.showable] using sh) (fun t ht => Nat.le_trans (listText_mem_le ht) hz')
  have hna : l ∉ bs := not_mem_of_deeper (.list ho hc hd rd) (by simp only [PyData.depth]; omega) hb
  have dp2 : PyData.depthAll ds + 1 ≤ 60 := by simpa only [PyData.depth] using dp
  have q2 : Q (.str (listText (PyData.shownAll ds))) H := by simpa only [PyData.shown] using q
  refine call_repr_slot (by omega) (show s.TypeIs (.ref l) "list" from ⟨o, ho, hc⟩) F.slot_list_repr.toG ?_
  cases its with
  | nil =>
    cases rd
    simp only [PyData.shownAll, listText_nil] at q2
    exact call_list_repr_empty ⟨o, ho, hc⟩ ho hd ⟨_, _, rfl, ⟨.str _, H, I.kept fun _ _ e => e, ⟨_, rfl⟩, q2⟩⟩
  | cons x l' =>
    exact call_list_reprK (A := X.A.in1) ho hc hd hna (by simpa using hk.length_eq) (fun i y e => hk.item i y (by simpa using e)) hG (fun b _ => Clear.nil b) (by show X.A.units + 1 + _ < cLine; omega) (fun _ _ e => e)
      (fun h' u tk hk' => ⟨_, _, rfl, ⟨.str _, H, I.kept hk', ⟨_, rfl⟩, q2⟩⟩) hz'
end
/-! ### keywords in any turn, no defaults -/
theorem vals_rev : ∀ {vs : List V} {us : List Value}, Vals vs us → Vals vs.reverse us.reverse
  | _, _, .nil => .nil
  | _, _, .cons h r => by
    rw [List.reverse_cons, List.reverse_cons]
    exact (vals_rev r).append (.cons h .nil)
theorem kbn_of {K : PySem.W.Frag} {y qual : Str} {st : Stmt} {f : Addr} {fd : FuncData} {ps : List Str} (F : Fun K y qual st f fd) (n : Nat) (ks : List Str) (g : {α : Type} → List α → List α → List α)
    (hrel : ∀ {vs zs : List V} {us ws : List Value}, Vals vs us → Vals zs ws → Vals (g vs zs) (g us ws))
    (h : ∀ (kV doc pm : Value) (an : Option Addr) (cdv ct : Value) (us ws : List Value), us.length = n → ws.length = ks.length →
      bindArgs (PySem.W.fnOf y qual (defArgs st) (defBody st) (defScope st) .none kV doc pm an cdv ct) ⟨us, ks.zip ws⟩ = pure (ps.zip (g us ws))) :
    KBn K fd ps n ks (fun us ws => g us ws) (fun vs zs => g vs zs) := by
  obtain ⟨oc, od, kV, doc, pm, an, cdv, ct, osl, rfl, lk, hcd⟩ := F.ex
  exact ⟨fun s us ws _ l1 l2 => .of_eq (h kV doc pm an cdv ct us ws l1 l2), fun r1 r2 => hrel r1 r2⟩
end LT

set_option Elab.async false
set_option linter.all false
set_option maxRecDepth 100000
/-! Own layer: shown texts have signs of the alphabet alone (strOk). -/
namespace LT
open PySem PySem.Spec PyProof.Rows L2
theorem ok_of (s : String) : PyData.strOk (Str.ofString s) = true := by
  rw [Str.ofString_eq_toList]
  show (((s.toList.map Char.toNat).toArray).all fun c => decide (c < 0x110000)) = true
  rw [List.all_toArray, List.all_eq_true]
  intro c hc
  obtain ⟨d, _, rfl⟩ := List.mem_map.mp hc
  have h : d.val.toNat.isValidChar := d.valid
  rcases h with h | h <;> (refine decide_eq_true ?_; show d.val.toNat < _; omega)
theorem ok_app {x y : Str} (hx : PyData.strOk x = true) (hy : PyData.strOk y = true) : PyData.strOk (x ++ y) = true := by
  show ((x.cps ++ y.cps).all fun c => decide (c < 0x110000)) = true
  rw [Array.all_append]
  rw [show (x.cps.all fun c => decide (c < 0x110000)) = true from hx, show (y.cps.all fun c => decide (c < 0x110000)) = true from hy]
  rfl
theorem ok_textFrom : ∀ (ts : List Str) (k : Nat) (acc : Str), PyData.strOk acc = true → (∀ t ∈ ts, PyData.strOk t = true) → PyData.strOk (textFrom k acc ts) = true
  | [], _, _, ha, _ => ha
  | t :: r, k, acc, ha, h => ok_textFrom r (k + 1) _ (ok_app (ok_app ha (by split <;> exact ok_of _)) (h t List.mem_cons_self)) fun u hu => h u (List.mem_cons_of_mem _ hu)
theorem ok_listText {ts : List Str} (h : ∀ t ∈ ts, PyData.strOk t = true) : PyData.strOk (listText ts) = true := ok_app (ok_textFrom ts 0 _ (ok_of "[") h) (ok_of "]")
/-- a tuple of texts beside itself -/
theorem strs_lay {xs : List Str} (h : ∀ x ∈ xs, PyData.strOk x = true) : PyData.canLay0 (.tuple (xs.map .str)) = true ∧ SeqAt.shaped (.tuple (xs.map .str)) = true := by
  have a : ∀ {ys : List Str}, (∀ x ∈ ys, PyData.strOk x = true) → PyData.canLayAll0 (ys.map .str) = true ∧ PyData.depthAll (ys.map .str) = 0 := by
    intro ys
    induction ys with
    | nil => intro _; exact ⟨by simp [PyData.canLayAll0], by simp [PyData.depthAll]⟩
    | cons y ys ih =>
      intro hy
      obtain ⟨i1, i2⟩ := ih fun x hx => hy x (List.mem_cons_of_mem _ hx)
      exact ⟨by simp [PyData.canLayAll0, PyData.canLay0, hy y List.mem_cons_self, i1], by simp [PyData.depthAll, PyData.depth, i2]⟩
  obtain ⟨a1, a2⟩ := a h
  have h0 : PyData.canLay0 (.tuple (xs.map .str)) = true := by simpa [PyData.canLay0] using a1
  refine ⟨h0, ?_⟩
  unfold SeqAt.shaped
  rw [h0]
  simp [PyData.depth, a2]
end LT

set_option Elab.async false
set_option linter.all false
set_option maxRecDepth 100000
set_option maxHeartbeats 1600000
/-! Own layer: what every law of this program wants: names of defs, things handed in, pots, heaps that grow. -/
namespace LT
open PySem PySem.Spec PyProof.Rows L2 NdefX
/-- names that are still the built-in ones -/
structure Tx (mg : Str → Option Value) : Prop where
  isi : mg "isinstance" = none
  int : mg "int" = none
  bool : mg "bool" = none
  len : mg "len" = none
  abs : mg "abs" = none
  max : mg "max" = none
  min : mg "min" = none
  divmod : mg "divmod" = none
  range : mg "range" = none
  repr : mg "repr" = none
  zip : mg "zip" = none
  ve : mg "ValueError" = none
  all : mg "all" = none
  any : mg "any" = none
  sum : mg "sum" = none
  sorted : mg "sorted" = none
  list : mg "list" = none
  tuple : mg "tuple" = none
  dict : mg "dict" = none
  enumerate : mg "enumerate" = none
  reversed : mg "reversed" = none
  str : mg "str" = none
  set : mg "set" = none
/-- a def that stands as a name of the module -/
structure Has (K : PySem.W.Frag) (mg : Str → Option Value) (x : Str) (ps : List Str) (st : Stmt) (f : Addr) (fd : FuncData) : Prop where
  fn : Fun K x x st f fd
  bd : L2.Binds K fd ps []
  gl : mg x = some (.ref f)
/-- a method of the class at C -/
structure Mth (K : PySem.W.Frag) (C : Addr) (m q : Str) (ps : List Str) (st : Stmt) (f : Addr) (fd : FuncData) : Prop where
  fn : Fun K m q st f fd
  bd : L2.Binds K fd ps []
  me : Meth K C m f
/-- what is handed in -/
inductive Odd (H : Hp) : V → Prop
  | non : Odd H .non
  | bl (b : Bool) : Odd H (.bl b)
  | int (i : Int) : Odd H (.int i)
  | str (z : Str) : Odd H (.str z)
  | lst {a : Addr} {xs : List V} : H a = some (.lst xs) → Odd H (.ref a)
  | tup {a : Addr} {xs : List V} : H a = some (.tup xs) → Odd H (.ref a)
  | dK {a : Addr} {kvs : List (Key × V)} : H a = some (.dK kvs) → Odd H (.ref a)
theorem Odd.mono {H H' : Hp} (s : Same H H') {v : V} (h : Odd H v) : Odd H' v := by
  cases h with
  | non => exact .non
  | bl b => exact .bl b
  | int i => exact .int i
  | str z => exact .str z
  | lst e => exact .lst (s _ _ e)
  | tup e => exact .tup (s _ _ e)
  | dK e => exact .dK (s _ _ e)
def isInt : V → Bool
  | .int _ => true
  | .bl _ => true
  | _ => false
def isBl : V → Bool
  | .bl _ => true
  | _ => false
theorem Odd.ty {K : PySem.W.Frag} {H : Hp} {v : V} (h : Odd H v) : ∃ t, TyX K H v t ∧ PySem.W.kitOne K t (.type "int") = some (isInt v) ∧ PySem.W.kitOne K t (.type "bool") = some (isBl v) := by
  cases h with
  | non => exact ⟨_, .base .non, kit_ty (show kitB "NoneType" "int" = some false by decide +kernel), kit_ty (show kitB "NoneType" "bool" = some false by decide +kernel)⟩
  | bl b => exact ⟨_, .base (.bl b), kit_ty (show kitB "bool" "int" = some true by decide +kernel), kit_ty (show kitB "bool" "bool" = some true by decide +kernel)⟩
  | int i => exact ⟨_, .base (.int i), kit_ty (show kitB "int" "int" = some true by decide +kernel), kit_ty (show kitB "int" "bool" = some false by decide +kernel)⟩
  | str z => exact ⟨_, .base (.str z), kit_ty (show kitB "str" "int" = some false by decide +kernel), kit_ty (show kitB "str" "bool" = some false by decide +kernel)⟩
  | lst e => exact ⟨_, .base (.lst e), kit_ty (show kitB "list" "int" = some false by decide +kernel), kit_ty (show kitB "list" "bool" = some false by decide +kernel)⟩
  | tup e => exact ⟨_, .base (.tup e), kit_ty (show kitB "tuple" "int" = some false by decide +kernel), kit_ty (show kitB "tuple" "bool" = some false by decide +kernel)⟩
  | dK e => exact ⟨_, .base (.dK e), kit_ty (show kitB "dict" "int" = some false by decide +kernel), kit_ty (show kitB "dict" "bool" = some false by decide +kernel)⟩
def wholeB : V → Bool
  | .int _ => true
  | _ => false
theorem whole_eq (v : V) : (isInt v && !isBl v) = wholeB v := by cases v <;> rfl
def fromB : V → Int → Bool
  | .int i, l => decide (l ≤ i)
  | _, _ => false
def withinB : V → Int → Int → Bool
  | .int i, l, m => decide (l ≤ i) && decide (i ≤ m)
  | _, _, _ => false
theorem from_int {v : V} {l : Int} (h : fromB v l = true) : ∃ i, v = .int i ∧ l ≤ i := by
  cases v <;> first | exact ⟨_, rfl, of_decide_eq_true h⟩ | cases h
theorem bool_false {b : Bool} (h : ¬ b = true) : b = false := by cases b <;> first | rfl | exact absurd rfl h
theorem same_upd {H : Hp} {p : Addr} {o : HO} (h : H p = none) : Same H (upd H p o) := fun b x e => by
  rw [upd_ne (ne_of_none e h)]
  exact e
theorem same_app {H H1 : Hp} {p : Addr} {o : HO} (h : H p = none) (s : Same H H1) : Same H (upd H1 p o) := fun b x e => by
  rw [upd_ne (ne_of_none e h)]
  exact s _ _ e
/-- a pot: two numbers -/
def Pot (H : Hp) (p : Addr) : Prop := ∃ a b : Int, H p = some (.lst [.int a, .int b]) ∧ 0 ≤ a ∧ 0 ≤ b ∧ b < 2147483647
/-- all but what stands at p is as it was -/
def SameB (p : Addr) (H H' : Hp) : Prop := ∀ b o, b ≠ p → H b = some o → H' b = some o
theorem SameB.trans {p : Addr} {H H1 H2 : Hp} (a : SameB p H H1) (b : SameB p H1 H2) : SameB p H H2 := fun c o n h => b c o n (a c o n h)
theorem SameB.of {p : Addr} {H H' : Hp} (s : Same H H') : SameB p H H' := fun b o _ e => s b o e
theorem SameB.upd {p : Addr} {H H' : Hp} {o : HO} (s : SameB p H H') : SameB p H (upd H' p o) := fun b x n e => by
  rw [upd_ne n]
  exact s b x n e
theorem SameB.new {p q : Addr} {H H' : Hp} {o : HO} (h : H q = none) (s : SameB p H H') : SameB p H (L2.upd H' q o) := fun b x n e => by
  rw [upd_ne (ne_of_none e h)]
  exact s b x n e
theorem Pot.ne {H : Hp} {p q : Addr} (h : Pot H p) (n : H q = none) : q ≠ p := fun e => by
  obtain ⟨a, b, e1, _⟩ := h
  rw [← e, n] at e1
  cases e1
theorem SameB.none {p q : Addr} {H H1 : Hp} (s : SameB p H H1) (h : Pot H1 p) (n : H1 q = none) : H q = none := by
  cases e : H q with
  | none => rfl
  | some o =>
    rw [s q o (h.ne n) e] at n
    cases n
theorem Pot.upd {H : Hp} {p q : Addr} {o : HO} (h : Pot H p) (n : q ≠ p) : Pot (L2.upd H q o) p := by
  obtain ⟨a, b, e, r⟩ := h
  exact ⟨a, b, by rw [upd_ne n.symm]; exact e, r⟩
theorem Pot.mono {H H' : Hp} {p : Addr} (h : Pot H p) (s : Same H H') : Pot H' p := by
  obtain ⟨a, b, e, r⟩ := h
  exact ⟨a, b, s _ _ e, r⟩
theorem ne_of_pot {H : Hp} {p q : Addr} {o : HO} (h : Pot H p) (e : H q = some o) (n : ∀ a b : Int, o ≠ .lst [.int a, .int b] := by intros; nofun) : q ≠ p := by
  obtain ⟨a, b, ep, _⟩ := h
  exact ne_of e ep (n a b)
theorem sameB_new {p : Addr} {H H1 H2 : Hp} (n : H p = none) (s : Same H H1) (b : SameB p H1 H2) : Same H H2 := fun c o e => b c o (ne_of_none e n) (s c o e)

theorem lg_of {i : Int} (h : i.natAbs ≤ 10 ^ 60) : i.natAbs.log2 < 1920 := by
  rcases Nat.eq_zero_or_pos i.natAbs with z | z
  · rw [z]; decide
  · rw [Nat.log2_lt (by omega)]
    exact Nat.lt_of_le_of_lt h (by decide)
theorem tlen {i : Int} (h : i.natAbs.log2 < 1920) : (Str.ofString (toString i)).length ≤ 1921 := by
  rw [PySem.ofString_length]
  exact int_text_length_le (by decide) h
theorem same_made {H : Hp} {x dx C : Addr} {o : HO} (nx : H x = none) (nd : H dx = none) : Same H (upd (upd H dx (.own x)) x o) := fun b z e => by
  rw [upd_ne (ne_of_none e nx), upd_ne (ne_of_none e nd)]
  exact e

/-- a list of one own error with its field: facts of the class and its __init__ -/
structure Nx (K : PySem.W.Frag) (P : Program) (mg : Str → Option Value) (st : Stmt) (nm q fld : Str) (CN fN cc c : Addr) (fdN : FuncData) : Prop where
  sup : SupC K P mg CN cc (nfI st q cc c) (arI st)
  lk : LkI K (nfI st q cc c) fN fdN
  hno : PySem.W.findIn K (.ref CN) fld = some none
  ini : PySem.W.findIn K (.ref CN) "__init__" = some (some (.ref fN))
  tI : PySem.W.typeIn K (.ref fN) = some (.type "function")
  bd : L2.Binds K fdN ["self", fld] []
  gl : mg nm = some (.ref CN)
/-! ### isinstance, in an except suite, of an error of any class -/
section
variable {X : Cx} {a : Addr} {oe : Obj} {cls : Value} {d : Option Addr}
/-- the error's dict stands -/
def HasD (d : Option Addr) (H : Hp) : Prop := d = none ∨ ∃ (dd : Addr) (fs : List (Str × V)), d = some dd ∧ H dd = some (.xd fs)
theorem HasD.mono {H H' : Hp} (h : HasD d H) (s : Same H H') : HasD d H' := by
  rcases h with h | ⟨dd, fs, e, h⟩
  · exact .inl h
  · exact .inr ⟨dd, fs, e, s _ _ h⟩
theorem pinned_any {pins : List (Addr × Obj)} {σ : L2.St} {H : Hp} {s : Shared} {D : Addr} (I : Inv X pins σ H s) (hp : (a, oe) ∈ X.pn) (hz : Zc (.ref D) d oe)
    (hf : ∃ vs, oe.data = .fields vs) (hd : HasD d H) : ∃ od, PySem.W.InstAt s.heap a oe D od := by
  rcases hd with rfl | ⟨dd, fs, rfl, hd⟩
  · exact ⟨none, pinned_at I hp hz hf⟩
  · obtain ⟨od, h⟩ := pinned_dd I hp hz hf hd
    exact ⟨some od, h⟩
theorem call_isX (hp : (a, oe) ∈ X.pn) (hz : Zc cls d oe) (hf : ∃ vs, oe.data = .fields vs) :
    CallR X (.builtin "isinstance") (fun xs H Q => ∃ (D : Addr) (c : V) (cv : Value) (b : Bool), cls = .ref D ∧ ExcC X.K D ∧ HasD d H ∧ xs = [.ref a, c] ∧ ClsV c cv ∧ PySem.W.kitOne X.K (.ref D) cv = some b ∧ Q (.bl b) H) := by
  intro pins s σ H xs us Q I r h
  obtain ⟨D, c, cv, b, rfl, C, hd, rfl, hc, e, q⟩ := h
  obtain ⟨u1, u2, rfl, r1, r2⟩ := vals2 r
  have e2 := hc.eq r2
  subst e2
  cases r1
  obtain ⟨od, J⟩ := pinned_any I hp hz hf hd
  exact PySem.W.kia_one (PySem.W.kitx_exc (cls_some C.hd) C.hg C.hk C.hs C.ha C.hn C.ht C.hm) I.kIn J e (fun z => nomatch z)
    fun tk => ⟨.bl b, H, I.tok tk, rfl, q⟩
theorem call_isXT (hp : (a, oe) ∈ X.pn) (hz : Zc cls d oe) (hf : ∃ vs, oe.data = .fields vs) :
    CallR X (.builtin "isinstance") (fun xs H Q => ∃ (D : Addr) (tp : Addr) (cs : List V) (us : List Value) (b : Bool), cls = .ref D ∧ ExcC X.K D ∧ HasD d H ∧ xs = [.ref a, .ref tp] ∧ H tp = some (.tup cs) ∧ Paired ClsV cs us ∧
      PySem.W.kitAny X.K (.ref D) us = some b ∧ Q (.bl b) H) := by
  intro pins s σ H xs us Q I r h
  obtain ⟨D, tp, cs, ws, b, rfl, C, hd, rfl, hT, k, e, q⟩ := h
  obtain ⟨u1, u2, rfl, r1, r2⟩ := vals2 r
  cases r1
  cases (show u2 = Value.ref tp from r2)
  obtain ⟨_, its, rv, o, h1, h2, n, h3⟩ := (show ObjOk X.prog X.w H s.heap tp (.tup cs) from I.hok tp _ hT)
  have e3 := ClsV.all k rv
  subst e3
  obtain ⟨oc, od', dt, sl⟩ := o
  simp only at h2 h3
  subst h2 h3
  obtain ⟨od, J⟩ := pinned_any I hp hz hf hd
  exact PySem.W.kia_tup (PySem.W.kitx_exc (cls_some C.hd) C.hg C.hk C.hs C.ha C.hn C.ht C.hm) I.kIn J h1 e (fun z => nomatch z)
    fun tk => ⟨.bl b, H, I.tok tk, rfl, q⟩
end
section
variable {X : Cx} {a : Addr} {oe : Obj} {cls : Value} {d : Option Addr} {pn : List (Addr × Obj)}
def rIsX (K : PySem.W.Frag) (a : Addr) (cls : Value) (d : Option Addr) : List V → Hp → VK → Prop := fun xs H Q => ∃ (D : Addr) (c : V) (cv : Value) (b : Bool), cls = .ref D ∧ ExcC K D ∧ HasD d H ∧ xs = [.ref a, c] ∧ ClsV c cv ∧ PySem.W.kitOne K (.ref D) cv = some b ∧ Q (.bl b) H
def rIsXT (K : PySem.W.Frag) (a : Addr) (cls : Value) (d : Option Addr) : List V → Hp → VK → Prop := fun xs H Q => ∃ (D : Addr) (tp : Addr) (cs : List V) (us : List Value) (b : Bool), cls = .ref D ∧ ExcC K D ∧ HasD d H ∧ xs = [.ref a, .ref tp] ∧ H tp = some (.tup cs) ∧ Paired ClsV cs us ∧
      PySem.W.kitAny K (.ref D) us = some b ∧ Q (.bl b) H
theorem call_isS (hz : Zc cls d oe) (hf : ∃ vs, oe.data = .fields vs) : CallR (X.suite a ((a, oe) :: pn)) (.builtin "isinstance") (rIsX X.K a cls d) := call_isX (X := X.suite a ((a, oe) :: pn)) (a := a) (oe := oe) List.mem_cons_self hz hf
theorem call_isST (hz : Zc cls d oe) (hf : ∃ vs, oe.data = .fields vs) : CallR (X.suite a ((a, oe) :: pn)) (.builtin "isinstance") (rIsXT X.K a cls d) := call_isXT (X := X.suite a ((a, oe) :: pn)) (a := a) (oe := oe) List.mem_cons_self hz hf
end
/-! ### things of all sorts, with their data -/
inductive Th (H : Hp) : V → PyData → Prop
  | non : Th H .non .none
  | bl (b : Bool) : Th H (.bl b) (.bool b)
  | int (i : Int) : i.natAbs ≤ 10 ^ 61 → Th H (.int i) (.int i)
  | str (z : Str) : (PyData.str z).showable = true → (PyData.str z).shown.length ≤ 1921 → PyData.strOk (PyData.str z).shown = true → Th H (.str z) (.str z)
  | lst {a : Addr} (n : Int) : n.natAbs ≤ 10 ^ 61 → H a = some (.lst [.int n]) → Th H (.ref a) (.list [.int n])
  | tup {a : Addr} (n : Int) : n.natAbs ≤ 10 ^ 61 → H a = some (.tup [.int n]) → Th H (.ref a) (.tuple [.int n])
  | dk {a : Addr} : H a = some (.dK []) → Th H (.ref a) (.dict [])
theorem lg61 {i : Int} (h : i.natAbs ≤ 10 ^ 61) : i.natAbs.log2 < 1920 := by
  rcases Nat.eq_zero_or_pos i.natAbs with z | z
  · rw [z]; decide
  · rw [Nat.log2_lt (by omega)]
    exact Nat.lt_of_le_of_lt h (by decide)
theorem tlen61 {i : Int} (h : i.natAbs ≤ 10 ^ 61) : (Str.ofString (toString i)).length ≤ 204 := by
  rw [PySem.ofString_length]
  rcases Nat.eq_zero_or_pos i.natAbs with z | z
  · rw [show i = 0 by omega]; decide
  · have : i.natAbs.log2 < 203 := by
      rw [Nat.log2_lt (by omega)]
      exact Nat.lt_of_le_of_lt h (by decide)
    exact Nat.le_trans (int_text_length_le (k := 203) (by decide) this) (by decide)
theorem Th.monoB {H H' : Hp} {p : Addr} {v : V} {d : PyData} (h : Th H v d) (hp : Pot H p) (s : SameB p H H') : Th H' v d := by
  cases h with
  | non => exact .non
  | bl b => exact .bl b
  | int i hi => exact .int i hi
  | str z a b c => exact .str z a b c
  | lst n hn e => exact .lst n hn (s _ _ (ne_of_pot hp e) e)
  | tup n hn e => exact .tup n hn (s _ _ (ne_of_pot hp e) e)
  | dk e => exact .dk (s _ _ (ne_of_pot hp e) e)
theorem Th.mono {H H' : Hp} {v : V} {d : PyData} (h : Th H v d) (s : Same H H') : Th H' v d := by
  cases h with
  | non => exact .non
  | bl b => exact .bl b
  | int i hi => exact .int i hi
  | str z a b c => exact .str z a b c
  | lst n hn e => exact .lst n hn (s _ _ e)
  | tup n hn e => exact .tup n hn (s _ _ e)
  | dk e => exact .dk (s _ _ e)
theorem Th.upd {H : Hp} {th : Addr} {v : V} {d : PyData} {xs : List V} {o : HO} (h : Th H v d) (ht : H th = some (.lst xs)) (hl : xs.length ≠ 1) : Th (L2.upd H th o) v d := by
  cases h with
  | non => exact .non
  | bl b => exact .bl b
  | int i hi => exact .int i hi
  | str z a b c => exact .str z a b c
  | lst n hn e => exact .lst n hn (by rw [upd_ne (ne_of e ht (by intro z; cases z; exact hl rfl))]; exact e)
  | tup n hn e => exact .tup n hn (by rw [upd_ne (ne_of e ht (by intro z; cases z))]; exact e)
  | dk e => exact .dk (by rw [upd_ne (ne_of e ht (by intro z; cases z))]; exact e)
theorem Th.odd {H : Hp} {v : V} {d : PyData} (h : Th H v d) : Odd H v := by
  cases h with
  | non => exact .non
  | bl b => exact .bl b
  | int i hi => exact .int i
  | str z a b c => exact .str _
  | lst n hn e => exact .lst e
  | tup n hn e => exact .tup e
  | dk e => exact .dK e
theorem Th.sd {K : PySem.W.Frag} {H : Hp} {v : V} {d : PyData} (h : Th H v d) : Sd K H v d := by
  cases h with
  | non => exact .dp .non (by simp [PyData.hasDict])
  | bl b => exact .dp (.bl b) (by simp [PyData.hasDict])
  | int i hi => exact .dp (.int i) (by simp [PyData.hasDict])
  | str z a b c => exact .dp (.str _) (by simp [PyData.hasDict])
  | lst n hn e => exact .dp (.lst (SqL.of e) (.cons (.int n) .nil)) (by simp [PyData.hasDict, PyData.hasDictAll])
  | tup n hn e => exact .dp (.tup (SqT.of e) (.cons (.int n) .nil)) (by simp [PyData.hasDict, PyData.hasDictAll])
  | dk e => exact .ed e
theorem shown_one (n : Int) : (PyData.list [.int n]).shown = listText [Str.ofString (toString n)] ∧ (PyData.tuple [.int n]).shown = tupleText [Str.ofString (toString n)] := by
  constructor
  · simp only [PyData.shown, PyData.shownAll]
  · simp only [PyData.shown, PyData.shownAll]
theorem Th.fit {H : Hp} {v : V} {d : PyData} (h : Th H v d) : d.showable = true ∧ d.depth ≤ 1 ∧ d.shown.length ≤ 1921 := by
  cases h with
  | non => exact ⟨by simp [PyData.showable], by simp [PyData.depth], by decide +kernel⟩
  | bl b => cases b <;> exact ⟨by simp [PyData.showable], by simp [PyData.depth], by decide +kernel⟩
  | int i hi => exact ⟨by simpa [PyData.showable] using lg61 hi, by simp [PyData.depth], by simp only [PyData.shown]; exact Nat.le_trans (tlen61 hi) (by decide)⟩
  | str z a b c => exact ⟨a, by simp [PyData.depth], b⟩
  | lst n hn e =>
    refine ⟨by simpa [PyData.showable, PyData.showableAll] using lg61 hn, by simp [PyData.depth, PyData.depthAll], ?_⟩
    rw [(shown_one n).1]
    have := listText_len_le [Str.ofString (toString n)]
    have := tlen61 hn
    simp only [List.map_cons, List.map_nil, List.sum_cons, List.sum_nil, List.length_cons, List.length_nil] at *
    omega
  | tup n hn e =>
    refine ⟨by simpa [PyData.showable, PyData.showableAll] using lg61 hn, by simp [PyData.depth, PyData.depthAll], ?_⟩
    rw [(shown_one n).2]
    have := tupleText_len_le [Str.ofString (toString n)]
    have := tlen61 hn
    simp only [List.map_cons, List.map_nil, List.sum_cons, List.sum_nil, List.length_cons, List.length_nil] at *
    omega
  | dk e => exact ⟨by decide +kernel, by decide +kernel, by decide +kernel⟩
/-- three of them in a list -/
theorem fit3 {H : Hp} {a b c : V} {da db dc : PyData} (ha : Th H a da) (hb : Th H b db) (hc : Th H c dc) : (PyData.list [da, db, dc]).showable = true ∧ (PyData.list [da, db, dc]).depth ≤ 60 ∧ (PyData.list [da, db, dc]).shown.length ≤ sizeLine := by
  obtain ⟨a1, a2, a3⟩ := ha.fit
  obtain ⟨b1, b2, b3⟩ := hb.fit
  obtain ⟨c1, c2, c3⟩ := hc.fit
  refine ⟨by simp [PyData.showable, PyData.showableAll, a1, b1, c1], by simp only [PyData.depth, PyData.depthAll]; omega, ?_⟩
  have e := listText_len_le [da.shown, db.shown, dc.shown]
  simp only [List.map_cons, List.map_nil, List.sum_cons, List.sum_nil, List.length_cons, List.length_nil] at e
  have e2 : PyData.shown (.list [da, db, dc]) = listText [da.shown, db.shown, dc.shown] := by simp only [PyData.shown, PyData.shownAll]
  rw [e2, sizeLine_eq]
  omega
/-! ### xs.count(y), flat things -/
theorem count_eqU {x : V} : ∀ {xs : List V} {us : List Value}, Vals xs us → xs.all flatV = true → us.countP (eqU x) = xs.countP fun y => eqV y x
  | _, _, .nil, _ => rfl
  | y :: xs, u :: us, .cons r t, f => by
    rw [List.all_cons, Bool.and_eq_true] at f
    rw [List.countP_cons, List.countP_cons, eqU_of r f.1, count_eqU t f.2]
def rCntV (K : PySem.W.Frag) : V → List V → Hp → VK → Prop := fun x xs H Q => ∃ (p : Addr) (ys : List V) (y : V), x = .ref p ∧ xs = [y] ∧ SqL K H p ys ∧ flatV y = true ∧ ys.all flatV = true ∧ Q (.int (ys.countP fun z => eqV z y : Nat)) H
theorem mt_countV {X : Cx} : MtR X "list.count" (rCntV X.K) := by
  intro pins s σ H x xs v us Q I rx rxs h
  obtain ⟨p, ys, y, rfl, rfl, hs, fy, fs, q⟩ := h
  cases rx
  obtain ⟨u, rfl, ru⟩ := rxs.one
  obtain ⟨its, rv, ⟨⟨cls, dd, data, sl⟩, n, ho, hc, hdn, hd⟩, hlen⟩ := I.list hs
  simp only at hc hd
  subst hc hd
  refine call_meets PySem.F.slot_list_count ⟨_, ho, rfl⟩ PySem.F.entry_list_count (PySem.F.args_list_count_2 _ _)
    (SeqAt.list_countAt p its.toArray n dd sl u (eqU y)) ⟨ho, fun z hz => mem_eqAt ru fy rv fs z (by simpa using hz), ?_⟩
  have ec : its.toArray.toList.countP (eqU y) = ys.countP fun z => eqV z y := count_eqU rv fs
  refine ⟨.int (ys.countP fun z => eqV z y : Nat), H, I.tok _, ⟨s.toks, ?_⟩, q⟩
  show Value.int ((its.toArray.toList.countP (eqU y) : Nat) : Int) s.toks = _
  rw [ec]
/-- xs.count(y) in an except suite -/
theorem pe_countS {X : Cx} {a : Addr} {oe : Obj} {pn : List (Addr × Obj)} {o e : Expr} {to : TE} {t : TA} {apos cpos : Pos} (ho : PE (X.suite a ((a, oe) :: pn)) o to) (ha : PA (X.suite a ((a, oe) :: pn)) [e] t)
    (hbase : attributeBase o "count" X.env (eval o X.env) = eval o X.env := by rfl)
    (hfew : ((backTo cpos (starEach [e] X.env)).all (fun x => !x.1) && (backToKw cpos (keywordEach [] X.env)).all (fun x => x.1.isSome)
      && decide (([e] : List Expr).length + ([] : List Keyword).length + (if ([] : List Keyword).isEmpty then 0 else 1) < 30)) = true := by rfl)
    (hline : (apos.endLine == cpos.line) = true := by rfl) (hs : starEach [e] X.env = (false, eval e X.env) :: starEach [] X.env := by rfl) (hplain : (backTo cpos (starEach [] X.env)).any (·.1) = false := by rfl) :
    PE (X.suite a ((a, oe) :: pn)) (.Call (.Attribute o "count" apos) [e] [] cpos) (tBM X.K "list" (rCntV X.K) to t) :=
  pe_bm (X := X.suite a ((a, oe) :: pn)) PySem.F.plainAttrs_list PySem.F.slot_list_count PySem.F.type_list_count (mt_countV (X := X.suite a ((a, oe) :: pn))) ho ha hbase hfew hline hs hplain
theorem ix_listS {X : Cx} {a : Addr} {oe : Obj} {pn : List (Addr × Obj)} : IxR (X.suite a ((a, oe) :: pn)) (rIxL X.K) := ix_list (X := X.suite a ((a, oe) :: pn))
end LT

set_option Elab.async false
set_option linter.all false
set_option maxRecDepth 100000
/-! Own layer: ==, != of instances of a class with its own __eq__; repr, str of such; a method called by keywords. -/
namespace LT
open PySem PySem.Spec PyProof.Rows L2
section
variable {M : Model} {A : Around} {E : Value → Shared → Prop} {s : Shared} {Q : Value → Shared → Prop} {K : PySem.W.Frag} {y C dy : Addr}
open AutoSeq1 (wpAny_loadPart')
theorem int_dec (b : Int) (u : Tok) (y C dy : Addr) :
    Meets (Builtin.«int.__eq__» ⟨[.int b u, .ref y], []⟩) (fun _ R s => s.heap.get? y = some (PySem.W.instObj C dy) ∧ R (.ok (.ret .notImplemented)) s) :=
  .of_wp fun prog w A R s h => by
    obtain ⟨hp, g, d, tk, os⟩ := s
    obtain ⟨hl, h⟩ := h
    wp_walk using wpAny_loadPart' hl, wpAny_load hl
    exact ⟨_, rfl, h⟩
theorem bool_dec (b : Bool) (y C dy : Addr) :
    Meets (Builtin.«int.__eq__» ⟨[.bool b, .ref y], []⟩) (fun _ R s => s.heap.get? y = some (PySem.W.instObj C dy) ∧ R (.ok (.ret .notImplemented)) s) :=
  .of_wp fun prog w A R s h => by
    obtain ⟨hp, g, d, tk, os⟩ := s
    obtain ⟨hl, h⟩ := h
    wp_walk using wpAny_loadPart' hl, wpAny_load hl
    exact ⟨_, rfl, h⟩
theorem str_dec (b : Str) (u : Tok) (y C dy : Addr) :
    Meets (Builtin.«str.__eq__» ⟨[.str b u, .ref y], []⟩) (fun _ R s => s.heap.get? y = some (PySem.W.instObj C dy) ∧ R (.ok (.ret .notImplemented)) s) :=
  .of_wp fun prog w A R s h => by
    obtain ⟨hp, g, d, tk, os⟩ := s
    obtain ⟨hl, h⟩ := h
    wp_walk using wpAny_loadPart' hl, wpAny_load hl
    exact ⟨_, rfl, h⟩
theorem list_dec {K : PySem.W.Frag} (l y C dy : Addr) (hsub : PySem.W.subIn K (.ref C) (.type "list") = some false) :
    Meets (Builtin.«list.__eq__» ⟨[.ref l, .ref y], []⟩) (fun _ R s => K.In s.heap ∧ s.heap.get? y = some (PySem.W.instObj C dy) ∧ (∃ o, s.heap.get? l = some o ∧ o.cls = .type "list") ∧ R (.ok (.ret .notImplemented)) s) :=
  .of_wp fun prog w A R s h => by
    obtain ⟨hp, g, d, tk, os⟩ := s
    obtain ⟨X, hl, ⟨o, ho, hc⟩, h⟩ := h
    have f1 := PySem.W.looks_subIn (M := model prog w) X hsub
    have f2 : ∀ {A' : Around} {Q' : Bool → Shared → Prop} {E' : Value → Shared → Prop}, Q' false ⟨hp, g, d, tk, os⟩ →
        wpAny (model prog w) A' (isInstance (.ref y) (.type "list")) Q' E' ⟨hp, g, d, tk, os⟩ := fun {A' Q' E'} q =>
      wpAny_bind (wpAny_typeOf_ref hl (f1.here q))
    wp_walk using f2
    exact ⟨_, rfl, h⟩
theorem tuple_dec {K : PySem.W.Frag} (l y C dy : Addr) (hsub : PySem.W.subIn K (.ref C) (.type "tuple") = some false) :
    Meets (Builtin.«tuple.__eq__» ⟨[.ref l, .ref y], []⟩) (fun _ R s => K.In s.heap ∧ s.heap.get? y = some (PySem.W.instObj C dy) ∧ (∃ o, s.heap.get? l = some o ∧ o.cls = .type "tuple") ∧ R (.ok (.ret .notImplemented)) s) :=
  .of_wp fun prog w A R s h => by
    obtain ⟨hp, g, d, tk, os⟩ := s
    obtain ⟨X, hl, ⟨o, ho, hc⟩, h⟩ := h
    have f1 := PySem.W.looks_subIn (M := model prog w) X hsub
    have f2 : ∀ {A' : Around} {Q' : Bool → Shared → Prop} {E' : Value → Shared → Prop}, Q' false ⟨hp, g, d, tk, os⟩ →
        wpAny (model prog w) A' (isInstance (.ref y) (.type "tuple")) Q' E' ⟨hp, g, d, tk, os⟩ := fun {A' Q' E'} q =>
      wpAny_bind (wpAny_typeOf_ref hl (f1.here q))
    wp_walk using f2
    exact ⟨_, rfl, h⟩
end
section
variable {prog : Program} {w : World} {A : Around} {E : Value → Shared → Prop} {s : Shared} {Q : Value → Shared → Prop} {K : PySem.W.Frag}
  {y C f : Addr} {oy : Obj} {od : Option Obj} {a : Value} {T id : String}
/-- a thing of a built-in type on the left, which declines; the own __eq__ of the right one is asked -/
theorem rc_eq_refl (X : K.In s.heap) (I : PySem.W.InstAt s.heap y oy C od) (ha : s.TypeIs a T) (hsub : PySem.W.subIn K (.ref C) (.type T) = some false)
    (h1 : Slot T "__eq__" id) (hc1 : ∀ Q' : Value → Shared → Prop, Q' .notImplemented s → wpAny (model prog w) A (call (.builtin id) [a, .ref y]) Q' E s)
    (hs : PySem.W.findIn K (.ref C) "__eq__" = some (some (.ref f))) (hf : PySem.W.isFn K (.ref f) = true) (hu : A.units < cLine)
    (h : wpAny (model prog w) A (call (.ref f) [.ref y, a]) (PySem.W.CmpBack Q) E s) :
    wpAny (model prog w) A (richCompare .Eq a (.ref y)) Q E s := by
  have two : wpAny (model prog w) A (tryCompare (.ref y) "__eq__" a) (fun r s' => ∃ v, r = some v ∧ Q v s') E s := by
    unfold tryCompare
    refine wpAny_bind (PySem.W.ifBound_K X I hs hf (wpAny_mono h (fun v s' hv => ?_) fun _ _ e => e))
    cases v <;> first | exact hv.elim | exact wpAny_pure ⟨_, rfl, hv⟩
  simp only [richCompare, ha.oneThing_none, cmpInfo]
  refine wpAny_holding (wpAny_bind (wpAny_cRoomFor hu ?_))
  refine wpAny_bind (wpAny_typeOf ha (wpAny_bind (I.type.here ?_)))
  rw [if_pos (show (Value.type T != Value.ref C) = true by simp)]
  refine wpAny_bind ((PySem.W.looks_subIn X hsub).here ?_)
  simp only [Bool.false_eq_true, if_false, Bool.not_false, if_true]
  refine wpAny_bind (m := tryCompare a _ (.ref y)) (wpAny_tryCompare_declines ha h1 (hc1 _ ⟨rfl, ?_⟩))
  refine wpAny_bind (m := tryCompare (.ref y) _ a) (wpAny_mono two (fun r s' z => ?_) fun _ _ e => e)
  obtain ⟨v, rfl, hq⟩ := z
  exact wpAny_pure hq
end

/-! ### == by an own __eq__ -/
/-- what the class says of its __eq__ -/
structure EqC (K : PySem.W.Frag) (C f : Addr) : Prop where
  eq : PySem.W.findIn K (.ref C) "__eq__" = some (some (.ref f))
  fn : PySem.W.isFn K (.ref f) = true
  ne : PySem.W.findIn K (.ref C) "__ne__" = some (some (.builtin "object.__ne__"))
  ob : PySem.W.mroIn K C (.type "object") = some true
  sN : PySem.W.subIn K (.ref C) (.type "NoneType") = some false
  sB : PySem.W.subIn K (.ref C) (.type "bool") = some false
  sI : PySem.W.subIn K (.ref C) (.type "int") = some false
  sS : PySem.W.subIn K (.ref C) (.type "str") = some false
  sL : PySem.W.subIn K (.ref C) (.type "list") = some false
  sT : PySem.W.subIn K (.ref C) (.type "tuple") = some false
/-- a thing beside an instance of C -/
inductive Beside (K : PySem.W.Frag) (C : Addr) (H : Hp) : V → Prop
  | non : Beside K C H .non
  | bl (b : Bool) : Beside K C H (.bl b)
  | int (i : Int) : Beside K C H (.int i)
  | str (z : Str) : Beside K C H (.str z)
  | lst {a : Addr} {xs : List V} : H a = some (.lst xs) → Beside K C H (.ref a)
  | tup {a : Addr} {xs : List V} : H a = some (.tup xs) → Beside K C H (.ref a)
  | ins {a dx : Addr} {fs : List (Str × V)} : H a = some (.ins C dx fs) → Beside K C H (.ref a)
section
variable {X : Cx} {C f : Addr} {fd : FuncData} {ps : List Str} {sp : Sp} {n : Nat}
theorem run_eq {A : Around} {pins : List (Addr × Obj)} {σ : L2.St} {H : Hp} {s : Shared} {Q : VK} {v : V} {u : Value} {a : Addr}
    (F : FnOk X.prog X.w X.K X.mg X.base CX0 n f fd ps sp) (sb : L2.Sub X n A) (hb : L2.Binds X.K fd ps []) (I : Inv X pins σ H s) (r : RelV v u)
    (h : sp [.ref a, v] H (fun z H' => ∃ b, z = .bl b ∧ Q z H') E0) :
    wpAny (model X.prog X.w) A (call (.ref f) [.ref a, u]) (fun z s' => ∃ b H', z = .bool b ∧ Inv X pins σ H' s' ∧ Q (.bl b) H') X.xe s := by
  have e0 : Env0 X.prog X.w X.K X.mg X.base A X.stack s H := by
    have e := I.env0
    exact ⟨by rw [sb.fr]; exact e.frames, e.mod, e.bs, e.bsz, e.funs, e.frf, e.hok, e.bare⟩
  have r2 : Vals [V.ref a, v] [Value.ref a, u] := .cons rfl (.cons r .nil)
  have hl := F.len _ _ _ _ h
  have b := hb s [.ref a, u] I.kIn (by simpa using hl)
  rw [List.append_nil] at b
  refine wpAny_call (codeAny_mono (F.run A X.stack s H ⟨[.ref a, u], []⟩ [.ref a, u] [.ref a, v] _ E0 sb.room e0 b r2 h) fun r s' hq => ?_)
  match r, hq with
  | .error _, hq => exact hq.elim
  | .ok .next, hq => exact hq.elim
  | .ok .brk, hq => exact hq.elim
  | .ok .cont, hq => exact hq.elim
  | .ok (.ret z), hq =>
    obtain ⟨z', H', I', rz, b, rfl, q⟩ := I.after hq
    cases rz
    exact ⟨b, H', rfl, I', q⟩
theorem rc_own (EC : EqC X.K C f) {A : Around} {pins : List (Addr × Obj)} {σ : L2.St} {H : Hp} {s : Shared} {Q : VK} {v : V} {u : Value} {a dx : Addr} {fs : List (Str × V)}
    (F : FnOk X.prog X.w X.K X.mg X.base CX0 n f fd ps sp) (sb : L2.Sub X n A) (hb : L2.Binds X.K fd ps []) (I : Inv X pins σ H s) (r : RelV v u)
    (ha : H a = some (.ins C dx fs)) (hv : Beside X.K C H v) (h : sp [.ref a, v] H (fun z H' => ∃ b, z = .bl b ∧ Q z H') E0) :
    wpAny (model X.prog X.w) A (richCompare .Eq (.ref a) u) (fun z s' => ∃ b H', z = .bool b ∧ Inv X pins σ H' s' ∧ Q (.bl b) H') X.xe s := by
  obtain ⟨mA, J, _⟩ := ins_get I.hok ha
  obtain ⟨od, J, _⟩ := J.look
  obtain ⟨m, hF⟩ := I.fr
  have nt : ∀ T : String, (PySem.W.subIn X.K (.type T) (.ref C) == some false) = true → PySem.W.notFirst X.K C (.type T) = true := fun T e => by
    unfold PySem.W.notFirst
    rw [e, Bool.or_true]
  have tyv : ∃ t, PySem.W.Looks (model X.prog X.w) s.heap (typeOf u) t ∧ PySem.W.notFirst X.K C t = true := by
    cases hv with
    | non => obtain ⟨P, Z, p, _⟩ := kit_of I r (.base .non); exact ⟨_, Z.ty _ _ I.kIn p, nt _ (by rfl)⟩
    | bl b => obtain ⟨P, Z, p, _⟩ := kit_of I r (.base (.bl b)); exact ⟨_, Z.ty _ _ I.kIn p, nt _ (by rfl)⟩
    | int i => obtain ⟨P, Z, p, _⟩ := kit_of I r (.base (.int i)); exact ⟨_, Z.ty _ _ I.kIn p, nt _ (by rfl)⟩
    | str z => obtain ⟨P, Z, p, _⟩ := kit_of I r (.base (.str z)); exact ⟨_, Z.ty _ _ I.kIn p, nt _ (by rfl)⟩
    | lst e => obtain ⟨P, Z, p, _⟩ := kit_of I r (.base (.lst e)); exact ⟨_, Z.ty _ _ I.kIn p, nt _ (by rfl)⟩
    | tup e => obtain ⟨P, Z, p, _⟩ := kit_of I r (.base (.tup e)); exact ⟨_, Z.ty _ _ I.kIn p, nt _ (by rfl)⟩
    | ins e =>
      cases r
      obtain ⟨mB, J', _⟩ := ins_get I.hok e
      obtain ⟨od', J', _⟩ := J'.look
      exact ⟨_, J'.type, by simp [PySem.W.notFirst]⟩
  obtain ⟨t, ht, hn⟩ := tyv
  refine PySem.W.cmp_K (op := .Eq) sb.room.units0 hF I.ok.mod.kin J ht hn EC.eq EC.fn (wpAny_mono (run_eq F sb hb I r h) (fun z s' hz => ?_) fun _ _ x => x)
  obtain ⟨b, H', rfl, I', q⟩ := hz
  exact ⟨b, H', rfl, I', q⟩
/-- the other way about -/
theorem rc_own_refl (EC : EqC X.K C f) {A : Around} {pins : List (Addr × Obj)} {σ : L2.St} {H : Hp} {s : Shared} {Q : VK} {v : V} {u : Value} {a dx : Addr} {fs : List (Str × V)}
    (F : FnOk X.prog X.w X.K X.mg X.base CX0 n f fd ps sp) (sb : L2.Sub X n A) (hb : L2.Binds X.K fd ps []) (I : Inv X pins σ H s) (r : RelV v u)
    (ha : H a = some (.ins C dx fs)) (hv : Beside X.K C H v) (hni : ∀ b dy gs, v = .ref b → H b ≠ some (.ins C dy gs)) (h : sp [.ref a, v] H (fun z H' => ∃ b, z = .bl b ∧ Q z H') E0) :
    wpAny (model X.prog X.w) A (richCompare .Eq u (.ref a)) (fun z s' => ∃ b H', z = .bool b ∧ Inv X pins σ H' s' ∧ Q (.bl b) H') X.xe s := by
  obtain ⟨mA, J, _⟩ := ins_get I.hok ha
  have hob := J.obj
  obtain ⟨od, J, _⟩ := J.look
  have fin := wpAny_mono (run_eq (A := A) F sb hb I r h) (Q' := PySem.W.CmpBack fun z s' => ∃ b H', z = .bool b ∧ Inv X pins σ H' s' ∧ Q (.bl b) H') (fun z s' hz => by
    obtain ⟨b, H', rfl, I', q⟩ := hz
    exact ⟨b, H', rfl, I', q⟩) fun _ _ x => x
  cases hv with
  | non =>
    cases r
    exact rc_eq_refl I.kIn J rfl EC.sN PySem.F.slot_NoneType_eq (fun Q' q => call_gives PySem.F.slot_NoneType_eq rfl PySem.F.entry_NoneType_eq (PySem.F.args_NoneType_eq_2 _ _) (SeqAt.NoneType___eq___none_ref_0 _) q) EC.eq EC.fn sb.room.units0 fin
  | bl b =>
    cases r
    exact rc_eq_refl I.kIn J rfl EC.sB PySem.F.slot_bool_eq (fun Q' q => call_meets PySem.F.slot_bool_eq rfl PySem.F.entry_int_eq (PySem.F.args_int_eq_2 _ _) (bool_dec b a C dx) ⟨hob, q⟩) EC.eq EC.fn sb.room.units0 fin
  | int i =>
    obtain ⟨t, rfl⟩ := r
    exact rc_eq_refl I.kIn J (typeIs_int _ _ _) EC.sI PySem.F.slot_int_eq (fun Q' q => call_meets PySem.F.slot_int_eq (typeIs_int _ _ _) PySem.F.entry_int_eq (PySem.F.args_int_eq_2 _ _) (int_dec i t a C dx) ⟨hob, q⟩) EC.eq EC.fn sb.room.units0 fin
  | str z =>
    obtain ⟨t, rfl⟩ := r
    exact rc_eq_refl I.kIn J (typeIs_str _ _ _) EC.sS PySem.F.slot_str_eq (fun Q' q => call_meets PySem.F.slot_str_eq (typeIs_str _ _ _) PySem.F.entry_str_eq (PySem.F.args_str_eq_2 _ _) (str_dec z t a C dx) ⟨hob, q⟩) EC.eq EC.fn sb.room.units0 fin
  | @lst l xs e =>
    cases r
    obtain ⟨_, its, k, _, h1⟩ := (show ObjOk X.prog X.w H s.heap l (.lst xs) from I.hok l _ e)
    exact rc_eq_refl I.kIn J ⟨_, h1, rfl⟩ EC.sL PySem.F.slot_list_eq (fun Q' q => call_meets PySem.F.slot_list_eq ⟨_, h1, rfl⟩ PySem.F.entry_list_eq (PySem.F.args_list_eq_2 _ _) (list_dec l a C dx EC.sL) ⟨I.kIn, hob, ⟨_, h1, rfl⟩, q⟩) EC.eq EC.fn sb.room.units0 fin
  | @tup l xs e =>
    cases r
    obtain ⟨_, its, _, o, h1, h2, _⟩ := (show ObjOk X.prog X.w H s.heap l (.tup xs) from I.hok l _ e)
    exact rc_eq_refl I.kIn J ⟨_, h1, h2⟩ EC.sT PySem.F.slot_tuple_eq (fun Q' q => call_meets PySem.F.slot_tuple_eq ⟨_, h1, h2⟩ PySem.F.entry_tuple_eq (PySem.F.args_tuple_eq_2 _ _) (tuple_dec l a C dx EC.sT) ⟨I.kIn, hob, ⟨_, h1, h2⟩, q⟩) EC.eq EC.fn sb.room.units0 fin
  | ins e => exact absurd e (hni _ _ _ rfl)
/-- x == y, one of them an instance of C -/
def rOwn (K : PySem.W.Frag) (C : Addr) (sp : Sp) : R2 := fun x y H Q =>
  (∃ a dx fs, x = .ref a ∧ H a = some (.ins C dx fs) ∧ Beside K C H y ∧ sp [x, y] H (fun z H' => ∃ b, z = .bl b ∧ Q z H') E0) ∨
  (∃ a dx fs, y = .ref a ∧ H a = some (.ins C dx fs) ∧ Beside K C H x ∧ (∀ b dy gs, x = .ref b → H b ≠ some (.ins C dy gs)) ∧ sp [y, x] H (fun z H' => ∃ b, z = .bl b ∧ Q z H') E0)
theorem op_own (EC : EqC X.K C f) (F : FnOk X.prog X.w X.K X.mg X.base CX0 n f fd ps sp) (hr : Room n X.A) (hb : L2.Binds X.K fd ps []) :
    OpR X (compareOp .Eq) (rOwn X.K C sp) := by
  intro pins s σ H x y v u Q I rx ry h
  rcases h with ⟨a, dx, fs, rfl, ha, hv, h⟩ | ⟨a, dx, fs, rfl, ha, hv, hni, h⟩
  · cases rx
    refine wpAny_mono (rc_own EC F ⟨hr, rfl⟩ hb I ry ha hv h) (fun z s' hz => ?_) fun _ _ x => x
    obtain ⟨b, H', rfl, I', q⟩ := hz
    exact ⟨.bl b, H', I', rfl, q⟩
  · cases ry
    refine wpAny_mono (rc_own_refl EC F ⟨hr, rfl⟩ hb I rx ha hv hni h) (fun z s' hz => ?_) fun _ _ x => x
    obtain ⟨b, H', rfl, I', q⟩ := hz
    exact ⟨.bl b, H', I', rfl, q⟩
/-- == within a list: the same object is equal to itself -/
theorem eqb_own (EC : EqC X.K C f) {A : Around} {pins : List (Addr × Obj)} {σ : L2.St} {H : Hp} {s : Shared} {Q : VK} {a b dx dy : Addr} {fs gs : List (Str × V)}
    (F : FnOk X.prog X.w X.K X.mg X.base CX0 n f fd ps sp) (sb : L2.Sub X n A) (hb : L2.Binds X.K fd ps []) (I : Inv X pins σ H s)
    (ha : H a = some (.ins C dx fs)) (hb' : H b = some (.ins C dy gs)) (hs : a = b → Q (.bl true) H) (h : a ≠ b → sp [.ref a, .ref b] H (fun z H' => ∃ b, z = .bl b ∧ Q z H') E0) :
    wpAny (model X.prog X.w) A (eqBool (.ref a) (.ref b)) (fun r s' => ∃ H', Inv X pins σ H' s' ∧ Q (.bl r) H') X.xe s := by
  by_cases e : a = b
  · subst e
    exact SeqAt.EqAt.same (A := A) (s := s) (.ref a) X.prog X.w X.xe _ ⟨H, I, hs rfl⟩
  · refine GQ.eqBool_refG e (wpAny_mono (rc_own (v := .ref b) EC F sb hb I rfl ha (.ins hb') (h e)) (fun z s' hz => ?_) fun _ _ x => x)
    obtain ⟨r, H', rfl, I', q⟩ := hz
    exact ⟨r, rfl, H', I', q⟩
end
/-! ### x in [y], [y] == [x] -/
section
variable {prog : Program} {w : World} {A : Around} {E : Value → Shared → Prop} {s : Shared}
open AutoSeq1 (wpAny_loadPart')
open MeetsSeq MeetsSeq3
def OneAt (l : Addr) (y : Value) (s : Shared) : Prop := ∃ (items : Array Value) (n : Nat), s.heap.get? l = some { cls := .type "list", data := .seq items n } ∧ items.size = 1 ∧ items[0]? = some y
theorem loop_none {R : Result → Shared → Prop} {l : Addr} {x y : Value} (hl : OneAt l y s) (h : R (.ok (.ret (.bool false))) s) (i : Nat) (h1 : i = 1) :
    wpAny (model prog w) A.in1 (Builtin.«list.__contains__.loop» ⟨[.ref l, x, rawInt i], []⟩) (GQ.FinOf prog w A R) (fun e s' => R (.error e) s') s := by
  obtain ⟨items, n, hl, hz, _⟩ := hl
  obtain ⟨hp, g, d, tk, os⟩ := s
  wp_walk using wpAny_loadPart' hl
  have hi : items[((i : Nat) : Int).toNat]? = none := by simp; omega
  rw [hi]
  wp_walk
  exact h
theorem loop_one {R : Result → Shared → Prop} {l : Addr} {x y : Value} (hl : OneAt l y s)
    (h : wpAny (model prog w) A.in1 (eqBool y x) (fun r s' => OneAt l y s' ∧ R (.ok (.ret (.bool r))) s') (fun e s' => R (.error e) s') s) (i : Nat) (h0 : i = 0) :
    wpAny (model prog w) A.in1 (Builtin.«list.__contains__.loop» ⟨[.ref l, x, rawInt i], []⟩) (GQ.FinOf prog w A R) (fun e s' => R (.error e) s') s := by
  obtain ⟨items, n, hl, hz, hy⟩ := hl
  obtain ⟨hp, g, d, tk, os⟩ := s
  wp_walk using wpAny_loadPart' hl
  have hi : items[((i : Nat) : Int).toNat]? = some y := by
    rw [h0]
    exact hy
  rw [hi]
  refine wpAny_bind (wpAny_mono h (fun r s2 hr => ?_) fun _ _ x => x)
  obtain ⟨h1, h2⟩ := hr
  cases r with
  | true =>
    obtain ⟨hp2, g2, d2, tk2, os2⟩ := s2
    wp_walk
    exact h2
  | false =>
    have last := loop_none (prog := prog) (w := w) (A := A) (x := x) h1 h2 (i + 1) (by omega)
    have hc : ((i : Int) + 1) = ((i + 1 : Nat) : Int) := by omega
    obtain ⟨hp2, g2, d2, tk2, os2⟩ := s2
    wp_walk
    rw [hc]
    exact ⟨plainId_quiet plain_contains_loop _, codeAny_builtin entry_contains_loop (by
      rw [Around.under_plainId plain_contains_loop _]
      exact last)⟩
theorem in_one {Q : Value → Shared → Prop} {l : Addr} {x y : Value} (hl : OneAt l y s)
    (h : wpAny (model prog w) A.in1 (eqBool y x) (fun r s' => OneAt l y s' ∧ Q (.bool r) s') E s) : wpAny (model prog w) A (compareOp .In x (.ref l)) Q E s := by
  obtain ⟨items, n, ho, _, _⟩ := id hl
  show wpAny _ A (do return .bool (← contains (.ref l) x)) Q E s
  refine wpAny_bind (wpAny_contains_slot ⟨_, ho, rfl⟩ PySem.F.slot_list_contains (GQ.call_here PySem.F.slot_list_contains ⟨_, ho, rfl⟩ PySem.F.entry_list_contains (PySem.F.args_list_contains_2 _ _) ?_))
  have first := loop_one (prog := prog) (w := w) (A := A) (R := wants (fun r s' => wpAny (model prog w) A (truthy r) (fun a s' => wpAny (model prog w) A (pure (Value.bool a)) Q E s') E s') E) hl
    (wpAny_mono h (fun r s' hr => ⟨hr.1, wpAny_truthy_bool (wpAny_pure hr.2)⟩) fun _ _ x => x) 0 rfl
  obtain ⟨hp, g, d, tk, os⟩ := s
  wp_walk using wpAny_loadPart' ho
  exact ⟨plainId_quiet plain_contains_loop _, codeAny_builtin entry_contains_loop (by
    rw [Around.under_plainId plain_contains_loop _]
    exact first)⟩
theorem eqloop_end {R : Result → Shared → Prop} {l b : Addr} {x y : Value} (hl : OneAt l y s) (hb : OneAt b x s) (h : R (.ok (.ret (.bool true))) s) (i : Nat) (h1 : i = 1) :
    wpAny (model prog w) A.in1 (Builtin.«list.__eq__.loop» ⟨[.ref l, .ref b, rawInt i, rawInt 2], []⟩) (GQ.FinOf prog w A R) (fun e s' => R (.error e) s') s := by
  obtain ⟨items, n, hl, hz, _⟩ := hl
  obtain ⟨items2, n2, hb, hz2, _⟩ := hb
  obtain ⟨hp, g, d, tk, os⟩ := s
  wp_walk using wpAny_loadPart' hl, wpAny_loadPart' hb
  have hi1 : items[((i : Nat) : Int).toNat]? = none := by simp; omega
  have hi2 : items2[((i : Nat) : Int).toNat]? = none := by simp; omega
  rw [hi1, hi2]
  wp_walk using wpAny_loadPart' hl, wpAny_loadPart' hb
  show R (.ok (.ret (.bool (items.size == items2.size)))) _
  rw [hz, hz2]
  exact h
theorem eqloop_one {R : Result → Shared → Prop} {l b : Addr} {x y : Value} (hl : OneAt l y s) (hb : OneAt b x s)
    (h : wpAny (model prog w) A.in1 (eqBool y x) (fun r s' => OneAt l y s' ∧ OneAt b x s' ∧ R (.ok (.ret (.bool r))) s') (fun e s' => R (.error e) s') s) (i : Nat) (h0 : i = 0) :
    wpAny (model prog w) A.in1 (Builtin.«list.__eq__.loop» ⟨[.ref l, .ref b, rawInt i, rawInt 2], []⟩) (GQ.FinOf prog w A R) (fun e s' => R (.error e) s') s := by
  obtain ⟨items, n, hl, hz, hy⟩ := hl
  obtain ⟨items2, n2, hb, hz2, hy2⟩ := hb
  obtain ⟨hp, g, d, tk, os⟩ := s
  wp_walk using wpAny_loadPart' hl, wpAny_loadPart' hb
  have hi1 : items[((i : Nat) : Int).toNat]? = some y := by
    rw [h0]
    exact hy
  have hi2 : items2[((i : Nat) : Int).toNat]? = some x := by
    rw [h0]
    exact hy2
  rw [hi1, hi2]
  refine wpAny_bind (wpAny_mono h (fun r s2 hr => ?_) fun _ _ x => x)
  obtain ⟨h1, h2, h3⟩ := hr
  cases r with
  | true =>
    have last := eqloop_end (prog := prog) (w := w) (A := A) h1 h2 h3 (i + 1) (by omega)
    have hc : ((i : Int) + 1) = ((i + 1 : Nat) : Int) := by omega
    obtain ⟨hp2, g2, d2, tk2, os2⟩ := s2
    wp_walk
    rw [hc]
    exact ⟨plainId_quiet plain_eq_loop _, codeAny_builtin entry_eq_loop (by
      rw [Around.under_plainId plain_eq_loop _]
      exact last)⟩
  | false =>
    obtain ⟨items3, n3, hl3, hz3, hy3⟩ := h1
    obtain ⟨items4, n4, hb4, hz4, hy4⟩ := h2
    obtain ⟨hp2, g2, d2, tk2, os2⟩ := s2
    wp_walk using wpAny_loadPart' hl3, wpAny_loadPart' hb4
    have hi3 : items3[((i : Nat) : Int).toNat]? = some y := by
      rw [h0]
      exact hy3
    have hi4 : items4[((i : Nat) : Int).toNat]? = some x := by
      rw [h0]
      exact hy4
    rw [hi3, hi4]
    wp_walk
    exact h3
/-- two lists of one thing each -/
theorem eq_one {Q : Value → Shared → Prop} {l b : Addr} {x y : Value} (hu : A.units < cLine) (hl : OneAt l y s) (hb : OneAt b x s)
    (h : wpAny (model prog w) A.in1 (eqBool y x) (fun r s' => OneAt l y s' ∧ OneAt b x s' ∧ Q (.bool r) s') E s) : wpAny (model prog w) A (richCompare .Eq (.ref l) (.ref b)) Q E s := by
  obtain ⟨items, n, ho, hz, hy⟩ := id hl
  obtain ⟨items2, n2, ho2, hz2, hy2⟩ := id hb
  refine wpAny_richCompare_same_room (op := .Eq) ⟨_, ho, rfl⟩ ⟨_, ho2, rfl⟩ PySem.F.slot_list_eq (GQ.call_here PySem.F.slot_list_eq ⟨_, ho, rfl⟩ PySem.F.entry_list_eq (PySem.F.args_list_eq_2 _ _) ?_) hu
  have first := eqloop_one (prog := prog) (w := w) (A := A) (R := wants (fun v s' => v ≠ .notImplemented ∧ Q v s') E) hl hb
    (wpAny_mono h (fun r s' hr => ⟨hr.1, hr.2.1, (fun z => nomatch z), hr.2.2⟩) fun _ _ x => x) 0 rfl
  have f3 := AutoSeq1.sub_list_list
  have hne : ¬ (items.size != items2.size) = true := by simp [hz, hz2]
  obtain ⟨hp, g, d, tk, os⟩ := s
  wp_walk using wpAny_loadPart' ho, wpAny_loadPart' ho2
  exact ⟨plainId_quiet plain_eq_loop _, codeAny_builtin entry_eq_loop (by
    rw [Around.under_plainId plain_eq_loop _]
    exact first)⟩
end
/-! ### the same over the layer -/
section
variable {X : Cx} {C f : Addr} {fd : FuncData} {ps : List Str} {sp : Sp} {n : Nat}
theorem one_at {pins : List (Addr × Obj)} {σ : L2.St} {H : Hp} {s : Shared} {l a : Addr} (I : Inv X pins σ H s) (h : H l = some (.lst [.ref a])) : OneAt l (.ref a) s := by
  obtain ⟨_, its, k, rv, h1⟩ := (show ObjOk X.prog X.w H s.heap l (.lst [.ref a]) from I.hok l _ h)
  cases rv with
  | cons r1 r2 =>
    cases r2
    cases r1
    exact ⟨_, _, h1, rfl, rfl⟩
/-- x in [y] -/
theorem op_in_one (EC : EqC X.K C f) (F : FnOk X.prog X.w X.K X.mg X.base CX0 n f fd ps sp) (hr : Room (n + 1) X.A) (hb : L2.Binds X.K fd ps []) :
    OpR X (compareOp .In) (fun x y H Q => ∃ (l a b dx dy : Addr) (fs gs : List (Str × V)), x = .ref a ∧ y = .ref l ∧ H l = some (.lst [.ref b]) ∧ H a = some (.ins C dx fs) ∧ H b = some (.ins C dy gs) ∧
      (b = a → Q (.bl true) H) ∧ (b ≠ a → sp [.ref b, .ref a] H (fun z H' => ∃ r, z = .bl r ∧ H' l = some (.lst [.ref b]) ∧ Q z H') E0)) := by
  intro pins s σ H x y v u Q I rx ry h
  obtain ⟨l, a, b, dx, dy, fs, gs, rfl, rfl, hl, ha, hb', h1, h2⟩ := h
  cases rx
  cases ry
  refine in_one (one_at I hl) (wpAny_mono (eqb_own (Q := fun z H' => H' l = some (.lst [.ref b]) ∧ Q z H') EC F ⟨hr.in1, rfl⟩ hb I hb' ha (fun e => ⟨hl, h1 e⟩) h2) (fun r s' hz => ?_) fun _ _ x => x)
  obtain ⟨H', I', q1, q2⟩ := hz
  exact ⟨one_at I' q1, .bl r, H', I', rfl, q2⟩
/-- [x] == [y] -/
theorem op_eq_one (EC : EqC X.K C f) (F : FnOk X.prog X.w X.K X.mg X.base CX0 n f fd ps sp) (hr : Room (n + 1) X.A) (hb : L2.Binds X.K fd ps []) :
    OpR X (compareOp .Eq) (fun x y H Q => ∃ (l k a b dx dy : Addr) (fs gs : List (Str × V)), x = .ref l ∧ y = .ref k ∧ H l = some (.lst [.ref b]) ∧ H k = some (.lst [.ref a]) ∧ H a = some (.ins C dx fs) ∧ H b = some (.ins C dy gs) ∧
      (b = a → Q (.bl true) H) ∧ (b ≠ a → sp [.ref b, .ref a] H (fun z H' => ∃ r, z = .bl r ∧ H' l = some (.lst [.ref b]) ∧ H' k = some (.lst [.ref a]) ∧ Q z H') E0)) := by
  intro pins s σ H x y v u Q I rx ry h
  obtain ⟨l, k, a, b, dx, dy, fs, gs, rfl, rfl, hl, hk, ha, hb', h1, h2⟩ := h
  cases rx
  cases ry
  refine eq_one hr.units0 (one_at I hl) (one_at I hk) (wpAny_mono (eqb_own (Q := fun z H' => H' l = some (.lst [.ref b]) ∧ H' k = some (.lst [.ref a]) ∧ Q z H') EC F ⟨hr.in1, rfl⟩ hb I hb' ha (fun e => ⟨hl, hk, h1 e⟩) h2) (fun r s' hz => ?_) fun _ _ x => x)
  obtain ⟨H', I', q1, q2, q3⟩ := hz
  exact ⟨one_at I' q1, one_at I' q2, .bl r, H', I', rfl, q3⟩
end
/-! ### the same, the answer told ahead, the heap as it was -/
section
variable {X : Cx} {C f : Addr} {fd : FuncData} {ps : List Str} {sp : Sp} {n : Nat}
theorem op_in_r (EC : EqC X.K C f) (F : FnOk X.prog X.w X.K X.mg X.base CX0 n f fd ps sp) (hr : Room (n + 1) X.A) (hb : L2.Binds X.K fd ps []) :
    OpR X (compareOp .In) (fun x y H Q => ∃ (r : Bool) (l a b dx dy : Addr) (fs gs : List (Str × V)), x = .ref a ∧ y = .ref l ∧ H l = some (.lst [.ref b]) ∧ H a = some (.ins C dx fs) ∧ H b = some (.ins C dy gs) ∧
      (b = a → r = true) ∧ sp [.ref b, .ref a] H (fun z H' => ∃ k, z = .bl k ∧ z = .bl r ∧ H' = H) E0 ∧ Q (.bl r) H) := by
  intro pins s σ H x y v u Q I rx ry h
  obtain ⟨r, l, a, b, dx, dy, fs, gs, rfl, rfl, hl, ha, hb', h1, h2, q⟩ := h
  cases rx
  cases ry
  refine in_one (one_at I hl) (wpAny_mono (eqb_own (Q := fun z H' => z = .bl r ∧ H' = H) EC F ⟨hr.in1, rfl⟩ hb I hb' ha (fun e => ⟨by rw [h1 e], rfl⟩) fun _ => h2) (fun k s' hz => ?_) fun _ _ x => x)
  obtain ⟨H', I', e, rfl⟩ := hz
  cases e
  exact ⟨one_at I' hl, .bl _, _, I', rfl, q⟩
theorem op_eq_r (EC : EqC X.K C f) (F : FnOk X.prog X.w X.K X.mg X.base CX0 n f fd ps sp) (hr : Room (n + 1) X.A) (hb : L2.Binds X.K fd ps []) :
    OpR X (compareOp .Eq) (fun x y H Q => ∃ (r : Bool) (l k a b dx dy : Addr) (fs gs : List (Str × V)), x = .ref l ∧ y = .ref k ∧ H l = some (.lst [.ref b]) ∧ H k = some (.lst [.ref a]) ∧ H a = some (.ins C dx fs) ∧ H b = some (.ins C dy gs) ∧
      (b = a → r = true) ∧ sp [.ref b, .ref a] H (fun z H' => ∃ k, z = .bl k ∧ z = .bl r ∧ H' = H) E0 ∧ Q (.bl r) H) := by
  intro pins s σ H x y v u Q I rx ry h
  obtain ⟨r, l, k, a, b, dx, dy, fs, gs, rfl, rfl, hl, hk, ha, hb', h1, h2, q⟩ := h
  cases rx
  cases ry
  refine eq_one hr.units0 (one_at I hl) (one_at I hk) (wpAny_mono (eqb_own (Q := fun z H' => z = .bl r ∧ H' = H) EC F ⟨hr.in1, rfl⟩ hb I hb' ha (fun e => ⟨by rw [h1 e], rfl⟩) fun _ => h2) (fun c s' hz => ?_) fun _ _ x => x)
  obtain ⟨H', I', e, rfl⟩ := hz
  cases e
  exact ⟨one_at I' hl, one_at I' hk, .bl _, _, I', rfl, q⟩
end
/-! ### != by an own __eq__ -/
section
variable {prog : Program} {w : World} {A : Around} {E : Value → Shared → Prop} {s : Shared} {K : PySem.W.Frag} {x C f : Addr} {ox : Obj} {od : Option Obj}
theorem ifBound_B {M : Model} {name : Str} {id : String} {args : List Value} {Q : Option Value → Shared → Prop} (X : K.In s.heap) (I : PySem.W.InstAt s.heap x ox C od)
    (hs : PySem.W.findIn K (.ref C) name = some (some (.builtin id))) (hb : ∀ self, bindSpecial (.builtin id) self = pure (.builtin id, [self]))
    (h : wpAny M A (call (.builtin id) (.ref x :: args)) (fun v => Q (some v)) E s) : wpAny M A (callSpecialIfBound? (.ref x) name args) Q E s := by
  simp only [callSpecialIfBound?, bindSpecialIfBound?]
  refine wpAny_holding (wpAny_bind (wpAny_bind (wpAny_bind (I.type.here ((PySem.W.looks_findIn X hs).here ?_)))))
  refine wpAny_bind (wpAny_askSetting (wpAny_ite ?_))
  have fin : wpAny M A (call (.builtin id) ([.ref x] ++ args) >>= fun v => pure (some v)) Q E s := wpAny_bind (wpAny_mono h (fun v s' h' => wpAny_pure h') fun _ _ h' => h')
  have bd : PySem.W.Looks M s.heap (bindSpecial (.builtin id) (.ref x)) (.builtin id, [.ref x]) := PySem.W.Looks.of_pure (hb _)
  split
  · exact wpAny_bind (bd.here (wpAny_pure (by exact fin)))
  · exact wpAny_tryCatch (wpAny_bind (bd.here (wpAny_pure (by exact fin))))
theorem ne_own {Q : Value → Shared → Prop} {y : Addr} {oy : Obj} {oe : Option Obj} (hu : A.units + 1 < cLine) (EC : EqC K C f) (X : K.In s.heap) (I : PySem.W.InstAt s.heap x ox C od) (J : PySem.W.InstAt s.heap y oy C oe)
    (h : wpAny (model prog w) A.in1 (call (.ref f) [.ref x, .ref y]) (fun v s' => ∃ b, v = .bool b ∧ Q (.bool (!b)) s') E s) : wpAny (model prog w) A (richCompare .NotEq (.ref x) (.ref y)) Q E s := by
  have one : wpAny (model prog w) A (tryCompare (.ref x) "__ne__" (.ref y)) (fun r s' => ∃ v, r = some v ∧ Q v s') E s := by
    unfold tryCompare
    refine wpAny_bind (ifBound_B X I EC.ne PySem.F.slot_object_ne.bind ?_)
    refine wpAny_call (codeAny_call_builtin PySem.F.slot_object_ne.plain PySem.F.cmpEntry_ne (PySem.W.check_slot PySem.F.cmpKind_ne PySem.F.cmpSplit_ne (I.type.andThen (PySem.W.looks_mroIn X EC.ob)) (PySem.F.cmpArgs_ne _ _) ?_))
    unfold Builtin.«object.__ne__»
    refine wpAny_bind (m := slotArgs "__ne__" 1 _) (wpAny_pure ?_)
    refine wpAny_bind (m := cRoomFor _ _) (wpAny_cRoomFor (by show A.units + 1 < cLine; exact hu) ?_)
    refine wpAny_bind (m := callSpecialIfBound? (.ref x) (Str.ofString "__eq__") _) (PySem.W.ifBound_K X I EC.eq EC.fn (wpAny_mono h (fun v s' hv => ?_) fun _ _ e => e))
    obtain ⟨b, rfl, q⟩ := hv
    refine wpAny_bind (m := truthy (.bool b)) (wpAny_truthy_bool ?_)
    exact wpAny_pure (wpAny_pure ⟨_, rfl, q⟩)
  unfold richCompare
  simp only [oneThing_ref, cmpInfo]
  refine wpAny_holding (wpAny_bind (wpAny_cRoomFor (by omega) ?_))
  refine wpAny_bind (I.type.here (wpAny_bind (J.type.here ?_)))
  rw [if_neg (by simp)]
  refine wpAny_bind (wpAny_pure ?_)
  simp only [Bool.false_eq_true, if_false]
  refine wpAny_bind (m := tryCompare (.ref x) _ (.ref y)) (wpAny_mono one (fun r s' z => ?_) fun _ _ e => e)
  obtain ⟨v, rfl, hq⟩ := z
  exact wpAny_pure hq
end
section
variable {X : Cx} {C f : Addr} {fd : FuncData} {ps : List Str} {sp : Sp} {n : Nat}
theorem op_ne_own (EC : EqC X.K C f) (F : FnOk X.prog X.w X.K X.mg X.base CX0 n f fd ps sp) (hr : Room (n + 1) X.A) (hb : L2.Binds X.K fd ps []) :
    OpR X (compareOp .NotEq) (fun x y H Q => ∃ (a b dx dy : Addr) (fs gs : List (Str × V)), x = .ref a ∧ y = .ref b ∧ H a = some (.ins C dx fs) ∧ H b = some (.ins C dy gs) ∧
      sp [.ref a, .ref b] H (fun z H' => ∃ k, z = .bl k ∧ ∃ r, z = .bl r ∧ Q (.bl (!r)) H') E0) := by
  intro pins s σ H x y v u Q I rx ry h
  obtain ⟨a, b, dx, dy, fs, gs, rfl, rfl, ha, hb', h1⟩ := h
  cases rx
  cases ry
  obtain ⟨mA, J, _⟩ := ins_get I.hok ha
  obtain ⟨od, J, _⟩ := J.look
  obtain ⟨mB, J', _⟩ := ins_get I.hok hb'
  obtain ⟨od', J', _⟩ := J'.look
  refine ne_own (by have := hr.units; omega) EC I.kIn J J' (wpAny_mono (run_eq (v := .ref b) (Q := fun z H' => ∃ r, z = .bl r ∧ Q (.bl (!r)) H') F ⟨hr.in1, rfl⟩ hb I rfl h1) (fun z s' hz => ?_) fun _ _ x => x)
  · obtain ⟨r, H', rfl, I', r', e, q⟩ := hz
    cases e
    exact ⟨r, rfl, .bl (!r), H', I', rfl, q⟩
/-! ### repr, str of an instance -/
theorem run_str {A : Around} {pins : List (Addr × Obj)} {σ : L2.St} {H : Hp} {s : Shared} {Q : VK} {a : Addr}
    (F : FnOk X.prog X.w X.K X.mg X.base CX0 n f fd ps sp) (sb : L2.Sub X n A) (hb : L2.Binds X.K fd ps []) (I : Inv X pins σ H s)
    (h : sp [.ref a] H (fun z H' => ∃ t, z = .str t ∧ Q z H') E0) :
    wpAny (model X.prog X.w) A (call (.ref f) [.ref a]) (PySem.W.StrBack (EP X pins σ Q)) X.xe s := by
  have e0 : Env0 X.prog X.w X.K X.mg X.base A X.stack s H := by
    have e := I.env0
    exact ⟨by rw [sb.fr]; exact e.frames, e.mod, e.bs, e.bsz, e.funs, e.frf, e.hok, e.bare⟩
  have r2 : Vals [V.ref a] [Value.ref a] := .cons rfl .nil
  have hl := F.len _ _ _ _ h
  have b := hb s [.ref a] I.kIn (by simpa using hl)
  rw [List.append_nil] at b
  refine wpAny_call (codeAny_mono (F.run A X.stack s H ⟨[.ref a], []⟩ [.ref a] [.ref a] _ E0 sb.room e0 b r2 h) fun r s' hq => ?_)
  match r, hq with
  | .error _, hq => exact hq.elim
  | .ok .next, hq => exact hq.elim
  | .ok .brk, hq => exact hq.elim
  | .ok .cont, hq => exact hq.elim
  | .ok (.ret z), hq =>
    obtain ⟨z', H', I', rz, t, rfl, q⟩ := I.after hq
    obtain ⟨tk, rfl⟩ := rz
    exact ⟨.str t, H', I', ⟨tk, rfl⟩, q⟩
theorem call_repr_own (hs : PySem.W.findIn X.K (.ref C) "__repr__" = some (some (.ref f))) (hf : PySem.W.isFn X.K (.ref f) = true) (F : FnOk X.prog X.w X.K X.mg X.base CX0 n f fd ps sp) (hr : Room (n + 1) X.A) (hb : L2.Binds X.K fd ps []) :
    CallR X (.builtin "repr") (fun xs H Q => ∃ a dx fs, xs = [.ref a] ∧ H a = some (.ins C dx fs) ∧ sp [.ref a] H (fun z H' => ∃ t, z = .str t ∧ Q z H') E0) := by
  intro pins s σ H xs us Q I r h
  obtain ⟨a, dx, fs, rfl, ha, h⟩ := h
  rw [Vals.ref1 r]
  obtain ⟨mA, J, _⟩ := ins_get I.hok ha
  obtain ⟨od, J, _⟩ := J.look
  obtain ⟨m, hF⟩ := I.fr
  exact PySem.W.repr_K hr.in1.units0 hF I.ok.mod.kin J hs hf (run_str F ⟨hr.in1, rfl⟩ hb I h)
theorem call_str_own (hs : PySem.W.findIn X.K (.ref C) "__str__" = some (some (.ref f))) (hf : PySem.W.isFn X.K (.ref f) = true) (F : FnOk X.prog X.w X.K X.mg X.base CX0 n f fd ps sp) (hr : Room (n + 2) X.A) (hb : L2.Binds X.K fd ps []) :
    CallR X (.type "str") (fun xs H Q => ∃ a dx fs, xs = [.ref a] ∧ H a = some (.ins C dx fs) ∧ sp [.ref a] H (fun z H' => ∃ t, z = .str t ∧ Q z H') E0) := by
  intro pins s σ H xs us Q I r h
  obtain ⟨a, dx, fs, rfl, ha, h⟩ := h
  rw [Vals.ref1 r]
  obtain ⟨mA, J, _⟩ := ins_get I.hok ha
  obtain ⟨od, J, _⟩ := J.look
  exact PySem.W.kso_call hr.in1.in1.units0 I.kIn J hs hf (run_str F ⟨hr.in1.in1, rfl⟩ hb I h)
end
/-! ### o.m(k = v): a method by keywords alone, what is raised wished for at the slots -/
section
variable {X : Cx} {CX : CXT} {k : Nat} {f C : Addr} {fd : FuncData} {ps ks : List Str} {sp : Sp} {E : L2.St → XK} {m : Str} {apos pos : Pos} {o : Expr} {kws : List Keyword} {ta : TE} {tk : TA}
  {g : List Value → List Value → List Value} {gV : List V → List V → List V}
def tMethKw (C : Addr) (m : Str) (sp : Sp) (gV : List V → List V → List V) (E : L2.St → XK) (ta : TE) (tk : TA) : TE := fun σ H Q => ta σ H fun x H1 => ∃ a dx fs, x = .ref a ∧ H1 a = some (.ins C dx fs) ∧ fs.lookup m = none ∧
  tk σ H1 fun zs H2 => sp (gV [x] zs) H2 Q (E σ)
theorem pe_methKw {pl : Sem Bool} (he : PE X o ta) (c : Cls X.K C) (hm : Meth X.K C m f) (F : FnOk X.prog X.w X.K X.mg X.base CX k f fd ps sp) (hr : Room k X.A) (hb : KBinds X.K fd ps ks g gV) (hx : ∀ σ, PassesAt CX X σ (E σ)) (hkw : PK X kws tk)
    (hall : (backToKw pos (keywordEach kws X.env)).all (·.1.isSome) = true := by rfl)
    (hks : (backToKw pos (keywordEach kws X.env)).filterMap (·.1) = ks := by rfl)
    (hpl : ((backTo pos (starEach [] X.env)).any (·.1) || (backToKw pos (keywordEach kws X.env)).any (·.1.isNone)) = false := by rfl)
    (ht : eval (.Call (.Attribute o m apos) [] kws pos) X.env = (do
      let ov ← eval o X.env
      standAt apos.atName
      let (f, first) ← holding [ov] (getMethod ov m pl)
      callWith pos f first (backTo pos (starEach [] X.env)) (backToKw pos (keywordEach kws X.env))) := by rfl) :
    PE X (.Call (.Attribute o m apos) [] kws pos) (tMethKw C m sp gV E ta tk) := by
  refine ⟨fun pins s σ H Q I h => ?_⟩
  refine PySem.W.methodCall_KW (pl := pl) (thn (he.run pins s σ H _ I h) fun u s1 ⟨x, H1, I1, rx, a, dx, fs, ex, ea, l, q⟩ => ?_) ht
  subst ex
  obtain rfl : u = Value.ref a := rx
  refine getmeth_ok I1 ea c hm l ?_
  refine PySem.W.callWith_KW0 (first := [.ref a]) (h₀ := X.base) I.ok.mod.kin hm.kp hall ?_ hpl
  refine thn (hkw.run pos pins s1 σ H1 _ I1 q) fun ws s2 ⟨zs, H2, I2, rz, q2⟩ => ⟨I2.kIn, ?_⟩
  rw [hks]
  have r1 : Vals [V.ref a] [Value.ref a] := .cons rfl .nil
  have r2 := hb.rel r1 rz
  have hl : (g [Value.ref a] ws).length = ps.length := r2.length.symm.trans (F.len _ _ _ _ q2)
  refine wpAny_call (codeAny_mono (F.run X.A X.stack s2 H2 ⟨[.ref a], ks.zip ws⟩ (g [.ref a] ws) (gV [.ref a] zs) Q (E σ) hr I2.env0 (hb.to s2 [.ref a] ws I2.kIn hl) r2 q2) fun r s' hq => ?_)
  match r, hq with
  | .error e, hq => exact hx σ pins H2 s2 e s' I2 hq
  | .ok (.ret u), hq => exact I2.after hq
  | .ok .next, hq => exact hq.elim
  | .ok .brk, hq => exact hq.elim
  | .ok .cont, hq => exact hq.elim
end
end LT

set_option Elab.async false
set_option linter.all false
set_option maxRecDepth 100000
set_option maxHeartbeats 1600000
/-! Own layer: enumerate, methods that raise in a try, what is new on the heap, lists of ints. -/
namespace LT
open PySem PySem.Spec PyProof.Rows L2
/-! ### enumerate -/
theorem lc_enum {K : PySem.W.Frag} {a : Addr} {xs : List V} {g : TG} {tt : TT} {te : TE} {vs : List Nat} {σ : L2.St} {H1 : Hp} {D : Addr} {Qd : Hp → Prop} (Pv : Nat → Hp → Prop) (h0 : Pv 0 (L2.upd H1 D (.lst []))) (hl : ∀ i H, i ≤ xs.length → Pv i H → SqL K H a xs)
    (hs : ∀ i x H T, xs[i]? = some x → Pv i H → H T = none → g (.ref T) (wipe σ vs) (L2.upd H T (.tup [.int (i : Nat), x])) fun σ2 H2 => wipe σ2 vs = wipe σ vs ∧ tt σ2 H2 fun b H3 =>
      if b = true then te σ2 H3 fun y H4 => ∃ acc, H4 D = some (.lst acc) ∧ acc.length < sizeLine ∧ Pv (i + 1) (L2.upd H4 D (.lst (acc ++ [y]))) else Pv (i + 1) H3) (hd : ∀ H, Pv xs.length H → Qd H) :
    ∃ W : Nat → Nat → Hp → Prop, (∃ m, W 0 m (L2.upd H1 D (.lst []))) ∧ ∀ i m H, W i m H →
      ((Ite K a).stop i H ∧ Qd H) ∨ ((Ite K a).go i H ∧ ∃ Nx : Hp → Prop, (∀ H', Nx H' → ∃ m', m' < m ∧ W (i + 1) m' H') ∧ ∀ x H', (Ite K a).yld i H x H' → g x (wipe σ vs) H' fun σ2 H2 => wipe σ2 vs = wipe σ vs ∧ tt σ2 H2 fun b H3 =>
        if b = true then te σ2 H3 fun y H4 => ∃ acc, H4 D = some (.lst acc) ∧ acc.length < sizeLine ∧ Nx (L2.upd H4 D (.lst (acc ++ [y]))) else Nx H3) := by
  refine ⟨fun i m H => m = xs.length - i ∧ i ≤ xs.length ∧ Pv i H, ⟨xs.length, by simp, Nat.zero_le _, h0⟩, ?_⟩
  rintro i m H ⟨rfl, hi, p⟩
  have q := hl i H hi p
  by_cases hlt : i < xs.length
  · refine .inr ⟨⟨xs, xs[i], q, by simp [hlt]⟩, Pv (i + 1), fun H' p' => ⟨xs.length - (i + 1), by omega, rfl, hlt, p'⟩, fun x H' y => ?_⟩
    obtain ⟨T, z, e, nT, e2, y⟩ := y
    subst e e2
    exact hs i z _ T (y xs q) p nT
  · have e : i = xs.length := by omega
    subst e
    exact .inl ⟨⟨xs, q, Nat.le_refl _⟩, hd H p⟩
theorem for_enum {K : PySem.W.Frag} {a : Addr} {xs : List V} {g : TG} {tb : TS} {D : Ends} {σ : L2.St} {H : Hp} (Pv : Nat → L2.St → Hp → Prop) (h0 : Pv 0 σ H) (hl : ∀ i σ H, i ≤ xs.length → Pv i σ H → SqL K H a xs)
    (hs : ∀ i x σ H T, xs[i]? = some x → Pv i σ H → H T = none → g (.ref T) σ (L2.upd H T (.tup [.int (i : Nat), x])) fun σ2 H2 => tb { D with nx := Pv (i + 1), ct := Pv (i + 1), bk := D.nx } σ2 H2) (hd : ∀ σ H, Pv xs.length σ H → D.nx σ H) :
    ∃ W : Nat → Nat → L2.St → Hp → Prop, (∃ m, W 0 m σ H) ∧ ∀ i m σ H, W i m σ H →
      ((Ite K a).stop i H ∧ D.nx σ H) ∨ ((Ite K a).go i H ∧ ∃ N : L2.St → Hp → Prop, (∀ σ' H', N σ' H' → ∃ m', m' < m ∧ W (i + 1) m' σ' H') ∧ ∀ x H', (Ite K a).yld i H x H' → g x σ H' fun σ2 H2 => tb { D with nx := N, ct := N, bk := D.nx } σ2 H2) := by
  refine ⟨fun i m σ H => m = xs.length - i ∧ i ≤ xs.length ∧ Pv i σ H, ⟨xs.length, by simp, Nat.zero_le _, h0⟩, ?_⟩
  rintro i m σ H ⟨rfl, hi, p⟩
  have q := hl i σ H hi p
  by_cases hlt : i < xs.length
  · refine .inr ⟨⟨xs, xs[i], q, by simp [hlt]⟩, Pv (i + 1), fun σ' H' p' => ⟨xs.length - (i + 1), by omega, rfl, hlt, p'⟩, fun x H' y => ?_⟩
    obtain ⟨T, z, e, nT, e2, y⟩ := y
    subst e e2
    exact hs i z σ _ T (y xs q) p nT
  · have e : i = xs.length := by omega
    subst e
    exact .inl ⟨⟨xs, q, Nat.le_refl _⟩, hd σ H p⟩
/-! ### o.m(e, ..), where what it raises is caught -/
section
variable {X : Cx} {CX : CXT} {k : Nat} {f C : Addr} {fd : FuncData} {ps : List Str} {sp : Sp} {E : L2.St → XK} {m : Str} {apos pos : Pos} {o e : Expr} {es : List Expr} {ta : TE} {t : TA}
def tMethAt (C : Addr) (m : Str) (sp : Sp) (E : L2.St → XK) (ta : TE) (t : TA) : TE := fun σ H Q => ta σ H fun x H1 => ∃ a dx fs, x = .ref a ∧ H1 a = some (.ins C dx fs) ∧ fs.lookup m = none ∧ t σ H1 fun vs H2 => sp (x :: vs) H2 Q (E σ)
theorem pe_methAt {pl : Sem Bool} (he : PE X o ta) (c : Cls X.K C) (hm : Meth X.K C m f) (F : FnOk X.prog X.w X.K X.mg X.base CX k f fd ps sp) (hr : Room k X.A) (hb : L2.Binds X.K fd ps []) (hx : ∀ σ, PassesAt CX X σ (E σ)) (ha : PA X (e :: es) t)
    (hst : starEach (e :: es) X.env = (false, eval e X.env) :: starEach es X.env := by rfl) (hpl : (backTo pos (starEach es X.env)).any (·.1) = false := by rfl)
    (ht : eval (.Call (.Attribute o m apos) (e :: es) [] pos) X.env = (do
      let ov ← eval o X.env
      standAt apos.atName
      let (f, first) ← holding [ov] (getMethod ov m pl)
      callWith pos f first (backTo pos (starEach (e :: es) X.env)) (backToKw pos (keywordEach [] X.env))) := by rfl) :
    PE X (.Call (.Attribute o m apos) (e :: es) [] pos) (tMethAt C m sp E ta t) := by
  refine ⟨fun pins s σ H Q I h => ?_⟩
  refine PySem.W.methodCall_KW (pl := pl) (thn (he.run pins s σ H _ I h) fun u s1 ⟨x, H1, I1, rx, a, dx, fs, ex, ea, l, q⟩ => ?_) ht
  subst ex
  obtain rfl : u = Value.ref a := rx
  refine getmeth_ok I1 ea c hm l ?_
  refine PySem.W.callWith_K (first := [.ref a]) (h₀ := X.base) I.ok.mod.kin hm.kp (thn (ha.run pos pins s1 σ H1 _ I1 q) fun us s2 ⟨vs, H2, I2, r, q2⟩ => ⟨I2.kIn, ?_⟩) hst hpl
  exact run_fnS (us := .ref a :: us) (vs := .ref a :: vs) F hr hb (hx σ) I2 (.cons rfl r) q2
end
/-! ### what is new -/
def new (H H' : Hp) : Hp := fun c => match H c with | none => H' c | some _ => none
theorem new_iff {H H' : Hp} {c : Addr} {o : HO} : new H H' c = some o ↔ H c = none ∧ H' c = some o := by
  unfold new
  cases h : H c with
  | none => simp
  | some x => simp
theorem new_at {H H' : Hp} {c : Addr} {o : HO} (n : H c = none) (e : H' c = some o) : new H H' c = some o := new_iff.mpr ⟨n, e⟩
theorem new_le {H H' : Hp} : Same (new H H') H' := fun c o e => (new_iff.mp e).2
theorem new_up {H H' H'' : Hp} (s : Same H' H'') : Same (new H H') (new H H'') := fun c o e => new_iff.mpr ⟨(new_iff.mp e).1, s _ _ (new_iff.mp e).2⟩
theorem new_down {H H1 H2 : Hp} (s : Same H H1) : Same (new H1 H2) (new H H2) := fun c o e => new_iff.mpr ⟨s.free (new_iff.mp e).1, (new_iff.mp e).2⟩
theorem new_upB {H H1 H2 : Hp} {p : Addr} {op : HO} (hp : H p = some op) (s : SameB p H1 H2) : Same (new H H1) (new H H2) := fun c o e => by
  obtain ⟨n, e⟩ := new_iff.mp e
  refine new_iff.mpr ⟨n, s c o (fun z => ?_) e⟩
  rw [z, hp] at n
  cases n
/-- the heap without one thing -/
def wo (H : Hp) (r : Addr) : Hp := fun c => if c = r then none else H c
theorem wo_iff {H : Hp} {r c : Addr} {o : HO} : wo H r c = some o ↔ c ≠ r ∧ H c = some o := by
  unfold wo
  by_cases h : c = r <;> simp [h]
theorem wo_le {H : Hp} {r : Addr} : Same (wo H r) H := fun c o e => (wo_iff.mp e).2
theorem wo_up {H H' : Hp} {r : Addr} (s : SameB r H H') : Same (wo H r) (wo H' r) := fun c o e => wo_iff.mpr ⟨(wo_iff.mp e).1, s c o (wo_iff.mp e).1 (wo_iff.mp e).2⟩
theorem wo_upd {H : Hp} {r : Addr} {o : HO} : wo (L2.upd H r o) r = wo H r := by
  funext c
  unfold wo
  by_cases h : c = r
  · simp [h]
  · rw [if_neg h, if_neg h, upd_ne h]
theorem new_wo {H H' : Hp} {r : Addr} {o : HO} (h : H r = some o) : Same (new H H') (wo H' r) := fun c x e => by
  obtain ⟨n, e⟩ := new_iff.mp e
  refine wo_iff.mpr ⟨fun z => ?_, e⟩
  rw [z, h] at n
  cases n
/-! ### one by place, one by its name -/
def gK {α : Type} : List α → List α → List α
  | [a], [b] => [a, b]
  | _, _ => []
theorem gK_vals {vs zs : List V} {us ws : List Value} (r : Vals vs us) (z : Vals zs ws) : Vals (gK vs zs) (gK us ws) := by
  cases r with
  | nil => exact .nil
  | cons h r =>
    cases r with
    | cons h2 r => exact .nil
    | nil =>
      cases z with
      | nil => exact .nil
      | cons k z =>
        cases z with
        | cons k2 z => exact .nil
        | nil => exact .cons h (.cons k .nil)
theorem kb_gK {K : PySem.W.Frag} {y qual : Str} {st : Stmt} {f : Addr} {fd : FuncData} {ps ks : List Str} (F : Fun K y qual st f fd) (hp : ps.length = 2)
    (h : ∀ (kV doc pm : Value) (an : Option Addr) (cdv ct : Value) (u w : Value),
      bindArgs (PySem.W.fnOf y qual (defArgs st) (defBody st) (defScope st) .none kV doc pm an cdv ct) ⟨[u], ks.zip [w]⟩ = pure (ps.zip [u, w])) :
    KBinds K fd ps ks gK gK := by
  obtain ⟨oc, od, kV, doc, pm, an, cdv, ct, osl, rfl, lk, hcd⟩ := F.ex
  refine ⟨fun s us ws _ hl => ?_, gK_vals⟩
  match us, ws, hl with
  | [u], [w], _ => exact .of_eq (h kV doc pm an cdv ct u w)
  | [], _, h => rw [hp] at h; cases h
  | [_], [], h => rw [hp] at h; cases h
  | [_], _ :: _ :: _, h => rw [hp] at h; cases h
  | _ :: _ :: _, _, h => rw [hp] at h; cases h
/-! ### lists of ints -/
def intsD (ns : List Int) : PyData := .list (ns.map PyData.int)
theorem ints_pair {K : PySem.W.Frag} {H : Hp} : ∀ ns : List Int, DpAll K H (ns.map V.int) (ns.map PyData.int)
  | [] => .nil
  | n :: ns => .cons (.int n) (ints_pair ns)
theorem ints_dp {K : PySem.W.Frag} {H : Hp} {D : Addr} {ns : List Int} (e : H D = some (.lst (ns.map V.int))) : Dp K H (.ref D) (intsD ns) := .lst (SqL.of e) (ints_pair ns)
theorem ints_lay : ∀ ns : List Int, PyData.canLayAll0 (ns.map PyData.int) = true
  | [] => rfl
  | n :: ns => by
    rw [List.map_cons, PyData.canLayAll0, ints_lay ns]
    rfl
theorem ints_canL (ns : List Int) : PyData.canLay0 (intsD ns) = true := by
  unfold intsD
  simp only [PyData.canLay0]
  exact ints_lay ns
theorem ints_depth : ∀ ns : List Int, PyData.depthAll (ns.map PyData.int) ≤ 1
  | [] => by simp [PyData.depthAll]
  | n :: ns => by
    have := ints_depth ns
    rw [List.map_cons]
    simp only [PyData.depthAll, PyData.depth]
    omega
theorem ints_shaped (ns : List Int) : SeqAt.shaped (intsD ns) = true := by
  show (PyData.canLay0 (intsD ns) && decide (PyData.depth (intsD ns) ≤ 64)) = true
  rw [Bool.and_eq_true]
  refine ⟨ints_canL ns, decide_eq_true ?_⟩
  have := ints_depth ns
  unfold intsD
  simp only [PyData.depth]
  omega
theorem ints_eqv (ns : List Int) : PyData.eqv (intsD ns) (intsD ns) = true := SeqAt.eqv_refl _ (ints_canL ns)
end LT

set_option Elab.async false
set_option linter.all false
set_option maxRecDepth 100000
set_option maxHeartbeats 1600000
/-! Own layer: repr of an own thing whose __repr__ shows a list; a list of ints in an f-string; min of a list of pairs. -/
namespace LT
open PySem PySem.Spec PyProof.Rows L2
section
variable {X : Cx} {C f : Addr} {fd : FuncData} {ps : List Str} {sp : Sp} {n : Nat}
theorem run_strG {A : Around} {pins : List (Addr × Obj)} {σ : L2.St} {H : Hp} {s : Shared} {Q : VK} {a : Addr}
    (F : FnG X.prog X.w X.K X.mg X.base CX0 n f fd ps sp) (hG : A.guards = some []) (sb : L2.Sub X n A) (hb : L2.Binds X.K fd ps []) (I : Inv X pins σ H s)
    (h : sp [.ref a] H (fun z H' => ∃ t, z = .str t ∧ Q z H') E0) :
    wpAny (model X.prog X.w) A (call (.ref f) [.ref a]) (PySem.W.StrBack (EP X pins σ Q)) X.xe s := by
  have e0 : Env0 X.prog X.w X.K X.mg X.base A X.stack s H := by
    have e := I.env0
    exact ⟨by rw [sb.fr]; exact e.frames, e.mod, e.bs, e.bsz, e.funs, e.frf, e.hok, e.bare⟩
  have r2 : Vals [V.ref a] [Value.ref a] := .cons rfl .nil
  have hl := F.argc h
  have b := hb s [.ref a] I.kIn (by simpa using hl)
  rw [List.append_nil] at b
  refine wpAny_call (codeAny_mono (F.go (args := ⟨[.ref a], []⟩) (us := [.ref a]) hG sb.room e0 b r2 h) fun r s' hq => ?_)
  match r, hq with
  | .error _, hq => exact hq.elim
  | .ok .next, hq => exact hq.elim
  | .ok .brk, hq => exact hq.elim
  | .ok .cont, hq => exact hq.elim
  | .ok (.ret z), hq =>
    obtain ⟨z', H', I', rz, t, rfl, q⟩ := I.after hq
    obtain ⟨tk, rfl⟩ := rz
    exact ⟨.str t, H', I', ⟨tk, rfl⟩, q⟩
def rReprG (C : Addr) (sp : Sp) : List V → Hp → VK → Prop := fun xs H Q => ∃ a dx fs, xs = [.ref a] ∧ H a = some (.ins C dx fs) ∧ sp [.ref a] H (fun z H' => ∃ t, z = .str t ∧ Q z H') E0
theorem call_repr_ownG (hs : PySem.W.findIn X.K (.ref C) "__repr__" = some (some (.ref f))) (hf : PySem.W.isFn X.K (.ref f) = true) (F : FnG X.prog X.w X.K X.mg X.base CX0 n f fd ps sp) (hG : X.A.guards = some []) (hr : Room (n + 1) X.A) (hb : L2.Binds X.K fd ps []) :
    CallR X (.builtin "repr") (rReprG C sp) := by
  intro pins s σ H xs us Q I r h
  obtain ⟨a, dx, fs, rfl, ha, h⟩ := h
  rw [Vals.ref1 r]
  obtain ⟨mA, J, _⟩ := ins_get I.hok ha
  obtain ⟨od, J, _⟩ := J.look
  obtain ⟨m, hF⟩ := I.fr
  exact PySem.W.repr_K hr.in1.units0 hF I.ok.mod.kin J hs hf (run_strG F hG ⟨hr.in1, rfl⟩ hb I h)
/-! ### {l} in an f-string, l a list of ints -/
def tFmtL (K : PySem.W.Frag) (te : TE) : TE := fun σ H Q => te σ H fun x H1 => ∃ (a : Addr) (ns : List Int), x = .ref a ∧ SqL K H1 a (ns.map V.int) ∧ (intsD ns).showable = true ∧ (intsD ns).shown.length ≤ sizeLine ∧ Q (.str (intsD ns).shown) H1
theorem pe_fmtL {e : Expr} {te : TE} {pos : Pos} {k : Nat} (hG : X.A.guards = some []) (hr : Room k X.A) (he : PE X e te) : PE X (.FormattedValue e (-1) none pos) (tFmtL X.K te) := by
  refine ⟨fun pins s σ H Q I h => ?_⟩
  refine wpAny_FormattedValue_plain (thn (he.run pins s σ H _ I h) fun v s1 hv => ?_)
  obtain ⟨x, H1, I1, r1, a, ns, rfl, ht, sh, sz, q⟩ := hv
  cases r1
  have hu := hr.units
  obtain ⟨its, rv, ⟨o, n, ho, hc, _, hd⟩, _⟩ := I1.list ht
  have hz' : (listText (PyData.shownAll (ns.map PyData.int))).length ≤ sizeLine := by
    unfold intsD at sz
    simpa only [PyData.shown] using sz
  have sh' : PyData.showableAll (ns.map PyData.int) = true := by
    unfold intsD at sh
    simpa [PyData.showable] using sh
  have prs : ∀ ms : List Int, Paired (Sd X.K H1) (ms.map V.int) (ms.map PyData.int) := fun ms => by
    induction ms with
    | nil => exact .nil
    | cons m ms ih => exact .cons (.dp (.int m) (by simp [PyData.hasDict])) ih
  obtain ⟨as, bs, rd, hb, hk⟩ := Sd.all I1 (prs ns) rv sh' (fun t ht => Nat.le_trans (listText_mem_le ht) hz')
  have hna : a ∉ bs := not_mem_of_deeper (.list ho hc hd rd) (by simp only [PyData.depth]; omega) hb
  have dp2 := ints_depth ns
  have q2 : Q (.str (listText (PyData.shownAll (ns.map PyData.int)))) H1 := by
    unfold intsD at q
    simpa only [PyData.shown] using q
  refine wpAny_formatField_slot (fun _ _ => nofun) (by omega) (show s1.TypeIs (.ref a) "list" from ⟨o, ho, hc⟩) F.slot_list_format F.slot_list_str F.slot_list_repr.toG ?_
  cases its with
  | nil =>
    have hn : ns.map PyData.int = [] := by
      cases ns with
      | nil => rfl
      | cons m ms =>
        rw [List.map_cons] at rd
        cases rd
    rw [hn] at q2
    simp only [PyData.shownAll, listText_nil] at q2
    exact call_list_repr_empty (s := { s1 with toks := s1.toks + 1 }) ⟨o, ho, hc⟩ ho hd ⟨_, _, rfl, ⟨.str _, H1, I1.kept fun _ _ e => e, ⟨_, rfl⟩, q2⟩⟩
  | cons x l' =>
    exact call_list_reprK (A := X.A.in1.in1) (s := { s1 with toks := s1.toks + 1 }) ho hc hd hna (by simpa using hk.length_eq) (fun i y e => hk.item i y (by simpa using e)) hG (fun b _ => Clear.nil b) (by show X.A.units + 1 + 1 + _ < cLine; omega) (fun _ _ e => e)
      (fun h' u tk hk' => ⟨_, _, rfl, ⟨.str _, H1, I1.kept hk', ⟨_, rfl⟩, q2⟩⟩) hz'
end
/-! ### min of a list of pairs of ints -/
def ltP (p q : Int × Int) : Prop := p.1 < q.1 ∨ (p.1 = q.1 ∧ p.2 < q.2)
def rMinT (K : PySem.W.Frag) : List V → Hp → VK → Prop := fun vs H Q => ∃ (l : Addr) (ts : List Addr) (ps : List (Int × Int)), vs = [.ref l] ∧ SqL K H l (ts.map V.ref) ∧ ts.length = ps.length ∧ 0 < ps.length ∧
  (∀ (i : Nat) (t : Addr) (p : Int × Int), ts[i]? = some t → ps[i]? = some p → H t = some (.tup [.int p.1, .int p.2])) ∧
  ∀ (i : Nat) (t : Addr) (p : Int × Int), ts[i]? = some t → ps[i]? = some p → (∀ q ∈ ps, ¬ ltP q p) → Q (.ref t) H
theorem lt_pair (p q : Int × Int) : PySem.W.DatumOrd.lt p q = true ↔ ltP p q := by
  obtain ⟨a, b⟩ := p
  obtain ⟨c, d⟩ := q
  unfold ltP
  simp [PySem.W.DatumOrd.lt]
  split <;> omega
theorem min_le : ∀ (xs : List (Int × Int)) (x : Int × Int), ∀ q ∈ x :: xs, ¬ ltP q (PySem.W.minOf x xs)
  | [], x, q, h => by
    rw [List.mem_singleton.mp h]
    show ¬ ltP x x
    unfold ltP
    omega
  | y :: ys, x, q, h => by
    have ih := min_le ys (if PySem.W.DatumOrd.lt y x = true then y else x)
    have e : PySem.W.minOf x (y :: ys) = PySem.W.minOf (if PySem.W.DatumOrd.lt y x = true then y else x) ys := rfl
    rw [e]
    generalize PySem.W.minOf (if PySem.W.DatumOrd.lt y x = true then y else x) ys = m at *
    have hz := ih _ List.mem_cons_self
    have hy : ∀ q ∈ ys, ¬ ltP q m := fun q hq => ih q (List.mem_cons_of_mem _ hq)
    have both : ¬ ltP x m ∧ ¬ ltP y m := by
      by_cases c : PySem.W.DatumOrd.lt y x = true
      · rw [if_pos c] at hz
        have c := (lt_pair _ _).mp c
        unfold ltP at *
        omega
      · rw [if_neg c] at hz
        have c : ¬ ltP y x := fun h => c ((lt_pair y x).mpr h)
        unfold ltP at *
        omega
    rcases List.mem_cons.mp h with rfl | h
    · exact both.1
    · rcases List.mem_cons.mp h with rfl | h
      · exact both.2
      · exact hy q h
theorem vals_ix : ∀ {vs : List V} {us : List Value}, Vals vs us → ∀ (i : Nat) {v : V} {u : Value}, vs[i]? = some v → us[i]? = some u → RelV v u
  | _, _, .cons r _, 0, _, _, hv, hu => by
    cases hv
    cases hu
    exact r
  | _, _, .cons _ t, i + 1, _, _, hv, hu => vals_ix t i hv hu
theorem cr_minT {X : Cx} {k : Nat} (hc : X.calm = true) (hr : Room k X.A) : CallR X (.builtin "min") (rMinT X.K) := by
  intro pins s σ H vs us Q I r h
  obtain ⟨l, ts, ps, rfl, hl, hlen, hpos, hat, q⟩ := h
  rw [Vals.ref1 r]
  obtain ⟨its, rv, pl, _⟩ := I.list hl
  have hu := hr.units
  have one : ∀ (t : Addr) (p : Int × Int), H t = some (.tup [.int p.1, .int p.2]) → Dp X.K H (.ref t) (PySem.W.Datum.toD p) := fun t p e => .tup (SqT.of e) (.cons (.int _) (.cons (.int _) .nil))
  have dp : ∀ (ts : List Addr) (ps : List (Int × Int)), ts.length = ps.length → (∀ (i : Nat) (t : Addr) (p : Int × Int), ts[i]? = some t → ps[i]? = some p → H t = some (.tup [.int p.1, .int p.2])) → DpAll X.K H (ts.map V.ref) (ps.map PySem.W.Datum.toD) := by
    intro ts
    induction ts with
    | nil =>
      intro ps e _
      cases ps with
      | nil => exact .nil
      | cons p ps => cases e
    | cons t ts ih =>
      intro ps e h
      cases ps with
      | nil => cases e
      | cons p ps => exact .cons (one t p (h 0 t p rfl rfl)) (ih ps (Nat.succ.inj e) fun i t p h1 h2 => h (i + 1) t p h1 h2)
  obtain ⟨as, rs⟩ := Dp.readsAll I _ _ _ (dp ts ps hlen hat) rv
  obtain ⟨p0, ps', rfl⟩ : ∃ p0 ps', ps = p0 :: ps' := by
    cases ps with
    | nil => cases hpos
    | cons p ps => exact ⟨p, ps, rfl⟩
  refine PySem.W.min_list_datum (α := Int × Int) (x := p0) (xs := ps') (I.ok.hd hc) pl.isList ⟨as, rs⟩ (by show X.A.units + 1 + (max 0 0 + 1) < cLine; omega) ?_
  intro i v h' tk hi hv hk
  have hi' : its[i]? = some v := by simpa using hi
  have il := rv.length
  rw [List.length_map] at il
  have hlt : i < ts.length := by
    have := (List.getElem?_eq_some_iff.mp hi').1
    omega
  have et : ts[i]? = some ts[i] := List.getElem?_eq_getElem hlt
  have hlp : i < (p0 :: ps').length := by omega
  have ep : (p0 :: ps')[i]? = some (p0 :: ps')[i] := List.getElem?_eq_getElem hlp
  have rel := vals_ix rv i (show (ts.map V.ref)[i]? = some (.ref ts[i]) by rw [List.getElem?_map, et]; rfl) hi'
  have own := hat i _ _ et ep
  generalize (p0 :: ps')[i] = p at *
  obtain ⟨bs, rd⟩ := Dp.reads I _ _ _ (one _ p own) rel
  have rd' := PySem.W.reads_keeps hk rd
  obtain ⟨cs, rm⟩ := hv
  have eq := SeqAt.Reads.unique _ _ _ _ _ (by rfl) rd' rm
  have e2 : p = PySem.W.minOf p0 ps' := by
    have z := (PySem.W.Datum.eqv p (PySem.W.minOf p0 ps'))
    rw [← eq, SeqAt.eqv_refl _ (by rfl)] at z
    exact of_decide_eq_true z.symm
  refine ⟨.ref ts[i], H, I.kept hk, rel, q i _ p et ep fun q' hq' => ?_⟩
  rw [e2]
  exact min_le ps' p0 q' hq'
end LT

set_option Elab.async false
set_option linter.all false
set_option maxRecDepth 100000
set_option maxHeartbeats 1600000
/-! Own layer, numbers alone: how many are on in a slot; the slots where that may be least; even begins. -/
namespace LT
/-- how many are on in a slot -/
def cnt (a W s : Int) : List Int → Int
  | [] => 0
  | n :: ns => (if (s - n) % W < a then 1 else 0) + cnt a W s ns
theorem cnt_app {a W s : Int} : ∀ xs ys : List Int, cnt a W s (xs ++ ys) = cnt a W s xs + cnt a W s ys
  | [], ys => by
    show cnt a W s ys = 0 + cnt a W s ys
    omega
  | x :: xs, ys => by
    show _ + cnt a W s (xs ++ ys) = (_ + cnt a W s xs) + cnt a W s ys
    rw [cnt_app xs ys]
    omega
theorem cnt_one {a W s n : Int} : cnt a W s [n] = if (s - n) % W < a then 1 else 0 := by
  show _ + (0 : Int) = _
  omega
theorem cnt_nonneg {a W s : Int} : ∀ ns : List Int, 0 ≤ cnt a W s ns
  | [] => Int.le_refl 0
  | n :: ns => by
    have := cnt_nonneg (a := a) (W := W) (s := s) ns
    show 0 ≤ _ + cnt a W s ns
    split <;> omega
theorem cnt_mono {a W s t : Int} : ∀ ns : List Int, (∀ n ∈ ns, (s - n) % W < a → (t - n) % W < a) → cnt a W s ns ≤ cnt a W t ns
  | [], _ => Int.le_refl 0
  | n :: ns, h => by
    have ih := cnt_mono ns fun m hm => h m (List.mem_cons_of_mem _ hm)
    have h1 := h n List.mem_cons_self
    show _ + cnt a W s ns ≤ _ + cnt a W t ns
    split
    · rename_i c
      rw [if_pos (h1 c)]
      omega
    · split <;> omega
/-- the slots in which it may be least -/
def cands (a W : Int) (ns : List Int) : List Int := 0 :: ns.map fun n => (n + a) % W
theorem rest_of {x W : Int} {q r : Int} (h0 : 0 ≤ r) (h1 : r < W) (e : x = r + W * q) : x % W = r := by
  rw [e, Int.add_mul_emod_self_left, Int.emod_eq_of_lt h0 h1]
theorem step_cand {a b s n : Int} (a1 : 1 ≤ a) (b0 : 0 ≤ b) (hs : 0 ≤ s) (hs1 : s + 1 < a + b) (n0 : 0 ≤ n) (n1 : n < a + b) (h : (s - n) % (a + b) < a) (h' : ¬ (s + 1 - n) % (a + b) < a) : s + 1 = (n + a) % (a + b) := by
  by_cases c : n ≤ s
  · rw [Int.emod_eq_of_lt (show 0 ≤ s - n by omega) (by omega)] at h
    rw [Int.emod_eq_of_lt (show 0 ≤ s + 1 - n by omega) (by omega)] at h'
    rw [Int.emod_eq_of_lt (show 0 ≤ n + a by omega) (by omega)]
    omega
  · by_cases c2 : n = s + 1
    · subst c2
      rw [show s + 1 - (s + 1) = (0 : Int) by omega, Int.zero_emod] at h'
      omega
    · rw [rest_of (q := -1) (r := s - n + (a + b)) (by omega) (by omega) (by omega)] at h
      rw [rest_of (q := -1) (r := s + 1 - n + (a + b)) (by omega) (by omega) (by omega)] at h'
      rw [rest_of (q := 1) (r := n + a - (a + b)) (by omega) (by omega) (by omega)]
      omega
theorem cand_least {a b m : Int} {ns : List Int} (a1 : 1 ≤ a) (b0 : 0 ≤ b) (hb : ∀ n ∈ ns, 0 ≤ n ∧ n < a + b) (hm : ∀ c ∈ cands a (a + b) ns, m ≤ cnt a (a + b) c ns) : ∀ t : Nat, (t : Int) < a + b → m ≤ cnt a (a + b) t ns
  | 0, _ => hm 0 List.mem_cons_self
  | t + 1, ht => by
    have ih := cand_least a1 b0 hb hm t (by omega)
    by_cases h : ∃ n, n ∈ ns ∧ ((t : Int) - n) % (a + b) < a ∧ ¬ ((t : Int) + 1 - n) % (a + b) < a
    · obtain ⟨n, hn, h1, h2⟩ := h
      obtain ⟨n0, n1⟩ := hb n hn
      have e := step_cand a1 b0 (by omega) (by omega) n0 n1 h1 h2
      rw [show ((t + 1 : Nat) : Int) = (t : Int) + 1 by omega, e]
      exact hm _ (List.mem_cons_of_mem _ (List.mem_map.mpr ⟨n, hn, rfl⟩))
    · refine Int.le_trans ih ?_
      rw [show ((t + 1 : Nat) : Int) = (t : Int) + 1 by omega]
      refine cnt_mono ns fun n hn h1 => ?_
      by_cases h2 : ((t : Int) + 1 - n) % (a + b) < a
      · exact h2
      · exact absurd ⟨n, hn, h1, h2⟩ h
/-! ### sums -/
def sumT (f : Int → Int) : Nat → Int
  | 0 => 0
  | t + 1 => sumT f t + f t
theorem sumT_add {f g : Int → Int} : ∀ t, sumT (fun s => f s + g s) t = sumT f t + sumT g t
  | 0 => by show (0 : Int) = 0 + 0; omega
  | t + 1 => by
    show sumT (fun s => f s + g s) t + (f t + g t) = (sumT f t + f t) + (sumT g t + g t)
    rw [sumT_add t]
    omega
theorem sumT_zero : ∀ t, sumT (fun _ => 0) t = 0
  | 0 => rfl
  | t + 1 => by
    show sumT (fun _ => 0) t + 0 = 0
    rw [sumT_zero t]
    rfl
theorem sumT_ge {f : Int → Int} {m : Int} : ∀ t : Nat, (∀ s : Nat, s < t → m ≤ f s) → m * t ≤ sumT f t
  | 0, _ => by
    show m * 0 ≤ 0
    omega
  | t + 1, h => by
    have ih := sumT_ge t fun s hs => h s (by omega)
    have h1 := h t (by omega)
    show m * ((t + 1 : Nat) : Int) ≤ sumT f t + f t
    rw [show ((t + 1 : Nat) : Int) = (t : Int) + 1 by omega, Int.mul_add, Int.mul_one]
    omega
theorem sum_ind {a W n : Int} (a0 : 0 ≤ a) (aW : a ≤ W) (n0 : 0 ≤ n) (n1 : n < W) : ∀ t : Nat, (t : Int) ≤ W → sumT (fun s => if (s - n) % W < a then 1 else 0) t = max 0 (min (t : Int) (n + a) - n) + max 0 (min (t : Int) (n + a - W))
  | 0, _ => by
    show (0 : Int) = _
    omega
  | t + 1, h => by
    have ih := sum_ind a0 aW n0 n1 t (by omega)
    show sumT (fun s => if (s - n) % W < a then 1 else 0) t + (if ((t : Int) - n) % W < a then 1 else 0) = _
    rw [ih]
    by_cases c : n ≤ (t : Int)
    · rw [Int.emod_eq_of_lt (show 0 ≤ (t : Int) - n by omega) (by omega)]
      split <;> omega
    · rw [rest_of (q := -1) (r := (t : Int) - n + W) (by omega) (by omega) (by omega)]
      split <;> omega
theorem sum_cnt {a W : Int} (a0 : 0 ≤ a) (aW : a ≤ W) (W0 : 0 ≤ W) : ∀ ns : List Int, (∀ n ∈ ns, 0 ≤ n ∧ n < W) → sumT (fun s => cnt a W s ns) W.toNat = (ns.length : Int) * a
  | [], _ => by
    show sumT (fun _ => 0) _ = _
    rw [sumT_zero]
    show (0 : Int) = ((0 : Nat) : Int) * a
    omega
  | n :: ns, h => by
    obtain ⟨n0, n1⟩ := h n List.mem_cons_self
    show sumT (fun s => (if (s - n) % W < a then 1 else 0) + cnt a W s ns) _ = _
    rw [sumT_add, sum_cnt a0 aW W0 ns fun m hm => h m (List.mem_cons_of_mem _ hm), sum_ind a0 aW n0 n1 _ (by omega), List.length_cons, show ((ns.length + 1 : Nat) : Int) = (ns.length : Int) + 1 by omega, Int.add_mul, Int.one_mul]
    omega
/-- a number that is least over the slots where it may be: no more than the keepers' share -/
theorem share_ge {a b m : Int} {ns : List Int} (a1 : 1 ≤ a) (b0 : 0 ≤ b) (hb : ∀ n ∈ ns, 0 ≤ n ∧ n < a + b) (hm : ∀ c ∈ cands a (a + b) ns, m ≤ cnt a (a + b) c ns) : m ≤ (ns.length : Int) * a / (a + b) := by
  have h1 := sumT_ge (f := fun s => cnt a (a + b) s ns) (m := m) (a + b).toNat fun s hs => cand_least a1 b0 hb hm s (by omega)
  rw [sum_cnt (by omega) (by omega) (by omega) ns hb, Int.toNat_of_nonneg (by omega)] at h1
  exact (Int.le_ediv_iff_mul_le (by omega)).mpr h1
/-! ### even begins -/
def evenB (W : Int) (m : Nat) : List Int := (List.range m).map fun i => ((i : Nat) : Int) * W / (m : Int)
def win (f : Int → Int) (x : Int) : Nat → Int
  | 0 => 0
  | t + 1 => win f x t + f (x + t)
theorem win_first {f : Int → Int} {x : Int} : ∀ t : Nat, win f x (t + 1) = f x + win f (x + 1) t
  | 0 => by
    show (0 : Int) + f (x + (0 : Nat)) = f x + 0
    rw [show x + ((0 : Nat) : Int) = x by omega]
    omega
  | t + 1 => by
    show win f x (t + 1) + f (x + ((t + 1 : Nat) : Int)) = f x + (win f (x + 1) t + f (x + 1 + (t : Int)))
    rw [win_first t, show x + ((t + 1 : Nat) : Int) = x + 1 + (t : Int) by omega]
    omega
theorem win_shift {f : Int → Int} {m : Nat} (h : ∀ k, f (k + m) = f k) (x : Int) : win f (x + 1) m = win f x m := by
  have h1 := win_first (f := f) (x := x) m
  have h2 : win f x (m + 1) = win f x m + f (x + m) := rfl
  rw [h x] at h2
  omega
theorem win_nat {f : Int → Int} {m : Nat} (h : ∀ k, f (k + m) = f k) : ∀ x : Nat, win f x m = win f 0 m
  | 0 => rfl
  | x + 1 => by
    rw [show ((x + 1 : Nat) : Int) = (x : Int) + 1 by omega, win_shift h, win_nat h x]
theorem win_ge {f : Int → Int} {x : Int} {q : Nat} (h0 : ∀ k, 0 ≤ f k) (h1 : ∀ j : Nat, j < q → 1 ≤ f (x + j)) : ∀ t : Nat, (min q t : Nat) ≤ win f x t
  | 0 => by
    show ((min q 0 : Nat) : Int) ≤ 0
    omega
  | t + 1 => by
    have ih := win_ge h0 h1 t
    have z := h0 (x + t)
    show ((min q (t + 1) : Nat) : Int) ≤ win f x t + f (x + t)
    by_cases c : t < q
    · have := h1 t c
      omega
    · omega
theorem cnt_win {a W s : Int} {g : Nat → Int} {f : Int → Int} (hf : ∀ i : Nat, f i = if (s - g i) % W < a then 1 else 0) : ∀ m : Nat, cnt a W s ((List.range m).map g) = win f 0 m
  | 0 => rfl
  | m + 1 => by
    rw [List.range_succ, List.map_append, cnt_app, cnt_win hf m]
    show _ + cnt a W s [g m] = win f 0 m + f (0 + (m : Int))
    rw [cnt_one, show (0 : Int) + (m : Int) = (m : Int) by omega, hf m]
/-- an even round has its share in each slot -/
theorem even_ge {a b s : Int} {m : Nat} (a1 : 1 ≤ a) (b0 : 0 ≤ b) (s0 : 0 ≤ s) (s1 : s < a + b) : (m : Int) * a / (a + b) ≤ cnt a (a + b) s (evenB (a + b) m) := by
  have W0 : 0 < a + b := by omega
  generalize hW : a + b = W at *
  cases m with
  | zero =>
    have := cnt_nonneg (a := a) (W := W) (s := s) (evenB W 0)
    simpa using this
  | succ m' =>
    generalize hm : m' + 1 = m
    have m1 : 1 ≤ m := by omega
    have f0 : ∀ k : Int, (k + (m : Int)) * W / (m : Int) = k * W / (m : Int) + W := fun k => by
      rw [Int.add_mul, Int.mul_comm (m : Int) W, Int.add_mul_ediv_right _ _ (by omega)]
    have key := cnt_win (a := a) (W := W) (s := s) (g := fun i => ((i : Nat) : Int) * W / (m : Int)) (f := fun k => if (s - k * W / (m : Int)) % W < a then 1 else 0) (fun i => rfl) m
    have per : ∀ k : Int, (fun k : Int => if (s - k * W / (m : Int)) % W < a then (1 : Int) else 0) (k + m) = (fun k : Int => if (s - k * W / (m : Int)) % W < a then (1 : Int) else 0) k := fun k => by
      show (if (s - (k + (m : Int)) * W / (m : Int)) % W < a then (1 : Int) else 0) = if (s - k * W / (m : Int)) % W < a then 1 else 0
      rw [f0, show s - (k * W / (m : Int) + W) = s - k * W / (m : Int) + W * (-1) by omega, Int.add_mul_emod_self_left]
    show _ ≤ cnt a W s ((List.range m).map fun i => ((i : Nat) : Int) * W / (m : Int))
    rw [key]
    -- how many, and the last keeper that began by then
    have q0 : 0 ≤ (m : Int) * a / W := Int.ediv_nonneg (Int.mul_nonneg (by omega) (by omega)) (by omega)
    have qW : (m : Int) * a / W * W ≤ (m : Int) * a := Int.ediv_mul_le _ (by omega)
    have qm : (m : Int) * a / W ≤ m := by
      have h1 : (m : Int) * a ≤ (m : Int) * W := Int.mul_le_mul_of_nonneg_left (by omega) (by omega)
      have h2 := Int.ediv_le_ediv W0 h1
      rwa [Int.mul_ediv_cancel _ (by omega)] at h2
    generalize (m : Int) * a / W = q at *
    have ms : 0 ≤ (m : Int) * (s + 1) - 1 := by
      have := Int.mul_le_mul (show (1 : Int) ≤ m by omega) (show 1 ≤ s + 1 by omega) (by omega) (by omega)
      omega
    have K0 : 0 ≤ ((m : Int) * (s + 1) - 1) / W := Int.ediv_nonneg ms (by omega)
    have K1 : ((m : Int) * (s + 1) - 1) / W * W ≤ (m : Int) * (s + 1) - 1 := Int.ediv_mul_le _ (by omega)
    have K2 : (m : Int) * (s + 1) - 1 < (((m : Int) * (s + 1) - 1) / W + 1) * W := Int.lt_ediv_add_one_mul_self _ W0
    generalize ((m : Int) * (s + 1) - 1) / W = L at *
    have x0 : 0 ≤ L - q + 1 + m := by omega
    rw [← win_nat per (L - q + 1 + m).toNat, Int.toNat_of_nonneg x0]
    have g := win_ge (f := fun k => if (s - k * W / (m : Int)) % W < a then (1 : Int) else 0) (x := L - q + 1 + m) (q := q.toNat) (fun k => by split <;> omega) (fun j hj => ?_) m
    · rw [Nat.min_eq_left (by omega), Int.toNat_of_nonneg q0] at g
      exact g
    · have hj : (j : Int) < q := by omega
      rw [if_pos]
      · omega
      have e1 : (L - q + 1 + (m : Int) + (j : Int)) * W / (m : Int) = (L - q + 1 + (j : Int)) * W / (m : Int) + W := by
        rw [show L - q + 1 + (m : Int) + (j : Int) = (L - q + 1 + (j : Int)) + (m : Int) by omega]
        exact f0 _
      have lo : s + 1 - a ≤ (L - q + 1 + (j : Int)) * W / (m : Int) := by
        refine (Int.le_ediv_iff_mul_le (by omega)).mpr ?_
        have h1 : (L - q + 1) * W ≤ (L - q + 1 + (j : Int)) * W := Int.mul_le_mul_of_nonneg_right (by omega) (by omega)
        have h2 : (L - q + 1) * W = (L + 1) * W - q * W := by rw [← Int.sub_mul]; congr 1; omega
        have h3 : (s + 1 - a) * (m : Int) = (m : Int) * (s + 1) - (m : Int) * a := by rw [Int.sub_mul, Int.mul_comm (s + 1), Int.mul_comm a]
        omega
      have hi : (L - q + 1 + (j : Int)) * W / (m : Int) ≤ s := by
        have h1 : (L - q + 1 + (j : Int)) * W ≤ L * W := Int.mul_le_mul_of_nonneg_right (by omega) (by omega)
        have h2 : (L - q + 1 + (j : Int)) * W < (s + 1) * (m : Int) := by
          rw [Int.mul_comm (s + 1)]
          omega
        have := (Int.ediv_lt_iff_lt_mul (show (0 : Int) < m by omega)).mpr h2
        omega
      rw [e1]
      generalize (L - q + 1 + (j : Int)) * W / (m : Int) = e at *
      rw [rest_of (q := -1) (r := s - e) (by omega) (by omega) (by omega)]
      omega
/-- the least over the slots where it may be -/
def IsMin (a W : Int) (ns : List Int) (M : Int) : Prop := (∃ c ∈ cands a W ns, cnt a W c ns = M) ∧ ∀ c ∈ cands a W ns, M ≤ cnt a W c ns
theorem cand_in {a b : Int} {ns : List Int} (a1 : 1 ≤ a) (b0 : 0 ≤ b) {c : Int} (h : c ∈ cands a (a + b) ns) : 0 ≤ c ∧ c < a + b := by
  rcases List.mem_cons.mp h with rfl | h
  · omega
  · obtain ⟨n, _, rfl⟩ := List.mem_map.mp h
    exact ⟨Int.emod_nonneg _ (by omega), Int.emod_lt_of_pos _ (by omega)⟩
theorem any_min {a b M : Int} {ns : List Int} (a1 : 1 ≤ a) (b0 : 0 ≤ b) (hb : ∀ n ∈ ns, 0 ≤ n ∧ n < a + b) (h : IsMin a (a + b) ns M) : M ≤ (ns.length : Int) * a / (a + b) := share_ge a1 b0 hb h.2
theorem even_in' {W : Int} {m : Nat} (hw : 0 < W) : ∀ n ∈ evenB W m, 0 ≤ n ∧ n < W := by
  intro n hn
  unfold evenB at hn
  obtain ⟨i, hi, rfl⟩ := List.mem_map.mp hn
  have hi := List.mem_range.mp hi
  refine ⟨Int.ediv_nonneg (Int.mul_nonneg (by omega) (by omega)) (by omega), ?_⟩
  rw [Int.ediv_lt_iff_lt_mul (by omega), Int.mul_comm W (m : Int)]
  exact Int.mul_lt_mul_of_pos_right (by omega) hw
theorem even_min {a b M : Int} {m : Nat} (a1 : 1 ≤ a) (b0 : 0 ≤ b) (h : IsMin a (a + b) (evenB (a + b) m) M) : M = (m : Int) * a / (a + b) := by
  have h1 := any_min a1 b0 (even_in' (by omega)) h
  rw [show (evenB (a + b) m).length = m by unfold evenB; rw [List.length_map, List.length_range]] at h1
  obtain ⟨⟨c, hc, rfl⟩, _⟩ := h
  obtain ⟨c0, c1⟩ := cand_in a1 b0 hc
  have := even_ge (m := m) a1 b0 c0 c1
  omega
end LT

set_option Elab.async false
set_option linter.all false
set_option maxRecDepth 100000
set_option maxHeartbeats 1600000
namespace LT
open PySem PySem.Spec PyProof.Rows L2
theorem sum_pair {prog : Program} {w : World} {A : Around} {E : Value → Shared → Prop} {s : Shared} {Q : Value → Shared → Prop} {l : Addr} {x y : Int} {t1 t2 : Tok} (hh : A.handled = none) (hl : s.heap.IsTuple l #[.int x t1, .int y t2])
    (h : ∀ h' tk t', (∀ b o, s.heap.get? b = some o → h'.get? b = some o) → Q (.int (x + y) t') { s with heap := h', toks := tk }) : wpAny (model prog w) A (call (.builtin "sum") [.ref l]) Q E s := by
  have hlt : l < s.heap.objs.size := by obtain ⟨_, e, _⟩ := hl; exact Heap.lt_size e
  refine call_sum_walkG (wpAny_pyIter_tuple hl ?_)
  refine ⟨_, _, _, _, _, _, (fun i => if i = 0 then x else y), rfl, Walks.tuple (A := A.in1) hh _ l (Nat.ne_of_lt hlt) _, ⟨⟨_, Heap.get?_push_size _ rfl, rfl, rfl⟩, hl.push _⟩, fun b hb => ?_, fun i v hv => ?_, fun h' tk t' hk => ?_⟩
  · show b < (s.heap.push _).objs.size
    rw [Heap.size_push]
    rcases List.mem_cons.mp hb with rfl | hb
    · exact Nat.lt_succ_self _
    · rcases List.mem_cons.mp hb with rfl | hb
      · exact Nat.lt_succ_of_lt hlt
      · cases hb
  · match i, hv with
    | 0, hv => cases hv; exact ⟨_, rfl⟩
    | 1, hv => cases hv; exact ⟨_, rfl⟩
    | i + 2, hv => simp at hv
  · have e : preSum (fun i : Nat => if i = 0 then x else y) 2 = x + y := by
      simp [preSum]
    have := h h' tk t' fun b o eb => hk b o (fun z => by
      have := Heap.lt_size eb
      rw [List.mem_singleton.mp z] at this
      exact Nat.lt_irrefl _ this) (Heap.get?_push_of_some _ eb)
    rw [← e] at this
    exact this
def rSumP (K : PySem.W.Frag) : List V → Hp → VK → Prop := fun vs H Q => ∃ (t : Addr) (x y : Int), vs = [.ref t] ∧ SqT K H t [.int x, .int y] ∧ Q (.int (x + y)) H
theorem cr_sumP {X : Cx} (hc : X.calm = true) : CallR X (.builtin "sum") (rSumP X.K) := by
  intro pins s σ H vs us Q I r h
  obtain ⟨t, x, y, rfl, hs, q⟩ := h
  obtain ⟨its, rv, hl, _⟩ := I.tuple hs
  rw [Vals.ref1 r]
  obtain ⟨u1, u2, rfl, r1, r2⟩ := vals2 rv
  obtain ⟨t1, rfl⟩ := r1
  obtain ⟨t2, rfl⟩ := r2
  obtain ⟨o, ho, hcl, n, hd⟩ := hl
  exact sum_pair (I.ok.hd hc) ⟨o, ho, hcl, n, hd⟩ fun h' tk t' hk => ⟨.int _, H, I.kept hk, ⟨_, rfl⟩, q⟩
/-- how many are on, by the list -/
theorem cnt_len_aux {a W s : Int} {ns : List Int} : ∀ i : Nat, i ≤ ns.length → ((((List.range i).filter fun j => decide ((s - ns.getD j 0) % W < a)).length : Nat) : Int) = cnt a W s (ns.take i)
  | 0, _ => by
    rw [List.take_zero]
    rfl
  | i + 1, h => by
    have ih := cnt_len_aux (a := a) (W := W) (s := s) (ns := ns) i (by omega)
    have e : ns.getD i 0 = ns[i] := by rw [List.getD_eq_getElem?_getD, List.getElem?_eq_getElem (by omega)]; rfl
    rw [List.range_succ, List.filter_append, List.length_append, List.take_succ_eq_append_getElem (by omega), cnt_app, cnt_one, ← ih, ← e]
    by_cases c : (s - ns.getD i 0) % W < a
    · rw [if_pos c, List.filter_cons_of_pos (p := fun j => decide ((s - ns.getD j 0) % W < a)) (decide_eq_true c)]
      rfl
    · rw [if_neg c, List.filter_cons_of_neg (p := fun j => decide ((s - ns.getD j 0) % W < a)) (by rw [decide_eq_false c]; exact Bool.false_ne_true)]
      simp
/-! ### the text of a list of ints -/
theorem ints_show {ns : List Int} (hb : ∀ n ∈ ns, n.natAbs ≤ 10 ^ 61) (hl : ns.length ≤ 100) : (intsD ns).showable = true ∧ (intsD ns).shown.length ≤ 30000 := by
  have all : ∀ ms : List Int, (∀ n ∈ ms, n.natAbs ≤ 10 ^ 61) → PyData.showableAll (ms.map PyData.int) = true ∧ ((PyData.shownAll (ms.map PyData.int)).map (·.length)).sum ≤ 204 * ms.length ∧ (PyData.shownAll (ms.map PyData.int)).length = ms.length := by
    intro ms
    induction ms with
    | nil => exact fun _ => ⟨by simp [PyData.showableAll], by simp [PyData.shownAll], by simp [PyData.shownAll]⟩
    | cons m ms ih =>
      intro h
      obtain ⟨h1, h2, h3⟩ := ih fun n hn => h n (List.mem_cons_of_mem _ hn)
      have hm := h m List.mem_cons_self
      have lg := lg61 hm
      have tl := tlen61 hm
      refine ⟨?_, ?_, ?_⟩
      · rw [List.map_cons]
        simp only [PyData.showableAll, PyData.showable, h1, decide_eq_true lg, Bool.and_self]
      · rw [List.map_cons]
        simp only [PyData.shownAll, List.map_cons, List.sum_cons, PyData.shown, List.length_cons]
        omega
      · rw [List.map_cons]
        simp only [PyData.shownAll, List.length_cons, h3]
  obtain ⟨h1, h2, h3⟩ := all ns hb
  unfold intsD
  refine ⟨by simpa [PyData.showable] using h1, ?_⟩
  simp only [PyData.shown]
  have := listText_len_le (PyData.shownAll (ns.map PyData.int))
  omega
end LT

set_option Elab.async false
set_option linter.all false
set_option maxRecDepth 100000
set_option maxHeartbeats 1600000
set_option pp.maxSteps 700
/-! Own layer: a def that shows a list while something else is being shown; repr of a tuple that holds an own thing. -/
namespace LT
open PySem PySem.Spec PyProof.Rows L2
/-- a def that may ask what is being shown -/
structure FnGc (P : Program) (w : World) (K : PySem.W.Frag) (mg : Str → Option Value) (base : Heap)
    (CX : CXT) (k : Nat) (f : Addr) (fd : FuncData) (ps : List Str) (sp : List Code → Sp) : Prop where
  argc : ∀ {g : List Code} {vs : List V} {H : Hp} {Q : VK} {E : XK}, sp g vs H Q E → vs.length = ps.length
  go : ∀ {g : List Code} {A : Around} {outer : List Env} {s : Shared} {H : Hp} {args : Args} {us : List Value} {vs : List V}
    {Q : VK} {E : XK}, A.guards = some g → Room k A → Env0 P w K mg base A outer s H →
    BindsTo s fd args (ps.zip us) → Vals vs us → sp g vs H Q E →
    codeAny (model P w) A (.call (.ref f) args) (CR CX outer P w H s Q E) s
section
variable {P : Program} {w : World} {K : PySem.W.Frag} {mg : Str → Option Value} {base : Heap}
theorem FnGc.toG {CX : CXT} {k : Nat} {f : Addr} {fd : FuncData} {ps : List Str} {sp : List Code → Sp} (F : FnGc P w K mg base CX k f fd ps sp) : FnG P w K mg base CX k f fd ps (sp []) :=
  ⟨fun h => F.argc h, fun hg hr e b v h => F.go hg hr e b v h⟩
theorem okGc {x qual : Str} {st : Stmt} {f : Addr} {fd : FuncData} {N ps : List Str} {k : Nat} {sp : List Code → Sp}
    (F : Fun K x qual st f fd) (S : FnScope N ps (defScope st))
    (argc : ∀ {g : List Code} {vs : List V} {H : Hp} {Q : VK} {E : XK}, sp g vs H Q E → vs.length = ps.length)
    (body : ∀ (g : List Code) (cdv : Value) (A : Around) (outer : List Env) (s : Shared) (H : Hp) (vs : List V) (Q : VK) (E : XK),
      A.guards = some g → Room k (A.deeper (envOfC qual (defScope st) s.heap.objs.size f cdv)) → sp g vs H Q E →
      ∃ t, PSs (cxOf CX0 P w K mg base N qual (defScope st) f cdv A outer s H E).nox (defBody st) t ∧
        t { nx := fun _ H' => Q .non H', rt := Q } (start N vs) H) :
    FnGc P w K mg base CX0 (k + 1) f fd ps sp := by
  obtain ⟨oc, od, kV, doc, pm, an, cdv, ct, osl, rfl, lk, hcd⟩ := F.ex
  refine ⟨argc, ?_⟩
  intro g A outer s H args us vs Q E hg hr e0 hb r hsp
  have inS : ∀ b o, base.get? b = some o → s.heap.get? b = some o := fun b o e => (e0.bs b o e).1
  have KX : K.In s.heap := e0.mod.kin.keeps inS
  have hkind : ∀ y ∈ ps.zip us, (defScope st).names.lookup y.1 = some .local ∨
      ((defScope st).names.lookup y.1 = some .cell ∧
        ((cellsFrom (s.heap.objs.size + 1) (defScope st).names []).lookup y.1).isSome = true) := by
    rintro ⟨n, v⟩ hy
    rcases S.par n (List.of_mem_zip hy).1 with q | q
    · exact Or.inl q
    · exact Or.inr ⟨q, PySem.W.cellsFrom_some _ _ _ (Or.inl q)⟩
  refine codeAny_call_function hr.depth (KX _ _ lk) rfl S.co S.gen rfl (PySem.W.codeRec_of KX hcd)
    (hb _ _ _ _ (wpAny_newFunctionEnv_cells S.kind hkind fun env he s1 x => ?_))
  subst he
  refine ⟨(e0.mod.nolimit.keeps inS).keeps x.toInCall.keep, codeAny_func ?_⟩
  obtain ⟨t, ht, hq⟩ := body g cdv A outer s H vs Q E hg (hr.deeper _) hsp
  have I := inv_start (CX := CX0) (N := N) (qual := qual) (f := f) (cd := cdv) (E := E) S hr.hd e0 (argc hsp) r x
  refine wpAny_mono (ht.nox.run [] s1 (start N vs) H _ I hq) (fun fl s' hs => ?_) (fun e s' hs => hs)
  cases fl with
  | brk => obtain ⟨_, _, _, q⟩ := hs; exact q.elim
  | cont => obtain ⟨_, _, _, q⟩ := hs; exact q.elim
  | next =>
    obtain ⟨σ', H', J, q⟩ := hs
    exact ⟨V.non, H', J.os, J.bare, J.base, J.hok, rfl, q⟩
  | ret u =>
    obtain ⟨v, σ', H', J, rv, q⟩ := hs
    exact ⟨v, H', J.os, J.bare, J.base, J.hok, rv, q⟩
end
section
variable {X : Cx} {C f : Addr} {fd : FuncData} {ps : List Str} {sp : List Code → Sp} {n : Nat}
theorem run_strGc {g : List Code} {A : Around} {pins : List (Addr × Obj)} {σ : L2.St} {H : Hp} {s : Shared} {Q : VK} {a : Addr}
    (F : FnGc X.prog X.w X.K X.mg X.base CX0 n f fd ps sp) (hG : A.guards = some g) (sb : L2.Sub X n A) (hb : L2.Binds X.K fd ps []) (I : Inv X pins σ H s)
    (h : sp g [.ref a] H (fun z H' => ∃ t, z = .str t ∧ Q z H') E0) :
    wpAny (model X.prog X.w) A (call (.ref f) [.ref a]) (PySem.W.StrBack (EP X pins σ Q)) X.xe s := by
  have e0 : Env0 X.prog X.w X.K X.mg X.base A X.stack s H := by
    have e := I.env0
    exact ⟨by rw [sb.fr]; exact e.frames, e.mod, e.bs, e.bsz, e.funs, e.frf, e.hok, e.bare⟩
  have r2 : Vals [V.ref a] [Value.ref a] := .cons rfl .nil
  have hl := F.argc h
  have b := hb s [.ref a] I.kIn (by simpa using hl)
  rw [List.append_nil] at b
  refine wpAny_call (codeAny_mono (F.go (args := ⟨[.ref a], []⟩) (us := [.ref a]) hG sb.room e0 b r2 h) fun r s' hq => ?_)
  match r, hq with
  | .error _, hq => exact hq.elim
  | .ok .next, hq => exact hq.elim
  | .ok .brk, hq => exact hq.elim
  | .ok .cont, hq => exact hq.elim
  | .ok (.ret z), hq =>
    obtain ⟨z', H', I', rz, t, rfl, q⟩ := I.after hq
    obtain ⟨tk, rfl⟩ := rz
    exact ⟨.str t, H', I', ⟨tk, rfl⟩, q⟩
/-! ### {l} in an f-string, l a list of ints that is not being shown -/
def tFmtLc (K : PySem.W.Frag) (g : List Code) (te : TE) : TE := fun σ H Q => te σ H fun x H1 => ∃ (a : Addr) (ns : List Int), x = .ref a ∧ SqL K H1 a (ns.map V.int) ∧ Clear g a ∧ (intsD ns).showable = true ∧ (intsD ns).shown.length ≤ sizeLine ∧ Q (.str (intsD ns).shown) H1
theorem pe_fmtLc {g : List Code} {e : Expr} {te : TE} {pos : Pos} {k : Nat} (hG : X.A.guards = some g) (hr : Room k X.A) (he : PE X e te) : PE X (.FormattedValue e (-1) none pos) (tFmtLc X.K g te) := by
  refine ⟨fun pins s σ H Q I h => ?_⟩
  refine wpAny_FormattedValue_plain (thn (he.run pins s σ H _ I h) fun v s1 hv => ?_)
  obtain ⟨x, H1, I1, r1, a, ns, rfl, ht, hcl, sh, sz, q⟩ := hv
  cases r1
  have hu := hr.units
  obtain ⟨its, rv, ⟨o, n, ho, hc, _, hd⟩, _⟩ := I1.list ht
  have hz' : (listText (PyData.shownAll (ns.map PyData.int))).length ≤ sizeLine := by
    unfold intsD at sz
    simpa only [PyData.shown] using sz
  have sh' : PyData.showableAll (ns.map PyData.int) = true := by
    unfold intsD at sh
    simpa [PyData.showable] using sh
  have q2 : Q (.str (listText (PyData.shownAll (ns.map PyData.int)))) H1 := by
    unfold intsD at q
    simpa only [PyData.shown] using q
  have each : ∀ (ms : List Int) (us : List Value), Vals (ms.map V.int) us → PyData.showableAll (ms.map PyData.int) = true → ReprAllK X.prog X.w [] s1.heap 0 us (PyData.shownAll (ms.map PyData.int)) := by
    intro ms
    induction ms with
    | nil =>
      intro us r _
      cases r
      simp only [List.map_nil, PyData.shownAll]
      exact .nil
    | cons m ms ih =>
      intro us r hs
      rw [List.map_cons] at r hs
      cases r with
      | cons r1 r2 =>
        obtain ⟨tk, rfl⟩ := r1
        have hs' : (PyData.int m).showable = true ∧ PyData.showableAll (ms.map PyData.int) = true := by simpa [PyData.showableAll] using hs
        rw [List.map_cons]
        simp only [PyData.shownAll, PyData.shown]
        exact .cons (.of_is (ReprIs.int tk (of_decide_eq_true hs'.1)) _ _ _) (ih _ r2 hs'.2)
  have hk := each ns its rv sh'
  refine wpAny_formatField_slot (fun _ _ => nofun) (by omega) (show s1.TypeIs (.ref a) "list" from ⟨o, ho, hc⟩) F.slot_list_format F.slot_list_str F.slot_list_repr.toG ?_
  cases its with
  | nil =>
    have hn : ns.map PyData.int = [] := by
      cases ns with
      | nil => rfl
      | cons m ms =>
        rw [List.map_cons] at rv
        cases rv
    rw [hn] at q2
    simp only [PyData.shownAll, listText_nil] at q2
    exact call_list_repr_empty (s := { s1 with toks := s1.toks + 1 }) ⟨o, ho, hc⟩ ho hd ⟨_, _, rfl, ⟨.str _, H1, I1.kept fun _ _ e => e, ⟨_, rfl⟩, q2⟩⟩
  | cons x l' =>
    exact call_list_reprK (A := X.A.in1.in1) (s := { s1 with toks := s1.toks + 1 }) ho hc hd (by simp) (by simpa using hk.length_eq) (fun i y e => hk.item i y (by simpa using e)) hG (fun b hb => by rw [List.mem_singleton.mp hb]; exact hcl) (by show X.A.units + 1 + 1 + _ < cLine; omega) (fun _ _ e => e)
      (fun h' u tk hk' => ⟨_, _, rfl, ⟨.str _, H1, I1.kept hk', ⟨_, rfl⟩, q2⟩⟩) hz'
end
section
variable {prog : Program} {w : World} {K : PySem.W.Frag} {A : Around} {E : Value → Shared → Prop} {s : Shared} {x C f : Addr} {ox : Obj} {od : Option Obj}
theorem boundBy_ownC {M : Model} {last : Value → List Value → Sem Value} {name : Str} {Q : Option Value → Shared → Prop} (X : K.In s.heap) (I : PySem.W.InstAt s.heap x ox C od)
    (hs : PySem.W.findIn K (.ref C) name = some (some (.ref f))) (hf : PySem.W.isFn K (.ref f) = true)
    (h : wpAny M A (last (.ref f) [.ref x]) (fun v => Q (some v)) E s) : wpAny M A (callSpecialIfBoundBy? last (.ref x) name) Q E s := by
  simp only [callSpecialIfBoundBy?, bindSpecialIfBound?]
  refine wpAny_holding (wpAny_bind (wpAny_bind (wpAny_bind (I.type.here ((PySem.W.looks_findIn X hs).here ?_)))))
  refine wpAny_bind (wpAny_askSetting (wpAny_ite ?_))
  have back : wpAny M A (last (.ref f) [.ref x] >>= fun v => pure (some v)) Q E s := wpAny_bind (wpAny_mono h (fun v s' z => wpAny_pure z) fun _ _ z => z)
  split
  · exact wpAny_bind ((PySem.W.bind_fn X _ (beq_iff_eq.mp hf)).here (wpAny_pure (by exact back)))
  · exact wpAny_tryCatch (wpAny_bind ((PySem.W.bind_fn X _ (beq_iff_eq.mp hf)).here (wpAny_pure (by exact back))))
theorem under_ownC {b : Nat} {Q : Str → Shared → Prop} (hb : b ≤ sizeLine) (hu : A.units < cLine) (X : K.In s.heap) (I : PySem.W.InstAt s.heap x ox C od)
    (hs : PySem.W.findIn K (.ref C) "__repr__" = some (some (.ref f))) (hf : PySem.W.isFn K (.ref f) = true)
    (h : wpAny (model prog w) A (call (.ref f) [.ref x]) (fun v s' => ∃ t u, v = .str t u ∧ Q t s') E s) : wpAny (model prog w) A (pyReprUnder b (.ref x)) Q E s := by
  refine wpAny_pyReprUnder_ref hb ?_
  unfold pyReprObjUnder pyReprObjBy
  refine wpAny_bind (wpAny_cRoomFor hu ?_)
  refine wpAny_bind (wpAny_bind (I.type.here ((PySem.W.looks_findIn X hs).here ?_)))
  show wpAny _ _ (if (some (Value.ref f)).isNone = true then _ else _) _ _ _
  rw [if_neg (by simp)]
  refine wpAny_bind (m := callSpecialIfBoundBy? _ (.ref x) (Str.ofString "__repr__")) (boundBy_ownC X I hs hf (wpAny_mono h (fun r s' hr => ?_) fun _ _ y => y))
  obtain ⟨t, u, rfl, q⟩ := hr
  exact wpAny_bind (wpAny_isInstance (typeIs_str _ _ _) isSubtype_str_str (wpAny_pure ⟨t, u, rfl, q⟩))
end
theorem sub_tup {X : Cx} {n : Nat} {A : Around} (sb : L2.Sub X (n + 1) A) (args : Args) : L2.Sub X n (A.under (.builtin "tuple.__repr__" args)) := by
  have hw : (Code.builtin "tuple.__repr__" args).weight ≤ 1 := by
    show (Code.builtin "tuple.__repr__" ⟨[], []⟩).weight ≤ 1
    decide +kernel
  have hc : (Code.builtin "tuple.__repr__" args).cUnits ≤ 10 := by
    show (Code.builtin "tuple.__repr__" ⟨[], []⟩).cUnits ≤ 10
    decide +kernel
  have he : (Code.builtin "tuple.__repr__" args).envs = [] := rfl
  obtain ⟨⟨h1, h2, h3⟩, h4⟩ := sb
  refine ⟨⟨h1, ?_, ?_⟩, ?_⟩
  · show A.depth + _ + 3 * n + 5 < _
    omega
  · show A.units + _ + 16 * n + 200 < _
    omega
  · unfold Around.under
    simp [he, pushEnvs, h4]
section
variable {X : Cx} {C f : Addr} {fd : FuncData} {ps : List Str} {sp : List Code → Sp} {n : Nat}
/-- repr((k, x)), x an own thing -/
def rReprT (C : Addr) (sp : List Code → Sp) : List V → Hp → VK → Prop := fun xs H Q => ∃ (t : Addr) (k : Int) (a dx : Addr) (fs : List (Str × V)) (z : Str), xs = [.ref t] ∧ H t = some (.tup [.int k, .ref a]) ∧ k.natAbs.log2 < 1920 ∧ H a = some (.ins C dx fs) ∧
  (∀ g, (∀ b, b ≠ t → Clear g b) → sp g [.ref a] H (fun v H' => ∃ u, v = .str u ∧ (v = .str z ∧ H' = H)) E0) ∧ (tupleText [Str.ofString (toString k), z]).length ≤ sizeLine ∧ Q (.str (tupleText [Str.ofString (toString k), z])) H
theorem call_repr_tup (hs : PySem.W.findIn X.K (.ref C) "__repr__" = some (some (.ref f))) (hf : PySem.W.isFn X.K (.ref f) = true) (F : FnGc X.prog X.w X.K X.mg X.base CX0 n f fd ps sp) (hG : X.A.guards = some []) (hr : Room (n + 2) X.A) (hb : L2.Binds X.K fd ps []) :
    CallR X (.builtin "repr") (rReprT C sp) := by
  intro pins s σ H xs us Q I r h
  obtain ⟨t, k, a, dx, fs, z, rfl, ht, hk, ha, hsp, hsz, q⟩ := h
  rw [Vals.ref1 r]
  obtain ⟨its, rv, ⟨o, ho, hcl, m, hd⟩, _⟩ := I.tuple (SqT.of ht)
  obtain ⟨u1, u2, rfl, r1, r2⟩ := vals2 rv
  obtain ⟨tk1, rfl⟩ := r1
  cases r2
  refine call_repr_slot hr.in1.units0 (show s.TypeIs (.ref t) "tuple" from ⟨o, ho, hcl⟩) PySem.F.slot_tuple_repr ?_
  refine wpAny_call (codeAny_call_builtin_own (Code.quiet_builtin _ (by decide +kernel)) PySem.F.entry_tuple_repr (PySem.F.slot_tuple_repr.check _ _ _ _ _ _ _ _ ⟨o, ho, hcl⟩ (PySem.F.args_tuple_repr_1 _) ?_))
  show wpOwn _ _ _ (Builtin.tupleReprAt 0 ⟨[.ref t], []⟩) _ _ s
  rw [tuple_repr_tree, tupleReprUnderWay_eq]
  refine wpOwn_bind (wpOwn_stackTailAny (A := X.A.in1) (g := []) hG (tupGuardF_off _) (tupGuardF_pos _) ?_)
  refine wpOwn_of_wpAny ?_
  show wpAny _ _ (tupleReprRest 0 (.ref t)) _ _ s
  have hp := piled_le_tupleText [Str.ofString (toString k), z]
  have hpp : piled [Str.ofString (toString k), z] = (Str.ofString (toString k)).length + 2 + (z.length + 2) := by
    rw [piled_cons, piled_cons]
    simp [piled]
  unfold tupleReprRest Builtin.Tuple.tupleItemsOf
  refine wpAny_bind (wpAny_bind (wpAny_seqItems ho hd (wpAny_pure ?_)))
  rw [← Array.forIn_toList]
  have sb : L2.Sub X n (X.A.in1.under (.builtin "tuple.__repr__" ⟨[.ref t], []⟩)) := sub_tup ⟨hr.in1, rfl⟩ _
  show wpAny _ _ (forIn [Value.int k tk1, Value.ref a] (⟨#[], 0⟩ : (Array Str × Nat)) tupBody >>= _) _ _ s
  rw [List.forIn_cons]
  refine wpAny_bind (wpAny_bind (wpAny_bind ((ReprIs.int tk1 hk) (0 + 1) (by omega) _ _ _ _ fun tk => wpAny_pure ?_)))
  show wpAny _ _ (forIn [Value.ref a] (⟨#[].push (Str.ofString (toString k)), 0 + ((Str.ofString (toString k)).length + 2)⟩ : (Array Str × Nat)) tupBody) _ _ _
  rw [List.forIn_cons]
  have I2 : Inv X pins σ H { s with toks := tk } := I.tok tk
  obtain ⟨mA, JI, _⟩ := ins_get I2.hok ha
  obtain ⟨od, JI, _⟩ := JI.look
  have hg2 : (X.A.in1.under (.builtin "tuple.__repr__" ⟨[.ref t], []⟩)).guards = some [.builtin "tuple.__repr__" ⟨[.ref t], []⟩] := guards_under_guard (isGuard_tuple_repr _) hG
  refine wpAny_bind (wpAny_bind (under_ownC (by omega) sb.room.units0 I2.kIn JI hs hf (wpAny_mono (run_strGc (Q := fun v H' => v = .str z ∧ H' = H) F hg2 sb hb I2 (hsp _ fun b hb' => (Clear.nil b).cons (Ne.symm hb'))) (fun v s2 hv => ?_) fun e s2 he => he)))
  cases v <;> first | exact hv.elim | skip
  obtain ⟨zv, H', I3, rz, rfl, rfl⟩ := hv
  obtain ⟨tk2, ez⟩ := rz
  cases ez
  refine ⟨z, _, rfl, wpAny_pure ?_⟩
  simp only [List.forIn_nil]
  refine wpAny_pure ?_
  refine wpAny_bind (wpAny_mkStr (wpAny_pure ?_) (by simpa [tupleText] using hsz))
  have q2 := q
  unfold tupleText at q2
  exact ⟨_, _, rfl, ⟨.str _, H', I3.tok _, ⟨_, rfl⟩, by simpa using q2⟩⟩
end
end LT

set_option Elab.async false
set_option linter.all false
set_option maxRecDepth 100000
set_option maxHeartbeats 1600000
set_option pp.maxSteps 700
/-! Own layer: repr of a list that holds own things and lists of ints; min of two pairs. -/
namespace LT
open PySem PySem.Spec PyProof.Rows L2
def Own (C : Addr) (sp : List Code → Sp) (H : Hp) (l a : Addr) (t : Str) : Prop := ∃ (dx : Addr) (fs : List (Str × V)), H a = some (.ins C dx fs) ∧ ∀ g, (∀ b, b ≠ l → Clear g b) → sp g [.ref a] H (fun z H' => ∃ u, z = .str u ∧ (z = .str t ∧ H' = H)) E0
def Dat (H : Hp) (l a : Addr) (t : Str) : Prop := ∃ ns : List Int, a ≠ l ∧ H a = some (.lst (ns.map V.int)) ∧ (intsD ns).showable = true ∧ t = (intsD ns).shown
theorem ints_reprK {X : Cx} {pins : List (Addr × Obj)} {σ : L2.St} {H : Hp} {s : Shared} {a : Addr} {ns : List Int} (I : Inv X pins σ H s) (ha : H a = some (.lst (ns.map V.int))) (sh : (intsD ns).showable = true) (sz : (intsD ns).shown.length ≤ sizeLine) : ReprK X.prog X.w [a] s.heap 1 (.ref a) (intsD ns).shown := by
  obtain ⟨its, rv, ⟨o, n, ho, hc, _, hd⟩, _⟩ := I.list (SqL.of ha)
  have sh' : PyData.showableAll (ns.map PyData.int) = true := by
    unfold intsD at sh
    simpa [PyData.showable] using sh
  have each : ∀ (ms : List Int) (us : List Value), Vals (ms.map V.int) us → PyData.showableAll (ms.map PyData.int) = true → ReprAllK X.prog X.w [] s.heap 0 us (PyData.shownAll (ms.map PyData.int)) := by
    intro ms
    induction ms with
    | nil =>
      intro us r _
      cases r
      simp only [List.map_nil, PyData.shownAll]
      exact .nil
    | cons m ms ih =>
      intro us r hs
      rw [List.map_cons] at r hs
      cases r with
      | cons r1 r2 =>
        obtain ⟨tk, rfl⟩ := r1
        have hs' : (PyData.int m).showable = true ∧ PyData.showableAll (ms.map PyData.int) = true := by simpa [PyData.showableAll] using hs
        rw [List.map_cons]
        simp only [PyData.shownAll, PyData.shown]
        exact .cons (.of_is (ReprIs.int tk (of_decide_eq_true hs'.1)) _ _ _) (ih _ r2 hs'.2)
  have hk := each ns its rv sh'
  unfold intsD
  simp only [PyData.shown]
  cases its with
  | nil =>
    have hn : ns.map PyData.int = [] := by
      cases ns with
      | nil => rfl
      | cons m ms =>
        rw [List.map_cons] at rv
        cases rv
    rw [hn]
    simp only [PyData.shownAll, listText_nil]
    exact .listEmpty ho hc hd
  | cons x l' => exact .list ho hc hd (by simp) (by simpa using hk.length_eq) (fun i y e => hk.item i y (by simpa using e))
theorem sub_guardC {X : Cx} {n : Nat} {A : Around} (sb : L2.Sub X (n + 1) A) (args : Args) : L2.Sub X n (A.under (.builtin "list.__repr__.loop" args)) := by
  have hw : (Code.builtin "list.__repr__.loop" args).weight ≤ 1 := by
    show (Code.builtin "list.__repr__.loop" ⟨[], []⟩).weight ≤ 1
    decide +kernel
  have hc : (Code.builtin "list.__repr__.loop" args).cUnits ≤ 10 := by
    show (Code.builtin "list.__repr__.loop" ⟨[], []⟩).cUnits ≤ 10
    decide +kernel
  have he : (Code.builtin "list.__repr__.loop" args).envs = [] := rfl
  obtain ⟨⟨h1, h2, h3⟩, h4⟩ := sb
  refine ⟨⟨h1, ?_, ?_⟩, ?_⟩
  · show A.depth + _ + 3 * n + 5 < _
    omega
  · show A.units + _ + 16 * n + 200 < _
    omega
  · unfold Around.under
    simp [he, pushEnvs, h4]
section
variable {X : Cx} {C f : Addr} {fd : FuncData} {ps : List Str} {sp : List Code → Sp} {n : Nat} {pins : List (Addr × Obj)} {σ : L2.St} {H : Hp}
theorem show_loopM (hs : PySem.W.findIn X.K (.ref C) "__repr__" = some (some (.ref f))) (hf : PySem.W.isFn X.K (.ref f) = true) (F : FnGc X.prog X.w X.K X.mg X.base CX0 n f fd ps sp) (hb : L2.Binds X.K fd ps []) {A : Around} (hG : A.guards = some []) (sb : L2.Sub X (n + 1) A) {R : Result → Shared → Prop}
    (hE : ∀ e s', X.xe e s' → R (.error e) s') {l P : Addr} {xs : List V} {ts : List Str} {b : Nat} (hl : H l = some (.lst xs)) (hlen : ts.length = xs.length)
    (each : ∀ (i : Nat) (v : V), xs[i]? = some v → ∃ (a : Addr) (t : Str), v = .ref a ∧ ts[i]? = some t ∧ (Own C sp H l a t ∨ Dat H l a t))
    (hsz : b + (listText ts).length ≤ sizeLine) (fp : FpOk X pins H P) (fin : ∀ s' u, Inv X pins σ H s' → R (.ok (.ret (.str (listText ts) u))) s') :
    ∀ (k i : Nat) (s : Shared) (acc : Array Value) (c : Nat) (done : List (Str × Tok)), xs.length - i = k → i ≤ xs.length → Inv X pins σ H s →
      s.heap.get? P = some (seqObj "list" acc c) → acc.toList = strValues done → done.map (·.1) = ts.take i →
      codeAny (model X.prog X.w) A (.builtin "list.__repr__.loop" ⟨[.ref l, rawInt i, .ref P, rawInt ((b + piled (ts.take i) : Nat) : Int)], []⟩) R s := by
  have hX : (listText ts).length = (textFrom 0 "[" ts).length + 1 := by
    show (textFrom 0 "[" ts ++ "]").length = _
    rw [strLen_append]
    rfl
  have hL := textFrom_len ts 0 "["
  have hp3 := piled_le_listText ts
  intro k
  induction k with
  | zero =>
    intro i s acc c done hk hi I hP hacc hdone
    obtain ⟨its, rv, pl, hz⟩ := I.list (SqL.of hl)
    obtain ⟨o, m, e1, e2, _, e4⟩ := pl
    have il := rv.length
    refine codeAny_builtin PySem.F.entry_list_repr_loop ?_
    show wpAny _ _ (Builtin.«list.__repr__.loop» ⟨[.ref l, .int i 0, .ref P, .int ((b + piled (ts.take i) : Nat) : Int) 0], []⟩) _ _ s
    rw [repr_loop_tree]
    refine wpAny_bind (wpAny_listItems e1 e4 ?_)
    have hnone : its.toArray[(i : Int).toNat]? = none := by
      simp
      omega
    simp only [hnone]
    unfold reprEnd
    refine wpAny_bind (wpAny_listItems hP rfl ?_)
    rw [hacc, repr_fold]
    refine wpAny_bind (wpAny_pure ?_)
    have hall : done.map (·.1) = ts := by rw [hdone, List.take_of_length_le (by omega)]
    rw [hall]
    refine wpAny_bind (wpAny_mkStr (wpAny_pure ?_) (by show (listText ts).length ≤ _; omega))
    exact fin _ _ (I.tok _)
  | succ k ih =>
    intro i s acc c done hk hi I hP hacc hdone
    obtain ⟨its, rv, pl, hz⟩ := I.list (SqL.of hl)
    obtain ⟨o, m, e1, e2, _, e4⟩ := pl
    have il := rv.length
    have hlt : i < xs.length := by omega
    obtain ⟨v, ev⟩ : ∃ v, xs[i]? = some v := ⟨_, List.getElem?_eq_getElem hlt⟩
    obtain ⟨u, eu⟩ : ∃ u, its[i]? = some u := ⟨_, List.getElem?_eq_getElem (by omega)⟩
    obtain ⟨a, t, rfl, ht, hit⟩ := each i v ev
    have ru := vals_ix rv i ev eu
    cases ru
    have hp1 := piled_take_succ ht
    have hp2 := piled_take_le ts (i + 1)
    have htl := hL.2.1 t (List.mem_of_getElem? ht)
    refine codeAny_builtin PySem.F.entry_list_repr_loop ?_
    show wpAny _ _ (Builtin.«list.__repr__.loop» ⟨[.ref l, .int i 0, .ref P, .int ((b + piled (ts.take i) : Nat) : Int) 0], []⟩) _ _ s
    rw [repr_loop_tree]
    refine wpAny_bind (wpAny_listItems e1 e4 ?_)
    have hsome : its.toArray[(i : Int).toNat]? = some (.ref a) := by simpa using eu
    simp only [hsome]
    rw [Int.toNat_natCast]
    have J : Inv X ((P, seqObj "list" acc c) :: pins) σ H s := I.pins_of fun p hp => by
      rcases List.mem_cons.mp hp with rfl | hp
      · exact ⟨hP, fp.1, fp.2.1, fp.2.2.1, fun v z => nomatch z⟩
      · exact I.pin p (List.mem_append_right _ hp)
    have sb2 := sub_guardC sb ⟨[.ref l, .int i 0, .ref P, .int ((b + piled (ts.take i) : Nat) : Int) 0], []⟩
    have hg2 : (A.under (.builtin "list.__repr__.loop" ⟨[.ref l, .int i 0, .ref P, .int ((b + piled (ts.take i) : Nat) : Int) 0], []⟩)).guards = some [.builtin "list.__repr__.loop" ⟨[.ref l, .int i 0, .ref P, .int ((b + piled (ts.take i) : Nat) : Int) 0], []⟩] := guards_under_guard (isGuard_list_loop _) hG
    have clr : ∀ b', b' ≠ l → Clear [.builtin "list.__repr__.loop" ⟨[.ref l, .int i 0, .ref P, .int ((b + piled (ts.take i) : Nat) : Int) 0], []⟩] b' := fun b' hb' => (Clear.nil b').cons (Ne.symm hb')
    refine wpAny_bind (wpAny_holding (wpAny_mono (Q := fun t' s2 => t' = t ∧ Inv X ((P, seqObj "list" acc c) :: pins) σ H s2) (E := X.xe) ?_ (fun t' s2 hz => ?_) fun e s2 he => hE e s2 he))
    · rcases hit with ⟨dx, fs, ha, hsp⟩ | ⟨ns, hne, ha, hsh, rfl⟩
      · obtain ⟨mA, JI, _⟩ := ins_get I.hok ha
        obtain ⟨od, JI, _⟩ := JI.look
        refine under_ownC (by omega) sb2.room.units0 I.kIn JI hs hf (wpAny_mono (run_strGc (Q := fun z H' => z = .str t ∧ H' = H) F hg2 sb2 hb J (hsp _ clr)) (fun z s2 hz => ?_) fun e s2 he => he)
        cases z <;> first | exact hz.elim | skip
        obtain ⟨zv, H', I2, rz, rfl, rfl⟩ := hz
        obtain ⟨tk2, ez⟩ := rz
        cases ez
        exact ⟨t, _, rfl, rfl, I2⟩
      · exact ints_reprK J ha hsh (by omega) (b + piled (ts.take i) + 1) (by omega) _ _ _ _ _ hg2 (fun b' hb' => by rw [List.mem_singleton.mp hb']; exact clr _ hne) (Nat.lt_of_le_of_lt (Nat.add_le_add_left (by decide) _) sb2.room.units) (fun _ _ e => e) (fun h' tk hk' => ⟨rfl, J.kept hk'⟩)
    have et := hz.1.symm
    have I2 := hz.2
    subst et
    have hP2 := (I2.pin (P, seqObj "list" acc c) (List.mem_append_right _ (.head _))).1
    have I3 : Inv X pins σ H s2 := I2.pins_of fun p hp => I2.pin p (List.mem_append_right _ (.tail _ hp))
    refine wpAny_bind (wpAny_mkStr ?_ (by omega))
    refine wpAny_bind ?_
    show wpAny _ _ (updateSeq P _) _ _ _
    have hasz : acc.size ≤ sizeLine := by
      have z1 : acc.toList.length = acc.size := by simp
      have z2 : (strValues done).length = done.length := by simp [strValues]
      have z3 : done.length = (ts.take i).length := by rw [← hdone, List.length_map]
      have z4 : (ts.take i).length ≤ i := by rw [List.length_take]; omega
      rw [hacc] at z1
      omega
    refine wpAny_updateSeq hP2 rfl (wpAny_pure ⟨PySem.F.quiet_list_repr_loop _, ?_⟩) hasz
    have e5 : ((i : Int) + 1) = ((i + 1 : Nat) : Int) := by omega
    have e6 : b + piled (ts.take i) + (t.length + 2) = b + piled (ts.take (i + 1)) := by omega
    rw [e5, e6]
    have sbt := Heap.SameBut.update s2.heap P (Obj.mapSeq (·.push (.str t s2.toks)))
    have I4 : Inv X pins σ H { s2 with heap := s2.heap.update P (Obj.mapSeq (·.push (.str t s2.toks))), toks := s2.toks + 1 } :=
      I3.turnedL (ch := [P]) (fun b o hb q => (sbt.2 b fun z => hb (by rw [z]; exact List.mem_singleton.mpr rfl)).trans q) (fun b hb => by rw [List.mem_singleton.mp hb]; exact fp)
    obtain ⟨c2, hc2⟩ : ∃ c2, (s2.heap.update P (Obj.mapSeq (·.push (.str t s2.toks)))).get? P = some (seqObj "list" (acc.push (.str t s2.toks)) c2) := ⟨_, get?_update_seq hP2 (·.push (.str t s2.toks))⟩
    exact ih (i + 1) _ (acc.push (.str t s2.toks)) c2 (done ++ [(t, s2.toks)]) (by omega) hlt I4 hc2 (by simp [hacc, strValues]) (by simp [List.take_add_one, ht, hdone])
/-- repr(xs), xs a list of own things and lists of ints -/
def rReprM (C : Addr) (sp : List Code → Sp) : List V → Hp → VK → Prop := fun ys H Q => ∃ (l : Addr) (xs : List V) (ts : List Str), ys = [.ref l] ∧ H l = some (.lst xs) ∧ ts.length = xs.length ∧
      (∀ (i : Nat) (v : V), xs[i]? = some v → ∃ (a : Addr) (t : Str), v = .ref a ∧ ts[i]? = some t ∧ (Own C sp H l a t ∨ Dat H l a t)) ∧ (listText ts).length ≤ sizeLine ∧ Q (.str (listText ts)) H
theorem call_reprM (hs : PySem.W.findIn X.K (.ref C) "__repr__" = some (some (.ref f))) (hf : PySem.W.isFn X.K (.ref f) = true) (F : FnGc X.prog X.w X.K X.mg X.base CX0 n f fd ps sp) (hG : X.A.guards = some []) (hr : Room (n + 3) X.A) (hb : L2.Binds X.K fd ps []) :
    CallR X (.builtin "repr") (rReprM C sp) := by
  intro pins s σ H ys us Q I r h
  obtain ⟨l, xs, ts, rfl, hl, hlen, each, hsz, q⟩ := h
  rw [Vals.ref1 r]
  obtain ⟨its, rv, pl, hz⟩ := I.list (SqL.of hl)
  obtain ⟨o, m, e1, e2, _, e4⟩ := pl
  have il := rv.length
  have hr2 : Room (n + 2) X.A.in1 := hr.in1
  refine call_repr_slot hr.in1.units0 ⟨o, e1, e2⟩ PySem.F.slot_list_repr.toG ?_
  cases its with
  | nil =>
    have hx : xs = [] := List.eq_nil_of_length_eq_zero (by rw [il]; rfl)
    subst hx
    have ht : ts = [] := List.eq_nil_of_length_eq_zero hlen
    subst ht
    exact call_list_repr_empty ⟨o, e1, e2⟩ e1 e4 ⟨_, _, rfl, .str _, H, I.tok _, ⟨_, rfl⟩, q⟩
  | cons y its =>
    refine wpAny_call (codeAny_call_builtin PySem.F.slot_list_repr.plain PySem.F.entry_list_repr (PySem.F.slot_list_repr.check _ _ _ _ _ _ _ _ ⟨o, e1, e2⟩ (PySem.F.args_list_repr_1 _) ?_))
    refine wpAny_list_repr_head (A := X.A.in1.in1) (g := []) hG (fun _ _ _ z => nomatch z) e1 e4 ?_
    refine wpAny_bind (m := newList []) (wpAny_newObj_type ?_)
    refine wpAny_pure ⟨PySem.F.quiet_list_repr_loop _, ?_⟩
    have I2 : Inv X pins σ H { s with heap := s.heap.push { cls := .type "list", data := .seq #[] } } := by
      have := I.kept (h' := s.heap.push { cls := .type "list", data := .seq #[] }) (t' := s.toks) fun b o e => Heap.get?_push_of_some _ e
      exact this
    have fp : FpOk X pins H s.heap.objs.size := I.fpOk (Nat.le_refl _) (I.hok.fresh (Nat.le_refl _))
    exact show_loopM hs hf F hb (A := X.A.in1) hG ⟨hr2.mono (by omega), rfl⟩ (fun e s' he => he) (b := 0) hl hlen each (by omega) fp (fun s' u J => ⟨_, _, rfl, .str _, H, J, ⟨u, rfl⟩, q⟩) _ 0 _ #[] 0 [] rfl (Nat.zero_le _) I2 (Heap.get?_push_size _ rfl) rfl rfl
end
/-! ### min of two pairs -/
theorem call_min2_walkH {prog : Program} {w : World} {A : Around} {E : Value → Shared → Prop} {s : Shared} {a b : Value} {Q : Value → Shared → Prop}
    (h : wpAny (model prog w) A.in1 (pyIter (.ref s.heap.objs.size)) (fun it s₂ => ∃ I fp wr G n P St H bt, it = .ref I ∧ WalksS prog w A.in1 I fp wr G n P St ∧ St 0 s₂ ∧ (∀ b ∈ fp, b < s₂.heap.objs.size) ∧ 0 < n ∧
      (∀ b o, H.get? b = some o → b ∉ wr) ∧ (∀ b o, H.get? b = some o → s₂.heap.get? b = some o) ∧ PySem.CmpIn prog w A.in1 .Lt H P bt ∧ ∀ v s', P (argBest bt (n - 1)) v → PySem.Moved wr G s₂ s' → Q v s') E
      { s with heap := s.heap.push { cls := .type "tuple", data := .seq #[a, b] } }) :
    wpAny (model prog w) A (call (.builtin "min") [a, b]) Q E s := by
  have hname : (toString "min" ++ toString ".loop" : String) = "min.loop" := by decide
  refine call_function_tree F.kind_min F.plain_min F.entry_min (F.args_min2 _ _) ?_
  show wpAny _ A.in1 (Builtin.Builtins.bindParams "min" ["key", "default"] 0 ⟨[], []⟩ >>= _) _ _ s
  refine wpAny_bind (wpAny_of_eq (show Builtin.Builtins.bindParams "min" ["key", "default"] 0 ⟨[], []⟩ = pure [none, none] from rfl) ?_)
  show wpAny _ A.in1 (newTuple [a, b] >>= _) _ _ s
  refine wpAny_bind (wpAny_newObj_type ?_)
  refine wpAny_bind (wpAny_mono h (fun it s₂ h₂ => ?_) fun _ _ e => e)
  obtain ⟨I, fp, wr, G, n, P, St, H, bt, rfl, W, hst, hfp, hn, hw, hkeep, hcmp, hQ⟩ := h₂
  refine wpAny_bind (wpAny_newObj_type ?_)
  have hSf : s₂.heap.objs.size ∉ fp := fun hm => Nat.lt_irrefl _ (hfp _ hm)
  rw [hname]
  refine wpAny_pure ⟨plainId_quiet F.plain_min_loop _, PySem.codeAny_min_loop_firstH W H hw bt hcmp s₂.heap.objs.size hSf (PySem.fresh_in hkeep) _ hn (fun b o e => Heap.get?_push_of_some _ (hkeep b o e)) (W.frame 0 s₂ _ s₂.toks hst (Nat.le_refl _) fun b _ o e => Heap.get?_push_of_some _ e) (Heap.get?_push_size _ rfl) fun v s' hP hm => ?_⟩
  exact hQ v s' hP (PySem.Moved.drop_new (tk := s₂.toks) hm (Nat.le_refl _))
def rMin2T : List V → Hp → VK → Prop := fun vs H Q => ∃ (t u : Addr) (p q : Int × Int), vs = [.ref t, .ref u] ∧ H t = some (.tup [.int p.1, .int p.2]) ∧ H u = some (.tup [.int q.1, .int q.2]) ∧ (ltP q p → Q (.ref u) H) ∧ (¬ ltP q p → Q (.ref t) H)
theorem cr_min2T {X : Cx} {k : Nat} (hc : X.calm = true) (hr : Room k X.A) : CallR X (.builtin "min") rMin2T := by
  intro pins s σ H vs us Q I r h
  obtain ⟨t, u, p, q, rfl, ht, hu', q1, q2⟩ := h
  obtain ⟨u1, u2, rfl, r1, r2⟩ := vals2 r
  cases r1
  cases r2
  have hu := hr.units
  have one : ∀ (t : Addr) (p : Int × Int), H t = some (.tup [.int p.1, .int p.2]) → Dp X.K H (.ref t) (PySem.W.Datum.toD p) := fun t p e => .tup (SqT.of e) (.cons (.int _) (.cons (.int _) .nil))
  obtain ⟨as, rs⟩ := Dp.readsAll I [PySem.W.Datum.toD p, PySem.W.Datum.toD q] [.ref t, .ref u] [.ref t, .ref u] (.cons (one t p ht) (.cons (one u q hu') .nil)) (.cons rfl (.cons rfl .nil))
  have hT : (s.heap.push { cls := .type "tuple", data := .seq #[.ref t, .ref u] }).IsTuple s.heap.objs.size #[.ref t, .ref u] := ⟨_, Heap.get?_push_size _ rfl, rfl, 0, rfl⟩
  have rs2 : ReadsAll (s.heap.push { cls := .type "tuple", data := .seq #[.ref t, .ref u] }) (#[Value.ref t, .ref u] : Array Value).toList [PySem.W.Datum.toD p, PySem.W.Datum.toD q] as := ReadsAll.keeps (fun b o e => Heap.get?_push_of_some _ e) rs
  have al : PySem.W.AlikeAll [PySem.W.Datum.toD p, PySem.W.Datum.toD q] := PySem.W.alikeAll_datum [p, q]
  have dl : PyData.depthAll [PySem.W.Datum.toD p, PySem.W.Datum.toD q] ≤ 1 := PySem.W.depthAll_map [p, q]
  refine call_min2_walkH (PySem.W.iter_tupleW (A := X.A.in1) (s := { s with heap := s.heap.push { cls := .type "tuple", data := .seq #[.ref t, .ref u] } }) (I.ok.hd hc) hT fun s₂ e W st hfp hw hk => ?_)
  refine ⟨_, _, _, _, _, _, _, (s.heap.push { cls := .type "tuple", data := .seq #[.ref t, .ref u] }), _, rfl, W, st, hfp, Nat.succ_pos _, hw, hk, PySem.W.cmpIn_lt (A := X.A.in1) (s := { s with heap := s.heap.push { cls := .type "tuple", data := .seq #[.ref t, .ref u] } }) rs2 al (by show X.A.units + 1 + _ < _; omega), fun v s' hP m => ?_⟩
  obtain ⟨h', tk, rfl, hk'⟩ := PySem.W.moved_old e rfl m
  have kept : ∀ b o, s.heap.get? b = some o → h'.get? b = some o := fun b o e => hk' b o (Heap.get?_push_of_some _ e)
  have eb : PySem.W.dataLt (PySem.W.Datum.toD q) (PySem.W.Datum.toD p) = PySem.W.DatumOrd.lt q p := PySem.W.DatumOrd.lt_eq q p
  by_cases c : PySem.W.DatumOrd.lt q p = true
  · have e1 : argBest (fun i j => PySem.W.dataLt ([PySem.W.Datum.toD p, PySem.W.Datum.toD q].getD i .none) ([PySem.W.Datum.toD p, PySem.W.Datum.toD q].getD j .none)) 1 = 1 := by
      simp [argBest, eb, c]
    have hP' : (#[Value.ref t, .ref u] : Array Value)[1]? = some v := by rw [← e1]; exact hP
    cases hP'
    exact ⟨.ref u, H, I.kept kept, rfl, q1 ((lt_pair q p).mp c)⟩
  · have e1 : argBest (fun i j => PySem.W.dataLt ([PySem.W.Datum.toD p, PySem.W.Datum.toD q].getD i .none) ([PySem.W.Datum.toD p, PySem.W.Datum.toD q].getD j .none)) 1 = 0 := by
      simp [argBest, eb, c]
    have hP' : (#[Value.ref t, .ref u] : Array Value)[0]? = some v := by rw [← e1]; exact hP
    cases hP'
    exact ⟨.ref t, H, I.kept kept, rfl, q2 fun h => c ((lt_pair q p).mpr h)⟩
end LT

set_option Elab.async false
set_option linter.all false
set_option maxRecDepth 100000
set_option maxHeartbeats 1600000
namespace LT
open PySem PySem.Spec PyProof.Rows L2 NdefX
/-! ### one of two readings -/
def tEi (t1 t2 : TE) : TE := fun σ H Q => t1 σ H Q ∨ t2 σ H Q
theorem pe_ei {X : Cx} {e : Expr} {t1 t2 : TE} (h1 : PE X e t1) (h2 : PE X e t2) : PE X e (tEi t1 t2) := ⟨fun pins s σ H Q I h => h.elim (fun h => h1.run pins s σ H Q I h) (fun h => h2.run pins s σ H Q I h)⟩
/-! ### len of an own thing -/
section
variable {X : Cx} {n : Nat} {f C : Addr} {fd : FuncData} {ps : List Str} {sp : Sp}
theorem run_len {A : Around} {pins : List (Addr × Obj)} {σ : L2.St} {H : Hp} {s : Shared} {Q : VK} {a : Addr}
    (F : FnOk X.prog X.w X.K X.mg X.base CX0 n f fd ps sp) (sb : L2.Sub X n A) (hb : L2.Binds X.K fd ps []) (I : Inv X pins σ H s)
    (h : sp [.ref a] H (fun z H' => ∃ t : Int, z = .int t ∧ 0 ≤ t ∧ t < 2 ^ 63 ∧ Q z H') E0) :
    wpAny (model X.prog X.w) A (call (.ref f) [.ref a]) (PySem.W.LenBack (EP X pins σ Q)) X.xe s := by
  have e0 : Env0 X.prog X.w X.K X.mg X.base A X.stack s H := by
    have e := I.env0
    exact ⟨by rw [sb.fr]; exact e.frames, e.mod, e.bs, e.bsz, e.funs, e.frf, e.hok, e.bare⟩
  have r2 : Vals [V.ref a] [Value.ref a] := .cons rfl .nil
  have hl := F.len _ _ _ _ h
  have b := hb s [.ref a] I.kIn (by simpa using hl)
  rw [List.append_nil] at b
  refine wpAny_call (codeAny_mono (F.run A X.stack s H ⟨[.ref a], []⟩ [.ref a] [.ref a] _ E0 sb.room e0 b r2 h) fun r s' hq => ?_)
  match r, hq with
  | .error _, hq => exact hq.elim
  | .ok .next, hq => exact hq.elim
  | .ok .brk, hq => exact hq.elim
  | .ok .cont, hq => exact hq.elim
  | .ok (.ret u), hq =>
    obtain ⟨z', H', I', rz, t, rfl, h0, h1, q⟩ := I.after hq
    obtain ⟨tk, rfl⟩ := rz
    exact ⟨⟨h0, h1⟩, .int t, H', I'.tok _, ⟨_, rfl⟩, q⟩
theorem call_len_own (hs : PySem.W.findIn X.K (.ref C) "__len__" = some (some (.ref f))) (hf : PySem.W.isFn X.K (.ref f) = true) (F : FnOk X.prog X.w X.K X.mg X.base CX0 n f fd ps sp) (hr : Room (n + 1) X.A) (hb : L2.Binds X.K fd ps []) :
    CallR X (.builtin "len") (fun xs H Q => ∃ a dx fs, xs = [.ref a] ∧ H a = some (.ins C dx fs) ∧ sp [.ref a] H (fun z H' => ∃ t : Int, z = .int t ∧ 0 ≤ t ∧ t < 2 ^ 63 ∧ Q z H') E0) := by
  intro pins s σ H xs us Q I r h
  obtain ⟨a, dx, fs, rfl, ha, h⟩ := h
  rw [Vals.ref1 r]
  obtain ⟨mA, J, _⟩ := ins_get I.hok ha
  obtain ⟨od, J, _⟩ := J.look
  obtain ⟨m, hF⟩ := I.fr
  exact PySem.W.len_K hF I.ok.mod.kin J hs hf (run_len F ⟨hr.in1, rfl⟩ hb I h)
end
/-! ### an own thing made within a try -/
section
variable {X : Cx} {CX : CXT} {k : Nat} {f C : Addr} {fd : FuncData} {ps : List Str} {sp : Sp} {E : L2.St → XK} {x : Str} {p pos : Pos} {e : Expr} {es : List Expr} {t : TA}
theorem run_makeAt {pins : List (Addr × Obj)} {σ : L2.St} {H : Hp} {s : Shared} {Q : VK} {us : List Value} {vs : List V} (M : Mk X.K C f) (F : FnOk X.prog X.w X.K X.mg X.base CX k f fd ps sp) (hr : Room (k + 1) X.A) (hb : L2.Binds X.K fd ps [])
    (hx : PassesAt CX X σ (E σ)) (I : Inv X pins σ H s) (r : Vals vs us)
    (h : ∀ x dx, H x = none → H dx = none → dx ≠ x → sp (.ref x :: vs) (upd (upd H dx (.own x)) x (.ins C dx [])) (fun v H2 => v = .non ∧ Q (.ref x) H2) (E σ)) :
    wpAny (model X.prog X.w) X.A (call (.ref C) us) (EP X pins σ Q) X.xe s := by
  have hq := h (s.heap.objs.size + 1) s.heap.objs.size (I.hok.fresh (Nat.le_succ _)) (I.hok.fresh (Nat.le_refl _)) (Nat.ne_of_lt (Nat.lt_succ_self _))
  have I2 := Inv.made (C := C) I
  have r2 : Vals (V.ref (s.heap.objs.size + 1) :: vs) (Value.ref (s.heap.objs.size + 1) :: us) := .cons rfl r
  have hl : (Value.ref (s.heap.objs.size + 1) :: us ++ []).length = ps.length := by
    have e := r2.length
    rw [F.len _ _ _ _ hq] at e
    rw [List.append_nil]
    exact e.symm
  have b := hb _ (Value.ref (s.heap.objs.size + 1) :: us) I2.kIn hl
  rw [List.append_nil] at b
  refine wpAny_call (make_map (f := f) I.kIn M.makes M.init (beq_iff_eq.mp M.fn) (codeAny_mono (F.run _ X.stack _ _ ⟨Value.ref (s.heap.objs.size + 1) :: us, []⟩ (Value.ref (s.heap.objs.size + 1) :: us) _ _ (E σ) (hr.make C us [])
    (I2.env0.make C us []) b r2 hq) fun r s' hq' => ?_))
  cases r with
  | error e => exact hx pins _ _ e s' I2 hq'
  | ok fl =>
    cases fl with
    | ret u =>
      obtain ⟨v, H', I3, rv, ev, q3⟩ := I2.after hq'
      subst ev
      exact ⟨rv, ⟨V.ref (s.heap.objs.size + 1), H', I3, rfl, q3⟩⟩
    | next => exact False.elim hq'
    | brk => exact False.elim hq'
    | cont => exact False.elim hq'
def tMakeAt (C : Addr) (sp : Sp) (E : L2.St → XK) (t : TA) : TE := fun σ H Q => t σ H fun vs H1 => ∀ x dx, H1 x = none → H1 dx = none → dx ≠ x → sp (.ref x :: vs) (upd (upd H1 dx (.own x)) x (.ins C dx [])) (fun v H2 => v = .non ∧ Q (.ref x) H2) (E σ)
theorem pe_makeAt (M : Mk X.K C f) (F : FnOk X.prog X.w X.K X.mg X.base CX k f fd ps sp) (hr : Room (k + 1) X.A) (hg : Gl X x) (hm : X.mg x = some (.ref C)) (hb : L2.Binds X.K fd ps []) (hx : ∀ σ, PassesAt CX X σ (E σ))
    (ha : PA X (e :: es) t) (hdb : (x == ("__debug__" : Str)) = false := by decide) (he : starEach (e :: es) X.env = (false, eval e X.env) :: starEach es X.env := by rfl) (hpl : (backTo pos (starEach es X.env)).any (·.1) = false := by rfl) :
    PE X (.Call (.Name x p) (e :: es) [] pos) (tMakeAt C sp E t) := by
  refine ⟨fun pins s σ H Q I h => ?_⟩
  refine wpAny_Call_Name_kw (ld_glob I hg hm ?_ hdb)
  refine PySem.W.callWith_K (h₀ := X.base) I.ok.mod.kin M.kp (thn (ha.run pos pins s σ H _ I h) fun us s1 ⟨vs, H1, I1, r, q⟩ => ⟨I1.kIn, ?_⟩) he hpl
  exact run_makeAt M F hr hb (hx σ) I1 r q
end
end LT

set_option Elab.async false
set_option linter.all false
set_option maxRecDepth 100000
set_option maxHeartbeats 1600000
set_option pp.maxSteps 700
/-! Own layer: repr of a tuple of three things, among them lists and tuples of things, and dicts. -/
namespace LT
open PySem PySem.Spec PyProof.Rows L2 NdefX
/-- a thing within a list -/
def Tn (H : Hp) (v : V) (d : PyData) : Prop := Th H v d ∧ d.hasDict = false
theorem Tn.mono {H H' : Hp} {v : V} {d : PyData} (h : Tn H v d) (s : Same H H') : Tn H' v d := ⟨h.1.mono s, h.2⟩
theorem Tn.dp {K : PySem.W.Frag} {H : Hp} {v : V} {d : PyData} (h : Tn H v d) : Dp K H v d := by
  cases h.1.sd (K := K) with
  | dp q _ => exact q
  | ed e => exact absurd h.2 (by simp [PyData.hasDict])
theorem Paired.map {α β : Type} {R S : α → β → Prop} (f : ∀ a b, R a b → S a b) : ∀ {xs : List α} {ys : List β}, Paired R xs ys → Paired S xs ys
  | _, _, .nil => .nil
  | _, _, .cons h r => .cons (f _ _ h) (Paired.map f r)
theorem tn_all {K : PySem.W.Frag} {H : Hp} : ∀ {vs : List V} {ds : List PyData}, Paired (Tn H) vs ds → DpAll K H vs ds
  | _, _, .nil => .nil
  | _, _, .cons h r => .cons h.dp (tn_all r)
theorem tn_no {H : Hp} : ∀ {vs : List V} {ds : List PyData}, Paired (Tn H) vs ds → PyData.hasDictAll ds = false
  | _, _, .nil => by simp [PyData.hasDictAll]
  | _, _, .cons h r => by simp [PyData.hasDictAll, h.2, tn_no r]
theorem tn_fit {H : Hp} : ∀ {vs : List V} {ds : List PyData}, Paired (Tn H) vs ds → PyData.showableAll ds = true ∧ PyData.depthAll ds ≤ 1 ∧ ((PyData.shownAll ds).map (·.length)).sum ≤ 1921 * vs.length ∧ (PyData.shownAll ds).length = vs.length
  | _, _, .nil => ⟨by simp [PyData.showableAll], by simp [PyData.depthAll], by simp [PyData.shownAll], by simp [PyData.shownAll]⟩
  | _, _, .cons h r => by
    obtain ⟨a, b, c⟩ := h.1.fit
    obtain ⟨a', b', c', d'⟩ := tn_fit r
    refine ⟨by simp [PyData.showableAll, a, a'], ?_, ?_, ?_⟩
    · simp only [PyData.depthAll]
      omega
    · simp only [PyData.shownAll, List.map_cons, List.sum_cons, List.length_cons]
      omega
    · simp only [PyData.shownAll, List.length_cons, d']
/-- what is handed to a round -/
inductive Sx (H : Hp) : V → PyData → Prop
  | th {v : V} {d : PyData} : Th H v d → Sx H v d
  | lst {a : Addr} {xs : List V} {ds : List PyData} : H a = some (.lst xs) → xs.length ≤ 100 → Paired (Tn H) xs ds → Sx H (.ref a) (.list ds)
  | tup {a : Addr} {xs : List V} {ds : List PyData} : H a = some (.tup xs) → xs.length ≤ 100 → Paired (Tn H) xs ds → Sx H (.ref a) (.tuple ds)
  | zz {a : Addr} : H a = some (.dK [(.inl 0, .int 0)]) → Sx H (.ref a) (.dict [(.int 0, .int 0)])
theorem Sx.mono {H H' : Hp} {v : V} {d : PyData} (h : Sx H v d) (s : Same H H') : Sx H' v d := by
  cases h with
  | th h => exact .th (h.mono s)
  | lst e l p => exact .lst (s _ _ e) l (Paired.map (fun _ _ h => h.mono s) p)
  | tup e l p => exact .tup (s _ _ e) l (Paired.map (fun _ _ h => h.mono s) p)
  | zz e => exact .zz (s _ _ e)
theorem Sx.fit {H : Hp} {v : V} {d : PyData} (h : Sx H v d) : d.showable = true ∧ d.depth ≤ 2 ∧ d.shown.length ≤ 200000 := by
  cases h with
  | th h =>
    obtain ⟨a, b, c⟩ := h.fit
    exact ⟨a, by omega, by omega⟩
  | lst e l p =>
    rename_i xs ds
    obtain ⟨a, b, c, d⟩ := tn_fit p
    refine ⟨by simpa [PyData.showable] using a, by simp only [PyData.depth]; omega, ?_⟩
    have := listText_len_le (PyData.shownAll ds)
    simp only [PyData.shown]
    omega
  | tup e l p =>
    rename_i xs ds
    obtain ⟨a, b, c, d⟩ := tn_fit p
    refine ⟨by simpa [PyData.showable] using a, by simp only [PyData.depth]; omega, ?_⟩
    have := tupleText_len_le (PyData.shownAll ds)
    simp only [PyData.shown]
    omega
  | zz e => exact ⟨by decide +kernel, by decide +kernel, by decide +kernel⟩
section
variable {X : Cx} {pins : List (Addr × Obj)} {σ : L2.St} {H : Hp} {s : Shared}
theorem Sx.reads (I : Inv X pins σ H s) {v : V} {d : PyData} {u : Value} (h : Sx H v d) (r : RelV v u) :
    ∃ as, Reads s.heap u d as ∧ (d.hasDict = true → sysModules ∉ as) := by
  cases h with
  | th h => exact (h.sd (K := X.K)).reads I r
  | lst e l p =>
    have hd : Dp X.K H _ _ := .lst (SqL.of e) (tn_all p)
    obtain ⟨as, q⟩ := Dp.reads I _ _ u hd r
    exact ⟨as, q, PyData.noDict_hsm (by simpa [PyData.hasDict] using tn_no p)⟩
  | tup e l p =>
    have hd : Dp X.K H _ _ := .tup (SqT.of e) (tn_all p)
    obtain ⟨as, q⟩ := Dp.reads I _ _ u hd r
    exact ⟨as, q, PyData.noDict_hsm (by simpa [PyData.hasDict] using tn_no p)⟩
  | zz h =>
    rename_i a
    cases r
    obtain ⟨_, hs, vs, rel, o, es, ep, ho, hx, hd, hko, hp, hn⟩ := I.hok a _ h
    cases rel with
    | cons r1 r2 =>
      cases r2
      rename_i kv
      obtain ⟨kk, uu⟩ := kv
      obtain ⟨e1, t, e2⟩ := r1
      cases e1
      cases e2
      generalize hes : es.toList = l at hp
      cases hp with
      | cons k1 k2 k3 =>
        cases k3
        rename_i e
        have k0 : keyIs (Sum.inl 0) e.key = true := k1
        obtain ⟨y, t', z, e3⟩ | ⟨_, _, z, _⟩ := keyIs_shape k0
        · cases z
          refine ⟨_, Reads.dict (as := []) (bs := []) ho hx.1 hd ?_ ?_, fun _ z => ?_⟩
          · rw [hes, List.map_cons, List.map_nil, e3]
            exact ReadsAll.cons (Reads.int _ _) .nil
          · rw [hes, List.map_cons, List.map_nil, k2]
            exact ReadsAll.cons (Reads.int _ _) .nil
          · have z2 : sysModules = a := by simpa using z
            rw [z2] at hs
            simp at hs
        · cases z
theorem Sx.all (I : Inv X pins σ H s) : ∀ {vs : List V} {ds : List PyData} {us : List Value}, Paired (Sx H) vs ds → Vals vs us →
    ∃ as bs, ReadsAll s.heap us ds as ∧ ReadAtMost s.heap (PyData.depthAll ds) bs ∧ ReprAllK X.prog X.w bs s.heap (PyData.depthAll ds) us (PyData.shownAll ds)
  | _, _, _, .nil, r => by
    cases r
    exact ⟨_, [], .nil, (fun _ h => nomatch h), by simp only [PyData.shownAll]; exact .nil⟩
  | _ :: _, d :: ds, _, .cons h hs, r => by
    cases r with
    | cons r1 r2 =>
      obtain ⟨f1, f2, f3⟩ := h.fit
      obtain ⟨as, q1, n1⟩ := h.reads I r1
      obtain ⟨b1, hb1, k1⟩ := ReprK.of_reads (prog := X.prog) (w := X.w) q1 f1 n1 (by rw [sizeLine_eq]; omega)
      obtain ⟨bs, b2, q2, hb2, k2⟩ := Sx.all I hs r2
      refine ⟨_, b1 ++ b2, .cons q1 q2, ?_, ?_⟩
      · simp only [PyData.depthAll]
        exact (hb1.mono (Nat.le_max_left _ _)).append (hb2.mono (Nat.le_max_right _ _))
      · simp only [PyData.depthAll, PyData.shownAll]
        exact .cons ((k1.more fun b hb => List.mem_append_left _ hb).level_le (Nat.le_max_left _ _)) (k2.more_le (fun b hb => List.mem_append_right _ hb) (Nat.le_max_right _ _))
/-- repr((a, b, c)) -/
def rRepr3 : List V → Hp → VK → Prop := fun xs H Q => ∃ (t : Addr) (a b c : V) (da db dc : PyData), xs = [.ref t] ∧ H t = some (.tup [a, b, c]) ∧ Sx H a da ∧ Sx H b db ∧ Sx H c dc ∧ Q (.str (PyData.tuple [da, db, dc]).shown) H
theorem call_repr3 (hG : X.A.guards = some []) (hu : X.A.units + 64 < cLine) : CallR X (.builtin "repr") rRepr3 := by
  intro pins s σ H xs us Q I r h
  obtain ⟨t, a, b, c, da, db, dc, rfl, ht, ha, hb, hc, q⟩ := h
  obtain ⟨u, rfl, ru⟩ := vals1 r
  cases ru
  obtain ⟨its, rv, ⟨o, ho, hcl, m, hd⟩, _⟩ := I.tuple (SqT.of ht)
  obtain ⟨as, bs, rd, hbs, hk⟩ := Sx.all I (.cons ha (.cons hb (.cons hc .nil))) rv
  obtain ⟨a1, a2, a3⟩ := ha.fit
  obtain ⟨b1, b2, b3⟩ := hb.fit
  obtain ⟨c1, c2, c3⟩ := hc.fit
  have dp2 : PyData.depthAll [da, db, dc] ≤ 2 := by
    simp only [PyData.depthAll]
    omega
  have hna : t ∉ bs := not_mem_of_deeper (.tuple ho hcl hd rd) (by simp only [PyData.depth]; omega) hbs
  have q2 : Q (.str (tupleText (PyData.shownAll [da, db, dc]))) H := by simpa only [PyData.shown] using q
  have hz : (tupleText (PyData.shownAll [da, db, dc])).length ≤ sizeLine := by
    have := tupleText_len_le (PyData.shownAll [da, db, dc])
    simp only [PyData.shownAll, List.map_cons, List.map_nil, List.sum_cons, List.sum_nil, List.length_cons, List.length_nil] at this
    simp only [PyData.shownAll]
    rw [sizeLine_eq]
    omega
  refine call_repr_slot (by omega) (show s.TypeIs (.ref t) "tuple" from ⟨o, ho, hcl⟩) PySem.F.slot_tuple_repr ?_
  exact call_tuple_reprK (A := X.A.in1) ho hcl hd hna (by simpa using hk) hG (fun b _ => Clear.nil b) (by show X.A.units + 1 + _ < cLine; omega) (fun _ _ e => e)
    (fun h' u tk hk' => ⟨_, _, rfl, ⟨.str _, H, I.kept hk', ⟨_, rfl⟩, q2⟩⟩) hz
end
end LT

set_option Elab.async false
set_option linter.all false
set_option maxRecDepth 100000
set_option maxHeartbeats 1600000
/-! Own layer: what the top of a program has left, put by name, for any law (tools/g.py writes the list of it). -/
namespace LT
open PySem PySem.Spec PyProof.Rows L2 NdefX
/-- an own error without a field -/
structure Ev (K : PySem.W.Frag) (mg : Str → Option Value) (x : Str) (D : Addr) : Prop where
  g : mg x = some (.ref D)
  x : PySem.W.excIn K D [.type "ValueError", .type "Exception", .type "BaseException", .type "object"] "ValueError.__new__" = true
  k : PySem.W.keepIn K (.ref D) = true
  b : PySem.W.subIn K (.ref D) (.type "BaseException") = some true
  t : PySem.W.typeIn K (.ref D) = some (.type "type")
/-- an own class -/
structure ClF (K : PySem.W.Frag) (mg : Str → Option Value) (x : Str) (C : Addr) : Prop where
  cl : Cls K C
  gl : mg x = some (.ref C)
  kp : PySem.W.keepIn K (.ref C) = true
/-- isinstance of an own thing -/
structure IsC (K : PySem.W.Frag) (C : Addr) : Prop where
  ha : PySem.W.findIn K (.ref C) "__class__" = some (some (.builtin "object.__class__"))
  hn : PySem.W.specialIn K (.builtin "object.__class__") "__get__" = some (some (.builtin "getset_descriptor.__get__"))
  ht : PySem.W.takesIn K (.builtin "object.__class__") = some true
  hm : PySem.W.mroIn K C (.type "object") = some true
  own : PySem.W.kitOne K (.ref C) (.ref C) = some true
  bt : ∀ T ∈ ["NoneType", "bool", "int", "str", "list", "tuple", "dict"], PySem.W.kitOne K (.type T) (.ref C) = some false
theorem Odd.kit {K : PySem.W.Frag} {C : Addr} {H : Hp} {v : V} (h : Odd H v) (Q : IsC K C) : ∃ t, TyX K H v t ∧ PySem.W.kitOne K t (.ref C) = some false := by
  cases h with
  | non => exact ⟨_, .base .non, Q.bt _ (by decide)⟩
  | bl b => exact ⟨_, .base (.bl b), Q.bt _ (by decide)⟩
  | int i => exact ⟨_, .base (.int i), Q.bt _ (by decide)⟩
  | str z => exact ⟨_, .base (.str z), Q.bt _ (by decide)⟩
  | lst e => exact ⟨_, .base (.lst e), Q.bt _ (by decide)⟩
  | tup e => exact ⟨_, .base (.tup e), Q.bt _ (by decide)⟩
  | dK e => exact ⟨_, .base (.dK e), Q.bt _ (by decide)⟩
theorem kit_self {K : PySem.W.Frag} {a : Addr} : PySem.W.kitOne K (.ref a) (.ref a) = some true := if_pos (c := ((Value.ref a) == (Value.ref a)) = true) (beq_self_eq_true (Value.ref a))
theorem cls_of {K : PySem.W.Frag} {t : Value} {C : Addr} {b : Bool} (i : PySem.W.isClsIn K C = true) (ty : PySem.W.typeIn K (.ref C) = some (.type "type")) (s : PySem.W.subIn K t (.ref C) = some b) : PySem.W.kitCls K t (.ref C) = some b := by
  have i' : (PySem.W.clsIn K C).isSome = true := i
  show (if ((PySem.W.clsIn K C).isSome && PySem.W.typeIn K (.ref C) == some (.type "type")) = true then PySem.W.subIn K t (.ref C) else none) = some b
  rw [i', ty]
  exact s
theorem kit_yes {K : PySem.W.Frag} {t : Value} {C : Addr} (i : PySem.W.isClsIn K C = true) (ty : PySem.W.typeIn K (.ref C) = some (.type "type")) (s : PySem.W.subIn K t (.ref C) = some true) : PySem.W.kitOne K t (.ref C) = some true := by
  unfold PySem.W.kitOne
  split
  · rfl
  · exact cls_of i ty s
theorem kit_no {K : PySem.W.Frag} {t : Value} {C : Addr} (i : PySem.W.isClsIn K C = true) (ty : PySem.W.typeIn K (.ref C) = some (.type "type")) (s : PySem.W.subIn K t (.ref C) = some false) (q : (t == .ref C) = false) : PySem.W.kitOne K t (.ref C) = some false := by
  unfold PySem.W.kitOne
  rw [q]
  exact cls_of i ty s
theorem kit_ve {K : PySem.W.Frag} {D : Addr} (s : PySem.W.subIn K (.ref D) (.type "ValueError") = some true) : PySem.W.kitOne K (.ref D) (.type "ValueError") = some true := by
  unfold PySem.W.kitOne
  split
  · rfl
  · show (if PySem.W.kitMeta "ValueError" = true then PySem.W.subIn K (.ref D) (.type "ValueError") else none) = some true
    rw [show PySem.W.kitMeta "ValueError" = true by decide +kernel]
    exact s
theorem exm_is {K : PySem.W.Frag} {t : Value} {C : Addr} {r : Bool} (b : PySem.W.subIn K (.ref C) (.type "BaseException") = some true) (i : PySem.W.isClsIn K C = true) (ty : PySem.W.typeIn K (.ref C) = some (.type "type")) (s : PySem.W.subIn K t (.ref C) = some r) : PySem.W.exmOne K t (.ref C) = some r := by
  unfold PySem.W.exmOne
  rw [b]
  exact cls_of i ty s
/-- the reading of len, K told (for use within comprehensions) -/
def rLenQ (K : PySem.W.Frag) : List V → Hp → VK → Prop := fun xs H Q => ∃ p ys, xs = [.ref p] ∧ (SqL K H p ys ∨ SqT K H p ys) ∧ Q (.int ys.length) H
/-! ### what the top has left -/
structure Left (K : PySem.W.Frag) (x : Str) (st : Stmt) (f : Addr) (oc : Value) (od an : Option Addr) (kV dc pm cd ct : Value) (sl : Array (Option Value)) : Prop where
  ns : PySem.W.nsIn K mainGlobals x = some (some (.ref f))
  lk : K.lookup f = some ⟨oc, od, .func (PySem.W.fnOf x x (defArgs st) (defBody st) (defScope st) .none kV dc pm an cd ct), sl⟩
  cd : PySem.W.codeIn K cd x = true
  kp : PySem.W.keepIn K (.ref f) = true
theorem Left.fn {K : PySem.W.Frag} {x : Str} {st : Stmt} {f : Addr} {oc : Value} {od an : Option Addr} {kV dc pm cd ct : Value} {sl : Array (Option Value)} (h : Left K x st f oc od an kV dc pm cd ct sl) :
    Fun K x x st f (PySem.W.fnOf x x (defArgs st) (defBody st) (defScope st) .none kV dc pm an cd ct) := fun_mk h.lk h.cd h.kp
structure LeftM (K : PySem.W.Frag) (C : Addr) (x q : Str) (st : Stmt) (f : Addr) (oc : Value) (od an : Option Addr) (kV dc pm cd ct : Value) (sl : Array (Option Value)) : Prop where
  at_ : PySem.W.findIn K (.ref C) x = some (some (.ref f))
  lk : K.lookup f = some ⟨oc, od, .func (PySem.W.fnOf x q (defArgs st) (defBody st) (defScope st) .none kV dc pm an cd ct), sl⟩
  cd : PySem.W.codeIn K cd q = true
  kp : PySem.W.keepIn K (.ref f) = true
  isf : PySem.W.isFn K (.ref f) = true
theorem LeftM.fn {K : PySem.W.Frag} {C : Addr} {x q : Str} {st : Stmt} {f : Addr} {oc : Value} {od an : Option Addr} {kV dc pm cd ct : Value} {sl : Array (Option Value)} (h : LeftM K C x q st f oc od an kV dc pm cd ct sl) :
    Fun K x q st f (PySem.W.fnOf x q (defArgs st) (defBody st) (defScope st) .none kV dc pm an cd ct) := fun_mk h.lk h.cd h.kp
theorem LeftM.me {K : PySem.W.Frag} {C : Addr} {x q : Str} {st : Stmt} {f : Addr} {oc : Value} {od an : Option Addr} {kV dc pm cd ct : Value} {sl : Array (Option Value)} (h : LeftM K C x q st f oc od an kV dc pm cd ct sl) :
    Meth K C x f := ⟨h.at_, h.isf, h.kp⟩
/-- a def with defaults -/
structure LeftD (K : PySem.W.Frag) (x : Str) (st : Stmt) (va : Array Value) (f T : Addr) (oc : Value) (od an : Option Addr) (kV dc pm cd ct : Value) (sl : Array (Option Value)) (oT : Value) (dT : Option Addr) (nT : Nat) (sT : Array (Option Value)) : Prop where
  ns : PySem.W.nsIn K mainGlobals x = some (some (.ref f))
  lk : K.lookup f = some ⟨oc, od, .func (PySem.W.fnOf x x (defArgs st) (defBody st) (defScope st) (.ref T) kV dc pm an cd ct), sl⟩
  cd : PySem.W.codeIn K cd x = true
  kp : PySem.W.keepIn K (.ref f) = true
  lT : K.lookup T = some ⟨oT, dT, .seq va nT, sT⟩
/-- a method with defaults -/
structure LeftMD (K : PySem.W.Frag) (C : Addr) (x q : Str) (st : Stmt) (va : Array Value) (f T : Addr) (oc : Value) (od an : Option Addr) (kV dc pm cd ct : Value) (sl : Array (Option Value)) (oT : Value) (dT : Option Addr) (nT : Nat) (sT : Array (Option Value)) : Prop where
  at_ : PySem.W.findIn K (.ref C) x = some (some (.ref f))
  lk : K.lookup f = some ⟨oc, od, .func (PySem.W.fnOf x q (defArgs st) (defBody st) (defScope st) (.ref T) kV dc pm an cd ct), sl⟩
  cd : PySem.W.codeIn K cd q = true
  kp : PySem.W.keepIn K (.ref f) = true
  isf : PySem.W.isFn K (.ref f) = true
  lT : K.lookup T = some ⟨oT, dT, .seq va nT, sT⟩
/-- an own error with super().__init__ -/
structure LeftE (K : PySem.W.Frag) (pr : Program) (fld q : Str) (st : Stmt) (C f cc c : Addr) (nm qn : Str) (N : Addr) (bs bm : List Value) (sn : List Str) (sub : List Value) (ab : Bool) (col : Option Bool) (dd : Option Addr) (k0 k1 k2 k3 k5 : Option Value) (oc : Value) (od : Option Addr)
    (kV doc pm : Value) (an : Option Addr) (ct : Value) (osl : Array (Option Value)) (ca : Value) (cb : Option Addr) (c3 : Array (Option Value)) (ka : Value) (kb : Option Addr) (kc : Array (Option Value)) (vs : Array Value) (fl : Str) (tf : Tok) : Prop where
  lk : K.lookup C = some (excClassObj nm qn C N bs bm true sn sub ab col dd k0 k1 k2 k3 k5 "ValueError.__new__")
  rv : PySem.HandSPX.refsVE bm = true
  sa : PySem.W.findIn K (.ref C) "__setattr__" = some (some (.builtin "object.__setattr__"))
  exC : PySem.W.subIn K (.ref C) (.type "BaseException") = some true
  tyC : PySem.W.typeIn K (.ref C) = some (.type "type")
  kC : PySem.W.keepIn K (.ref C) = true
  cell : K.lookup cc = some ⟨ca, cb, .cell (some (.ref C)), c3⟩
  code : K.lookup c = some ⟨ka, kb, .fields vs, kc⟩
  v2 : vs[2]? = some (.str fl tf)
  file : ((pr.main.file : Str) == fl) = true
  hsub : PySem.W.mroIn K C (.ref C) = some true
  sup : PySem.W.ks_superIn K C C "__init__" = some (some (.builtin "ValueError.__init__"))
  sB : PySem.W.subIn K (.ref C) (.type "ValueError") = some true
  op : PySem.W.nsIn K cStatics "thirdparty.any" = some none
  cd : PySem.W.codeIn K (.ref c) q = true
  fn : K.lookup f = some ⟨oc, od, .func (PySem.W.fnX "__init__" q (defArgs st) (defBody st) (defScope st) [(("__class__" : Str), cc)] .none kV doc pm an (.ref c) ct), osl⟩
  hno : PySem.W.findIn K (.ref C) fld = some none
  ini : PySem.W.findIn K (.ref C) "__init__" = some (some (.ref f))
  tI : PySem.W.typeIn K (.ref f) = some (.type "function")
end LT

set_option Elab.async false
set_option linter.all false
set_option maxRecDepth 100000
namespace K36
open PySem PySem.Spec PyProof.Rows L2 LT NdefX
def topS (i : Nat) : Stmt := PySem.Challenge.pw_lightturns_k36_whole_no_fewer_goings.main.body.getD i (.Pass ⟨0, 0, 0, 0⟩)
abbrev s_NoBoat___init__ : Stmt := inClass (topS 5) 0
abbrev s_is_name : Stmt := topS 12
abbrev s_is_whole : Stmt := topS 14
abbrev s_is_from : Stmt := topS 15
abbrev s_parts_for : Stmt := topS 16
abbrev s_Boat___init__ : Stmt := inClass (topS 20) 0
abbrev s_Boat_seats : Stmt := inClass (topS 20) 1
abbrev s_Boat_carries : Stmt := inClass (topS 20) 2
abbrev s_Boat_man : Stmt := inClass (topS 20) 3
abbrev s_barred : Stmt := topS 21
abbrev s_fewest : Stmt := topS 22
abbrev s_loads : Stmt := topS 23
abbrev s_taken : Stmt := topS 24
abbrev s_room_of : Stmt := topS 25
abbrev s_weight_out : Stmt := topS 26
abbrev s_check_wanted : Stmt := topS 27
abbrev s_are_stores : Stmt := topS 28
abbrev s__law_cell : Stmt := topS 30
abbrev s__law_pot : Stmt := topS 31
abbrev s__law_take : Stmt := topS 32
abbrev s__law_boat : Stmt := topS 33
abbrev s__law_going : Stmt := topS 34
abbrev s__law_summed : Stmt := topS 35
abbrev s__law_bars : Stmt := topS 36
abbrev s__law_right : Stmt := topS 37
abbrev s_law : Stmt := topS 38
/-- all that the top has left -/
structure All (K : PySem.W.Frag) (P : Program) (mg : Str → Option Value) : Type where
  T : Tx mg
  t_SMALL_LETTERS : Tok
  g_SMALL_LETTERS : mg "SMALL_LETTERS" = some (.str (Str.ofString "abcdefghijklmnopqrstuvwxyz") t_SMALL_LETTERS)
  t_LONGEST_NAME : Tok
  g_LONGEST_NAME : mg "LONGEST_NAME" = some (.int (8) t_LONGEST_NAME)
  t_MOST_THINGS : Tok
  g_MOST_THINGS : mg "MOST_THINGS" = some (.int (8) t_MOST_THINGS)
  t_MOST_LOADS : Tok
  g_MOST_LOADS : mg "MOST_LOADS" = some (.int (300) t_MOST_LOADS)
  C_NoNumber : Addr
  g_NoNumber : mg "NoNumber" = some (.ref C_NoNumber)
  C_NoBoat : Addr
  g_NoBoat : mg "NoBoat" = some (.ref C_NoBoat)
  C_NoStores : Addr
  g_NoStores : mg "NoStores" = some (.ref C_NoStores)
  C_TooMany : Addr
  g_TooMany : mg "TooMany" = some (.ref C_TooMany)
  C_Small : Addr
  g_Small : mg "Small" = some (.ref C_Small)
  f_NoBoat : Addr
  cc_NoBoat : Addr
  cd_NoBoat : Addr
  d_NoBoat : FuncData
  N_NoBoat : Nx K P mg s_NoBoat___init__ "NoBoat" "NoBoat.__init__" "field" C_NoBoat f_NoBoat cc_NoBoat cd_NoBoat d_NoBoat
  E_NoNumber : Ev K mg "NoNumber" C_NoNumber
  E_Small : Ev K mg "Small" C_Small
  E_TooMany : Ev K mg "TooMany" C_TooMany
  E_NoStores : Ev K mg "NoStores" C_NoStores
  C_Boat : Addr
  Z_Boat : ClF K mg "Boat" C_Boat
  n_Boat_many_seats : PySem.W.findIn K (.ref C_Boat) "many_seats" = some none
  n_Boat_most_weight : PySem.W.findIn K (.ref C_Boat) "most_weight" = some none
  n_Boat_man_weight : PySem.W.findIn K (.ref C_Boat) "man_weight" = some none
  f_Boat___init__ : Addr
  d_Boat___init__ : FuncData
  h_Boat___init__ : Mth K C_Boat "__init__" "Boat.__init__" ["self", "seats", "carries", "man"] s_Boat___init__ f_Boat___init__ d_Boat___init__
  M_Boat : Mk K C_Boat f_Boat___init__
  f_Boat_seats : Addr
  d_Boat_seats : FuncData
  h_Boat_seats : Mth K C_Boat "seats" "Boat.seats" ["self"] s_Boat_seats f_Boat_seats d_Boat_seats
  f_Boat_carries : Addr
  d_Boat_carries : FuncData
  h_Boat_carries : Mth K C_Boat "carries" "Boat.carries" ["self"] s_Boat_carries f_Boat_carries d_Boat_carries
  f_Boat_man : Addr
  d_Boat_man : FuncData
  h_Boat_man : Mth K C_Boat "man" "Boat.man" ["self"] s_Boat_man f_Boat_man d_Boat_man
  f_is_name : Addr
  d_is_name : FuncData
  h_is_name : Has K mg "is_name" ["thing"] s_is_name f_is_name d_is_name
  f_is_whole : Addr
  d_is_whole : FuncData
  h_is_whole : Has K mg "is_whole" ["thing"] s_is_whole f_is_whole d_is_whole
  f_is_from : Addr
  d_is_from : FuncData
  h_is_from : Has K mg "is_from" ["thing", "least"] s_is_from f_is_from d_is_from
  f_parts_for : Addr
  d_parts_for : FuncData
  h_parts_for : Has K mg "parts_for" ["many", "most"] s_parts_for f_parts_for d_parts_for
  f_taken : Addr
  d_taken : FuncData
  h_taken : Has K mg "taken" ["rest", "weight"] s_taken f_taken d_taken
  f_room_of : Addr
  d_room_of : FuncData
  h_room_of : Has K mg "room_of" ["boat"] s_room_of f_room_of d_room_of
  f_weight_out : Addr
  d_weight_out : FuncData
  h_weight_out : Has K mg "weight_out" ["boat", "out", "stores"] s_weight_out f_weight_out d_weight_out
  f_check_wanted : Addr
  d_check_wanted : FuncData
  h_check_wanted : Has K mg "check_wanted" ["out", "back", "stores"] s_check_wanted f_check_wanted d_check_wanted
  f_are_stores : Addr
  d_are_stores : FuncData
  h_are_stores : Has K mg "are_stores" ["thing"] s_are_stores f_are_stores d_are_stores
  f__law_cell : Addr
  d__law_cell : FuncData
  h__law_cell : Has K mg "_law_cell" ["_law_script", "_law_k"] s__law_cell f__law_cell d__law_cell
  f__law_pot : Addr
  d__law_pot : FuncData
  h__law_pot : Has K mg "_law_pot" ["_law_script", "_law_k"] s__law_pot f__law_pot d__law_pot
  f__law_take : Addr
  d__law_take : FuncData
  h__law_take : Has K mg "_law_take" ["_law_pot_here", "_law_room"] s__law_take f__law_take d__law_take
  f__law_boat : Addr
  d__law_boat : FuncData
  h__law_boat : Has K mg "_law_boat" ["_law_pot_here"] s__law_boat f__law_boat d__law_boat
  f__law_going : Addr
  d__law_going : FuncData
  h__law_going : Has K mg "_law_going" ["_law_pot_here", "_law_ship"] s__law_going f__law_going d__law_going
  f__law_summed : Addr
  d__law_summed : FuncData
  h__law_summed : Has K mg "_law_summed" ["_law_rows"] s__law_summed f__law_summed d__law_summed
  f__law_bars : Addr
  d__law_bars : FuncData
  h__law_bars : Has K mg "_law_bars" ["_law_told", "_law_ship", "_law_three", "_law_times"] s__law_bars f__law_bars d__law_bars
  f__law_right : Addr
  d__law_right : FuncData
  h__law_right : Has K mg "_law_right" ["_law_ship", "_law_boat_made", "_law_rows"] s__law_right f__law_right d__law_right
  f_barred : Addr
  d_barred : FuncData
  q_barred : FunD K "barred" "barred" (defArgs s_barred) (defBody s_barred) (defScope s_barred) [.int 0, .non] [] f_barred d_barred
  gl_barred : mg "barred" = some (.ref f_barred)
  kp_barred : PySem.W.keepIn K (.ref f_barred) = true
  f_fewest : Addr
  d_fewest : FuncData
  q_fewest : FunD K "fewest" "fewest" (defArgs s_fewest) (defBody s_fewest) (defScope s_fewest) [.int 0, .non] [] f_fewest d_fewest
  gl_fewest : mg "fewest" = some (.ref f_fewest)
  kp_fewest : PySem.W.keepIn K (.ref f_fewest) = true
  f_loads : Addr
  d_loads : FuncData
  q_loads : FunD K "loads" "loads" (defArgs s_loads) (defBody s_loads) (defScope s_loads) [.int 0, .non] [] f_loads d_loads
  gl_loads : mg "loads" = some (.ref f_loads)
  kp_loads : PySem.W.keepIn K (.ref f_loads) = true
end K36

set_option Elab.async false
set_option linter.all false
set_option maxRecDepth 100000
set_option maxHeartbeats 1600000
/-! Own layer: sum(d.values()); names; stores (a dict from names to weights). -/
namespace LT
open PySem PySem.Spec PyProof.Rows L2 NdefX
/-! ### sum(d.values()) -/
theorem preSum_take (is : List Int) : ∀ n, preSum (fun i => is.getD i 0) n = (is.take n).sum
  | 0 => by simp [preSum]
  | n + 1 => by
    rw [preSum, preSum_take is n, List.take_add_one, List.sum_append, List.getD_eq_getElem?_getD]
    cases is[n]? with
    | none => simp
    | some x => simp
def tSumVals (td : TE) : TE := fun σ H Q => td σ H fun x H1 => ∃ (a : Addr) (kvs : List (Key × V)) (is : List Int), x = V.ref a ∧ H1 a = some (.dK kvs) ∧ kvs.map (·.2) = is.map V.int ∧ Q (.int is.sum) H1
theorem pe_sumVals {X : Cx} {o : Expr} {p pos apos mpos : Pos} {td : TE} (hc : X.calm = true) (hg : Gl X "sum") (hm : X.mg "sum" = none) (hd : PE X o td) (hbase : attributeBase o "values" X.env (eval o X.env) = eval o X.env := by rfl) (hline : (apos.endLine == mpos.line) = true := by rfl)
    (hse : starEach [Expr.Call (.Attribute o "values" apos) [] [] mpos] X.env = [(false, eval (Expr.Call (.Attribute o "values" apos) [] [] mpos) X.env)] := by rfl) :
    PE X (.Call (.Name "sum" p) [.Call (.Attribute o "values" apos) [] [] mpos] [] pos) (tSumVals td) := by
  refine ⟨fun pins s σ H Q I h => ?_⟩
  refine wpAny_Call_Name_kw (ld_blt I hg hm (u := .builtin "sum") (by first | rfl | decide +kernel) ?_ (by first | decide +kernel | decide) (by first | decide +kernel | decide))
  rw [hse]
  refine PySem.callWith_builtin1 (wpAny_Call_method0_late hbase hline (thn (hd.run pins s σ H _ I h) fun v s1 ⟨x, H1, I1, r1, a, kvs, is, ex, ha, hv, q⟩ => ?_))
  subst ex
  obtain rfl : v = Value.ref a := r1
  obtain ⟨_, hsys, vs, rel, dof⟩ := dk_of I1.hok ha
  obtain ⟨ep, dat⟩ := dof.dictAt
  have dat' := dat
  obtain ⟨ob, es, ho, ex, hdat, hko, hpr, hnd⟩ := dat'
  refine ⟨"dict", "dict.values", F.plainAttrs_dict, F.slot_dict_values, F.type_dict_values, ⟨ob, ho, ex.1⟩, fun b e => ?_, Calls.callWith_builtin rfl (PySem.evalArgs_none ?_)⟩
  · cases e
    exact ⟨ob, ho, ex.2.1⟩
  refine call_meetsIn F.slot_dict_values ⟨ob, ho, ex.1⟩ F.entry_dict_values (F.args_dict_values_1 _) (meets_dict_values (mixKind X.prog X.w) a hsys) ⟨⟨vs, dof⟩, ?_⟩
  have k1 : ∀ b u, s1.heap.get? b = some u → (s1.heap.push { cls := .type "dict_values", data := .fields #[.ref a] }).get? b = some u := fun b u e => Heap.get?_push_of_some _ e
  have dat1 : (s1.heap.push { cls := .type "dict_values", data := .fields #[.ref a] }).DictAt (mixKind X.prog X.w) a vs ep := dat.keep k1
  have hlv : vs.length = is.length := by
    have e1 := congrArg List.length hv
    rw [List.length_map, List.length_map] at e1
    rw [← e1]
    exact (KV.length rel).symm
  have hval : ∀ (i : Nat) (v : Value), (∃ k, vs[i]? = some (k, v)) → ∃ t, v = Value.int (is.getD i 0) t := fun i v ⟨k, hk⟩ => by
    obtain ⟨x, h1, h2⟩ := KV.at' rel hk
    have e1 : (kvs.map (·.2))[i]? = some x := by rw [List.getElem?_map, h1] <;> rfl
    rw [hv, List.getElem?_map] at e1
    obtain ⟨j, hj, e2⟩ := Option.map_eq_some_iff.mp e1
    subst e2
    obtain ⟨t, e3⟩ := h2
    refine ⟨t, ?_⟩
    rw [e3, List.getD_eq_getElem?_getD, hj] <;> rfl
  refine call_sum_walkG (wpAny_pyIter_values (v := s1.heap.objs.size) (d := a) ⟨_, Heap.get?_push_size _ rfl, rfl, rfl⟩ dat1 ?_)
  have hlt : a < s1.heap.objs.size := Heap.lt_size ho
  have hsz : (s1.heap.push { cls := .type "dict_values", data := .fields #[.ref a] }).objs.size = s1.heap.objs.size + 1 := Heap.size_push _ _
  refine ⟨_, _, _, _, _, _, (fun i => is.getD i 0), rfl, Walks.dictValues (knd := mixKind X.prog X.w) (A := X.A.in1) (I.ok.hd hc) (s1.heap.push { cls := .type "dict_values", data := .fields #[.ref a] }).objs.size a (by rw [hsz]; exact Nat.ne_of_lt (Nat.lt_succ_of_lt hlt)) vs ep,
    ⟨⟨_, Heap.get?_push_size _ rfl, rfl, rfl⟩, dat1.keep fun b u e => Heap.get?_push_of_some _ e⟩, fun b hb => ?_, hval, fun h' tk t' hk => ?_⟩
  · show b < ((s1.heap.push _).push _).objs.size
    rw [Heap.size_push, Heap.size_push]
    rw [hsz] at hb
    rcases List.mem_cons.mp hb with e | hb
    · rw [e]
      exact Nat.lt_succ_self _
    · have e : b = a := List.mem_singleton.mp hb
      rw [e]
      exact Nat.lt_succ_of_lt (Nat.lt_succ_of_lt hlt)
  · have es : preSum (fun i => is.getD i 0) vs.length = is.sum := by rw [preSum_take, hlv, List.take_length]
    rw [es]
    refine ⟨.int _, H1, I1.kept (t' := tk) fun b u e => hk b u (fun hmem => ?_) (Heap.get?_push_of_some _ (k1 b u e)), ⟨_, rfl⟩, q⟩
    have e1 : b = (s1.heap.push { cls := .type "dict_values", data := .fields #[.ref a] }).objs.size := List.mem_singleton.mp hmem
    have e2 := Heap.lt_size e
    rw [hsz] at e1
    rw [e1] at e2
    exact absurd e2 (Nat.not_lt.mpr (Nat.le_succ _))
/-! ### names -/
def small (c : Nat) : Bool := decide (97 ≤ c) && decide (c ≤ 122)
def nameB : V → Bool
  | .str z => decide (1 ≤ z.length) && decide (z.length ≤ 8) && z.cps.toList.all small
  | _ => false
theorem letters : (Str.ofString "abcdefghijklmnopqrstuvwxyz").cps.toList = List.range' 97 26 := by decide +kernel
theorem small_mem (c : Nat) : decide (c ∈ (Str.ofString "abcdefghijklmnopqrstuvwxyz").cps.toList) = small c := by
  rw [letters]
  unfold small
  rw [Bool.eq_iff_iff, decide_eq_true_iff, List.mem_range'_1, Bool.and_eq_true, decide_eq_true_iff, decide_eq_true_iff]
  omega
theorem take_more {α β : Type} (f : α → β) {xs : List α} {i : Nat} {x : α} (h : xs[i]? = some x) : (xs.take i).map f ++ [f x] = (xs.take (i + 1)).map f := by
  rw [List.take_add_one, h, List.map_append]
  rfl
theorem joinL_nil : ∀ l : List (List Nat), TL.joinL [] l = l.flatten
  | [] => rfl
  | [p] => by simp [TL.joinL]
  | p :: q :: r => by
    show p ++ ([] ++ TL.joinL [] (q :: r)) = _
    rw [joinL_nil (q :: r)]
    rfl
theorem join_codes (ys : List Str) : (Txt.join (Str.ofString "") ys).cps.toList = (ys.map fun y => y.cps.toList).flatten := by
  rw [TL.join_eq]
  have h := TL.tl_join (Str.ofString "") ys
  have e : TL.tl (Str.ofString "") = [] := by decide +kernel
  rw [e, joinL_nil] at h
  exact h
theorem flat_len : ∀ (ys : List Str), (∀ y ∈ ys, y.length = 1) → (ys.map fun y => y.cps.toList).flatten.length = ys.length
  | [], _ => rfl
  | y :: ys, h => by
    rw [List.map_cons, List.flatten_cons, List.length_append, flat_len ys fun z hz => h z (List.mem_cons_of_mem _ hz), Array.length_toList, List.length_cons]
    have : y.cps.size = 1 := h y List.mem_cons_self
    omega
theorem sum_len : ∀ (ys : List Str), (∀ y ∈ ys, y.length = 1) → (ys.map fun y => y.length).sum = ys.length
  | [], _ => rfl
  | y :: ys, h => by
    rw [List.map_cons, List.sum_cons, sum_len ys fun z hz => h z (List.mem_cons_of_mem _ hz), h y List.mem_cons_self, List.length_cons]
    omega
/-- a name -/
structure Nm (z : Str) : Prop where
  l1 : 1 ≤ z.length
  l8 : z.length ≤ 8
  al : ∀ c ∈ z.cps.toList, small c = true
theorem Nm.b {z : Str} (h : Nm z) : nameB (.str z) = true := by
  show (decide (1 ≤ z.length) && decide (z.length ≤ 8) && z.cps.toList.all small) = true
  rw [decide_eq_true h.l1, decide_eq_true h.l8, List.all_eq_true.mpr h.al]
  rfl
/-! ### stores -/
def sd (kvs : List (Str × Int)) : List (Key × V) := kvs.map fun p => (Sum.inr p.1, V.int p.2)
def wsum (kvs : List (Str × Int)) : Int := (kvs.map (·.2)).sum
structure Kv (kvs : List (Str × Int)) : Prop where
  nd : (kvs.map (·.1)).Nodup
  nm : ∀ p ∈ kvs, Nm p.1
  w1 : ∀ p ∈ kvs, 1 ≤ p.2
  w2 : ∀ p ∈ kvs, p.2 ≤ 10 ^ 70
theorem sd_vals (kvs : List (Str × Int)) : (sd kvs).map (·.2) = (kvs.map (·.2)).map V.int := by
  unfold sd
  rw [List.map_map, List.map_map]
  rfl
theorem sd_keys (kvs : List (Str × Int)) : (sd kvs).map (·.1) = (kvs.map (·.1)).map Sum.inr := by
  unfold sd
  rw [List.map_map, List.map_map]
  rfl
theorem sd_len (kvs : List (Str × Int)) : (sd kvs).length = kvs.length := List.length_map ..
def putS (kvs : List (Str × Int)) (z : Str) (w : Int) : List (Str × Int) := if z ∈ kvs.map (·.1) then kvs.map fun p => if p.1 = z then (p.1, w) else p else kvs ++ [(z, w)]
theorem put_sd (kvs : List (Str × Int)) (z : Str) (w : Int) : putK (sd kvs) (Sum.inr z) (V.int w) = sd (putS kvs z w) := by
  have e : ((sd kvs).any fun kv => decide (kv.1 = (Sum.inr z : Key))) = decide (z ∈ kvs.map (·.1)) := by
    rw [Bool.eq_iff_iff, List.any_eq_true, decide_eq_true_iff]
    unfold sd
    constructor
    · rintro ⟨kv, hkv, hk⟩
      obtain ⟨p, hp, rfl⟩ := List.mem_map.mp hkv
      have := of_decide_eq_true hk
      exact List.mem_map.mpr ⟨p, hp, Sum.inr.inj this⟩
    · intro h
      obtain ⟨p, hp, rfl⟩ := List.mem_map.mp h
      exact ⟨_, List.mem_map.mpr ⟨p, hp, rfl⟩, decide_eq_true rfl⟩
  unfold putK putS
  rw [e]
  by_cases h : z ∈ kvs.map (·.1)
  · rw [decide_eq_true h, if_pos rfl, if_pos h]
    unfold sd
    rw [List.map_map, List.map_map]
    refine List.map_congr_left fun p hp => ?_
    show (if (Sum.inr p.1 : Key) = Sum.inr z then _ else _) = _
    by_cases hz : p.1 = z
    · rw [if_pos (by rw [hz])]
      show _ = ((Sum.inr (if p.1 = z then (p.1, w) else p).1 : Key), V.int (if p.1 = z then (p.1, w) else p).2)
      rw [if_pos hz]
    · rw [if_neg (fun e => hz (Sum.inr.inj e))]
      show _ = ((Sum.inr (if p.1 = z then (p.1, w) else p).1 : Key), V.int (if p.1 = z then (p.1, w) else p).2)
      rw [if_neg hz]
  · rw [decide_eq_false h, if_neg Bool.false_ne_true, if_neg h]
    unfold sd
    rw [List.map_append]
    rfl
theorem Kv.put {kvs : List (Str × Int)} {z : Str} {w : Int} (h : Kv kvs) (hz : Nm z) (h1 : 1 ≤ w) (h2 : w ≤ 10 ^ 70) : Kv (putS kvs z w) ∧ (putS kvs z w).length ≤ kvs.length + 1 := by
  unfold putS
  by_cases hm : z ∈ kvs.map (·.1)
  · rw [if_pos hm]
    have ek : (kvs.map fun p => if p.1 = z then (p.1, w) else p).map (·.1) = kvs.map (·.1) := by
      rw [List.map_map]
      refine List.map_congr_left fun p _ => ?_
      show (if p.1 = z then (p.1, w) else p).1 = p.1
      split <;> rfl
    have mem : ∀ q ∈ (kvs.map fun p => if p.1 = z then (p.1, w) else p), (∃ p ∈ kvs, q.1 = p.1) ∧ (q.2 = w ∨ q ∈ kvs) := by
      intro q hq
      obtain ⟨p, hp, rfl⟩ := List.mem_map.mp hq
      by_cases e : p.1 = z
      · rw [if_pos e]
        exact ⟨⟨p, hp, rfl⟩, .inl rfl⟩
      · rw [if_neg e]
        exact ⟨⟨p, hp, rfl⟩, .inr hp⟩
    refine ⟨⟨by rw [ek]; exact h.nd, fun q hq => ?_, fun q hq => ?_, fun q hq => ?_⟩, by rw [List.length_map]; omega⟩
    · obtain ⟨⟨p, hp, e⟩, _⟩ := mem q hq
      rw [e]
      exact h.nm p hp
    · rcases (mem q hq).2 with e | e
      · omega
      · exact h.w1 q e
    · rcases (mem q hq).2 with e | e
      · omega
      · exact h.w2 q e
  · rw [if_neg hm]
    refine ⟨⟨?_, fun q hq => ?_, fun q hq => ?_, fun q hq => ?_⟩, by rw [List.length_append]; exact Nat.le_refl _⟩
    · rw [List.map_append]
      refine List.nodup_append.mpr ⟨h.nd, by simp, fun a ha b hb e => ?_⟩
      have e2 : b = z := by simpa using hb
      rw [e, e2] at ha
      exact hm ha
    · rcases List.mem_append.mp hq with e | e
      · exact h.nm q e
      · rw [List.mem_singleton.mp e]; exact hz
    · rcases List.mem_append.mp hq with e | e
      · exact h.w1 q e
      · rw [List.mem_singleton.mp e]; exact h1
    · rcases List.mem_append.mp hq with e | e
      · exact h.w2 q e
      · rw [List.mem_singleton.mp e]; exact h2
theorem Kv.nil : Kv [] := ⟨List.nodup_nil, (fun _ h => nomatch h), (fun _ h => nomatch h), (fun _ h => nomatch h)⟩
theorem wsum_nonneg : ∀ {kvs : List (Str × Int)}, (∀ p ∈ kvs, 1 ≤ p.2) → 0 ≤ wsum kvs
  | [], _ => Int.le_refl _
  | p :: r, h => by
    have := wsum_nonneg (kvs := r) fun q hq => h q (List.mem_cons_of_mem _ hq)
    have := h p List.mem_cons_self
    unfold wsum at *
    rw [List.map_cons, List.sum_cons]
    omega
theorem wsum_le : ∀ {kvs : List (Str × Int)}, (∀ p ∈ kvs, p.2 ≤ 10 ^ 70) → wsum kvs ≤ kvs.length * 10 ^ 70
  | [], _ => Int.le_refl _
  | p :: r, h => by
    have := wsum_le (kvs := r) fun q hq => h q (List.mem_cons_of_mem _ hq)
    have := h p List.mem_cons_self
    unfold wsum at *
    rw [List.map_cons, List.sum_cons, List.length_cons]
    omega
/-- stores, None as none -/
inductive StV (H : Hp) : V → Int → Prop
  | non : StV H .non 0
  | dict {d : Addr} {kvs : List (Str × Int)} : H d = some (.dK (sd kvs)) → Kv kvs → kvs.length ≤ 8 → StV H (.ref d) (wsum kvs)
theorem StV.mono {H H' : Hp} {v : V} {k : Int} (h : StV H v k) (s : Same H H') : StV H' v k := by
  cases h with
  | non => exact .non
  | dict e k l => exact .dict (s _ _ e) k l
theorem StV.bd {H : Hp} {v : V} {k : Int} (h : StV H v k) : 0 ≤ k ∧ k ≤ 10 ^ 71 := by
  cases h with
  | non => exact ⟨by omega, by omega⟩
  | dict e k l =>
    have := wsum_nonneg k.w1
    have := wsum_le k.w2
    constructor
    · omega
    · omega
/-- d != {} -/
def rNeE : R2 := fun x y H Q => ∃ (a b : Addr) (ks : List (Key × V)), x = .ref a ∧ y = .ref b ∧ H a = some (.dK ks) ∧ H b = some (.dK []) ∧ Q (.bl (!ks.isEmpty)) H
theorem op_neE {X : Cx} (hu : X.A.units < cLine) : OpR X (compareOp .NotEq) rNeE := by
  intro pins s σ H x y v u Q I rx ry h
  obtain ⟨a, b, ks, rfl, rfl, ea, eb, q⟩ := h
  obtain rfl : v = Value.ref a := rx
  obtain rfl : u = Value.ref b := ry
  obtain ⟨_, ya, va, ra, da⟩ := (show ObjOk X.prog X.w H s.heap a (.dK ks) from I.hok a _ ea)
  obtain ⟨_, yb, vb, rb, db⟩ := (show ObjOk X.prog X.w H s.heap b (.dK []) from I.hok b _ eb)
  have l1 : va.length = ks.length := ra.length.symm
  have l2 : vb.length = 0 := by
    have := rb.length
    simpa using this.symm
  refine PySem.W.keq_ne (knd := mixKind X.prog X.w) (r := true) ya yb da db hu (fun hl => ?_) (fin_bl I q ?_)
  · have : ks = [] := List.length_eq_zero_iff.mp (by omega)
    subst this
    exact hits_all rb ra fun p hp => nomatch hp
  · rw [l1, l2]
    cases ks <;> simp
end LT

set_option Elab.async false
set_option linter.all false
set_option maxRecDepth 100000
set_option maxHeartbeats 1600000
namespace K36
open PySem PySem.Spec PyProof.Rows L2 LT NdefX
theorem scWhole : FnScope ["thing"] ["thing"] (defScope s_is_whole) := ⟨rfl, rfl, rfl, by decide +kernel, rfl, by decide +kernel, by decide +kernel⟩
theorem scFrom : FnScope ["thing", "least"] ["thing", "least"] (defScope s_is_from) := ⟨rfl, rfl, rfl, by decide +kernel, rfl, by decide +kernel, by decide +kernel⟩
theorem scParts : FnScope ["many", "most"] ["many", "most"] (defScope s_parts_for) := ⟨rfl, rfl, rfl, by decide +kernel, rfl, by decide +kernel, by decide +kernel⟩
theorem scIs : FnScope ["thing", "letter"] ["thing"] (defScope s_is_name) := ⟨rfl, rfl, rfl, by decide +kernel, rfl, by decide +kernel, by decide +kernel⟩
theorem scInit : FnScope ["self", "seats", "carries", "man"] ["self", "seats", "carries", "man"] (defScope s_Boat___init__) := ⟨rfl, rfl, rfl, by decide +kernel, rfl, by decide +kernel, by decide +kernel⟩
theorem scSeats : FnScope ["self"] ["self"] (defScope s_Boat_seats) := ⟨rfl, rfl, rfl, by decide +kernel, rfl, by decide +kernel, by decide +kernel⟩
theorem scCarries : FnScope ["self"] ["self"] (defScope s_Boat_carries) := ⟨rfl, rfl, rfl, by decide +kernel, rfl, by decide +kernel, by decide +kernel⟩
theorem scMan : FnScope ["self"] ["self"] (defScope s_Boat_man) := ⟨rfl, rfl, rfl, by decide +kernel, rfl, by decide +kernel, by decide +kernel⟩
theorem scRoom : FnScope ["boat"] ["boat"] (defScope s_room_of) := ⟨rfl, rfl, rfl, by decide +kernel, rfl, by decide +kernel, by decide +kernel⟩
theorem scWt : FnScope ["boat", "out", "stores"] ["boat", "out", "stores"] (defScope s_weight_out) := ⟨rfl, rfl, rfl, by decide +kernel, rfl, by decide +kernel, by decide +kernel⟩
theorem scCw : FnScope ["out", "back", "stores"] ["out", "back", "stores"] (defScope s_check_wanted) := ⟨rfl, rfl, rfl, by decide +kernel, rfl, by decide +kernel, by decide +kernel⟩
theorem scSt : FnScope ["thing", "name", "weight"] ["thing"] (defScope s_are_stores) := ⟨rfl, rfl, rfl, by decide +kernel, rfl, by decide +kernel, by decide +kernel⟩
theorem scFw : FnScope ["boat", "out", "back", "stores", "for_weight", "room"] ["boat", "out", "back", "stores"] (defScope s_fewest) := ⟨rfl, rfl, rfl, by decide +kernel, rfl, by decide +kernel, by decide +kernel⟩
def spWhole : Sp := fun vs H Q _ => ∃ v, vs = [v] ∧ Odd H v ∧ Q (.bl (wholeB v)) H
def spFrom : Sp := fun vs H Q _ => ∃ v l, vs = [v, .int l] ∧ Odd H v ∧ Q (.bl (fromB v l)) H
theorem ps_no {X : Cx} {st : Stmt} : PS X st (fun _ _ _ => False) := ⟨fun _ _ _ _ _ _ h => h.elim⟩
theorem small1000 {n : Nat} (h : n ≤ 1000) : n < sizeLine := by rw [sizeLine_eq]; omega
theorem all_true (bs : List Bool) (h : ∀ b ∈ bs, b = true) : bs.all id = true := by
  rw [List.all_eq_true]
  exact fun b hb => h b hb
section
variable {P : Program} {w : World} {K : PySem.W.Frag} {mg : Str → Option Value} {base : Heap}
theorem ok_whole {f : Addr} {fd : FuncData} {k : Nat} (F : Fun K "is_whole" "is_whole" s_is_whole f fd) (T : Tx mg) : FnOk P w K mg base CX0 (k + 1) f fd ["thing"] spWhole := by
  refine F.ok scWhole (fun vs H Q E h => ?_) (fun cdv A outer s H vs Q E hr h => ?_)
  · obtain ⟨v, rfl, _⟩ := h
    rfl
  · obtain ⟨v, rfl, hv, q⟩ := h
    refine ⟨_, pss_one (ps_ret (pe_and (pe_callB call_isi (by rfl) T.isi (by decide +kernel) (pa_cons (pv 0) (pa_cons (pe_bltn (v := .ty "int") (by rfl) T.int (by decide +kernel) rfl) pa_nil)))
      (pe_one (pe_not (pe_callB call_isi (by rfl) T.isi (by decide +kernel) (pa_cons (pv 0) (pa_cons (pe_bltn (v := .ty "bool") (by rfl) T.bool (by decide +kernel) rfl) pa_nil))))))), ?_⟩
    obtain ⟨t, ty, k1, k2⟩ := hv.ty (K := K)
    refine ⟨_, rfl, v, .ty "int", t, _, isInt v, rfl, .ty _, ty, k1, _, rfl, ?_⟩
    rw [← whole_eq v] at q
    cases hb : isInt v with
    | false =>
      rw [hb] at q
      exact q
    | true =>
      rw [hb] at q
      exact ⟨_, rfl, v, .ty "bool", t, _, isBl v, rfl, .ty _, ty, k2, _, rfl, q⟩
theorem ok_from {f fW : Addr} {fd fdW : FuncData} {k : Nat} (F : Fun K "is_from" "is_from" s_is_from f fd) (T : Tx mg) (FW : Has K mg "is_whole" ["thing"] s_is_whole fW fdW) : FnOk P w K mg base CX0 (k + 2) f fd ["thing", "least"] spFrom := by
  have GW : FnOk P w K mg base CX0 (k + 1) fW fdW ["thing"] spWhole := ok_whole FW.fn T
  refine F.ok scFrom (fun vs H Q E h => ?_) (fun cdv A outer s H vs Q E hr h => ?_)
  · obtain ⟨v, l, rfl, _⟩ := h
    rfl
  · obtain ⟨v, l, rfl, hv, q⟩ := h
    refine ⟨_, pss_one (ps_ret (pe_and (pe_call GW hr (by rfl) FW.gl FW.fn.kp FW.bd .nil pass0 (pa_cons (pv 0) pa_nil)) (pe_one (pe_cmpR op_ge (pv 0) (pv 1) (nomark _))))), ?_⟩
    refine ⟨_, rfl, v, rfl, hv, _, rfl, ?_⟩
    cases hv with
    | int i => exact ⟨_, rfl, _, rfl, i, l, rfl, rfl, q⟩
    | _ => exact q
/-! ### parts -/
def spParts : Sp := fun vs H Q _ => ∃ m k : Int, vs = [.int m, .int k] ∧ 0 < k ∧ k.natAbs ≤ 10 ^ 62 ∧ Q (.int ((m + k - 1) / k)) H
theorem ok_parts {f : Addr} {fd : FuncData} {k : Nat} (F : Fun K "parts_for" "parts_for" s_parts_for f fd) : FnOk P w K mg base CX0 (k + 1) f fd ["many", "most"] spParts := by
  refine F.ok scParts (fun vs H Q E h => ?_) (fun cdv A outer s H vs Q E hr h => ?_)
  · obtain ⟨m, k, rfl, _⟩ := h
    rfl
  · obtain ⟨m, k, rfl, k0, k1, q⟩ := h
    refine ⟨_, pss_one (ps_ret (pe_op op_fdivW (pe_op op_sub (pe_op op_add (pv 0) (pv 1)) pe_int) (pv 1))), ?_⟩
    exact ⟨_, rfl, _, rfl, _, _, rfl, rfl, _, _, rfl, rfl, _, rfl, _, _, rfl, rfl, wide_div (b := 210) k0 (Nat.lt_of_le_of_lt k1 (by decide)) (by decide) (by decide), q⟩
/-! ### Boat -/
structure Ct (K : PySem.W.Frag) (mg : Str → Option Value) (C : Addr) : Prop where
  cl : Cls K C
  nS : PySem.W.findIn K (.ref C) "many_seats" = some none
  nW : PySem.W.findIn K (.ref C) "most_weight" = some none
  nM : PySem.W.findIn K (.ref C) "man_weight" = some none
  mgC : mg "Boat" = some (.ref C)
  kC : PySem.W.keepIn K (.ref C) = true
def bf (s c m : V) : List (Str × V) := [("many_seats", s), ("most_weight", c), ("man_weight", m)]
def spInit (C : Addr) : Sp := fun vs H Q _ => ∃ (x dx : Addr) (s c m : Int), vs = [.ref x, .int s, .int c, .int m] ∧ H x = some (.ins C dx []) ∧ 1 ≤ s ∧ 1 ≤ c ∧ 1 ≤ m ∧ Q .non (upd H x (.ins C dx (bf (.int s) (.int c) (.int m))))
theorem ok_init {f fF fW C : Addr} {fd fdF fdW : FuncData} {k : Nat} (F : Fun K "__init__" "Boat.__init__" s_Boat___init__ f fd) (T : Tx mg) (Z : Ct K mg C)
    (FF : Has K mg "is_from" ["thing", "least"] s_is_from fF fdF) (FW : Has K mg "is_whole" ["thing"] s_is_whole fW fdW) : FnOk P w K mg base CX0 (k + 3) f fd ["self", "seats", "carries", "man"] (spInit C) := by
  have GF : FnOk P w K mg base CX0 (k + 2) fF fdF ["thing", "least"] spFrom := ok_from FF.fn T FW
  refine F.ok scInit (fun vs H Q E h => ?_) (fun cdv A outer s H vs Q E hr h => ?_)
  · obtain ⟨x, dx, s, c, m, rfl, _⟩ := h
    rfl
  · obtain ⟨x, dx, sv, cv, mv, rfl, hx, hs, hc, hm, q1⟩ := h
    refine ⟨_, pss_cons (ps_if (pt_not (pt_val (pe_call GF hr (by rfl) FF.gl FF.fn.kp FF.bd .nil pass0 (pa_cons (pv 1) (pa_cons pe_int pa_nil))))) (pss_one ps_no) pss_nil)
      (pss_cons (ps_if (pt_not (pt_val (pe_call GF hr (by rfl) FF.gl FF.fn.kp FF.bd .nil pass0 (pa_cons (pv 2) (pa_cons pe_int pa_nil))))) (pss_one ps_no) pss_nil)
      (pss_cons (ps_if (pt_not (pt_val (pe_call GF hr (by rfl) FF.gl FF.fn.kp FF.bd .nil pass0 (pa_cons (pv 3) (pa_cons pe_int pa_nil))))) (pss_one ps_no) pss_nil)
      (pss_cons (ps_fld (pv 0) (pv 1) rfl) (pss_cons (ps_fld (pv 0) (pv 2) rfl) (pss_one (ps_fld (pv 0) (pv 3) rfl)))))), ?_⟩
    refine ⟨_, rfl, .int sv, 1, rfl, .int sv, _, rfl, ?_⟩
    rw [show fromB (.int sv) 1 = true from decide_eq_true hs]
    refine ⟨_, rfl, .int cv, 1, rfl, .int cv, _, rfl, ?_⟩
    rw [show fromB (.int cv) 1 = true from decide_eq_true hc]
    refine ⟨_, rfl, .int mv, 1, rfl, .int mv, _, rfl, ?_⟩
    rw [show fromB (.int mv) 1 = true from decide_eq_true hm]
    refine ⟨_, rfl, _, rfl, x, C, dx, _, rfl, hx, Z.cl, Z.nS, (by decide), ?_⟩
    refine ⟨_, rfl, _, rfl, x, C, dx, _, rfl, upd_same, Z.cl, Z.nW, (by show 1 < 1000; decide), ?_⟩
    refine ⟨_, rfl, _, rfl, x, C, dx, _, rfl, upd_same, Z.cl, Z.nM, (by show 2 < 1000; decide), ?_⟩
    rw [upd_upd, upd_upd]
    exact q1
/-- a method that tells a field -/
def spGet (C : Addr) (g : V → V → V → V) : Sp := fun vs H Q _ => ∃ x dx s c m, vs = [.ref x] ∧ H x = some (.ins C dx (bf s c m)) ∧ Q (g s c m) H
theorem ok_seats {f : Addr} {fd : FuncData} {k : Nat} (F : Fun K "seats" "Boat.seats" s_Boat_seats f fd) (Z : Ct K mg C) : FnOk P w K mg base CX0 (k + 1) f fd ["self"] (spGet C fun s _ _ => s) := by
  refine F.ok scSeats (fun vs H Q E h => ?_) (fun cdv A outer s H vs Q E hr h => ?_)
  · obtain ⟨x, dx, s, c, m, rfl, _⟩ := h
    rfl
  · obtain ⟨x, dx, s, c, m, rfl, hx, q⟩ := h
    exact ⟨_, pss_one (ps_ret (pe_fld (pv 0) rfl)), _, rfl, x, C, dx, _, _, rfl, hx, Z.cl, Z.nS, (by unfold bf; rfl), q⟩
theorem ok_carries {f : Addr} {fd : FuncData} {k : Nat} (F : Fun K "carries" "Boat.carries" s_Boat_carries f fd) (Z : Ct K mg C) : FnOk P w K mg base CX0 (k + 1) f fd ["self"] (spGet C fun _ c _ => c) := by
  refine F.ok scCarries (fun vs H Q E h => ?_) (fun cdv A outer s H vs Q E hr h => ?_)
  · obtain ⟨x, dx, s, c, m, rfl, _⟩ := h
    rfl
  · obtain ⟨x, dx, s, c, m, rfl, hx, q⟩ := h
    exact ⟨_, pss_one (ps_ret (pe_fld (pv 0) rfl)), _, rfl, x, C, dx, _, _, rfl, hx, Z.cl, Z.nW, (by unfold bf; rfl), q⟩
theorem ok_man {f : Addr} {fd : FuncData} {k : Nat} (F : Fun K "man" "Boat.man" s_Boat_man f fd) (Z : Ct K mg C) : FnOk P w K mg base CX0 (k + 1) f fd ["self"] (spGet C fun _ _ m => m) := by
  refine F.ok scMan (fun vs H Q E h => ?_) (fun cdv A outer s H vs Q E hr h => ?_)
  · obtain ⟨x, dx, s, c, m, rfl, _⟩ := h
    rfl
  · obtain ⟨x, dx, s, c, m, rfl, hx, q⟩ := h
    exact ⟨_, pss_one (ps_ret (pe_fld (pv 0) rfl)), _, rfl, x, C, dx, _, _, rfl, hx, Z.cl, Z.nM, (by unfold bf; rfl), q⟩
/-- a boat stands at x -/
structure Bt (C : Addr) (H : Hp) (x : Addr) (s c m : Int) : Prop where
  at_ : ∃ dx, H x = some (.ins C dx (bf (.int s) (.int c) (.int m)))
  s1 : 1 ≤ s
  c1 : 1 ≤ c
  m1 : 1 ≤ m
  s2 : s ≤ 10 ^ 40
  c2 : c ≤ 10 ^ 40
  m2 : m ≤ 10 ^ 40
theorem Bt.mono {C : Addr} {H H' : Hp} {x : Addr} {s c m : Int} (h : Bt C H x s c m) (e : Same H H') : Bt C H' x s c m := by
  obtain ⟨⟨dx, h1⟩, a, b, c, d, e', f⟩ := h
  exact ⟨⟨dx, e _ _ h1⟩, a, b, c, d, e', f⟩
theorem bf_no {a b c : V} {m : Str} (h1 : m ≠ "many_seats") (h2 : m ≠ "most_weight") (h3 : m ≠ "man_weight") : (bf a b c).lookup m = none := by
  unfold bf
  rw [List.lookup_cons, show (m == ("many_seats" : Str)) = false from beq_eq_false_iff_ne.mpr h1, List.lookup_cons, show (m == ("most_weight" : Str)) = false from beq_eq_false_iff_ne.mpr h2, List.lookup_cons, show (m == ("man_weight" : Str)) = false from beq_eq_false_iff_ne.mpr h3]
  rfl
theorem g1 {a b c : V} : (bf a b c).lookup ("seats" : Str) = none := bf_no (by decide +kernel) (by decide +kernel) (by decide +kernel)
theorem g2 {a b c : V} : (bf a b c).lookup ("carries" : Str) = none := bf_no (by decide +kernel) (by decide +kernel) (by decide +kernel)
theorem g3 {a b c : V} : (bf a b c).lookup ("man" : Str) = none := bf_no (by decide +kernel) (by decide +kernel) (by decide +kernel)
def roomI (s c m : Int) : Int := if c / m < s then c / m else s
def spRoom (C : Addr) : Sp := fun vs H Q _ => ∃ (x : Addr) (s c m : Int), vs = [.ref x] ∧ Bt C H x s c m ∧ Q (.int (roomI s c m)) H
/-- the three methods -/
structure M3 (K : PySem.W.Frag) (C : Addr) (f1 f2 f3 : Addr) (fd1 fd2 fd3 : FuncData) : Prop where
  se : Mth K C "seats" "Boat.seats" ["self"] s_Boat_seats f1 fd1
  ca : Mth K C "carries" "Boat.carries" ["self"] s_Boat_carries f2 fd2
  mn : Mth K C "man" "Boat.man" ["self"] s_Boat_man f3 fd3
theorem ok_room {f f1 f2 f3 C : Addr} {fd fd1 fd2 fd3 : FuncData} {k : Nat} (F : Fun K "room_of" "room_of" s_room_of f fd) (T : Tx mg) (Z : Ct K mg C) (M : M3 K C f1 f2 f3 fd1 fd2 fd3) : FnOk P w K mg base CX0 (k + 2) f fd ["boat"] (spRoom C) := by
  have G1 : FnOk P w K mg base CX0 (k + 1) f1 fd1 ["self"] (spGet C fun s _ _ => s) := ok_seats M.se.fn Z
  have G2 : FnOk P w K mg base CX0 (k + 1) f2 fd2 ["self"] (spGet C fun _ c _ => c) := ok_carries M.ca.fn Z
  have G3 : FnOk P w K mg base CX0 (k + 1) f3 fd3 ["self"] (spGet C fun _ _ m => m) := ok_man M.mn.fn Z
  refine F.ok scRoom (fun vs H Q E h => ?_) (fun cdv A outer s H vs Q E hr h => ?_)
  · obtain ⟨x, s, c, m, rfl, _⟩ := h
    rfl
  · obtain ⟨x, s, c, m, rfl, B, q⟩ := h
    obtain ⟨dx, hx⟩ := B.at_
    have := B.m1
    have := B.m2
    refine ⟨_, pss_one (ps_ret (pe_callB (call_min2 rfl) (by rfl) T.min (by decide +kernel) (pa_cons (pe_meth0 (pv 0) Z.cl M.se.me G1 hr M.se.bd .nil pass0)
      (pa_cons (pe_op op_fdivW (pe_meth0 (pv 0) Z.cl M.ca.me G2 hr M.ca.bd .nil pass0) (pe_meth0 (pv 0) Z.cl M.mn.me G3 hr M.mn.bd .nil pass0)) pa_nil)))), ?_⟩
    refine ⟨_, rfl, x, dx, _, rfl, hx, g1, x, dx, _, _, _, rfl, hx, _, rfl, x, dx, _, rfl, hx, g2, x, dx, _, _, _, rfl, hx, _, rfl, x, dx, _, rfl, hx, g3, x, dx, _, _, _, rfl, hx, _, _, rfl, rfl,
      wide_div (b := 210) (by omega) (Nat.lt_of_le_of_lt (show m.natAbs ≤ 10 ^ 40 by omega) (by decide)) (by decide) (by decide), _, _, rfl, q⟩
def spWt (C : Addr) : Sp := fun vs H Q _ => ∃ (x : Addr) (s c m o k : Int) (v : V), vs = [.ref x, .int o, v] ∧ Bt C H x s c m ∧ 0 ≤ o ∧ o ≤ 10 ^ 60 ∧ StV H v k ∧ Q (.int (o * m + k)) H
theorem ok_wt {f f1 f2 f3 C : Addr} {fd fd1 fd2 fd3 : FuncData} {k : Nat} (F : Fun K "weight_out" "weight_out" s_weight_out f fd) (T : Tx mg) (Z : Ct K mg C) (M : M3 K C f1 f2 f3 fd1 fd2 fd3) : FnOk P w K mg base CX0 (k + 2) f fd ["boat", "out", "stores"] (spWt C) := by
  have G3 : FnOk P w K mg base CX0 (k + 1) f3 fd3 ["self"] (spGet C fun _ _ m => m) := ok_man M.mn.fn Z
  refine F.ok scWt (fun vs H Q E h => ?_) (fun cdv A outer s H vs Q E hr h => ?_)
  · obtain ⟨x, s, c, m, o, k, v, rfl, _⟩ := h
    rfl
  · obtain ⟨x, s, c, m, o, k, v, rfl, B, o0, o1, hs, q⟩ := h
    obtain ⟨dx, hx⟩ := B.at_
    have := B.m1
    have := B.m2
    refine ⟨_, pss_one (ps_ret (pe_op op_add (pe_op op_mulW (pv 1) (pe_meth0 (pv 0) Z.cl M.mn.me G3 hr M.mn.bd .nil pass0)) (pe_ifExp (pt_cmpR op_isN (pv 2) pe_non (nomark _)) pe_int (pe_sumVals rfl (by rfl) T.sum (pv 2))))), ?_⟩
    refine ⟨_, rfl, _, rfl, x, dx, _, rfl, hx, g3, x, dx, _, _, _, rfl, hx, _, _, rfl, rfl, wide_mul (a := 210) (b := 210) (Nat.lt_of_le_of_lt (show o.natAbs ≤ 10 ^ 60 by omega) (by decide)) (Nat.lt_of_le_of_lt (show m.natAbs ≤ 10 ^ 40 by omega) (by decide)) (by decide) (by decide) (by decide), ?_⟩
    refine ⟨_, rfl, rfl, _, rfl, ?_⟩
    cases hs with
    | non => exact ⟨_, _, rfl, rfl, q⟩
    | @dict d kvs e hk hl =>
      rw [decide_eq_false (show ¬ V.ref d = V.non from nofun)]
      exact ⟨_, rfl, d, _, _, rfl, e, sd_vals kvs, _, _, rfl, rfl, q⟩
end
end K36

set_option Elab.async false
set_option linter.all false
set_option maxRecDepth 100000
set_option maxHeartbeats 1600000
namespace K36
open PySem PySem.Spec PyProof.Rows L2 LT NdefX
/-- the module's constants -/
structure Cs (mg : Str → Option Value) : Prop where
  sl : ∃ t, mg "SMALL_LETTERS" = some (.str (Str.ofString "abcdefghijklmnopqrstuvwxyz") t)
  ln : ∃ t, mg "LONGEST_NAME" = some (.int 8 t)
  mt : ∃ t, mg "MOST_THINGS" = some (.int 8 t)
section
variable {P : Program} {w : World} {K : PySem.W.Frag} {mg : Str → Option Value} {base : Heap} {C CS : Addr}
def spIs : Sp := fun vs H Q _ => ∃ z, vs = [.str z] ∧ Nm z ∧ ∀ H', Same H H' → Q (.bl true) H'
theorem ok_is {f : Addr} {fd : FuncData} {k : Nat} (F : Fun K "is_name" "is_name" s_is_name f fd) (T : Tx mg) (S : Cs mg) : FnOk P w K mg base CX0 (k + 1) f fd ["thing"] spIs := by
  obtain ⟨⟨tS, gS⟩, ⟨tL, gL⟩, _⟩ := S
  refine F.ok scIs (fun vs H Q E h => ?_) (fun cdv A outer s H vs Q E hr h => ?_)
  · obtain ⟨v, rfl, _⟩ := h
    rfl
  · obtain ⟨z, rfl, hz, q⟩ := h
    have nd := scIs.nd
    refine ⟨_, pss_cons (ps_if (pt_not (pt_val (pe_callB call_isi (by rfl) T.isi (by decide +kernel) (pa_cons (pv 0) (pa_cons (pe_bltn (v := .ty "str") (by rfl) T.str (by decide +kernel) rfl) pa_nil))))) (pss_one (ps_ret pe_bl)) pss_nil)
      (pss_cons (ps_if (pt_not (pt_chain op_le op_le pe_int (pe_callB call_len_str (by rfl) T.len PySem.boot_len (pa_cons (pv 0) pa_nil)) (pe_glob (v := .int 8) (by rfl) gL ⟨_, rfl⟩))) (pss_one (ps_ret pe_bl)) pss_nil)
      (pss_one (ps_ret (pe_callB (cr_all rfl) (by rfl) T.all (by decide +kernel) (pa_cons
        (pe_lc (own := [("letter", 1)]) (g := gName 1) (tt := tYes) rfl nd (pi_str (pv 0)) (blkOk_by (N := ["thing", "letter"]) (sc := defScope s_is_name) (by decide +kernel))
          (fun _ _ _ _ _ => pg_name (i := 1) nd rfl (Or.inl rfl)) (fun _ _ _ _ _ => pts_nil)
          (fun _ _ _ _ _ => pe_cmpR op_in_sign (pv 1) (pe_glob (v := .str "abcdefghijklmnopqrstuvwxyz") (by rfl) gS ⟨_, rfl⟩) (by rfl))) pa_nil))))), ?_⟩
    have l1 := hz.l1
    have l8 := hz.l8
    refine ⟨_, rfl, .str z, .ty "str", _, _, true, rfl, .ty _, .base (.str z), kit_ty (show kitB "str" "str" = some true by decide +kernel), _, rfl, ?_⟩
    refine ⟨_, rfl, z, rfl, Nat.le_of_lt (small1000 (by omega)), _, _, rfl, rfl, _, rfl, ?_⟩
    rw [if_pos (decide_eq_true (show (1 : Int) ≤ (z.length : Nat) by omega))]
    refine ⟨_, _, rfl, rfl, _, rfl, ?_⟩
    rw [decide_eq_true (show ((z.length : Nat) : Int) ≤ 8 by omega)]
    refine ⟨_, rfl, z, rfl, fun D nD => ?_⟩
    refine lc_it walk_str (fun i H' => Same H H' ∧ H' D = some (.lst (List.replicate i (.bl true)))) ⟨same_upd nD, upd_same⟩ (fun _ _ _ _ => trivial) ?_ ?_
    · rintro i x H1 H2 hi ⟨sm, eD⟩ ⟨rfl, c, hc, rfl⟩
      have hm := hz.al c (by
        have : z.cps.toList[i]? = some c := by rw [Array.getElem?_toList]; exact hc
        exact List.mem_of_getElem? this)
      refine ⟨rfl, _, rfl, c, _, rfl, rfl, ?_⟩
      rw [small_mem, hm]
      refine ⟨_, eD, ?_, same_app nD sm, ?_⟩
      · rw [List.length_replicate]
        have hsz : z.cps.size = z.length := rfl
        exact small1000 (by omega)
      · rw [upd_same, List.replicate_succ']
    · rintro H2 ⟨sm, eD⟩
      refine ⟨D, List.replicate _ true, rfl, SqL.of (by rw [List.map_replicate]; exact eD), ?_⟩
      rw [all_true _ fun b hb => List.eq_of_mem_replicate hb]
      exact q H2 sm
/-! ### stores -/
def spSt : Sp := fun vs H Q _ => ∃ (d : Addr) (kvs : List (Str × Int)), vs = [.ref d] ∧ H d = some (.dK (sd kvs)) ∧ Kv kvs ∧ kvs.length ≤ 8 ∧ ∀ H', Same H H' → Q (.bl true) H'
theorem ok_st {f fN fF fW : Addr} {fd fdN fdF fdW : FuncData} {k : Nat} (F : Fun K "are_stores" "are_stores" s_are_stores f fd) (T : Tx mg) (S : Cs mg) (FN : Has K mg "is_name" ["thing"] s_is_name fN fdN)
    (FF : Has K mg "is_from" ["thing", "least"] s_is_from fF fdF) (FW : Has K mg "is_whole" ["thing"] s_is_whole fW fdW) : FnOk P w K mg base CX0 (k + 3) f fd ["thing"] spSt := by
  have GN : FnOk P w K mg base CX0 (k + 1) fN fdN ["thing"] spIs := ok_is FN.fn T S
  have GF : FnOk P w K mg base CX0 (k + 2) fF fdF ["thing", "least"] spFrom := ok_from FF.fn T FW
  obtain ⟨_, _, ⟨tM, gM⟩⟩ := S
  refine F.ok scSt (fun vs H Q E h => ?_) (fun cdv A outer s H vs Q E hr h => ?_)
  · obtain ⟨d, kvs, rfl, _⟩ := h
    rfl
  · obtain ⟨d, kvs, rfl, hd, hk, hl, q⟩ := h
    have nd := scSt.nd
    have hr1 : Room (k + 1) _ := hr.mono (by omega)
    refine ⟨_, pss_cons (ps_if (PW.pt (pw_or (pt_not (pt_val (pe_callB call_isi (by rfl) T.isi (by decide +kernel) (pa_cons (pv 0) (pa_cons (pe_bltn (v := .ty "dict") (by rfl) T.dict (by decide +kernel) rfl) pa_nil)))))
        (pw_or1 (pt_cmpR op_gt (pe_callB call_lenD (by rfl) T.len PySem.boot_len (pa_cons (pv 0) pa_nil)) (pe_glob (v := .int 8) (by rfl) gM ⟨_, rfl⟩) (nomark _))))) (pss_one (ps_ret pe_bl)) pss_nil)
      (pss_one (ps_ret (pe_callB (cr_all rfl) (by rfl) T.all (by decide +kernel) (pa_cons
        (pe_lock (pe_lc (own := [("name", 1), ("weight", 2)]) (g := gTup K 2 (gCons (gName 1) (gCons (gName 2) gNil))) (tt := tYes) rfl nd (pi_items (pv 0)) (blkOk_by (N := ["thing", "name", "weight"]) (sc := defScope s_are_stores) (by decide +kernel))
          (fun _ _ _ _ _ => pg_tup rfl (pgs_cons (pg_name (i := 1) nd rfl (.inl rfl)) (pgs_cons (pg_name (i := 2) nd rfl (.inl rfl)) pgs_nil))) (fun _ _ _ _ _ => pts_nil)
          (fun _ _ _ _ _ => pe_and (pe_call GN hr1 (by rfl) FN.gl FN.fn.kp FN.bd .nil pass0 (pa_cons (pv 1) pa_nil)) (pe_one (pe_call GF hr (by rfl) FF.gl FF.fn.kp FF.bd .nil pass0 (pa_cons (pv 2) (pa_cons pe_int pa_nil))))))) pa_nil)))), ?_⟩
    refine ⟨_, rfl, .ref d, .ty "dict", _, _, true, rfl, .ty _, .base (.dK hd), kit_ty (show kitB "dict" "dict" = some true by decide +kernel), _, rfl, ?_⟩
    refine ⟨_, rfl, d, _, rfl, hd, _, _, rfl, rfl, _, rfl, ?_⟩
    rw [decide_eq_false (show ¬ ((sd kvs).length : Int) > 8 by rw [sd_len]; omega)]
    refine ⟨d, _, hd, trivial, fun od => ?_⟩
    refine ⟨_, rfl, d, od, sd kvs, rfl, upd_same, fun D nD => ?_⟩
    have hlk := upd_same (H := H) (a := d) (o := .frz od (.dK (sd kvs)))
    have back : ∀ {Hx : Hp}, Same (upd H d (.frz od (.dK (sd kvs)))) Hx → Same H (upd Hx d (.dK (sd kvs))) := fun {Hx} s b o e => by
      by_cases hb : b = d
      · subst hb
        rw [upd_same, ← e, hd]
      · rw [upd_ne hb]
        exact s _ _ (by rw [upd_ne hb]; exact e)
    generalize upd H d (.frz od (.dK (sd kvs))) = H1 at *
    refine lc_it walk_items (fun i H' => Same H1 H' ∧ H' D = some (.lst (List.replicate i (.bl true)))) ⟨same_upd nD, upd_same⟩ (fun i H' _ h => h.1 _ _ hlk) ?_ ?_
    · rintro i x H2 H2' hi ⟨sm, eD⟩ ⟨T1, kx, vx, rfl, nT, rfl, h1, h2⟩
      have hi2 : i < kvs.length := by rw [sd_len] at hi; exact hi
      have eg : (sd kvs)[i]? = some (Sum.inr kvs[i].1, V.int kvs[i].2) := by
        unfold sd
        rw [List.getElem?_map, List.getElem?_eq_getElem hi2]
        rfl
      have h1' : kx = .str kvs[i].1 := by
        have h1 : ((sd kvs)[i]?.map fun kv => kV kv.1) = some kx := h1
        rw [eg] at h1
        exact (Option.some.inj h1).symm
      have h2' : vx = .int kvs[i].2 := by
        have h2 : ((sd kvs)[i]?.map Prod.snd) = some vx := h2
        rw [eg] at h2
        exact (Option.some.inj h2).symm
      subst h1' h2'
      have s2 := same_upd (o := .tup [V.str kvs[i].1, .int kvs[i].2]) nT
      refine ⟨T1, _, rfl, SqT.of upd_same, rfl, _, _, rfl, _, _, rfl, rfl, rfl, ?_⟩
      refine ⟨_, rfl, kvs[i].1, rfl, hk.nm _ (List.getElem_mem hi2), fun H3 s3 => ⟨_, rfl, ?_⟩⟩
      refine ⟨_, rfl, .int kvs[i].2, 1, rfl, .int _, ?_⟩
      rw [show fromB (.int kvs[i].2) 1 = true from decide_eq_true (hk.w1 _ (List.getElem_mem hi2))]
      have sA := s2.trans s3
      refine ⟨_, sA _ _ eD, ?_, same_app nD (sm.trans sA), ?_⟩
      · rw [List.length_replicate]
        exact small1000 (by omega)
      · rw [upd_same, List.replicate_succ']
    · rintro H2 ⟨sm, eD⟩
      refine ⟨sm _ _ hlk, ?_⟩
      have nDd : D ≠ d := fun e => by rw [e, hlk] at nD; cases nD
      refine ⟨D, List.replicate (sd kvs).length true, rfl, SqL.of (by rw [upd_ne nDd, List.map_replicate]; exact eD), ?_⟩
      rw [all_true _ fun b hb => List.eq_of_mem_replicate hb]
      exact q _ (back sm)
def spCw : Sp := fun vs H Q _ => ∃ (o b k : Int) (v : V), vs = [.int o, .int b, v] ∧ 0 ≤ o ∧ 0 ≤ b ∧ StV H v k ∧ ∀ H', Same H H' → Q .non H'
theorem ok_cw {f fS fN fF fW : Addr} {fd fdS fdN fdF fdW : FuncData} {k : Nat} (F : Fun K "check_wanted" "check_wanted" s_check_wanted f fd) (T : Tx mg) (S : Cs mg) (FS : Has K mg "are_stores" ["thing"] s_are_stores fS fdS) (FN : Has K mg "is_name" ["thing"] s_is_name fN fdN)
    (FF : Has K mg "is_from" ["thing", "least"] s_is_from fF fdF) (FW : Has K mg "is_whole" ["thing"] s_is_whole fW fdW) : FnOk P w K mg base CX0 (k + 4) f fd ["out", "back", "stores"] spCw := by
  have GF : FnOk P w K mg base CX0 (k + 2) fF fdF ["thing", "least"] spFrom := ok_from FF.fn T FW
  have GS : FnOk P w K mg base CX0 (k + 3) fS fdS ["thing"] spSt := ok_st FS.fn T S FN FF FW
  refine F.ok scCw (fun vs H Q E h => ?_) (fun cdv A outer s H vs Q E hr h => ?_)
  · obtain ⟨o, b, k, v, rfl, _⟩ := h
    rfl
  · obtain ⟨o, b, k', v, rfl, o0, b0, hs, q⟩ := h
    have hr2 : Room (k + 2) _ := hr.mono (by omega)
    refine ⟨_, pss_cons (ps_if (PW.pt (pw_or (pt_not (pt_val (pe_call GF hr2 (by rfl) FF.gl FF.fn.kp FF.bd .nil pass0 (pa_cons (pv 0) (pa_cons pe_int pa_nil)))))
        (pw_or1 (pt_not (pt_val (pe_call GF hr2 (by rfl) FF.gl FF.fn.kp FF.bd .nil pass0 (pa_cons (pv 1) (pa_cons pe_int pa_nil)))))))) (pss_one ps_no) pss_nil)
      (pss_one (ps_if (PW.pt (pw_and (pt_cmpR op_notN (pv 2) pe_non (nomark _)) (pw_and1 (pt_not (pt_val (pe_call GS hr (by rfl) FS.gl FS.fn.kp FS.bd .nil pass0 (pa_cons (pv 2) pa_nil))))))) (pss_one ps_no) pss_nil)), ?_⟩
    refine ⟨_, rfl, .int o, 0, rfl, .int o, _, rfl, ?_⟩
    rw [show fromB (.int o) 0 = true from decide_eq_true o0]
    refine ⟨_, rfl, .int b, 0, rfl, .int b, _, rfl, ?_⟩
    rw [show fromB (.int b) 0 = true from decide_eq_true b0]
    refine ⟨_, rfl, rfl, _, rfl, ?_⟩
    cases hs with
    | non => exact q H (Same.refl H)
    | @dict d kvs e hk hl =>
      rw [decide_eq_false (show ¬ V.ref d = V.non from nofun)]
      refine ⟨_, rfl, d, kvs, rfl, e, hk, hl, fun H' s' => ⟨_, rfl, ?_⟩⟩
      exact q H' s'
/-! ### fewest -/
def partsI (m k : Int) : Int := (m + k - 1) / k
def maxI (a b : Int) : Int := if b > a then b else a
def fewI (s c m o b k : Int) : Option Int := if o = 0 ∧ b = 0 then some (partsI (o * m + k) c) else if roomI s c m = 0 then none else some (maxI (partsI (maxI o b) (roomI s c m)) (partsI (o * m + k) c))
def spFw (C CS : Addr) : Sp := fun vs H Q E => ∃ (x : Addr) (s c m o b k : Int) (v : V), vs = [.ref x, .int o, .int b, v] ∧ Bt C H x s c m ∧ 0 ≤ o ∧ o ≤ 10 ^ 60 ∧ 0 ≤ b ∧ b ≤ 10 ^ 60 ∧ StV H v k ∧
  (fewI s c m o b k = none → ∀ H', Same H H' → E (.ref CS) none H') ∧ (∀ n, fewI s c m o b k = some n → ∀ H', Same H H' → Q (.int n) H')
theorem room_bd {s c m : Int} (hs : 1 ≤ s) (hc : 1 ≤ c) (hm : 1 ≤ m) : 0 ≤ roomI s c m ∧ roomI s c m ≤ s := by
  unfold roomI
  have := Int.ediv_nonneg (show 0 ≤ c by omega) (show 0 ≤ m by omega)
  split <;> omega
abbrev FwFn (K : PySem.W.Frag) (f : Addr) (fd : FuncData) : Prop := FunD K "fewest" "fewest" (defArgs s_fewest) (defBody s_fewest) (defScope s_fewest) [.int 0, .non] [] f fd
theorem ok_fw {f fR fT fP fC fS fN fF fW f1 f2 f3 : Addr} {fd fdR fdT fdP fdC fdS fdN fdF fdW fd1 fd2 fd3 : FuncData} {k : Nat} (F : FwFn K f fd) (T : Tx mg) (S : Cs mg) (Z : Ct K mg C) (U : Ev K mg "Small" CS) (M : M3 K C f1 f2 f3 fd1 fd2 fd3)
    (FR : Has K mg "room_of" ["boat"] s_room_of fR fdR) (FT : Has K mg "weight_out" ["boat", "out", "stores"] s_weight_out fT fdT) (FP : Has K mg "parts_for" ["many", "most"] s_parts_for fP fdP) (FC : Has K mg "check_wanted" ["out", "back", "stores"] s_check_wanted fC fdC)
    (FS : Has K mg "are_stores" ["thing"] s_are_stores fS fdS) (FN : Has K mg "is_name" ["thing"] s_is_name fN fdN) (FF : Has K mg "is_from" ["thing", "least"] s_is_from fF fdF) (FW : Has K mg "is_whole" ["thing"] s_is_whole fW fdW) :
    FnOk P w K mg base (L2.CX P w) (k + 5) f fd ["boat", "out", "back", "stores"] (spFw C CS) := by
  have GR : FnOk P w K mg base CX0 (k + 2) fR fdR ["boat"] (spRoom C) := ok_room FR.fn T Z M
  have GT : FnOk P w K mg base CX0 (k + 2) fT fdT ["boat", "out", "stores"] (spWt C) := ok_wt FT.fn T Z M
  have GP : FnOk P w K mg base CX0 (k + 1) fP fdP ["many", "most"] spParts := ok_parts FP.fn
  have GC : FnOk P w K mg base CX0 (k + 4) fC fdC ["out", "back", "stores"] spCw := ok_cw FC.fn T S FS FN FF FW
  have G2 : FnOk P w K mg base CX0 (k + 1) f2 fd2 ["self"] (spGet C fun _ c _ => c) := ok_carries M.ca.fn Z
  refine F.ok scFw (fun vs H Q E h => ?_) (fun cdv A outer s H vs Q E hr h => ?_)
  · obtain ⟨x, s, c, m, o, b, k, v, rfl, _⟩ := h
    rfl
  · obtain ⟨x, s, c, m, o, b, k', v, rfl, B, o0, o1, b0, b1, hs, q1, q2⟩ := h
    have nd := scFw.nd
    have hr2 : Room (k + 2) _ := hr.mono (by omega)
    have hr1 : Room (k + 1) _ := hr.mono (by omega)
    refine ⟨_, pss_cons (ps_expr (pe_call GC hr (by rfl) FC.gl FC.fn.kp FC.bd .nil pass0 (pa_cons (pv 1) (pa_cons (pv 2) (pa_cons (pv 3) pa_nil)))))
      (pss_cons (ps_set (i := 4) nd rfl (.inl rfl) (pe_call GP hr1 (by rfl) FP.gl FP.fn.kp FP.bd .nil pass0 (pa_cons (pe_call GT hr2 (by rfl) FT.gl FT.fn.kp FT.bd .nil pass0 (pa_cons (pv 0) (pa_cons (pv 1) (pa_cons (pv 3) pa_nil)))) (pa_cons (pe_meth0 (pv 0) Z.cl M.ca.me G2 hr1 M.ca.bd .nil pass0) pa_nil))))
      (pss_cons (ps_if (PW.pt (pw_and (pt_cmpR op_eq (pv 1) pe_int (nomark _)) (pw_and1 (pt_cmpR op_eq (pv 2) pe_int (nomark _))))) (pss_one (ps_ret (pv 4))) pss_nil)
      (pss_cons (ps_set (i := 5) nd rfl (.inl rfl) (pe_call GR hr2 (by rfl) FR.gl FR.fn.kp FR.bd .nil pass0 (pa_cons (pv 0) pa_nil)))
      (pss_cons (ps_if (pt_cmpR op_eq (pv 5) pe_int (nomark _)) (pss_one (ps_raise rfl (takes_of rfl rfl rfl rfl) (pmk_own PySem.F.excBase_ValueError U.x U.g U.k (raises_own U.b U.t) (by rfl)))) pss_nil)
      (pss_one (ps_ret (pe_callB (call_max2 rfl) (by rfl) T.max (by decide +kernel) (pa_cons (pe_call GP hr1 (by rfl) FP.gl FP.fn.kp FP.bd .nil pass0 (pa_cons (pe_callB (call_max2 rfl) (by rfl) T.max (by decide +kernel) (pa_cons (pv 1) (pa_cons (pv 2) pa_nil))) (pa_cons (pv 5) pa_nil))) (pa_cons (pv 4) pa_nil))))))))), ?_⟩
    refine ⟨_, rfl, _, rfl, _, rfl, o, b, k', v, rfl, o0, b0, hs, fun H1 s1 => ?_⟩
    have B1 := B.mono s1
    obtain ⟨dx, hx⟩ := B1.at_
    have hc1 := B.c1
    have hc2 := B.c2
    obtain ⟨rm0, rm1⟩ := room_bd B.s1 B.c1 B.m1
    have hs2 := B.s2
    refine ⟨_, rfl, _, rfl, _, rfl, x, s, c, m, o, k', v, rfl, B1, o0, o1, hs.mono s1, _, rfl, x, dx, _, rfl, hx, g2, x, dx, _, _, _, rfl, hx, _, _, rfl, by omega, by omega, ?_⟩
    refine ⟨_, rfl, rfl, _, rfl, ?_⟩
    by_cases ho : o = 0
    · rw [decide_eq_true (show V.int o = V.int 0 by rw [ho])]
      refine ⟨_, rfl, rfl, _, rfl, ?_⟩
      by_cases hb : b = 0
      · rw [decide_eq_true (show V.int b = V.int 0 by rw [hb])]
        exact ⟨_, rfl, q2 _ (by unfold fewI; rw [if_pos ⟨ho, hb⟩]; rfl) H1 s1⟩
      · rw [decide_eq_false (show ¬ V.int b = V.int 0 from fun e => hb (V.int.inj e))]
        refine ⟨_, rfl, x, s, c, m, rfl, B1, _, rfl, rfl, _, rfl, ite2 (fun e => ?_) (fun e => ?_)⟩
        · have e0 : roomI s c m = 0 := V.int.inj (of_decide_eq_true e)
          exact q1 (by unfold fewI; rw [if_neg (fun z => hb z.2), if_pos e0]) H1 s1
        · have e0 : ¬ roomI s c m = 0 := fun z => e (decide_eq_true (by rw [z]))
          refine ⟨_, rfl, _, rfl, _, _, rfl, _, rfl, _, _, rfl, by omega, by omega, _, rfl, _, _, rfl, ?_⟩
          exact q2 _ (by unfold fewI; rw [if_neg (fun z => hb z.2), if_neg e0]; rfl) H1 s1
    · rw [decide_eq_false (show ¬ V.int o = V.int 0 from fun e => ho (V.int.inj e))]
      refine ⟨_, rfl, x, s, c, m, rfl, B1, _, rfl, rfl, _, rfl, ite2 (fun e => ?_) (fun e => ?_)⟩
      · have e0 : roomI s c m = 0 := V.int.inj (of_decide_eq_true e)
        exact q1 (by unfold fewI; rw [if_neg (fun z => ho z.1), if_pos e0]) H1 s1
      · have e0 : ¬ roomI s c m = 0 := fun z => e (decide_eq_true (by rw [z]))
        refine ⟨_, rfl, _, rfl, _, _, rfl, _, rfl, _, _, rfl, by omega, by omega, _, rfl, _, _, rfl, ?_⟩
        exact q2 _ (by unfold fewI; rw [if_neg (fun z => ho z.1), if_neg e0]; rfl) H1 s1
end
end K36

set_option Elab.async false
set_option linter.all false
set_option maxRecDepth 100000
set_option maxHeartbeats 1600000
namespace K36
open PySem PySem.Spec PyProof.Rows L2 LT NdefX
theorem scCell : FnScope ["_law_script", "_law_k"] ["_law_script", "_law_k"] (defScope s__law_cell) := ⟨rfl, rfl, rfl, by decide +kernel, rfl, by decide +kernel, by decide +kernel⟩
theorem scPot : FnScope ["_law_script", "_law_k", "_law_cell_here"] ["_law_script", "_law_k"] (defScope s__law_pot) := ⟨rfl, rfl, rfl, by decide +kernel, rfl, by decide +kernel, by decide +kernel⟩
section
variable {P : Program} {w : World} {K : PySem.W.Frag} {mg : Str → Option Value} {base : Heap}
/-- a cell of the script -/
def spCell (K : PySem.W.Frag) : Sp := fun vs H Q _ => ∃ (a : Addr) (ns : List Int) (k : Nat), vs = [.ref a, .int (k : Nat)] ∧ SqL K H a (ns.map V.int) ∧
  ∀ z : Int, (z = 0 ∨ z ∈ ns) → Q (.int z) H
theorem ok_cell {f : Addr} {fd : FuncData} {k : Nat} (F : Fun K "_law_cell" "_law_cell" s__law_cell f fd) (T : Tx mg) : FnOk P w K mg base CX0 (k + 1) f fd ["_law_script", "_law_k"] (spCell K) := by
  refine F.ok scCell (fun vs H Q E h => ?_) (fun cdv A outer s H vs Q E hr h => ?_)
  · obtain ⟨a, ns, k, rfl, _⟩ := h
    rfl
  · obtain ⟨a, ns, k, rfl, hS, q⟩ := h
    refine ⟨_, pss_one (ps_ret (pe_ifExp (pt_cmpR op_lt (pv 1) (pe_callB call_len_seq (by rfl) T.len PySem.boot_len (pa_cons (pv 0) pa_nil)) (nomark _))
      (pe_ix ix_list (pv 0) (pv 1) (fun _ _ => rfl)) pe_int)), ?_⟩
    refine ⟨_, rfl, _, rfl, a, _, rfl, .inl hS, _, _, rfl, rfl, _, rfl, ?_⟩
    by_cases hk : k < ns.length
    · rw [decide_eq_true (show ((k : Nat) : Int) < ((ns.map V.int).length : Nat) by rw [List.length_map]; omega)]
      refine iteT ?_
      refine ⟨_, rfl, _, rfl, a, _, _, .int ns[k], rfl, rfl, hS, atI_nat (by rw [List.getElem?_map, List.getElem?_eq_getElem hk]; rfl), ?_⟩
      exact q _ (.inr (List.getElem_mem hk))
    · rw [decide_eq_false (show ¬ ((k : Nat) : Int) < ((ns.map V.int).length : Nat) by rw [List.length_map]; omega)]
      exact iteF (q 0 (.inl rfl))
def spPot (K : PySem.W.Frag) : Sp := fun vs H Q _ => ∃ (a : Addr) (ns : List Int) (k : Nat), vs = [.ref a, .int (k : Nat)] ∧ SqL K H a (ns.map V.int) ∧ k ≤ 1000 ∧
  ∀ p H', H p = none → Same H H' → Pot H' p → Q (.ref p) H'
theorem ok_pot {f fC : Addr} {fd fdC : FuncData} {k : Nat} (F : Fun K "_law_pot" "_law_pot" s__law_pot f fd) (T : Tx mg) (FC : Fun K "_law_cell" "_law_cell" s__law_cell fC fdC) (bC : L2.Binds K fdC ["_law_script", "_law_k"] []) (gC : mg "_law_cell" = some (.ref fC)) :
    FnOk P w K mg base CX0 (k + 2) f fd ["_law_script", "_law_k"] (spPot K) := by
  have GC : FnOk P w K mg base CX0 (k + 1) fC fdC ["_law_script", "_law_k"] (spCell K) := ok_cell FC T
  refine F.ok scPot (fun vs H Q E h => ?_) (fun cdv A outer s H vs Q E hr h => ?_)
  · obtain ⟨a, ns, k, rfl, _⟩ := h
    rfl
  · obtain ⟨a, ns, k, rfl, hS, hk, q⟩ := h
    refine ⟨_, pss_cons (ps_set (i := 2) scPot.nd rfl (.inl rfl) (pe_callB call_abs (by rfl) T.abs (by decide +kernel) (pa_cons (pe_call GC hr (by rfl) gC FC.kp bC .nil pass0 (pa_cons (pv 0) (pa_cons (pv 1) pa_nil))) pa_nil)))
      (pss_one (ps_ret (pe_lst (pa_cons (pe_callB (call_max2 rfl) (by rfl) T.max (by decide +kernel) (pa_cons pe_int (pa_cons (pe_op op_sub (pv 2) (pe_op op_pow pe_int pe_int)) pa_nil)))
        (pa_cons (pe_op op_mod (pe_op op_add (pe_op op_add (pe_op op_add (pe_op op_mul (pe_op op_mod (pv 2) pe_int) pe_int) (pe_op op_mul (pe_op op_mul pe_int (pv 1)) (pv 1))) (pe_op op_mul pe_int (pv 1))) pe_int) pe_int) pa_nil))))), ?_⟩
    refine ⟨_, rfl, _, rfl, a, ns, k, rfl, hS, fun z hz => ?_⟩
    refine ⟨z, rfl, ?_⟩
    have hk0 : (0 : Int) ≤ (k : Nat) := Int.natCast_nonneg k
    have hk1 : ((k : Nat) : Int) ≤ 1000 := by omega
    have hm := Int.emod_nonneg (if z < 0 then -z else z) (show (2147483563 : Int) ≠ 0 by decide)
    have hm2 := Int.emod_lt_of_pos (if z < 0 then -z else z) (show (0 : Int) < 2147483563 by decide)
    refine ⟨_, rfl, _, _, rfl, rfl, ⟨by decide, by decide, by decide⟩, _, _, rfl, rfl, 0, _, rfl, ?_⟩
    refine ⟨_, rfl, _, _, rfl, rfl, by show (0 : Int) < 2147483563; decide, _, _, rfl, rfl, .inl ⟨by omega, by omega⟩, ?_⟩
    refine ⟨_, rfl, _, _, rfl, rfl, .inl ⟨by decide, by decide⟩, _, rfl, _, _, rfl, rfl, .inr ⟨by omega, by omega⟩, _, _, rfl, rfl, ?_⟩
    refine ⟨_, rfl, _, _, rfl, rfl, .inl ⟨by decide, by decide⟩, _, _, rfl, rfl, _, _, rfl, rfl, _, _, rfl, rfl, by show (0 : Int) < 2147483563; decide, ?_⟩
    refine ⟨by show 2 ≤ sizeLine; decide, fun l nl => q l _ nl (same_upd nl) ⟨_, _, upd_same, ?_, Int.emod_nonneg _ (by decide), Int.lt_trans (Int.emod_lt_of_pos _ (by decide)) (by decide)⟩⟩
    split <;> omega
end
end K36

set_option Elab.async false
set_option linter.all false
set_option maxRecDepth 100000
set_option maxHeartbeats 1600000
namespace K36
open PySem PySem.Spec PyProof.Rows L2 LT NdefX
abbrev nBd : List Str := ["boat", "goings", "out", "back", "stores", "men", "weight"]
theorem scBd : FnScope nBd ["boat", "goings", "out", "back", "stores"] (defScope s_barred) := ⟨rfl, rfl, rfl, by decide +kernel, rfl, by decide +kernel, by decide +kernel⟩
/-- what bars -/
def barI (g s c m o b k : Int) : Option (Str × Int × Int) :=
  if o > g * roomI s c m then some (Str.ofString "out", o, g * roomI s c m) else if b > g * roomI s c m then some (Str.ofString "back", b, g * roomI s c m) else
  if o * m + k > g * c then some (Str.ofString "weight", o * m + k, g * c) else none
def BV (H : Hp) (v : V) : Option (Str × Int × Int) → Prop
  | none => v = .non
  | some (z, x, y) => ∃ t, v = .ref t ∧ H t = some (.tup [.str z, .int x, .int y])
theorem BV.mono {H H' : Hp} {v : V} {o : Option (Str × Int × Int)} (h : BV H v o) (s : Same H H') : BV H' v o := by
  match o, h with
  | none, h => exact h
  | some (z, x, y), h =>
    obtain ⟨t, e, h⟩ := h
    exact ⟨t, e, s _ _ h⟩
/-- the numbers of a going -/
structure Gn (g o b : Int) : Prop where
  g0 : 0 ≤ g
  g1 : g ≤ 10 ^ 17
  o0 : 0 ≤ o
  o1 : o ≤ 10 ^ 58
  b0 : 0 ≤ b
  b1 : b ≤ 10 ^ 58
theorem wd {a b : Int} (ha : a.natAbs ≤ 10 ^ 60) (hb : b.natAbs ≤ 10 ^ 60) : CMulW a b := wide_mul (a := 210) (b := 210) (Nat.lt_of_le_of_lt ha (by decide)) (Nat.lt_of_le_of_lt hb (by decide)) (by decide) (by decide) (by decide)
section
variable {P : Program} {w : World} {K : PySem.W.Frag} {mg : Str → Option Value} {base : Heap} {C : Addr}
def spBd (C : Addr) : Sp := fun vs H Q _ => ∃ (x : Addr) (s c m g o b k : Int) (v : V), vs = [.ref x, .int g, .int o, .int b, v] ∧ Bt C H x s c m ∧ Gn g o b ∧ StV H v k ∧ ∀ u H', Same H H' → BV H' u (barI g s c m o b k) → Q u H'
abbrev BdFn (K : PySem.W.Frag) (f : Addr) (fd : FuncData) : Prop := FunD K "barred" "barred" (defArgs s_barred) (defBody s_barred) (defScope s_barred) [.int 0, .non] [] f fd
theorem ok_bd {f fR fT fC fS fN fF fW f1 f2 f3 : Addr} {fd fdR fdT fdC fdS fdN fdF fdW fd1 fd2 fd3 : FuncData} {k : Nat} (F : BdFn K f fd) (T : Tx mg) (S : Cs mg) (Z : Ct K mg C) (M : M3 K C f1 f2 f3 fd1 fd2 fd3)
    (FR : Has K mg "room_of" ["boat"] s_room_of fR fdR) (FT : Has K mg "weight_out" ["boat", "out", "stores"] s_weight_out fT fdT) (FC : Has K mg "check_wanted" ["out", "back", "stores"] s_check_wanted fC fdC)
    (FS : Has K mg "are_stores" ["thing"] s_are_stores fS fdS) (FN : Has K mg "is_name" ["thing"] s_is_name fN fdN) (FF : Has K mg "is_from" ["thing", "least"] s_is_from fF fdF) (FW : Has K mg "is_whole" ["thing"] s_is_whole fW fdW) :
    FnOk P w K mg base CX0 (k + 5) f fd ["boat", "goings", "out", "back", "stores"] (spBd C) := by
  have GF : FnOk P w K mg base CX0 (k + 2) fF fdF ["thing", "least"] spFrom := ok_from FF.fn T FW
  have GR : FnOk P w K mg base CX0 (k + 2) fR fdR ["boat"] (spRoom C) := ok_room FR.fn T Z M
  have GT : FnOk P w K mg base CX0 (k + 2) fT fdT ["boat", "out", "stores"] (spWt C) := ok_wt FT.fn T Z M
  have GC : FnOk P w K mg base CX0 (k + 4) fC fdC ["out", "back", "stores"] spCw := ok_cw FC.fn T S FS FN FF FW
  have G2 : FnOk P w K mg base CX0 (k + 1) f2 fd2 ["self"] (spGet C fun _ c _ => c) := ok_carries M.ca.fn Z
  refine F.ok scBd (fun vs H Q E h => ?_) (fun cdv A outer s H vs Q E hr h => ?_)
  · obtain ⟨x, s, c, m, g, o, b, k, v, rfl, _⟩ := h
    rfl
  · obtain ⟨x, sv, c, m, g, o, b, k', v, rfl, B, ⟨g0, g1', o0, o1, b0, b1⟩, hs, q⟩ := h
    have nd := scBd.nd
    have hr2 : Room (k + 2) _ := hr.mono (by omega)
    have hr1 : Room (k + 1) _ := hr.mono (by omega)
    refine ⟨_, pss_cons (ps_if (pt_not (pt_val (pe_call GF hr2 (by rfl) FF.gl FF.fn.kp FF.bd .nil pass0 (pa_cons (pv 1) (pa_cons pe_int pa_nil))))) (pss_one ps_no) pss_nil)
      (pss_cons (ps_expr (pe_call GC hr (by rfl) FC.gl FC.fn.kp FC.bd .nil pass0 (pa_cons (pv 2) (pa_cons (pv 3) (pa_cons (pv 4) pa_nil)))))
      (pss_cons (ps_set (i := 5) nd rfl (.inl rfl) (pe_op op_mulW (pv 1) (pe_call GR hr2 (by rfl) FR.gl FR.fn.kp FR.bd .nil pass0 (pa_cons (pv 0) pa_nil))))
      (pss_cons (ps_if (pt_cmpR op_gt (pv 2) (pv 5) (nomark _)) (pss_one (ps_ret (pe_tup (pa_cons pe_str (pa_cons (pv 2) (pa_cons (pv 5) pa_nil)))))) pss_nil)
      (pss_cons (ps_if (pt_cmpR op_gt (pv 3) (pv 5) (nomark _)) (pss_one (ps_ret (pe_tup (pa_cons pe_str (pa_cons (pv 3) (pa_cons (pv 5) pa_nil)))))) pss_nil)
      (pss_cons (ps_set (i := 6) nd rfl (.inl rfl) (pe_call GT hr2 (by rfl) FT.gl FT.fn.kp FT.bd .nil pass0 (pa_cons (pv 0) (pa_cons (pv 2) (pa_cons (pv 4) pa_nil)))))
      (pss_cons (ps_if (pt_cmpR op_gt (pv 6) (pe_op op_mulW (pv 1) (pe_meth0 (pv 0) Z.cl M.ca.me G2 hr1 M.ca.bd .nil pass0)) (nomark _)) (pss_one (ps_ret (pe_tup (pa_cons pe_str (pa_cons (pv 6) (pa_cons (pe_op op_mulW (pv 1) (pe_meth0 (pv 0) Z.cl M.ca.me G2 hr1 M.ca.bd .nil pass0)) pa_nil)))))) pss_nil)
      (pss_one (ps_ret pe_non)))))))), ?_⟩
    refine ⟨_, rfl, .int g, 0, rfl, .int g, _, rfl, ?_⟩
    rw [show fromB (.int g) 0 = true from decide_eq_true g0]
    refine ⟨_, rfl, _, rfl, _, rfl, o, b, k', v, rfl, o0, b0, hs, fun H1 s1 => ?_⟩
    have B1 := B.mono s1
    obtain ⟨dx, hx⟩ := B1.at_
    obtain ⟨rm0, rm1⟩ := room_bd B.s1 B.c1 B.m1
    have hs2 := B.s2
    have hc1 := B.c1
    have hc2 := B.c2
    refine ⟨_, rfl, _, rfl, x, sv, c, m, rfl, B1, _, _, rfl, rfl, wd (by omega) (by omega), ?_⟩
    refine ⟨_, rfl, _, rfl, o, _, rfl, rfl, _, rfl, ite2 (fun h => ?_) (fun h => ?_)⟩
    · refine ⟨_, rfl, _, rfl, by show 3 ≤ sizeLine; decide, fun t nt => ?_⟩
      refine q _ _ (s1.trans (same_upd nt)) ?_
      unfold barI
      rw [if_pos (of_decide_eq_true h)]
      exact ⟨t, rfl, upd_same⟩
    have h1 := of_decide_eq_false (bool_false h)
    refine ⟨_, rfl, _, rfl, b, _, rfl, rfl, _, rfl, ite2 (fun h => ?_) (fun h => ?_)⟩
    · refine ⟨_, rfl, _, rfl, by show 3 ≤ sizeLine; decide, fun t nt => ?_⟩
      refine q _ _ (s1.trans (same_upd nt)) ?_
      unfold barI
      rw [if_neg h1, if_pos (of_decide_eq_true h)]
      exact ⟨t, rfl, upd_same⟩
    have h2 := of_decide_eq_false (bool_false h)
    refine ⟨_, rfl, _, rfl, _, rfl, x, sv, c, m, o, k', v, rfl, B1, o0, by omega, hs.mono s1, ?_⟩
    have ww : CMulW g c := wd (by omega) (by omega)
    refine ⟨_, rfl, _, rfl, _, rfl, x, dx, _, rfl, hx, g2, x, dx, _, _, _, rfl, hx, _, _, rfl, rfl, ww, _, _, rfl, rfl, _, rfl, ite2 (fun h => ?_) (fun h => ?_)⟩
    · refine ⟨_, rfl, _, rfl, _, rfl, x, dx, _, rfl, hx, g2, x, dx, _, _, _, rfl, hx, _, _, rfl, rfl, ww, by show 3 ≤ sizeLine; decide, fun t nt => ?_⟩
      refine q _ _ (s1.trans (same_upd nt)) ?_
      unfold barI
      rw [if_neg h1, if_neg h2, if_pos (of_decide_eq_true h)]
      exact ⟨t, rfl, upd_same⟩
    · refine q .non H1 s1 ?_
      unfold barI
      rw [if_neg h1, if_neg h2, if_neg (of_decide_eq_false (bool_false h))]
      rfl
/-! ### due -/
end
end K36

set_option Elab.async false
set_option linter.all false
set_option maxRecDepth 100000
set_option maxHeartbeats 1600000
namespace K36
open PySem PySem.Spec PyProof.Rows L2 LT NdefX
structure N3 (s c m : Int) : Prop where
  s1 : 1 ≤ s
  c1 : 1 ≤ c
  m1 : 1 ≤ m
  s2 : s ≤ 10 ^ 40
  c2 : c ≤ 10 ^ 40
  m2 : m ≤ 10 ^ 40
/-! ### the numbers -/
def doB (s c m t o b k : Int) : Bool := !(decide (o > t * roomI s c m) || decide (b > t * roomI s c m)) && decide (o * m + k ≤ t * c)
theorem parts_ok {m k : Int} (hm : 0 ≤ m) (hk : 0 < k) : 0 ≤ partsI m k ∧ m ≤ partsI m k * k ∧ (partsI m k = 0 ∨ (partsI m k - 1) * k < m) ∧ partsI m k ≤ m := by
  unfold partsI
  have h0 : 0 ≤ (m + k - 1) / k := Int.ediv_nonneg (by omega) (by omega)
  have h1 := Int.emod_def (m + k - 1) k
  have h2 := Int.emod_nonneg (m + k - 1) (show k ≠ 0 by omega)
  have h3 := Int.emod_lt_of_pos (m + k - 1) hk
  generalize hq : (m + k - 1) / k = q at *
  have e : k * q = q * k := Int.mul_comm ..
  have e2 : (q - 1) * k = q * k - k := by rw [Int.sub_mul, Int.one_mul]
  refine ⟨h0, by omega, .inr (by rw [e2]; omega), ?_⟩
  by_cases hz : q = 0
  · omega
  · have : 1 * q ≤ k * q := Int.mul_le_mul_of_nonneg_right (by omega) h0
    have h4 : (q - 1) * 1 ≤ (q - 1) * k := Int.mul_le_mul_of_nonneg_left (by omega) (by omega)
    omega
theorem max_ok (a b : Int) : a ≤ maxI a b ∧ b ≤ maxI a b ∧ (maxI a b = a ∨ maxI a b = b) := by
  unfold maxI
  split
  · exact ⟨by omega, by omega, .inr rfl⟩
  · exact ⟨by omega, by omega, .inl rfl⟩
theorem few_ok {s c m o b k n : Int} (N : N3 s c m) (o0 : 0 ≤ o) (b0 : 0 ≤ b) (k0 : 0 ≤ k) (o1 : o ≤ 10 ^ 60) (b1 : b ≤ 10 ^ 60) (k1 : k ≤ 10 ^ 71) (h : fewI s c m o b k = some n) :
    0 ≤ n ∧ n ≤ 10 ^ 102 ∧ doB s c m n o b k = true ∧ (n = 0 ∨ doB s c m (n - 1) o b k = false) ∧ (roomI s c m = 0 → o = 0 ∧ b = 0) := by
  obtain ⟨r0, r1⟩ := room_bd N.s1 N.c1 N.m1
  have c1 := N.c1
  have m1 := N.m1
  have m2 := N.m2
  have om : 0 ≤ o * m := Int.mul_nonneg o0 (by omega)
  have om2 : o * m ≤ 10 ^ 60 * 10 ^ 40 := Int.mul_le_mul o1 m2 (by omega) (by decide)
  obtain ⟨p0, p1, p2, p3⟩ := parts_ok (m := o * m + k) (k := c) (by omega) (by omega)
  unfold fewI at h
  generalize hR : roomI s c m = R at *
  generalize hW : partsI (o * m + k) c = W at *
  have not_do : ∀ t : Int, (t * R < o ∨ t * R < b ∨ t * c < o * m + k) → doB s c m t o b k = false := by
    intro t ht
    unfold doB
    rw [hR]
    rcases ht with h | h | h
    · rw [decide_eq_true (show o > t * R from h)]; rfl
    · rw [decide_eq_true (show b > t * R from h), Bool.or_true]; rfl
    · rw [decide_eq_false (show ¬ o * m + k ≤ t * c by omega), Bool.and_false]
  have yes_do : ∀ t : Int, o ≤ t * R → b ≤ t * R → o * m + k ≤ t * c → doB s c m t o b k = true := by
    intro t h1 h2 h3
    unfold doB
    rw [hR, decide_eq_false (show ¬ o > t * R by omega), decide_eq_false (show ¬ b > t * R by omega), decide_eq_true h3]
    rfl
  split at h
  · rename_i hz
    have e : n = W := (Option.some.inj h).symm
    subst e
    obtain ⟨hz1, hz2⟩ := hz
    refine ⟨p0, by omega, yes_do n ?_ ?_ p1, ?_, fun _ => ⟨hz1, hz2⟩⟩
    · have := Int.mul_nonneg p0 r0
      omega
    · have := Int.mul_nonneg p0 r0
      omega
    · rcases p2 with e | e
      · exact .inl e
      · exact .inr (not_do _ (.inr (.inr e)))
  · rename_i hz
    split at h
    · cases h
    · rename_i hr
      have hr' : 0 < R := by omega
      obtain ⟨x1, x2, x3⟩ := max_ok o b
      obtain ⟨g0, g1, g2, g3⟩ := parts_ok (m := maxI o b) (k := R) (by omega) hr'
      generalize hG : partsI (maxI o b) R = G at *
      obtain ⟨y1, y2, y3⟩ := max_ok G W
      have e : n = maxI G W := (Option.some.inj h).symm
      subst e
      generalize hM : maxI G W = M at *
      have e1 : G * R ≤ M * R := Int.mul_le_mul_of_nonneg_right y1 r0
      have e2 : W * c ≤ M * c := Int.mul_le_mul_of_nonneg_right y2 (by omega)
      refine ⟨by omega, by omega, yes_do M (by omega) (by omega) (by omega), ?_, fun e => absurd e (by omega)⟩
      rcases y3 with e | e
      · rw [e]
        rcases g2 with e' | e'
        · exact .inl e'
        · refine .inr (not_do _ ?_)
          rcases x3 with z | z
          · exact .inl (by omega)
          · exact .inr (.inl (by omega))
      · rw [e]
        rcases p2 with e' | e'
        · exact .inl e'
        · exact .inr (not_do _ (.inr (.inr e')))
theorem few_none {s c m o b k : Int} (h : fewI s c m o b k = none) : roomI s c m = 0 ∧ ¬ (o = 0 ∧ b = 0) := by
  unfold fewI at h
  split at h
  · cases h
  · rename_i hz
    split at h
    · rename_i hr
      exact ⟨hr, hz⟩
    · cases h
end K36

set_option Elab.async false
set_option linter.all false
set_option maxRecDepth 100000
set_option maxHeartbeats 1600000
/-! Own layer: x != y, x an own thing with __eq__, y any thing. -/
namespace LT
open PySem PySem.Spec PyProof.Rows L2 NdefX
section
variable {prog : Program} {w : World} {A : Around} {E : Value → Shared → Prop} {s : Shared} {K : PySem.W.Frag} {x C f : Addr} {ox : Obj} {od : Option Obj}
theorem ne_ownA {Q : Value → Shared → Prop} {u tb : Value} (hu : A.units + 1 < cLine) (EC : EqC K C f) (X : K.In s.heap) (I : PySem.W.InstAt s.heap x ox C od) (hb : PySem.W.Looks (model prog w) s.heap (typeOf u) tb) (hn : PySem.W.notFirst K C tb = true)
    (h : wpAny (model prog w) A.in1 (call (.ref f) [.ref x, u]) (fun v s' => ∃ b, v = .bool b ∧ Q (.bool (!b)) s') E s) : wpAny (model prog w) A (richCompare .NotEq (.ref x) u) Q E s := by
  have one : wpAny (model prog w) A (tryCompare (.ref x) "__ne__" u) (fun r s' => ∃ v, r = some v ∧ Q v s') E s := by
    unfold tryCompare
    refine wpAny_bind (ifBound_B X I EC.ne PySem.F.slot_object_ne.bind ?_)
    refine wpAny_call (codeAny_call_builtin PySem.F.slot_object_ne.plain PySem.F.cmpEntry_ne (PySem.W.check_slot PySem.F.cmpKind_ne PySem.F.cmpSplit_ne (I.type.andThen (PySem.W.looks_mroIn X EC.ob)) (PySem.F.cmpArgs_ne _ _) ?_))
    unfold Builtin.«object.__ne__»
    refine wpAny_bind (m := slotArgs "__ne__" 1 _) (wpAny_pure ?_)
    refine wpAny_bind (m := cRoomFor _ _) (wpAny_cRoomFor (by show A.units + 1 < cLine; exact hu) ?_)
    refine wpAny_bind (m := callSpecialIfBound? (.ref x) (Str.ofString "__eq__") _) (PySem.W.ifBound_K X I EC.eq EC.fn (wpAny_mono h (fun v s' hv => ?_) fun _ _ e => e))
    obtain ⟨b, rfl, q⟩ := hv
    refine wpAny_bind (m := truthy (.bool b)) (wpAny_truthy_bool ?_)
    exact wpAny_pure (wpAny_pure ⟨_, rfl, q⟩)
  unfold richCompare
  simp only [oneThing_ref, cmpInfo]
  refine wpAny_holding (wpAny_bind (wpAny_cRoomFor (by omega) ?_))
  refine wpAny_bind (I.type.here (wpAny_bind (hb.here ?_)))
  split
  · rename_i q
    have e : PySem.W.subIn K tb (.ref C) = some false := by
      rcases Bool.or_eq_true_iff.mp hn with e | e
      · rw [beq_iff_eq.mp e] at q; simp at q
      · exact beq_iff_eq.mp e
    refine wpAny_bind ((PySem.W.looks_subIn X e).here ?_)
    simp only [Bool.false_eq_true, if_false]
    refine wpAny_bind (m := tryCompare (.ref x) _ u) (wpAny_mono one (fun r s' z => ?_) fun _ _ e => e)
    obtain ⟨v, rfl, hq⟩ := z
    exact wpAny_pure hq
  · refine wpAny_bind (wpAny_pure ?_)
    simp only [Bool.false_eq_true, if_false]
    refine wpAny_bind (m := tryCompare (.ref x) _ u) (wpAny_mono one (fun r s' z => ?_) fun _ _ e => e)
    obtain ⟨v, rfl, hq⟩ := z
    exact wpAny_pure hq
end
section
variable {X : Cx} {C f : Addr} {fd : FuncData} {ps : List Str} {sp : Sp} {n : Nat}
theorem beside_ty {pins : List (Addr × Obj)} {σ : L2.St} {H : Hp} {s : Shared} {v : V} {u : Value} (I : Inv X pins σ H s) (r : RelV v u) (hv : Beside X.K C H v) : ∃ t, PySem.W.Looks (model X.prog X.w) s.heap (typeOf u) t ∧ PySem.W.notFirst X.K C t = true := by
  have nt : ∀ T : String, (PySem.W.subIn X.K (.type T) (.ref C) == some false) = true → PySem.W.notFirst X.K C (.type T) = true := fun T e => by
    unfold PySem.W.notFirst
    rw [e, Bool.or_true]
  cases hv with
  | non => obtain ⟨P, Z, p, _⟩ := kit_of I r (.base .non); exact ⟨_, Z.ty _ _ I.kIn p, nt _ (by rfl)⟩
  | bl b => obtain ⟨P, Z, p, _⟩ := kit_of I r (.base (.bl b)); exact ⟨_, Z.ty _ _ I.kIn p, nt _ (by rfl)⟩
  | int i => obtain ⟨P, Z, p, _⟩ := kit_of I r (.base (.int i)); exact ⟨_, Z.ty _ _ I.kIn p, nt _ (by rfl)⟩
  | str z => obtain ⟨P, Z, p, _⟩ := kit_of I r (.base (.str z)); exact ⟨_, Z.ty _ _ I.kIn p, nt _ (by rfl)⟩
  | lst e => obtain ⟨P, Z, p, _⟩ := kit_of I r (.base (.lst e)); exact ⟨_, Z.ty _ _ I.kIn p, nt _ (by rfl)⟩
  | tup e => obtain ⟨P, Z, p, _⟩ := kit_of I r (.base (.tup e)); exact ⟨_, Z.ty _ _ I.kIn p, nt _ (by rfl)⟩
  | ins e =>
    cases r
    obtain ⟨mB, J', _⟩ := ins_get I.hok e
    obtain ⟨od', J', _⟩ := J'.look
    exact ⟨_, J'.type, by simp [PySem.W.notFirst]⟩
/-- x != y, x an own thing, y any -/
theorem op_ne_ownB (EC : EqC X.K C f) (F : FnOk X.prog X.w X.K X.mg X.base CX0 n f fd ps sp) (hr : Room (n + 1) X.A) (hb : L2.Binds X.K fd ps []) :
    OpR X (compareOp .NotEq) (fun x y H Q => ∃ (a dx : Addr) (fs : List (Str × V)), x = .ref a ∧ H a = some (.ins C dx fs) ∧ Beside X.K C H y ∧
      sp [.ref a, y] H (fun z H' => ∃ k, z = .bl k ∧ ∃ r, z = .bl r ∧ Q (.bl (!r)) H') E0) := by
  intro pins s σ H x y v u Q I rx ry h
  obtain ⟨a, dx, fs, rfl, ha, hy, h1⟩ := h
  cases rx
  obtain ⟨mA, J, _⟩ := ins_get I.hok ha
  obtain ⟨od, J, _⟩ := J.look
  obtain ⟨t, ht, hn⟩ := beside_ty (C := C) I ry hy
  refine ne_ownA (by have := hr.units; omega) EC I.kIn J ht hn (wpAny_mono (run_eq (v := y) (Q := fun z H' => ∃ r, z = .bl r ∧ Q (.bl (!r)) H') F ⟨hr.in1, rfl⟩ hb I ry h1) (fun z s' hz => ?_) fun _ _ x => x)
  obtain ⟨r, H', rfl, I', r', e, q⟩ := hz
  cases e
  exact ⟨r, rfl, .bl (!r), H', I', rfl, q⟩
end
end LT

set_option Elab.async false
set_option linter.all false
set_option maxRecDepth 100000
set_option maxHeartbeats 1600000
/-! Own layer: slices as take and drop. -/
namespace LT
open PySem PySem.Spec PyProof.Rows L2 NdefX
theorem sIx_pos {n d : Nat} {i : Int} (h : 0 ≤ i) : HT.sIx n d (some i) = min i.toNat n := by
  show (if i < 0 then (i + (n : Int)).toNat else min i.toNat n) = min i.toNat n
  rw [if_neg (by omega)]
theorem cut_take {α : Type} (f : α → V) (xs : List α) {i : Int} (h : 0 ≤ i) : cutV (xs.map f) none (some i) = (xs.take i.toNat).map f := by
  unfold cutV
  rw [HT.sIx_none, sIx_pos h, List.drop_zero, Nat.sub_zero, List.length_map, ← List.map_take]
  congr 1
  rw [List.take_eq_take_iff]
  omega
theorem cut_drop {α : Type} (f : α → V) (xs : List α) {i : Int} (h : 0 ≤ i) : cutV (xs.map f) (some i) none = (xs.drop i.toNat).map f := by
  unfold cutV
  rw [HT.sIx_none, sIx_pos h, List.length_map, ← List.map_drop, ← List.map_take]
  congr 1
  by_cases hi : i.toNat ≤ xs.length
  · rw [Nat.min_eq_left hi, List.take_of_length_le (by rw [List.length_drop]; exact Nat.le_refl _)]
  · rw [Nat.min_eq_right (by omega), Nat.sub_self, List.take_zero, List.drop_eq_nil_of_le (by omega)]
end LT

set_option Elab.async false
set_option linter.all false
set_option maxRecDepth 100000
set_option maxHeartbeats 1600000
/-! Own layer: dicts as lists of pairs of keys and worths of any kind; walks over locked dicts. -/
namespace LT
open PySem PySem.Spec PyProof.Rows L2 NdefX
section
variable {κ α : Type} [DecidableEq κ]
def getA (kvs : List (κ × α)) (k : κ) : Option α := (kvs.find? fun p => decide (p.1 = k)).map (·.2)
def putA (kvs : List (κ × α)) (k : κ) (v : α) : List (κ × α) := if (kvs.any fun p => decide (p.1 = k)) = true then kvs.map (fun p => if p.1 = k then (p.1, v) else p) else kvs ++ [(k, v)]
def enA (g : κ → Key) (f : α → V) (kvs : List (κ × α)) : List (Key × V) := kvs.map fun p => (g p.1, f p.2)
theorem enA_len (g : κ → Key) (f : α → V) (kvs : List (κ × α)) : (enA g f kvs).length = kvs.length := List.length_map ..
theorem getA_nil {k : κ} : getA ([] : List (κ × α)) k = none := rfl
theorem getA_pos {p : κ × α} {r : List (κ × α)} {k : κ} (e : p.1 = k) : getA (p :: r) k = some p.2 := by simp [getA, List.find?_cons, e]
theorem getA_neg {p : κ × α} {r : List (κ × α)} {k : κ} (e : ¬ p.1 = k) : getA (p :: r) k = getA r k := by simp [getA, List.find?_cons, e]
theorem getA_any (k : κ) : ∀ kvs : List (κ × α), (kvs.any fun p => decide (p.1 = k)) = (getA kvs k).isSome
  | [] => rfl
  | p :: r => by
    rw [List.any_cons]
    by_cases e : p.1 = k
    · rw [decide_eq_true e, getA_pos e]; rfl
    · rw [decide_eq_false e, getA_neg e, getA_any k r]; rfl
theorem getA_none_iff {k : κ} : ∀ {kvs : List (κ × α)}, getA kvs k = none ↔ k ∉ kvs.map (·.1)
  | [] => by simp [getA_nil]
  | p :: r => by
    by_cases e : p.1 = k
    · rw [getA_pos e]; simp [e]
    · rw [getA_neg e, getA_none_iff, List.map_cons, List.mem_cons]
      constructor
      · intro h h2
        rcases h2 with rfl | h2
        · exact e rfl
        · exact h h2
      · exact fun h h2 => h (.inr h2)
theorem getA_mem {k : κ} {v : α} : ∀ {kvs : List (κ × α)}, getA kvs k = some v → (k, v) ∈ kvs
  | [], h => nomatch h
  | p :: r, h => by
    by_cases e : p.1 = k
    · rw [getA_pos e] at h
      cases h
      subst e
      exact List.mem_cons_self
    · rw [getA_neg e] at h
      exact List.mem_cons_of_mem _ (getA_mem h)
theorem getA_of_mem {k : κ} {v : α} : ∀ {kvs : List (κ × α)}, (kvs.map (·.1)).Nodup → (k, v) ∈ kvs → getA kvs k = some v
  | [], _, h => nomatch h
  | p :: r, nd, h => by
    rw [List.map_cons, List.nodup_cons] at nd
    rcases List.mem_cons.mp h with rfl | h
    · exact getA_pos rfl
    · rw [getA_neg (fun e => nd.1 (e ▸ List.mem_map.mpr ⟨_, h, rfl⟩))]
      exact getA_of_mem nd.2 h
theorem val_en {g : κ → Key} {f : α → V} (hg : ∀ a b, g a = g b → a = b) (k : κ) : ∀ kvs : List (κ × α), valV (enA g f kvs) (g k) = (getA kvs k).map f
  | [] => rfl
  | p :: r => by
    show valV ((g p.1, f p.2) :: enA g f r) (g k) = _
    by_cases e : p.1 = k
    · rw [valV_pos (by rw [e]), getA_pos e]; rfl
    · rw [valV_neg (fun z => e (hg _ _ z)), getA_neg e, val_en hg k r]
theorem put_en {g : κ → Key} {f : α → V} (hg : ∀ a b, g a = g b → a = b) (kvs : List (κ × α)) (k : κ) (v : α) : putK (enA g f kvs) (g k) (f v) = enA g f (putA kvs k v) := by
  have e : ((enA g f kvs).any fun kv => decide (kv.1 = g k)) = (kvs.any fun p => decide (p.1 = k)) := by
    rw [valV_any, val_en hg, getA_any]
    cases getA kvs k <;> rfl
  unfold putK putA
  rw [e]
  split
  · unfold enA
    rw [List.map_map, List.map_map]
    refine List.map_congr_left fun p _ => ?_
    show (if g p.1 = g k then (g p.1, f v) else (g p.1, f p.2)) = (g (if p.1 = k then (p.1, v) else p).1, f (if p.1 = k then (p.1, v) else p).2)
    by_cases h : p.1 = k
    · rw [if_pos (by rw [h]), if_pos h]
    · rw [if_neg (fun z => h (hg _ _ z)), if_neg h]
  · unfold enA
    rw [List.map_append]
    rfl
theorem putA_new {kvs : List (κ × α)} {k : κ} {v : α} (h : getA kvs k = none) : putA kvs k v = kvs ++ [(k, v)] := by
  unfold putA
  rw [getA_any, h]
  rfl
theorem map_miss {k : κ} {v : α} : ∀ {kvs : List (κ × α)}, k ∉ kvs.map (·.1) → kvs.map (fun p => if p.1 = k then (p.1, v) else p) = kvs
  | [], _ => rfl
  | p :: r, h => by
    rw [List.map_cons, List.mem_cons, not_or] at h
    rw [List.map_cons, if_neg (fun e => h.1 e.symm), map_miss h.2]
theorem putA_mid {q rs : List (κ × α)} {k : κ} {r v : α} (h1 : k ∉ q.map (·.1)) (h2 : k ∉ rs.map (·.1)) : putA (q ++ (k, r) :: rs) k v = q ++ (k, v) :: rs := by
  unfold putA
  rw [if_pos (List.any_eq_true.mpr ⟨(k, r), List.mem_append.mpr (.inr List.mem_cons_self), decide_eq_true rfl⟩), List.map_append, List.map_cons, map_miss h1, map_miss h2, if_pos rfl]
theorem getA_app {k : κ} : ∀ {q rs : List (κ × α)}, k ∉ q.map (·.1) → getA (q ++ rs) k = getA rs k
  | [], _, _ => rfl
  | p :: q, rs, h => by
    rw [List.map_cons, List.mem_cons, not_or] at h
    rw [List.cons_append, getA_neg (fun e => h.1 e.symm), getA_app h.2]
theorem getA_map (k j : κ) (y : α) : ∀ kvs : List (κ × α), getA (kvs.map fun p => if p.1 = k then (p.1, y) else p) j = (getA kvs j).map fun x => if j = k then y else x
  | [] => rfl
  | p :: r => by
    rw [List.map_cons]
    by_cases e : p.1 = k
    · rw [if_pos e]
      by_cases h : p.1 = j
      · rw [getA_pos (p := (p.1, y)) h, getA_pos h, Option.map_some, if_pos (by rw [← h, e])]
      · rw [getA_neg (p := (p.1, y)) h, getA_neg h, getA_map k j y r]
    · rw [if_neg e]
      by_cases h : p.1 = j
      · rw [getA_pos h, getA_pos h, Option.map_some, if_neg (fun z => e (h.trans z))]
      · rw [getA_neg h, getA_neg h, getA_map k j y r]
theorem getA_put (kvs : List (κ × α)) (k j : κ) (y : α) : getA (putA kvs k y) j = if j = k then some y else getA kvs j := by
  by_cases h : getA kvs k = none
  · rw [putA_new h]
    by_cases e : j = k
    · rw [if_pos e, e, getA_app (getA_none_iff.mp h), getA_pos rfl]
    · rw [if_neg e]
      by_cases hj : getA kvs j = none
      · rw [getA_app (getA_none_iff.mp hj), getA_neg (fun z => e z.symm), hj]; rfl
      · obtain ⟨v, hv⟩ := Option.ne_none_iff_exists'.mp hj
        rw [hv]
        clear h hj
        induction kvs with
        | nil => cases hv
        | cons p r ih =>
          by_cases hp : p.1 = j
          · rw [getA_pos hp] at hv
            rw [List.cons_append, getA_pos hp, hv]
          · rw [getA_neg hp] at hv
            rw [List.cons_append, getA_neg hp, ih hv]
  · obtain ⟨v, hv⟩ := Option.ne_none_iff_exists'.mp h
    unfold putA
    rw [getA_any, hv]
    simp only [Option.isSome_some, if_true]
    rw [getA_map]
    by_cases e : j = k
    · rw [if_pos e, e, hv]; simp
    · rw [if_neg e]
      cases getA kvs j <;> simp [e]
theorem keys_put {kvs : List (κ × α)} {k : κ} {v : α} : (putA kvs k v).map (·.1) = if k ∈ kvs.map (·.1) then kvs.map (·.1) else kvs.map (·.1) ++ [k] := by
  by_cases h : k ∈ kvs.map (·.1)
  · rw [if_pos h]
    unfold putA
    rw [if_pos]
    · rw [List.map_map]
      refine List.map_congr_left fun p _ => ?_
      show (if p.1 = k then (p.1, v) else p).1 = p.1
      split <;> rfl
    · obtain ⟨p, hp, rfl⟩ := List.mem_map.mp h
      exact List.any_eq_true.mpr ⟨p, hp, decide_eq_true rfl⟩
  · rw [if_neg h, putA_new (getA_none_iff.mpr h), List.map_append]
    rfl
theorem nodup_put {kvs : List (κ × α)} {k : κ} {v : α} (h : (kvs.map (·.1)).Nodup) : ((putA kvs k v).map (·.1)).Nodup := by
  rw [keys_put]
  split
  · exact h
  · rename_i hk
    rw [List.nodup_append]
    refine ⟨h, List.nodup_cons.mpr ⟨nofun, List.nodup_nil⟩, fun a ha b hb => ?_⟩
    rw [List.mem_singleton.mp hb]
    rintro rfl
    exact hk ha
theorem putA_len {kvs : List (κ × α)} {k : κ} {v : α} : (putA kvs k v).length ≤ kvs.length + 1 := by
  unfold putA
  split
  · rw [List.length_map]; omega
  · rw [List.length_append]; exact Nat.le_refl _
theorem mem_put {kvs : List (κ × α)} {k : κ} {v : α} {p : κ × α} (h : p ∈ putA kvs k v) : p = (k, v) ∨ p ∈ kvs := by
  unfold putA at h
  split at h
  · obtain ⟨q, hq, rfl⟩ := List.mem_map.mp h
    by_cases e : q.1 = k
    · rw [if_pos e]; exact .inl (by rw [e])
    · rw [if_neg e]; exact .inr hq
  · rcases List.mem_append.mp h with h | h
    · exact .inr h
    · exact .inl (List.mem_singleton.mp h)
end
theorem inr_inj : ∀ a b : Str, (Sum.inr a : Key) = Sum.inr b → a = b := fun _ _ e => Sum.inr.inj e
theorem inl_inj : ∀ a b : Int, (Sum.inl a : Key) = Sum.inl b → a = b := fun _ _ e => Sum.inl.inj e
/-- a statement that lets nothing out -/
theorem PS.nox {X : Cx} {st : Stmt} {t : TS} (h : PS X.nox st t) : PS X st t := ⟨fun pins s σ H D I hw =>
  wpAny_mono (h.run pins s σ H D (I.wish _) hw) (fun _ _ q => q.unwish) fun _ _ z => False.elim z⟩
/-- two ways joined -/
theorem joinA {α : Type} {J : α → Hp → Prop} {sl : α → L2.St} {rest : L2.St → Hp → Prop} {goal : Prop} (k : (∀ a Hx, J a Hx → rest (sl a) Hx) → goal) (h : ∀ a Hx, J a Hx → rest (sl a) Hx) : goal := k h
/-! ### walks over locked dicts -/
theorem lock_back {H Hx : Hp} {d : Addr} {u : HO} {od : Obj} (hd : H d = some u) (s : Same (upd H d (.frz od u)) Hx) : Same H (upd Hx d u) := fun b o e => by
  by_cases hb : b = d
  · subst hb
    rw [upd_same, ← e, hd]
  · rw [upd_ne hb]
    exact s _ _ (by rw [upd_ne hb]; exact e)
theorem lock_up {H : Hp} {d : Addr} {u : HO} : SameB d H (upd H d u) := fun b o n e => by rw [upd_ne n]; exact e
/-- read while it is locked -/
theorem rd_frz {H : Hp} {d : Addr} {u : HO} {od : Obj} (h : H d = some (.frz od u)) : Rd H d u := .inr ⟨od, h⟩
theorem dget_frz {H : Hp} {a : Addr} {kvs : List (Key × V)} {k : Key} {od : Obj} (e : H a = some (.frz od (.dK kvs))) : DGet H a (kV k) (valV kvs k) := .inl ⟨kvs, k, .inr ⟨od, e⟩, rfl, rfl⟩
end LT

set_option Elab.async false
set_option linter.all false
set_option maxRecDepth 100000
set_option maxHeartbeats 1600000
set_option pp.maxSteps 300
namespace K36
open PySem PySem.Spec PyProof.Rows L2 LT NdefX
/-! ### stores taken -/
abbrev Kvs := List (Str × Int)
/-- one thing's turn: the part, the rest, the weight -/
def ofT (w r : Int) : Int := if w < r then w else r
theorem ofT_le (w r : Int) : ofT w r ≤ r := by unfold ofT; split <;> omega
def stepT (a : Kvs × Kvs × Int) (p : Str × Int) : Kvs × Kvs × Int :=
  if ofT a.2.2 p.2 > 0 then (a.1 ++ [(p.1, ofT a.2.2 p.2)], a.2.1 ++ [(p.1, p.2 - ofT a.2.2 p.2)], a.2.2 - ofT a.2.2 p.2) else (a.1, a.2.1 ++ [p], a.2.2)
def takenL (kvs : Kvs) (w : Int) : Kvs × Kvs × Int := kvs.foldl stepT ([], [], w)
theorem takenL_snoc (kvs : Kvs) (p : Str × Int) (w : Int) : takenL (kvs ++ [p]) w = stepT (takenL kvs w) p := by
  unfold takenL
  rw [List.foldl_append]
  rfl
/-- stores, some of them at nothing -/
structure Kz (kvs : Kvs) : Prop where
  nd : (kvs.map (·.1)).Nodup
  w0 : ∀ p ∈ kvs, 0 ≤ p.2
theorem stepT_keys {a : Kvs × Kvs × Int} {p : Str × Int} : (stepT a p).2.1.map (·.1) = a.2.1.map (·.1) ++ [p.1] := by
  unfold stepT
  split <;> simp
theorem stepT_part {a : Kvs × Kvs × Int} {p : Str × Int} {z : Str} (h : z ∈ (stepT a p).1.map (·.1)) : z ∈ a.1.map (·.1) ∨ z = p.1 := by
  unfold stepT at h
  split at h
  · simp only [List.map_append, List.mem_append, List.map_cons, List.map_nil, List.mem_singleton] at h
    exact h
  · exact .inl h
theorem taken_ok {w : Int} : ∀ {n : Nat} {kvs : Kvs}, kvs.length = n → (takenL kvs w).2.1.map (·.1) = kvs.map (·.1) ∧ (∀ z ∈ (takenL kvs w).1.map (·.1), z ∈ kvs.map (·.1)) := by
  intro n
  induction n with
  | zero =>
    intro kvs h
    rw [List.length_eq_zero_iff.mp h]
    exact ⟨rfl, nofun⟩
  | succ n ih =>
    intro kvs h
    obtain ⟨q, p, rfl⟩ : ∃ q p, kvs = q ++ [p] := by
      have : kvs ≠ [] := by rintro rfl; cases h
      exact ⟨kvs.dropLast, kvs.getLast this, (List.dropLast_concat_getLast this).symm⟩
    have hq : q.length = n := by rw [List.length_append] at h; exact Nat.succ.inj h
    obtain ⟨i1, i2⟩ := ih hq
    rw [takenL_snoc]
    refine ⟨by rw [stepT_keys, i1, List.map_append]; rfl, fun z hz => ?_⟩
    rw [List.map_append, List.mem_append]
    rcases stepT_part hz with h | rfl
    · exact .inl (i2 z h)
    · exact .inr List.mem_cons_self
theorem stepT_w0 {a : Kvs × Kvs × Int} {p : Str × Int} (h : ∀ q ∈ a.2.1, 0 ≤ q.2) (hp : 0 ≤ p.2) : ∀ q ∈ (stepT a p).2.1, 0 ≤ q.2 := by
  intro q hq
  unfold stepT at hq
  split at hq <;> rcases List.mem_append.mp hq with hq | hq
  · exact h q hq
  · rw [List.mem_singleton.mp hq]
    show 0 ≤ p.2 - _
    have := ofT_le a.2.2 p.2
    omega
  · exact h q hq
  · rw [List.mem_singleton.mp hq]
    exact hp
theorem taken_w0 {w : Int} : ∀ {n : Nat} {kvs : Kvs}, kvs.length = n → (∀ q ∈ kvs, 0 ≤ q.2) → ∀ q ∈ (takenL kvs w).2.1, 0 ≤ q.2 := by
  intro n
  induction n with
  | zero =>
    intro kvs h
    rw [List.length_eq_zero_iff.mp h]
    exact fun _ => nofun
  | succ n ih =>
    intro kvs h h0
    obtain ⟨q, p, rfl⟩ : ∃ q p, kvs = q ++ [p] := by
      have : kvs ≠ [] := by rintro rfl; cases h
      exact ⟨kvs.dropLast, kvs.getLast this, (List.dropLast_concat_getLast this).symm⟩
    have hq : q.length = n := by rw [List.length_append] at h; exact Nat.succ.inj h
    rw [takenL_snoc]
    exact stepT_w0 (ih hq fun r hr => h0 r (List.mem_append.mpr (.inl hr))) (h0 p (List.mem_append.mpr (.inr List.mem_cons_self)))
theorem taken_len {w : Int} {kvs : Kvs} : (takenL kvs w).1.length ≤ kvs.length := by
  suffices h : ∀ n (kvs : Kvs), kvs.length = n → (takenL kvs w).1.length ≤ n from h _ _ rfl
  intro n
  induction n with
  | zero =>
    intro kvs h
    rw [List.length_eq_zero_iff.mp h]
    exact Nat.le_refl _
  | succ n ih =>
    intro kvs h
    obtain ⟨q, p, rfl⟩ : ∃ q p, kvs = q ++ [p] := by
      have : kvs ≠ [] := by rintro rfl; cases h
      exact ⟨kvs.dropLast, kvs.getLast this, (List.dropLast_concat_getLast this).symm⟩
    have hq : q.length = n := by rw [List.length_append] at h; exact Nat.succ.inj h
    have := ih q hq
    rw [takenL_snoc]
    unfold stepT
    split
    · rw [List.length_append]
      exact Nat.succ_le_succ this
    · exact Nat.le_succ_of_le this
theorem Kz.rest {kvs : Kvs} {w : Int} (h : Kz kvs) : Kz (takenL kvs w).2.1 := ⟨by rw [(taken_ok rfl).1]; exact h.nd, taken_w0 rfl h.w0⟩
theorem rest_len {kvs : Kvs} {w : Int} : (takenL kvs w).2.1.length = kvs.length := by
  have := congrArg List.length (taken_ok (w := w) (kvs := kvs) rfl).1
  simpa using this
section
variable {P : Program} {w : World} {K : PySem.W.Frag} {mg : Str → Option Value} {base : Heap}
def spTaken : Sp := fun vs H Q _ => ∃ (R : Addr) (wt : Int) (kvs : Kvs), vs = [.ref R, .int wt] ∧ H R = some (.dK (sd kvs)) ∧ Kz kvs ∧ kvs.length ≤ 100 ∧
  ∀ d H', H d = none → H' d = some (.dK (sd (takenL kvs wt).1)) → H' R = some (.dK (sd (takenL kvs wt).2.1)) → SameB R H H' → Q (.ref d) H'
theorem val_sd {kvs : Kvs} {z : Str} : valV (sd kvs) (Sum.inr z) = (getA kvs z).map V.int := val_en inr_inj z kvs
theorem put_sd' (kvs : Kvs) (z : Str) (v : Int) : putK (sd kvs) (Sum.inr z) (V.int v) = sd (putA kvs z v) := put_en inr_inj kvs z v
theorem sc_taken : FnScope ["rest", "weight", "part", "name", "some"] ["rest", "weight"] (defScope s_taken) := ⟨rfl, rfl, rfl, by decide +kernel, rfl, by decide +kernel, by decide +kernel⟩
theorem ok_taken (D : All K P mg) : FnOk P w K mg base CX0 1 D.f_taken D.d_taken ["rest", "weight"] spTaken := by
  refine D.h_taken.fn.ok sc_taken (fun vs H Q E h => ?_) (fun cdv A outer s H vs Q E hr h => ?_)
  · first | (obtain ⟨_, rfl, _⟩ := h; rfl) | (obtain ⟨_, _, rfl, _⟩ := h; rfl) | (obtain ⟨_, _, _, rfl, _⟩ := h; rfl) | (obtain ⟨_, _, _, _, rfl, _⟩ := h; rfl) | (obtain ⟨_, _, _, _, _, rfl, _⟩ := h; rfl) | (obtain ⟨_, _, _, _, _, _, rfl, _⟩ := h; rfl) | (obtain ⟨_, _, _, _, _, _, _, rfl, _⟩ := h; rfl) | (obtain ⟨_, _, _, _, _, _, _, _, rfl, _⟩ := h; rfl) | (obtain ⟨_, _, _, _, _, _, _, _, _, rfl, _⟩ := h; rfl) | (obtain ⟨_, _, _, _, _, _, _, _, _, _, rfl, _⟩ := h; rfl) | (obtain ⟨_, _, _, _, _, _, _, _, _, _, _, rfl, _⟩ := h; rfl) | (obtain ⟨_, _, _, _, _, _, _, _, _, _, _, _, rfl, _⟩ := h; rfl) | (obtain ⟨_, _, _, _, _, _, _, _, _, _, _, _, _, rfl, _⟩ := h; rfl) | (obtain ⟨_, _, _, _, _, _, _, _, _, _, _, _, _, _, rfl, _⟩ := h; rfl) | (obtain ⟨_, _, _, _, _, _, _, _, _, _, _, _, _, _, _, rfl, _⟩ := h; rfl)
  · have T := D.T
    have nd := sc_taken.nd
    have hu := hr.units
    have hu1 := hu_of hr
    obtain ⟨R, wt, kvs, rfl, hR, hk, hl, q⟩ := h
    refine ⟨_, pss_cons (ps_set (i := 2) nd rfl (.inl rfl) pe_dnewK)
      (pss_cons (ps_for PassesOwn.never rfl (pi_list (pe_callTy (call_listD rfl) (by rfl) T.list (by decide +kernel) (pa_cons (pv 0) pa_nil))) (pg_name (i := 3) nd rfl (Or.inl rfl)) (pss_cons (ps_set (i := 4) nd rfl (.inl rfl) (pe_callB (call_min2 rfl) (by rfl) T.min (by decide +kernel) (pa_cons (pe_dget hu1 (pv 0) (pv 3) (fun _ _ => rfl)) (pa_cons (pv 1) pa_nil))))
      (pss_one (ps_if (pt_cmpR op_gt (pv 4) pe_int (nomark _)) (pss_cons (ps_dput hu1 (pv 2) (pv 3) (pv 4) rfl)
      (pss_cons (ps_daug hu1 (pv 0) (pv 3) (pv 4) in_sub (fun _ _ _ => rfl))
      (pss_one (ps_aug (i := 1) nd rfl (.inl rfl) (pv 4) ip_sub)))) pss_nil))))
      (pss_one (ps_ret (pv 2)))), ?_⟩
    refine fun d nd' => ?_
    have nRd : R ≠ d := ne_of_none hR nd'
    have s1 := same_upd (o := .dK []) nd'
    have ed := upd_same (H := H) (a := d) (o := .dK [])
    generalize upd H d (.dK []) = H1 at *
    have hR1 := s1 _ _ hR
    refine ⟨_, rfl, R, _, rfl, Rd.of hR1, fun L nL => ?_⟩
    have nRL : R ≠ L := ne_of_none hR1 nL
    have ndL : d ≠ L := ne_of_none ed nL
    have eX : (sd kvs).map (fun kv => kV kv.1) = kvs.map fun p => V.str p.1 := by
      unfold sd
      rw [List.map_map]
      rfl
    rw [eX]
    have s2 := same_upd (o := .lst (kvs.map fun p => V.str p.1)) nL
    have eL := upd_same (H := H1) (a := L) (o := .lst (kvs.map fun p => V.str p.1))
    generalize upd H1 L (.lst (kvs.map fun p => V.str p.1)) = H2 at *
    refine ⟨L, rfl, ⟨_, SqL.of eL⟩, for_list (xs := kvs.map fun p => V.str p.1) (fun i σ H' => ∃ x3 x4, σ = [some (.ref R), some (.int (takenL (kvs.take i) wt).2.2), some (.ref d), x3, x4] ∧ H' L = some (.lst (kvs.map fun p => V.str p.1)) ∧
        H' d = some (.dK (sd (takenL (kvs.take i) wt).1)) ∧ H' R = some (.dK (sd ((takenL (kvs.take i) wt).2.1 ++ kvs.drop i))) ∧ SameB R H H')
      ⟨none, none, rfl, eL, s2 _ _ ed, s2 _ _ hR1, SameB.of (s1.trans s2)⟩ (fun i σ H' _ ⟨_, _, _, e, _⟩ => SqL.of e) ?_ ?_⟩
    · rintro i y σ H3 hy ⟨x3, x4, rfl, eL3, ed3, eR3, sb3⟩
      obtain ⟨hi, ey⟩ := List.getElem?_eq_some_iff.mp hy
      rw [List.length_map] at hi
      rw [List.getElem_map] at ey
      subst ey
      have ht : kvs.take (i + 1) = kvs.take i ++ [kvs[i]] := List.take_succ_eq_append_getElem hi
      have hdp : kvs.drop i = kvs[i] :: kvs.drop (i + 1) := List.drop_eq_getElem_cons hi
      have hnd : (kvs.take i).map (·.1) ++ (kvs[i].1 :: (kvs.drop (i + 1)).map (·.1)) = kvs.map (·.1) := by
        rw [← List.map_cons, ← hdp, ← List.map_append, List.take_append_drop]
      have nd2 := hk.nd
      rw [← hnd, List.nodup_append] at nd2
      obtain ⟨_, nd3, nd4⟩ := nd2
      obtain ⟨k1, k2⟩ := taken_ok (w := wt) (kvs := kvs.take i) rfl
      have m1 : kvs[i].1 ∉ (takenL (kvs.take i) wt).2.1.map (·.1) := by
        rw [k1]
        exact fun h => nd4 _ h _ List.mem_cons_self rfl
      have m2 : kvs[i].1 ∉ (kvs.drop (i + 1)).map (·.1) := (List.nodup_cons.mp nd3).1
      have m3 : getA (takenL (kvs.take i) wt).1 kvs[i].1 = none := getA_none_iff.mpr fun h => nd4 _ (k2 _ h) _ List.mem_cons_self rfl
      rw [hdp] at eR3
      have gR : getA ((takenL (kvs.take i) wt).2.1 ++ kvs[i] :: kvs.drop (i + 1)) kvs[i].1 = some kvs[i].2 := by
        rw [getA_app m1, getA_pos rfl]
      have dg : DGet H3 R (.str kvs[i].1) (some (.int kvs[i].2)) := by
        have := DGet.k (k := Sum.inr kvs[i].1) eR3
        rw [val_sd, gR] at this
        exact this
      rw [ht, takenL_snoc]
      generalize hA : takenL (kvs.take i) wt = A at *
      refine ⟨_, rfl, _, rfl, R, _, rfl, dg, _, rfl, _, _, rfl, ?_⟩
      generalize hS : (if A.2.2 < kvs[i].2 then A.2.2 else kvs[i].2) = S
      refine ⟨_, rfl, _, _, rfl, rfl, _, rfl, ite2 (fun h => ?_) (fun h => ?_)⟩
      · have h0 : S > 0 := of_decide_eq_true h
        have eS : stepT A kvs[i] = (A.1 ++ [(kvs[i].1, S)], A.2.1 ++ [(kvs[i].1, kvs[i].2 - S)], A.2.2 - S) := by
          unfold stepT
          rw [show ofT A.2.2 kvs[i].2 = S from hS, if_pos h0]
        rw [eS]
        have lA : A.1.length ≤ 100 := by
          rw [← hA]
          have := taken_len (w := wt) (kvs := kvs.take i)
          rw [List.length_take] at this
          omega
        refine ⟨_, rfl, _, rfl, _, rfl, d, _, rfl, DPut.k (k := Sum.inr kvs[i].1) ed3 (small1000 (by rw [sd_len]; omega)), ?_⟩
        rw [put_sd', putA_new m3]
        have eR4 : (upd H3 d (.dK (sd (A.1 ++ [(kvs[i].1, S)])))) R = some (.dK (sd (A.2.1 ++ kvs[i] :: kvs.drop (i + 1)))) := by
          rw [upd_ne nRd]
          exact eR3
        have e5 : DGet (upd H3 d (.dK (sd (A.1 ++ [(kvs[i].1, S)])))) R (.str kvs[i].1) (some (.int kvs[i].2)) := by
          have := DGet.k (k := Sum.inr kvs[i].1) eR4
          rw [val_sd, gR] at this
          exact this
        have eL4 : (upd H3 d (.dK (sd (A.1 ++ [(kvs[i].1, S)])))) L = some (.lst (kvs.map fun p => V.str p.1)) := by
          rw [upd_ne (Ne.symm ndL)]
          exact eL3
        have sb4 : SameB R H (upd H3 d (.dK (sd (A.1 ++ [(kvs[i].1, S)])))) := SameB.new nd' sb3
        have ed4 := upd_same (H := H3) (a := d) (o := .dK (sd (A.1 ++ [(kvs[i].1, S)])))
        generalize upd H3 d (.dK (sd (A.1 ++ [(kvs[i].1, S)]))) = H4 at *
        refine ⟨_, rfl, _, rfl, R, _, rfl, e5, _, rfl, _, _, rfl, rfl, _, DPut.k (k := Sum.inr kvs[i].1) eR4 ?_, ?_⟩
        · rw [sd_len, List.length_append, List.length_cons, ← hA, rest_len, List.length_take, List.length_drop]
          exact small1000 (by omega)
        rw [put_sd', show A.2.1 ++ kvs[i] :: kvs.drop (i + 1) = A.2.1 ++ (kvs[i].1, kvs[i].2) :: kvs.drop (i + 1) from rfl, putA_mid m1 m2]
        refine ⟨_, rfl, _, rfl, _, _, rfl, rfl, ?_⟩
        refine ⟨_, _, rfl, ?_, ?_, ?_, SameB.upd sb4⟩
        · rw [upd_ne (Ne.symm nRL)]
          exact eL4
        · rw [upd_ne (Ne.symm nRd)]
          exact ed4
        · rw [upd_same, List.append_assoc]
          rfl
      · have h0 : ¬ S > 0 := fun e => h (decide_eq_true e)
        have eS : stepT A kvs[i] = (A.1, A.2.1 ++ [kvs[i]], A.2.2) := by
          unfold stepT
          rw [show ofT A.2.2 kvs[i].2 = S from hS, if_neg h0]
        rw [eS]
        refine ⟨_, _, rfl, eL3, ed3, ?_, sb3⟩
        rw [eR3, List.append_assoc]
        rfl
    · rintro σ H3 ⟨x3, x4, rfl, eL3, ed3, eR3, sb3⟩
      rw [List.length_map, List.take_length] at ed3 eR3
      rw [List.drop_length, List.append_nil] at eR3
      exact ⟨_, rfl, q d H3 nd' ed3 eR3 sb3⟩
end
end K36

set_option Elab.async false
set_option linter.all false
set_option maxRecDepth 100000
set_option maxHeartbeats 1600000
set_option pp.maxSteps 300
namespace K36
open PySem PySem.Spec PyProof.Rows L2 LT NdefX
/-- stores as they are told -/
inductive StK (H : Hp) : V → Kvs → Prop
  | non : StK H .non []
  | dict {d : Addr} {kvs : Kvs} : H d = some (.dK (sd kvs)) → Kv kvs → kvs.length ≤ 8 → StK H (.ref d) kvs
theorem StK.v {H : Hp} {v : V} {kvs : Kvs} (h : StK H v kvs) : StV H v (wsum kvs) := by
  cases h with
  | non => exact .non
  | dict e k l => exact .dict e k l
theorem StK.mono {H H' : Hp} {v : V} {kvs : Kvs} (h : StK H v kvs) (s : Same H H') : StK H' v kvs := by
  cases h with
  | non => exact .non
  | dict e k l => exact .dict (s _ _ e) k l
theorem StK.len {H : Hp} {v : V} {kvs : Kvs} (h : StK H v kvs) : kvs.length ≤ 8 := by
  cases h with
  | non => exact Nat.zero_le _
  | dict e k l => exact l
theorem StK.kz {H : Hp} {v : V} {kvs : Kvs} (h : StK H v kvs) : Kz kvs := by
  cases h with
  | non => exact ⟨List.nodup_nil, nofun⟩
  | dict e k l => exact ⟨k.nd, fun p hp => by have := k.w1 p hp; omega⟩
theorem StK.sum0 {H : Hp} {v : V} {kvs : Kvs} (h : StK H v kvs) : 0 ≤ wsum kvs := h.v.bd.1
theorem StK.sum1 {H : Hp} {v : V} {kvs : Kvs} (h : StK H v kvs) : wsum kvs ≤ 10 ^ 71 := h.v.bd.2
/-! ### loads -/
def mnI (r o : Int) (i : Nat) : Int := if (if o - (i : Nat) * r < r then o - (i : Nat) * r else r) > 0 then (if o - (i : Nat) * r < r then o - (i : Nat) * r else r) else 0
theorem mnI_bd {r o : Int} {i : Nat} (h : 0 ≤ r) : 0 ≤ mnI r o i ∧ mnI r o i ≤ r := by
  unfold mnI
  generalize o - (i : Nat) * r = y
  split <;> (try split) <;> omega
def restI (r c m o : Int) (kvs : Kvs) : Nat → Kvs
  | 0 => kvs
  | i + 1 => (takenL (restI r c m o kvs i) (c - mnI r o i * m)).2.1
theorem restI_len {r c m o : Int} {kvs : Kvs} : ∀ i, (restI r c m o kvs i).length = kvs.length
  | 0 => rfl
  | i + 1 => by rw [restI, rest_len, restI_len i]
theorem restI_kz {r c m o : Int} {kvs : Kvs} (h : Kz kvs) : ∀ i, Kz (restI r c m o kvs i)
  | 0 => h
  | i + 1 => (restI_kz h i).rest
abbrev Load := Int × Int × Kvs
def loadI (r c m o b : Int) (kvs : Kvs) (i : Nat) : Load := (mnI r o i, mnI r b i, (takenL (restI r c m o kvs i) (c - mnI r o i * m)).1)
def loadsI (r c m o b : Int) (kvs : Kvs) (n : Nat) : List Load := (List.range n).map (loadI r c m o b kvs)
/-- a load stands at t; its dict is not R -/
def LdP (R : Addr) (H : Hp) (t : Addr) (l : Load) : Prop := ∃ d, H t = some (.tup [.int l.1, .int l.2.1, .ref d]) ∧ H d = some (.dK (sd l.2.2)) ∧ d ≠ R
theorem Paired.imp {α β : Type} {R S : α → β → Prop} (f : ∀ a b, R a b → S a b) : ∀ {xs : List α} {ys : List β}, Paired R xs ys → Paired S xs ys
  | _, _, .nil => .nil
  | _, _, .cons h r => .cons (f _ _ h) (Paired.imp f r)
theorem Paired.snoc {α β : Type} {R : α → β → Prop} {a : α} {b : β} (h : R a b) : ∀ {xs : List α} {ys : List β}, Paired R xs ys → Paired R (xs ++ [a]) (ys ++ [b])
  | _, _, .nil => .cons h .nil
  | _, _, .cons h2 r => .cons h2 (Paired.snoc h r)
theorem Paired.len {α β : Type} {R : α → β → Prop} : ∀ {xs : List α} {ys : List β}, Paired R xs ys → xs.length = ys.length
  | _, _, .nil => rfl
  | _, _, .cons _ r => congrArg Nat.succ (Paired.len r)
section
variable {P : Program} {w : World} {K : PySem.W.Frag} {mg : Str → Option Value} {base : Heap}
theorem Zb (D : All K P mg) : Ct K mg D.C_Boat := ⟨D.Z_Boat.cl, D.n_Boat_many_seats, D.n_Boat_most_weight, D.n_Boat_man_weight, D.Z_Boat.gl, D.Z_Boat.kp⟩
theorem Mb (D : All K P mg) : M3 K D.C_Boat D.f_Boat_seats D.f_Boat_carries D.f_Boat_man D.d_Boat_seats D.d_Boat_carries D.d_Boat_man := ⟨D.h_Boat_seats, D.h_Boat_carries, D.h_Boat_man⟩
theorem Sb (D : All K P mg) : Cs mg := ⟨⟨_, D.g_SMALL_LETTERS⟩, ⟨_, D.g_LONGEST_NAME⟩, ⟨_, D.g_MOST_THINGS⟩⟩
theorem ok_Boat___init__ (D : All K P mg) : FnOk P w K mg base CX0 3 D.f_Boat___init__ D.d_Boat___init__ ["self", "seats", "carries", "man"] (spInit D.C_Boat) := ok_init D.h_Boat___init__.fn D.T (Zb D) D.h_is_from D.h_is_whole
theorem ok_Boat_carries (D : All K P mg) : FnOk P w K mg base CX0 1 D.f_Boat_carries D.d_Boat_carries ["self"] (spGet D.C_Boat fun _ c _ => c) := ok_carries D.h_Boat_carries.fn (Zb D)
theorem ok_Boat_man (D : All K P mg) : FnOk P w K mg base CX0 1 D.f_Boat_man D.d_Boat_man ["self"] (spGet D.C_Boat fun _ _ m => m) := ok_man D.h_Boat_man.fn (Zb D)
theorem ok_room_of (D : All K P mg) : FnOk P w K mg base CX0 2 D.f_room_of D.d_room_of ["boat"] (spRoom D.C_Boat) := ok_room D.h_room_of.fn D.T (Zb D) (Mb D)
theorem ok_fewest (D : All K P mg) : FnOk P w K mg base (L2.CX P w) 5 D.f_fewest D.d_fewest ["boat", "out", "back", "stores"] (spFw D.C_Boat D.C_Small) :=
  ok_fw D.q_fewest D.T (Sb D) (Zb D) D.E_Small (Mb D) D.h_room_of D.h_weight_out D.h_parts_for D.h_check_wanted D.h_are_stores D.h_is_name D.h_is_from D.h_is_whole
theorem ok_barred (D : All K P mg) : FnOk P w K mg base CX0 5 D.f_barred D.d_barred ["boat", "goings", "out", "back", "stores"] (spBd D.C_Boat) :=
  ok_bd D.q_barred D.T (Sb D) (Zb D) (Mb D) D.h_room_of D.h_weight_out D.h_check_wanted D.h_are_stores D.h_is_name D.h_is_from D.h_is_whole
def spLoads (C CS CT : Addr) : Sp := fun vs H Q E => ∃ (x : Addr) (s c m o b : Int) (kvs : Kvs) (v : V), vs = [.ref x, .int o, .int b, v] ∧ Bt C H x s c m ∧ 0 ≤ o ∧ o ≤ 10 ^ 60 ∧ 0 ≤ b ∧ b ≤ 10 ^ 60 ∧ StK H v kvs ∧
  (fewI s c m o b (wsum kvs) = none → ∀ H', Same H H' → E (.ref CS) none H') ∧ (∀ n, fewI s c m o b (wsum kvs) = some n → n > 300 → ∀ H', Same H H' → E (.ref CT) none H') ∧
  (∀ n, fewI s c m o b (wsum kvs) = some n → n ≤ 300 → ∀ L R ts H', H L = none → Same H H' → H' L = some (.lst (ts.map V.ref)) → Paired (LdP R H') ts (loadsI (roomI s c m) c m o b kvs n.toNat) → Q (.ref L) H')
theorem sc_loads : FnScope ["boat", "out", "back", "stores", "many", "room", "rest", "told", "number", "men_out", "men_back"] ["boat", "out", "back", "stores"] (defScope s_loads) := ⟨rfl, rfl, rfl, by decide +kernel, rfl, by decide +kernel, by decide +kernel⟩
theorem ok_loads (D : All K P mg) : FnOk P w K mg base (L2.CX P w) 6 D.f_loads D.d_loads ["boat", "out", "back", "stores"] (spLoads D.C_Boat D.C_Small D.C_TooMany) := by
  refine D.q_loads.ok sc_loads (fun vs H Q E h => ?_) (fun cdv A outer s H vs Q E hr h => ?_)
  · first | (obtain ⟨_, rfl, _⟩ := h; rfl) | (obtain ⟨_, _, rfl, _⟩ := h; rfl) | (obtain ⟨_, _, _, rfl, _⟩ := h; rfl) | (obtain ⟨_, _, _, _, rfl, _⟩ := h; rfl) | (obtain ⟨_, _, _, _, _, rfl, _⟩ := h; rfl) | (obtain ⟨_, _, _, _, _, _, rfl, _⟩ := h; rfl) | (obtain ⟨_, _, _, _, _, _, _, rfl, _⟩ := h; rfl) | (obtain ⟨_, _, _, _, _, _, _, _, rfl, _⟩ := h; rfl) | (obtain ⟨_, _, _, _, _, _, _, _, _, rfl, _⟩ := h; rfl) | (obtain ⟨_, _, _, _, _, _, _, _, _, _, rfl, _⟩ := h; rfl) | (obtain ⟨_, _, _, _, _, _, _, _, _, _, _, rfl, _⟩ := h; rfl) | (obtain ⟨_, _, _, _, _, _, _, _, _, _, _, _, rfl, _⟩ := h; rfl) | (obtain ⟨_, _, _, _, _, _, _, _, _, _, _, _, _, rfl, _⟩ := h; rfl) | (obtain ⟨_, _, _, _, _, _, _, _, _, _, _, _, _, _, rfl, _⟩ := h; rfl) | (obtain ⟨_, _, _, _, _, _, _, _, _, _, _, _, _, _, _, rfl, _⟩ := h; rfl)
  · have T := D.T
    have nd := sc_loads.nd
    have hu := hr.units
    have hu1 := hu_of hr
    have ps : Passes (L2.CX P w) (cxOf (L2.CX P w) P w K mg base ["boat", "out", "back", "stores", "many", "room", "rest", "told", "number", "men_out", "men_back"] "loads" (defScope s_loads) D.f_loads cdv A outer s H E) E := passes_call (takes_of rfl rfl rfl rfl) (fun _ _ _ _ h => h)
    obtain ⟨x, sv, c, m, o, b, kvs, v, rfl, B, o0, o1, b0, b1, hv, q1, q2, q3⟩ := h
    obtain ⟨_, v4_fewest, b4_fewest⟩ := D.q_fewest.binds1 (ps := ["boat", "out", "back", "stores"]) 4 2 (by simp) (by rfl) (fun _ _ _ _ _ _ _ us its h1 h2 => match us, its, h1, h2 with | [_, _, _, _], [_, _], _, _ => ⟨_, rfl, rfl⟩)
    refine ⟨_, pss_cons (ps_set (i := 4) nd rfl (.inl rfl) (pe_call (ok_fewest D) (hr.mono (by decide)) (by rfl) D.gl_fewest D.kp_fewest b4_fewest v4_fewest ps (pa_cons (pv 0) (pa_cons (pv 1) (pa_cons (pv 2) (pa_cons (pv 3) pa_nil))))))
      (pss_cons (ps_if (pt_cmpR op_gt (pv 4) (pe_glob (v := .int (300)) (by rfl) D.g_MOST_LOADS ⟨_, rfl⟩) (nomark _)) (pss_one (ps_raise rfl (takes_of rfl rfl rfl rfl) (pmk_own PySem.F.excBase_ValueError D.E_TooMany.x D.E_TooMany.g D.E_TooMany.k (raises_own D.E_TooMany.b D.E_TooMany.t) (by rfl)))) pss_nil)
      (pss_cons (ps_set (i := 5) nd rfl (.inl rfl) (pe_call (ok_room_of D) (hr.mono (by decide)) (by rfl) D.h_room_of.gl D.h_room_of.fn.kp D.h_room_of.bd .nil pass0 (pa_cons (pv 0) pa_nil)))
      (pss_cons (ps_set (i := 6) nd rfl (.inl rfl) (pe_ifExp (pt_cmpR op_isN (pv 3) pe_non (nomark _)) pe_dnewK (pe_callTy call_dictD (by rfl) T.dict (by decide +kernel) (pa_cons (pv 3) pa_nil))))
      (pss_cons (ps_set (i := 7) nd rfl (.inl rfl) (pe_lst pa_nil))
      (pss_cons (PS.nox (ps_for PassesOwn.never rfl (pi_range1 (by rfl) T.range (pa_cons (pv 4) pa_nil)) (pg_name (i := 8) nd rfl (Or.inl rfl)) (pss_cons (ps_set (i := 9) nd rfl (.inl rfl) (pe_callB (call_max2 rfl) (by rfl) T.max (by decide +kernel) (pa_cons pe_int (pa_cons (pe_callB (call_min2 rfl) (by rfl) T.min (by decide +kernel) (pa_cons (pv 5) (pa_cons (pe_op op_sub (pv 1) (pe_op op_mul (pv 8) (pv 5))) pa_nil))) pa_nil))))
      (pss_cons (ps_set (i := 10) nd rfl (.inl rfl) (pe_callB (call_max2 rfl) (by rfl) T.max (by decide +kernel) (pa_cons pe_int (pa_cons (pe_callB (call_min2 rfl) (by rfl) T.min (by decide +kernel) (pa_cons (pv 5) (pa_cons (pe_op op_sub (pv 2) (pe_op op_mul (pv 8) (pv 5))) pa_nil))) pa_nil))))
      (pss_one (ps_expr (pe_bm PySem.F.plainAttrs_list PySem.F.slot_list_append PySem.F.type_list_append mt_append (pv 7) (pa_cons (pe_tup (pa_cons (pv 9) (pa_cons (pv 10) (pa_cons (pe_call (ok_taken D) (hr.mono (by decide)) (by rfl) D.h_taken.gl D.h_taken.fn.kp D.h_taken.bd .nil pass0 (pa_cons (pv 6) (pa_cons (pe_op op_sub (pe_meth0 (pv 0) D.Z_Boat.cl D.h_Boat_carries.me (ok_Boat_carries D) (hr.mono (by decide)) D.h_Boat_carries.bd .nil pass0) (pe_op op_mulW (pv 9) (pe_meth0 (pv 0) D.Z_Boat.cl D.h_Boat_man.me (ok_Boat_man D) (hr.mono (by decide)) D.h_Boat_man.bd .nil pass0))) pa_nil))) pa_nil)))) pa_nil))))))))
      (pss_one (ps_ret (pv 7)))))))), ?_⟩
    refine ⟨_, rfl, _, rfl, _, rfl, _, rfl, x, sv, c, m, o, b, wsum kvs, v, rfl, B, o0, o1, b0, b1, hv.v, q1, fun n hn H1 s1 => ?_⟩
    have B1 := B.mono s1
    have hv1 := hv.mono s1
    obtain ⟨r0, r1⟩ := room_bd B.s1 B.c1 B.m1
    have hs2 := B.s2
    have hc2 := B.c2
    have hm2 := B.m2
    have hm1 := B.m1
    have hl := hv.len
    refine ⟨_, rfl, _, _, rfl, rfl, _, rfl, ite2 (fun h => ?_) (fun h => ?_)⟩
    · exact q2 n hn (of_decide_eq_true h) H1 s1
    have hn3 : n ≤ 300 := by
      have := mt (decide_eq_true (p := n > 300)) h
      omega
    refine ⟨_, rfl, x, sv, c, m, rfl, B1, ?_⟩
    -- the rest, a dict of its own
    apply joinA (α := Addr) (J := fun R Hx => Same H1 Hx ∧ H1 R = none ∧ Hx R = some (.dK (sd kvs))) (sl := fun R => [some (.ref x), some (.int o), some (.int b), some v, some (.int n), some (.int (roomI sv c m)), some (.ref R), none, none, none, none])
    · intro h
      cases hv1 with
      | non =>
        refine ⟨_, rfl, rfl, _, rfl, ?_⟩
        rw [decide_eq_true rfl]
        refine fun R nR => ?_
        exact h R _ ⟨same_upd nR, nR, upd_same⟩
      | dict e k l =>
        refine ⟨_, rfl, rfl, _, rfl, ?_⟩
        rw [decide_eq_false (by nofun)]
        refine ⟨_, rfl, _, _, rfl, Rd.of e, fun R nR => ?_⟩
        exact h R _ ⟨same_upd nR, nR, upd_same⟩
    rintro R H2 ⟨s2, nR, eR⟩
    refine ⟨by show 0 ≤ sizeLine; decide, fun L nL => ?_⟩
    have nRL : R ≠ L := ne_of_none eR nL
    have s3 := same_upd (o := .lst []) nL
    have eL := upd_same (H := H2) (a := L) (o := .lst [])
    generalize upd H2 L (.lst []) = H3 at *
    have nL0 : H L = none := (s1.trans s2).free nL
    have nR0 : H R = none := s1.free nR
    have hk : Kz kvs := hv.kz
    obtain ⟨hn0, _⟩ := few_ok ⟨B.s1, B.c1, B.m1, B.s2, B.c2, B.m2⟩ o0 b0 hv.sum0 o1 b1 hv.sum1 hn
    refine ⟨_, rfl, n, rfl, by omega, by omega, for_range (lo := 0) (n := n.toNat) (fun i σ H' => ∃ x8 x9 x10 ts, σ = [some (.ref x), some (.int o), some (.int b), some v, some (.int n), some (.int (roomI sv c m)), some (.ref R), some (.ref L), x8, x9, x10] ∧
        Same H H' ∧ H' R = some (.dK (sd (restI (roomI sv c m) c m o kvs i))) ∧ H' L = some (.lst (ts.map V.ref)) ∧ Paired (LdP R H') ts (loadsI (roomI sv c m) c m o b kvs i))
      ⟨none, none, none, [], rfl, s1.trans (s2.trans s3), s3 _ _ eR, eL, .nil⟩ ?_ ?_⟩
    · rintro i σ H4 hi ⟨x8, x9, x10, ts, rfl, s4, eR4, eL4, pr⟩
      have B4 := B.mono s4
      obtain ⟨dx, hx⟩ := B4.at_
      have hi3 : i < 300 := by omega
      have e0 : (0 : Int) + (i : Nat) = ((i : Nat) : Int) := by omega
      rw [e0]
      generalize hR : roomI sv c m = r at *
      refine ⟨_, rfl, _, rfl, _, rfl, _, rfl, _, _, rfl, rfl, .inl ⟨by omega, by omega⟩, _, _, rfl, rfl, _, _, rfl, _, _, rfl, ?_⟩
      refine ⟨_, rfl, _, rfl, _, rfl, _, rfl, _, _, rfl, rfl, .inl ⟨by omega, by omega⟩, _, _, rfl, rfl, _, _, rfl, _, _, rfl, ?_⟩
      have hO : (if (if o - ((i : Nat) : Int) * r < r then o - ((i : Nat) : Int) * r else r) > 0 then (if o - ((i : Nat) : Int) * r < r then o - ((i : Nat) : Int) * r else r) else 0) = mnI r o i := rfl
      have hB : (if (if b - ((i : Nat) : Int) * r < r then b - ((i : Nat) : Int) * r else r) > 0 then (if b - ((i : Nat) : Int) * r < r then b - ((i : Nat) : Int) * r else r) else 0) = mnI r b i := rfl
      rw [hO, hB]
      obtain ⟨mo0, mo1⟩ := mnI_bd (r := r) (o := o) (i := i) r0
      refine ⟨_, rfl, .inl ⟨rfl, _, SqL.of eL4⟩, _, rfl, _, rfl, _, rfl, _, rfl, x, dx, _, rfl, hx, g2, x, dx, _, _, _, rfl, hx, _, rfl, _, rfl, x, dx, _, rfl, hx, g3, x, dx, _, _, _, rfl, hx, _, _, rfl, rfl, ?_, _, _, rfl, rfl, ?_⟩
      · exact wd (show (mnI r o i).natAbs ≤ 10 ^ 60 by omega) (show m.natAbs ≤ 10 ^ 60 by omega)
      refine ⟨R, c - mnI r o i * m, _, rfl, eR4, restI_kz hk i, by rw [restI_len]; omega, fun d H5 nd5 ed eR5 sb5 => ?_⟩
      have hdR : d ≠ R := ne_of_none eR4 nd5 |>.symm
      have eL5 := sb5 _ _ (Ne.symm nRL) eL4
      refine ⟨by show 3 ≤ sizeLine; decide, fun t nt => ?_⟩
      have s6 := same_upd (o := .tup [V.int (mnI r o i), .int (mnI r b i), .ref d]) nt
      have et := upd_same (H := H5) (a := t) (o := .tup [V.int (mnI r o i), .int (mnI r b i), .ref d])
      generalize upd H5 t (.tup [V.int (mnI r o i), .int (mnI r b i), .ref d]) = H6 at *
      have eL6 := s6 _ _ eL5
      have eR6 := s6 _ _ eR5
      have ed6 := s6 _ _ ed
      have nLt : t ≠ L := ne_of_none eL5 nt |>.symm
      have s46 : SameB R H4 H6 := sb5.trans (SameB.of s6)
      have pl := Paired.len pr
      unfold loadsI at pl
      rw [List.length_map, List.length_range] at pl
      refine ⟨L, _, _, rfl, rfl, eL6, small1000 (by rw [List.length_map]; omega), ?_⟩
      refine ⟨_, _, _, ts ++ [t], rfl, ?_, ?_, ?_, ?_⟩
      · refine same_app nL0 fun a ob e => s46 _ _ (ne_of_none e nR0) (s4 _ _ e)
      · rw [upd_ne nRL]
        exact eR6
      · rw [upd_same, List.map_append]
        rfl
      · unfold loadsI
        rw [List.range_succ, List.map_append]
        refine Paired.snoc ⟨d, ?_, ?_, hdR⟩ (Paired.imp ?C pr)
        case C =>
          intro t' l hq
          obtain ⟨d', h1, h2, h3⟩ := hq
          have h1' := s46 _ _ (fun e => by rw [e, eR4] at h1; cases h1) h1
          have h2' := s46 _ _ h3 h2
          refine ⟨d', ?_, ?_, h3⟩
          · rw [upd_ne (fun e => by rw [e, eL6] at h1'; cases h1')]
            exact h1'
          · rw [upd_ne (fun e => by rw [e, eL6] at h2'; cases h2')]
            exact h2'
        · rw [upd_ne nLt]
          exact et
        · rw [upd_ne (fun e => by rw [e, eL6] at ed6; cases ed6)]
          exact ed6
    · rintro σ H4 ⟨x8, x9, x10, ts, rfl, s4, eR4, eL4, pr⟩
      exact ⟨_, rfl, q3 n hn hn3 L R ts H4 nL0 s4 eL4 pr⟩
end
end K36

set_option Elab.async false
set_option linter.all false
set_option maxRecDepth 100000
set_option maxHeartbeats 1600000
set_option pp.maxSteps 300
namespace K36
open PySem PySem.Spec PyProof.Rows L2 LT NdefX
section
variable {P : Program} {w : World} {K : PySem.W.Frag} {mg : Str → Option Value} {base : Heap}
theorem ok__law_pot (D : All K P mg) : FnOk P w K mg base CX0 2 D.f__law_pot D.d__law_pot ["_law_script", "_law_k"] (spPot K) := ok_pot D.h__law_pot.fn D.T D.h__law_cell.fn D.h__law_cell.bd D.h__law_cell.gl
def spTake : Sp := fun vs H Q _ => ∃ (p : Addr) (r : Int), vs = [.ref p, .int r] ∧ Pot H p ∧ 0 < r ∧ r ≤ 1000000000 ∧
  ∀ (d : Int) (H' : Hp), 0 ≤ d → d < r → Pot H' p → SameB p H H' → Q (.int d) H'
theorem sc__law_take : FnScope ["_law_pot_here", "_law_room", "_law_digit"] ["_law_pot_here", "_law_room"] (defScope s__law_take) := ⟨rfl, rfl, rfl, by decide +kernel, rfl, by decide +kernel, by decide +kernel⟩
theorem ok__law_take (D : All K P mg) : FnOk P w K mg base CX0 1 D.f__law_take D.d__law_take ["_law_pot_here", "_law_room"] spTake := by
  refine D.h__law_take.fn.ok sc__law_take (fun vs H Q E h => ?_) (fun cdv A outer s H vs Q E hr h => ?_)
  · first | (obtain ⟨_, rfl, _⟩ := h; rfl) | (obtain ⟨_, _, rfl, _⟩ := h; rfl) | (obtain ⟨_, _, _, rfl, _⟩ := h; rfl) | (obtain ⟨_, _, _, _, rfl, _⟩ := h; rfl) | (obtain ⟨_, _, _, _, _, rfl, _⟩ := h; rfl) | (obtain ⟨_, _, _, _, _, _, rfl, _⟩ := h; rfl) | (obtain ⟨_, _, _, _, _, _, _, rfl, _⟩ := h; rfl) | (obtain ⟨_, _, _, _, _, _, _, _, rfl, _⟩ := h; rfl) | (obtain ⟨_, _, _, _, _, _, _, _, _, rfl, _⟩ := h; rfl) | (obtain ⟨_, _, _, _, _, _, _, _, _, _, rfl, _⟩ := h; rfl) | (obtain ⟨_, _, _, _, _, _, _, _, _, _, _, rfl, _⟩ := h; rfl) | (obtain ⟨_, _, _, _, _, _, _, _, _, _, _, _, rfl, _⟩ := h; rfl) | (obtain ⟨_, _, _, _, _, _, _, _, _, _, _, _, _, rfl, _⟩ := h; rfl) | (obtain ⟨_, _, _, _, _, _, _, _, _, _, _, _, _, _, rfl, _⟩ := h; rfl) | (obtain ⟨_, _, _, _, _, _, _, _, _, _, _, _, _, _, _, rfl, _⟩ := h; rfl)
  · have T := D.T
    have nd := sc__law_take.nd
    have hu := hr.units
    have hu1 := hu_of hr
    have hu0 := hr.units0
    obtain ⟨p, r, rfl, ⟨a, b, hp, a0, b0, bB⟩, r0, r1, q⟩ := h
    refine ⟨_, pss_cons (ps_if (pt_cmpR op_gt (pe_ix ix_list (pv 0) pe_int (fun _ _ => rfl)) pe_int (nomark _)) (pss_cons (ps_asg (pe_callB call_divmodW (by rfl) T.divmod (by decide +kernel) (pa_cons (pe_ix ix_list (pv 0) pe_int (fun _ _ => rfl)) (pa_cons (pv 1) pa_nil))) (pg_tup rfl (pgs_cons (pg_sub (pv 0) pe_int set_list) (pgs_cons (pg_name (i := 2) nd rfl (Or.inl rfl)) pgs_nil))))
      (pss_one (ps_ret (pv 2)))) pss_nil)
      (pss_cons (ps_asg (pe_op op_mod (pe_op op_add (pe_op op_mul (pe_ix ix_list (pv 0) pe_int (fun _ _ => rfl)) pe_int) pe_int) pe_int) (pg_sub (pv 0) pe_int set_list))
      (pss_one (ps_ret (pe_op op_mod (pe_op op_fdiv (pe_op op_mod (pe_op op_mul (pe_ix ix_list (pv 0) pe_int (fun _ _ => rfl)) (pe_ix ix_list (pv 0) pe_int (fun _ _ => rfl))) pe_int) pe_int) (pv 1))))), ?_⟩
    refine ⟨_, rfl, p, _, 0, _, rfl, rfl, SqL.of hp, atI_nat (j := 0) rfl, _, _, rfl, rfl, _, rfl, ite2 (fun h => ?_) (fun h => ?_)⟩
    · have ha : 0 < a := of_decide_eq_true h
      refine ⟨_, rfl, p, _, 0, _, rfl, rfl, SqL.of hp, atI_nat (j := 0) rfl, _, rfl, a, r, rfl, ⟨r0, PyProof.noPylong_small (by omega)⟩, fun t nt => ?_⟩
      have npt : p ≠ t := ne_of_none hp nt
      have hp2 : (upd H t (.tup [.int (a / r), .int (a % r)])) p = some (.lst [.int a, .int b]) := by
        rw [upd_ne npt]
        exact hp
      refine ⟨t, _, rfl, SqT.of upd_same, rfl, _, _, rfl, ?_⟩
      refine ⟨_, rfl, p, _, 0, 0, rfl, rfl, hp2, rfl, _, _, rfl, rfl, ?_⟩
      refine ⟨_, rfl, q _ _ (Int.emod_nonneg _ (by omega)) (Int.emod_lt_of_pos _ r0) ⟨_, _, upd_same, Int.ediv_nonneg a0 (by omega), b0, bB⟩ (SameB.upd (SameB.new nt (SameB.of (Same.refl H))))⟩
    · refine ⟨_, rfl, p, _, 1, _, rfl, rfl, SqL.of hp, atI_nat (j := 1) rfl, _, _, rfl, rfl, .inl ⟨by omega, by omega⟩, _, _, rfl, rfl, _, _, rfl, rfl, by show (0 : Int) < 2147483647; decide, ?_⟩
      refine ⟨_, rfl, p, _, 1, 1, rfl, rfl, hp, rfl, ?_⟩
      have n0 := Int.emod_nonneg (b * 48271 + 12347) (show (2147483647 : Int) ≠ 0 by decide)
      have n1 := Int.emod_lt_of_pos (b * 48271 + 12347) (show (0 : Int) < 2147483647 by decide)
      refine ⟨_, rfl, p, _, 1, _, rfl, rfl, SqL.of upd_same, atI_nat (j := 1) rfl, _, rfl, p, _, 1, _, rfl, rfl, SqL.of upd_same, atI_nat (j := 1) rfl, _, _, rfl, rfl, .inl ⟨by omega, by omega⟩, ?_⟩
      refine ⟨_, _, rfl, rfl, by show (0 : Int) < 2147483629; decide, _, _, rfl, rfl, ⟨by decide, by decide⟩, _, rfl, _, _, rfl, rfl, r0, ?_⟩
      exact q _ _ (Int.emod_nonneg _ (by omega)) (Int.emod_lt_of_pos _ r0) ⟨_, _, upd_same, a0, n0, n1⟩ (SameB.upd (SameB.of (Same.refl H)))
/-- a boat's numbers, small ones -/
structure S3 (s c m : Int) : Prop where
  s1 : 1 ≤ s
  c1 : 1 ≤ c
  m1 : 1 ≤ m
  s2 : s ≤ 1000
  c2 : c ≤ 1000
  m2 : m ≤ 1000
theorem S3.n3 {s c m : Int} (h : S3 s c m) : N3 s c m := by
  obtain ⟨a, b, c, d, e, f⟩ := h
  exact ⟨a, b, c, by omega, by omega, by omega⟩
def spBoat : Sp := fun vs H Q _ => ∃ (p : Addr), vs = [.ref p] ∧ Pot H p ∧ ∀ (t : Addr) (s c m : Int) (H' : Hp), S3 s c m → H' t = some (.tup [.int s, .int c, .int m]) → Pot H' p → SameB p H H' → Q (.ref t) H'
theorem sc__law_boat : FnScope ["_law_pot_here", "_law_seats", "_law_man", "_law_way", "_law_carries"] ["_law_pot_here"] (defScope s__law_boat) := ⟨rfl, rfl, rfl, by decide +kernel, rfl, by decide +kernel, by decide +kernel⟩
theorem ok__law_boat (D : All K P mg) : FnOk P w K mg base CX0 2 D.f__law_boat D.d__law_boat ["_law_pot_here"] spBoat := by
  refine D.h__law_boat.fn.ok sc__law_boat (fun vs H Q E h => ?_) (fun cdv A outer s H vs Q E hr h => ?_)
  · first | (obtain ⟨_, rfl, _⟩ := h; rfl) | (obtain ⟨_, _, rfl, _⟩ := h; rfl) | (obtain ⟨_, _, _, rfl, _⟩ := h; rfl) | (obtain ⟨_, _, _, _, rfl, _⟩ := h; rfl) | (obtain ⟨_, _, _, _, _, rfl, _⟩ := h; rfl) | (obtain ⟨_, _, _, _, _, _, rfl, _⟩ := h; rfl) | (obtain ⟨_, _, _, _, _, _, _, rfl, _⟩ := h; rfl) | (obtain ⟨_, _, _, _, _, _, _, _, rfl, _⟩ := h; rfl) | (obtain ⟨_, _, _, _, _, _, _, _, _, rfl, _⟩ := h; rfl) | (obtain ⟨_, _, _, _, _, _, _, _, _, _, rfl, _⟩ := h; rfl) | (obtain ⟨_, _, _, _, _, _, _, _, _, _, _, rfl, _⟩ := h; rfl) | (obtain ⟨_, _, _, _, _, _, _, _, _, _, _, _, rfl, _⟩ := h; rfl) | (obtain ⟨_, _, _, _, _, _, _, _, _, _, _, _, _, rfl, _⟩ := h; rfl) | (obtain ⟨_, _, _, _, _, _, _, _, _, _, _, _, _, _, rfl, _⟩ := h; rfl) | (obtain ⟨_, _, _, _, _, _, _, _, _, _, _, _, _, _, _, rfl, _⟩ := h; rfl)
  · have T := D.T
    have nd := sc__law_boat.nd
    have hu := hr.units
    have hu1 := hu_of hr
    have hu0 := hr.units0
    obtain ⟨p, rfl, hp, q⟩ := h
    refine ⟨_, pss_cons (ps_par (i := 1) (j := 2) (by rfl) nd rfl rfl (by decide) rfl rfl (pa_cons (pe_op op_add pe_int (pe_call (ok__law_take D) (hr.mono (by decide)) (by rfl) D.h__law_take.gl D.h__law_take.fn.kp D.h__law_take.bd .nil pass0 (pa_cons (pv 0) (pa_cons pe_int pa_nil)))) (pa_cons (pe_op op_add pe_int (pe_call (ok__law_take D) (hr.mono (by decide)) (by rfl) D.h__law_take.gl D.h__law_take.fn.kp D.h__law_take.bd .nil pass0 (pa_cons (pv 0) (pa_cons pe_int pa_nil)))) pa_nil)) (by rfl))
      (pss_cons (ps_set (i := 3) nd rfl (.inl rfl) (pe_call (ok__law_take D) (hr.mono (by decide)) (by rfl) D.h__law_take.gl D.h__law_take.fn.kp D.h__law_take.bd .nil pass0 (pa_cons (pv 0) (pa_cons pe_int pa_nil))))
      (pss_cons (ps_set (i := 4) nd rfl (.inl rfl) (pe_ix ix_list (pe_lst (pa_cons (pe_op op_mul (pv 2) (pv 1)) (pa_cons (pe_op op_add (pe_op op_mul (pv 2) (pe_op op_add pe_int (pe_call (ok__law_take D) (hr.mono (by decide)) (by rfl) D.h__law_take.gl D.h__law_take.fn.kp D.h__law_take.bd .nil pass0 (pa_cons (pv 0) (pa_cons pe_int pa_nil))))) (pe_call (ok__law_take D) (hr.mono (by decide)) (by rfl) D.h__law_take.gl D.h__law_take.fn.kp D.h__law_take.bd .nil pass0 (pa_cons (pv 0) (pa_cons (pv 2) pa_nil)))) (pa_cons (pe_op op_add pe_int (pe_call (ok__law_take D) (hr.mono (by decide)) (by rfl) D.h__law_take.gl D.h__law_take.fn.kp D.h__law_take.bd .nil pass0 (pa_cons (pv 0) (pa_cons pe_int pa_nil)))) (pa_cons (pv 2) pa_nil))))) (pv 3) (fun _ _ => rfl)))
      (pss_one (ps_ret (pe_tup (pa_cons (pv 1) (pa_cons (pv 4) (pa_cons (pv 2) pa_nil)))))))), ?_⟩
    refine ⟨_, rfl, p, 9, rfl, hp, by decide, by decide, fun s H1 s0 s1 hp1 sb1 => ?_⟩
    refine ⟨_, _, rfl, rfl, _, rfl, p, 12, rfl, hp1, by decide, by decide, fun m H2 m0 m1 hp2 sb2 => ?_⟩
    refine ⟨_, _, rfl, rfl, _, _, rfl, ?_⟩
    refine ⟨_, rfl, p, 4, rfl, hp2, by decide, by decide, fun wy H3 y0 y1 hp3 sb3 => ?_⟩
    refine ⟨_, rfl, _, rfl, _, _, rfl, rfl, .inl ⟨by omega, by omega⟩, ?_⟩
    refine ⟨_, rfl, _, rfl, p, 9, rfl, hp3, by decide, by decide, fun k H4 k0 k1 hp4 sb4 => ?_⟩
    refine ⟨_, _, rfl, rfl, _, _, rfl, rfl, .inl ⟨by omega, by omega⟩, ?_⟩
    refine ⟨_, rfl, _, rfl, p, _, rfl, hp4, by omega, by omega, fun k' H5 k'0 k'1 hp5 sb5 => ?_⟩
    refine ⟨_, _, rfl, rfl, ?_⟩
    refine ⟨_, rfl, p, 200, rfl, hp5, by decide, by decide, fun k2 H6 k20 k21 hp6 sb6 => ?_⟩
    refine ⟨_, _, rfl, rfl, _, rfl, by show 4 ≤ sizeLine; decide, fun l nl => ?_⟩
    have hms : 1 ≤ (1 + m) * (1 + s) ∧ (1 + m) * (1 + s) ≤ 12 * 9 := by
      refine ⟨?_, Int.mul_le_mul (by omega) (by omega) (by omega) (by decide)⟩
      have : 1 * 1 ≤ (1 + m) * (1 + s) := Int.mul_le_mul (by omega) (by omega) (by decide) (by omega)
      omega
    have hmk : 1 ≤ (1 + m) * (1 + k) ∧ (1 + m) * (1 + k) ≤ 12 * 9 := by
      refine ⟨?_, Int.mul_le_mul (by omega) (by omega) (by omega) (by decide)⟩
      have : 1 * 1 ≤ (1 + m) * (1 + k) := Int.mul_le_mul (by omega) (by omega) (by decide) (by omega)
      omega
    have npl : l ≠ p := hp6.ne nl
    have sb : SameB p H H6 := sb1.trans (sb2.trans (sb3.trans (sb4.trans (sb5.trans sb6))))
    have pick : ∃ c : Int, 1 ≤ c ∧ c ≤ 1000 ∧ atI [V.int ((1 + m) * (1 + s)), .int ((1 + m) * (1 + k) + k'), .int (1 + k2), .int (1 + m)] wy = some (.int c) := by
      have hy : wy = 0 ∨ wy = 1 ∨ wy = 2 ∨ wy = 3 := by omega
      rcases hy with rfl | rfl | rfl | rfl
      · exact ⟨_, hms.1, by omega, atI_nat (j := 0) rfl⟩
      · exact ⟨_, by omega, by omega, atI_nat (j := 1) rfl⟩
      · exact ⟨_, by omega, by omega, atI_nat (j := 2) rfl⟩
      · exact ⟨_, by omega, by omega, atI_nat (j := 3) rfl⟩
    obtain ⟨c, c1, c2, ec⟩ := pick
    refine ⟨_, rfl, l, _, wy, .int c, rfl, rfl, SqL.of upd_same, ec, ?_⟩
    refine ⟨_, rfl, _, rfl, _, rfl, by show 3 ≤ sizeLine; decide, fun t nt => ?_⟩
    refine q t (1 + s) c (1 + m) _ ⟨by omega, c1, by omega, by omega, c2, by omega⟩ upd_same ?_ ?_
    · have hp7 := hp6.upd (o := .lst [V.int ((1 + m) * (1 + s)), .int ((1 + m) * (1 + k) + k'), .int (1 + k2), .int (1 + m)]) npl
      exact hp7.upd (hp7.ne nt)
    · have hp7 := hp6.upd (o := .lst [V.int ((1 + m) * (1 + s)), .int ((1 + m) * (1 + k) + k'), .int (1 + k2), .int (1 + m)]) npl
      have sb7 := SameB.new (o := .lst [V.int ((1 + m) * (1 + s)), .int ((1 + m) * (1 + k) + k'), .int (1 + k2), .int (1 + m)]) (sb.none hp6 nl) sb
      exact SameB.new (sb7.none hp7 nt) sb7
/-! ### a going -/
def four : List Str := [Str.ofString "oil", Str.ofString "coal", Str.ofString "water", Str.ofString "bread"]
theorem four_nm : ∀ z ∈ four, Nm z := by
  intro z hz
  simp only [four, List.mem_cons, List.not_mem_nil, or_false] at hz
  rcases hz with rfl | rfl | rfl | rfl <;> exact ⟨by decide +kernel, by decide +kernel, by decide +kernel⟩
/-- stores of the four names -/
structure Kf (kvs : Kvs) : Prop where
  nd : (kvs.map (·.1)).Nodup
  nm : ∀ p ∈ kvs, p.1 ∈ four
  w1 : ∀ p ∈ kvs, 1 ≤ p.2
  w2 : ∀ p ∈ kvs, p.2 ≤ 10 ^ 9
theorem Kf.kv {kvs : Kvs} (h : Kf kvs) : Kv kvs := ⟨h.nd, fun p hp => four_nm _ (h.nm p hp), h.w1, fun p hp => by have := h.w2 p hp; omega⟩
theorem Kf.len {kvs : Kvs} (h : Kf kvs) : kvs.length ≤ 4 := by
  have := List.Nodup.length_le_of_subset (l₁ := kvs.map (·.1)) (l₂ := four) h.nd (fun z hz => by
    obtain ⟨p, hp, rfl⟩ := List.mem_map.mp hz
    exact h.nm p hp)
  rw [List.length_map] at this
  exact this
/-- a going's numbers fit the boat's -/
structure Go (s c m : Int) (l : Load) : Prop where
  a0 : 0 ≤ l.1
  a1 : l.1 ≤ roomI s c m
  b0 : 0 ≤ l.2.1
  b1 : l.2.1 ≤ roomI s c m
  kf : Kf l.2.2
  wt : l.1 * m + wsum l.2.2 ≤ c
def GoAt (H : Hp) (t : Addr) (l : Load) : Prop := ∃ d, H t = some (.tup [.int l.1, .int l.2.1, .ref d]) ∧ H d = some (.dK (sd l.2.2))
theorem GoAt.mono {H H' : Hp} {t : Addr} {l : Load} (h : GoAt H t l) (s : Same H H') : GoAt H' t l := by
  obtain ⟨d, h1, h2⟩ := h
  exact ⟨d, s _ _ h1, s _ _ h2⟩
theorem GoAt.monoB {H H' : Hp} {p t : Addr} {l : Load} (h : GoAt H t l) (hp : Pot H p) (s : SameB p H H') : GoAt H' t l := by
  obtain ⟨d, h1, h2⟩ := h
  exact ⟨d, s _ _ (ne_of_pot hp h1) h1, s _ _ (ne_of_pot hp h2) h2⟩
def spGoing : Sp := fun vs H Q _ => ∃ (p u : Addr) (s c m : Int), vs = [.ref p, .ref u] ∧ Pot H p ∧ H u = some (.tup [.int s, .int c, .int m]) ∧ S3 s c m ∧ ∀ (t : Addr) (l : Load) (H' : Hp), Go s c m l → GoAt H' t l → H t = none → Pot H' p → SameB p H H' → Q (.ref t) H'
theorem wsum_snoc (kvs : Kvs) (z : Str) (v : Int) : wsum (kvs ++ [(z, v)]) = wsum kvs + v := by
  unfold wsum
  rw [List.map_append, List.sum_append]
  simp
theorem sc__law_going : FnScope ["_law_pot_here", "_law_ship", "_law_room", "_law_is_full", "_law_away", "_law_home", "_law_left", "_law_found", "_law_name", "_law_part"] ["_law_pot_here", "_law_ship"] (defScope s__law_going) := ⟨rfl, rfl, rfl, by decide +kernel, rfl, by decide +kernel, by decide +kernel⟩
theorem ok__law_going (D : All K P mg) : FnOk P w K mg base CX0 2 D.f__law_going D.d__law_going ["_law_pot_here", "_law_ship"] spGoing := by
  refine D.h__law_going.fn.ok sc__law_going (fun vs H Q E h => ?_) (fun cdv A outer s H vs Q E hr h => ?_)
  · first | (obtain ⟨_, rfl, _⟩ := h; rfl) | (obtain ⟨_, _, rfl, _⟩ := h; rfl) | (obtain ⟨_, _, _, rfl, _⟩ := h; rfl) | (obtain ⟨_, _, _, _, rfl, _⟩ := h; rfl) | (obtain ⟨_, _, _, _, _, rfl, _⟩ := h; rfl) | (obtain ⟨_, _, _, _, _, _, rfl, _⟩ := h; rfl) | (obtain ⟨_, _, _, _, _, _, _, rfl, _⟩ := h; rfl) | (obtain ⟨_, _, _, _, _, _, _, _, rfl, _⟩ := h; rfl) | (obtain ⟨_, _, _, _, _, _, _, _, _, rfl, _⟩ := h; rfl) | (obtain ⟨_, _, _, _, _, _, _, _, _, _, rfl, _⟩ := h; rfl) | (obtain ⟨_, _, _, _, _, _, _, _, _, _, _, rfl, _⟩ := h; rfl) | (obtain ⟨_, _, _, _, _, _, _, _, _, _, _, _, rfl, _⟩ := h; rfl) | (obtain ⟨_, _, _, _, _, _, _, _, _, _, _, _, _, rfl, _⟩ := h; rfl) | (obtain ⟨_, _, _, _, _, _, _, _, _, _, _, _, _, _, rfl, _⟩ := h; rfl) | (obtain ⟨_, _, _, _, _, _, _, _, _, _, _, _, _, _, _, rfl, _⟩ := h; rfl)
  · have T := D.T
    have nd := sc__law_going.nd
    have hu := hr.units
    have hu1 := hu_of hr
    have hu0 := hr.units0
    obtain ⟨p, u, s', c, m, rfl, hp, hu', S, q⟩ := h
    refine ⟨_, pss_cons (ps_set (i := 2) nd rfl (.inl rfl) (pe_callB (call_min2 rfl) (by rfl) T.min (by decide +kernel) (pa_cons (pe_ix ix_tup (pv 1) pe_int (fun _ _ => rfl)) (pa_cons (pe_op op_fdivW (pe_ix ix_tup (pv 1) pe_int (fun _ _ => rfl)) (pe_ix ix_tup (pv 1) pe_int (fun _ _ => rfl))) pa_nil))))
      (pss_cons (ps_set (i := 3) nd rfl (.inl rfl) (pe_cmpR op_eq (pe_call (ok__law_take D) (hr.mono (by decide)) (by rfl) D.h__law_take.gl D.h__law_take.fn.kp D.h__law_take.bd .nil pass0 (pa_cons (pv 0) (pa_cons pe_int pa_nil))) pe_int (nomark _)))
      (pss_cons (ps_par (i := 4) (j := 5) (by rfl) nd rfl rfl (by decide) rfl rfl (pa_cons (pe_call (ok__law_take D) (hr.mono (by decide)) (by rfl) D.h__law_take.gl D.h__law_take.fn.kp D.h__law_take.bd .nil pass0 (pa_cons (pv 0) (pa_cons (pe_op op_add (pv 2) pe_int) pa_nil))) (pa_cons (pe_call (ok__law_take D) (hr.mono (by decide)) (by rfl) D.h__law_take.gl D.h__law_take.fn.kp D.h__law_take.bd .nil pass0 (pa_cons (pv 0) (pa_cons (pe_op op_add (pv 2) pe_int) pa_nil))) pa_nil)) (by rfl))
      (pss_cons (ps_set (i := 6) nd rfl (.inl rfl) (pe_op op_sub (pe_ix ix_tup (pv 1) pe_int (fun _ _ => rfl)) (pe_op op_mul (pv 4) (pe_ix ix_tup (pv 1) pe_int (fun _ _ => rfl)))))
      (pss_cons (ps_set (i := 7) nd rfl (.inl rfl) pe_dnewK)
      (pss_cons (ps_for PassesOwn.never rfl (pi_list (pe_lst (pa_cons pe_str (pa_cons pe_str (pa_cons pe_str (pa_cons pe_str pa_nil)))))) (pg_name (i := 8) nd rfl (Or.inl rfl)) (pss_cons (ps_set (i := 9) nd rfl (.inl rfl) (pe_call (ok__law_take D) (hr.mono (by decide)) (by rfl) D.h__law_take.gl D.h__law_take.fn.kp D.h__law_take.bd .nil pass0 (pa_cons (pv 0) (pa_cons (pe_op op_add (pv 6) pe_int) pa_nil))))
      (pss_cons (ps_if (PW.pt (pw_and (pt_cmpR op_eq (pv 8) pe_str (nomark _)) (pw_and1 (pt_val (pv 3))))) (pss_one (ps_set (i := 9) nd rfl (.inl rfl) (pv 6))) pss_nil)
      (pss_cons (ps_if (pt_cmpR op_gt (pv 9) pe_int (nomark _)) (pss_one (ps_dput hu1 (pv 7) (pv 8) (pv 9) rfl)) pss_nil)
      (pss_one (ps_set (i := 6) nd rfl (.inl rfl) (pe_op op_sub (pv 6) (pv 9))))))))
      (pss_one (ps_ret (pe_tup (pa_cons (pv 4) (pa_cons (pv 5) (pa_cons (pv 7) pa_nil))))))))))), ?_⟩
    obtain ⟨s1, c1, m1, s2, c2, m2⟩ := S
    have hs : SqT K H u [.int s', .int c, .int m] := SqT.of hu'
    refine ⟨_, rfl, u, _, 0, _, rfl, rfl, hs, atI_nat (j := 0) rfl, _, rfl, u, _, 1, _, rfl, rfl, hs, atI_nat (j := 1) rfl, _, rfl, u, _, 2, _, rfl, rfl, hs, atI_nat (j := 2) rfl, _, _, rfl, rfl, wide_div (b := 20) (by omega) (Nat.lt_of_le_of_lt (show m.natAbs ≤ 1000 by omega) (by decide)) (by decide) (by decide), _, _, rfl, ?_⟩
    have hR : (if c / m < s' then c / m else s') = roomI s' c m := rfl
    rw [hR]
    obtain ⟨r0, r1⟩ := room_bd s1 c1 m1
    have rc : roomI s' c m * m ≤ c := by
      have h1 : roomI s' c m ≤ c / m := by unfold roomI; split <;> omega
      have h2 : c / m * m ≤ c := Int.ediv_mul_le c (by omega)
      have h3 : roomI s' c m * m ≤ c / m * m := Int.mul_le_mul_of_nonneg_right h1 (by omega)
      omega
    generalize hR' : roomI s' c m = r at *
    refine ⟨_, rfl, p, 3, rfl, hp, by decide, by decide, fun f H1 _ _ hp1 sb1 => ?_⟩
    refine ⟨rfl, ?_⟩
    generalize decide (V.int f = V.int 0) = full
    refine ⟨_, rfl, _, rfl, _, _, rfl, rfl, p, _, rfl, hp1, by omega, by omega, fun a H2 a0 a1 hp2 sb2 => ?_⟩
    refine ⟨_, rfl, _, rfl, _, _, rfl, rfl, p, _, rfl, hp2, by omega, by omega, fun b H3 b0 b1 hp3 sb3 => ?_⟩
    refine ⟨_, _, rfl, ?_⟩
    have nup : u ≠ p := ne_of_pot hp hu'
    have sb13 := sb1.trans (sb2.trans sb3)
    have hs3 : SqT K H3 u [.int s', .int c, .int m] := SqT.of (sb13 _ _ nup hu')
    refine ⟨_, rfl, u, _, 1, _, rfl, rfl, hs3, atI_nat (j := 1) rfl, _, rfl, _, rfl, u, _, 2, _, rfl, rfl, hs3, atI_nat (j := 2) rfl, _, _, rfl, rfl, .inl ⟨by omega, by omega⟩, _, _, rfl, rfl, ?_⟩
    have am : a * m ≤ c := by
      have : a * m ≤ r * m := Int.mul_le_mul_of_nonneg_right (by omega) (by omega)
      omega
    have am0 : 0 ≤ a * m := Int.mul_nonneg a0 (by omega)
    refine fun d nd' => ?_
    have ndp : d ≠ p := hp3.ne nd'
    have s4 := same_upd (o := .dK []) nd'
    have ed := upd_same (H := H3) (a := d) (o := .dK [])
    generalize upd H3 d (.dK []) = H4 at *
    refine ⟨by show 4 ≤ sizeLine; decide, fun L nL => ?_⟩
    have nLp : L ≠ p := (hp3.mono s4).ne nL
    have nLd : L ≠ d := fun e => by rw [e, ed] at nL; cases nL
    have s5 := same_upd (o := .lst [V.str (Str.ofString "oil"), .str (Str.ofString "coal"), .str (Str.ofString "water"), .str (Str.ofString "bread")]) nL
    have eL := upd_same (H := H4) (a := L) (o := .lst [V.str (Str.ofString "oil"), .str (Str.ofString "coal"), .str (Str.ofString "water"), .str (Str.ofString "bread")])
    generalize upd H4 L (.lst [V.str (Str.ofString "oil"), .str (Str.ofString "coal"), .str (Str.ofString "water"), .str (Str.ofString "bread")]) = H5 at *
    have eF : [V.str (Str.ofString "oil"), .str (Str.ofString "coal"), .str (Str.ofString "water"), .str (Str.ofString "bread")] = four.map V.str := rfl
    rw [eF] at eL
    refine ⟨L, rfl, ⟨_, SqL.of eL⟩, for_list (xs := four.map V.str) (fun i σ H' => ∃ left kvs x7 x8, σ = [some (.ref p), some (.ref u), some (.int r), some (.bl full), some (.int a), some (.int b), some (.int left), some (.ref d), x7, x8] ∧
        H' L = some (.lst (four.map V.str)) ∧ H' d = some (.dK (sd kvs)) ∧ Pot H' p ∧ SameB p H H' ∧ 0 ≤ left ∧ wsum kvs + left = c - a * m ∧ (∀ z ∈ kvs.map (·.1), z ∈ four.take i) ∧ Kf kvs)
      ⟨_, [], none, none, rfl, eL, s5 _ _ ed, hp3.mono (s4.trans s5), sb13.trans (SameB.of (s4.trans s5)), by omega, by show (0 : Int) + (c - a * m) = _; omega, nofun, ⟨List.nodup_nil, nofun, nofun, nofun⟩⟩ (fun i σ H' _ ⟨_, _, _, _, _, e, _⟩ => SqL.of e) ?_ ?_⟩
    · rintro i y σ H6 hy ⟨left, kvs, x7, x8, rfl, eL6, ed6, hp6, sb6, l0, hsum, hkt, kf⟩
      obtain ⟨hi, ey⟩ := List.getElem?_eq_some_iff.mp hy
      rw [List.length_map] at hi
      rw [List.getElem_map] at ey
      subst ey
      have w0 : 0 ≤ wsum kvs := wsum_nonneg kf.w1
      refine ⟨_, rfl, _, rfl, _, _, rfl, rfl, p, _, rfl, hp6, by omega, by omega, fun pt H7 p0 p1 hp7 sb7 => ?_⟩
      have eL7 := sb7 _ _ nLp eL6
      have ed7 := sb7 _ _ ndp ed6
      have ht : four.take (i + 1) = four.take i ++ [four[i]] := List.take_succ_eq_append_getElem hi
      have hnot : four[i] ∉ four.take i := by
        have : four.Nodup := by decide +kernel
        have h2 : (four.take i ++ [four[i]]).Nodup := ht ▸ this.sublist (List.take_sublist _ _)
        rw [List.nodup_append] at h2
        exact fun h => h2.2.2 _ h _ List.mem_cons_self rfl
      apply joinA (α := Int) (J := fun pt Hx => Hx = H7 ∧ 0 ≤ pt ∧ pt ≤ left) (sl := fun pt => [some (.ref p), some (.ref u), some (.int r), some (.bl full), some (.int a), some (.int b), some (.int left), some (.ref d), some (.str four[i]), some (.int pt)])
      · intro h
        refine ⟨_, rfl, rfl, _, rfl, ?_⟩
        cases hz : decide (V.str four[i] = V.str (Str.ofString "bread")) with
        | false => exact iteF (iteF (h pt H7 ⟨rfl, p0, by omega⟩))
        | true =>
          refine iteT ⟨_, rfl, full, rfl, ite2 (fun hf => ?A) (fun hf => ?B)⟩
          case B => exact h pt H7 ⟨rfl, p0, by omega⟩
          case A => exact ⟨_, rfl, h left H7 ⟨rfl, l0, Int.le_refl _⟩⟩
      · rintro pt H7' ⟨rfl, p0, p1⟩
        refine ⟨_, rfl, _, _, rfl, rfl, _, rfl, ?_⟩
        by_cases hz : pt > 0
        · rw [decide_eq_true hz]
          have gn : getA kvs four[i] = none := getA_none_iff.mpr fun h => hnot (hkt _ h)
          have lk := kf.len
          refine ⟨_, rfl, _, rfl, _, rfl, d, _, rfl, DPut.k (k := Sum.inr four[i]) ed7 (small1000 (by rw [sd_len]; omega)), ?_⟩
          rw [put_sd', putA_new gn]
          refine ⟨_, rfl, _, rfl, _, _, rfl, rfl, ?_⟩
          refine ⟨_, kvs ++ [(four[i], pt)], _, _, rfl, ?_, upd_same, hp7.upd ndp, SameB.new (sb13.none hp3 nd') (sb6.trans sb7), by omega, ?_, fun z hz => ?_, ?_⟩
          · rw [upd_ne nLd]
            exact eL7
          · rw [wsum_snoc]
            omega
          · rw [ht, List.mem_append]
            rw [List.map_append, List.mem_append] at hz
            exact hz.imp (hkt z) id
          · refine ⟨?_, fun q hq => ?_, fun q hq => ?_, fun q hq => ?_⟩
            · rw [List.map_append, List.nodup_append]
              refine ⟨kf.nd, List.nodup_cons.mpr ⟨nofun, List.nodup_nil⟩, fun x hx y hy => ?_⟩
              rw [List.mem_singleton.mp hy]
              rintro rfl
              exact hnot (hkt _ hx)
            all_goals
              rcases List.mem_append.mp hq with hq | hq
              first | exact kf.nm q hq | exact kf.w1 q hq | exact kf.w2 q hq
              rw [List.mem_singleton.mp hq]
            · exact List.getElem_mem hi
            · show 1 ≤ pt
              omega
            · show pt ≤ 10 ^ 9
              omega
        · rw [decide_eq_false hz]
          refine ⟨_, rfl, _, rfl, _, _, rfl, rfl, ?_⟩
          exact ⟨_, kvs, _, _, rfl, eL7, ed7, hp7, sb6.trans sb7, by omega, by omega, fun z hz => by rw [ht]; exact List.mem_append.mpr (.inl (hkt z hz)), kf⟩
    · rintro σ H6 ⟨left, kvs, x7, x8, rfl, eL6, ed6, hp6, sb6, l0, hsum, hkt, kf⟩
      refine ⟨_, rfl, _, rfl, _, rfl, by show 3 ≤ sizeLine; decide, fun t nt => ?_⟩
      refine q t (a, b, kvs) _ ⟨a0, by show a ≤ roomI s' c m; omega, b0, by show b ≤ roomI s' c m; omega, kf, by show a * m + wsum kvs ≤ c; omega⟩ ⟨d, upd_same, ?_⟩ (sb6.none hp6 nt) (hp6.upd (hp6.ne nt)) (SameB.new (sb6.none hp6 nt) sb6)
      rw [upd_ne (ne_of_none ed6 nt)]
      exact ed6
end
end K36

set_option Elab.async false
set_option linter.all false
set_option maxRecDepth 100000
set_option maxHeartbeats 1600000
set_option pp.maxSteps 300
namespace K36
open PySem PySem.Spec PyProof.Rows L2 LT NdefX
/-! ### sums -/
def sumA (ls : List Load) : Int := (ls.map (·.1)).sum
def sumB (ls : List Load) : Int := (ls.map (·.2.1)).sum
def sumK (ls : List Load) : Int := (ls.map fun l => wsum l.2.2).sum
/-- what is put together of stores -/
structure Tot (ls : List Load) (all : Kvs) : Prop where
  nd : (all.map (·.1)).Nodup
  nm : ∀ p ∈ all, p.1 ∈ four
  w1 : ∀ p ∈ all, 1 ≤ p.2
  sm : wsum all = sumK ls
theorem mem_wsum {kvs : Kvs} (h : ∀ p ∈ kvs, 1 ≤ p.2) : ∀ p ∈ kvs, p.2 ≤ wsum kvs := by
  induction kvs with
  | nil => exact nofun
  | cons q r ih =>
    intro p hp
    have e : wsum (q :: r) = q.2 + wsum r := by unfold wsum; rw [List.map_cons, List.sum_cons]
    have hr : 0 ≤ wsum r := wsum_nonneg fun x hx => h x (List.mem_cons_of_mem _ hx)
    have hq := h q List.mem_cons_self
    rcases List.mem_cons.mp hp with rfl | hp
    · omega
    · have := ih (fun x hx => h x (List.mem_cons_of_mem _ hx)) p hp
      omega
theorem wsum_cons (q : Str × Int) (r : Kvs) : wsum (q :: r) = q.2 + wsum r := by unfold wsum; rw [List.map_cons, List.sum_cons]
theorem wsum_put {z : Str} {v : Int} : ∀ {kvs : Kvs}, (kvs.map (·.1)).Nodup → wsum (putA kvs z ((getA kvs z).getD 0 + v)) = wsum kvs + v
  | [], _ => by
    rw [putA_new getA_nil, getA_nil, List.nil_append, wsum_cons]
    show 0 + v + 0 = 0 + v
    omega
  | q :: r, nd => by
    rw [List.map_cons, List.nodup_cons] at nd
    by_cases e : q.1 = z
    · subst e
      have := putA_mid (q := []) (rs := r) (k := q.1) (r := q.2) (v := (getA (q :: r) q.1).getD 0 + v) nofun nd.1
      rw [List.nil_append, List.nil_append] at this
      rw [show q :: r = (q.1, q.2) :: r from rfl, this, getA_pos rfl, wsum_cons, wsum_cons]
      show q.2 + v + wsum r = q.2 + wsum r + v
      omega
    · have ih := wsum_put (z := z) (v := v) nd.2
      rw [getA_neg e]
      have hp : putA (q :: r) z ((getA r z).getD 0 + v) = q :: putA r z ((getA r z).getD 0 + v) := by
        unfold putA
        rw [List.any_cons, decide_eq_false e, Bool.false_or]
        split
        · rw [List.map_cons, if_neg e]
        · rfl
      rw [hp, wsum_cons, ih, wsum_cons]
      omega
theorem Tot.put {ls : List Load} {all : Kvs} {z : Str} {v : Int} (nd : (all.map (·.1)).Nodup) (nm : ∀ p ∈ all, p.1 ∈ four) (w1 : ∀ p ∈ all, 1 ≤ p.2) (hz : z ∈ four) (hv : 1 ≤ v) :
    ((putA all z ((getA all z).getD 0 + v)).map (·.1)).Nodup ∧ (∀ p ∈ putA all z ((getA all z).getD 0 + v), p.1 ∈ four) ∧ (∀ p ∈ putA all z ((getA all z).getD 0 + v), 1 ≤ p.2) ∧ wsum (putA all z ((getA all z).getD 0 + v)) = wsum all + v := by
  have g0 : 0 ≤ (getA all z).getD 0 := by
    cases e : getA all z with
    | none => exact Int.le_refl _
    | some y =>
      have := w1 _ (getA_mem e)
      show 0 ≤ y
      omega
  refine ⟨nodup_put nd, fun p hp => ?_, fun p hp => ?_, wsum_put nd⟩
  · rcases mem_put hp with rfl | h
    · exact hz
    · exact nm p h
  · rcases mem_put hp with rfl | h
    · show 1 ≤ _ + v
      omega
    · exact w1 p h
theorem len4 {all : Kvs} (nd : (all.map (·.1)).Nodup) (nm : ∀ p ∈ all, p.1 ∈ four) : all.length ≤ 4 := by
  have := List.Nodup.length_le_of_subset (l₁ := all.map (·.1)) (l₂ := four) nd (fun z hz => by
    obtain ⟨p, hp, rfl⟩ := List.mem_map.mp hz
    exact nm p hp)
  rw [List.length_map] at this
  exact this
theorem Tot.len {ls : List Load} {all : Kvs} (h : Tot ls all) : all.length ≤ 4 := len4 h.nd h.nm
theorem upd_id {H : Hp} {a : Addr} {o : HO} (h : H a = some o) : upd H a o = H := by
  funext c
  by_cases e : c = a
  · rw [e, upd_same, h]
  · rw [upd_ne e]
theorem getD_int {o : Option Int} : (o.map V.int).getD (.int 0) = .int (o.getD 0) := by cases o <;> rfl
theorem paired_at {α β : Type} {R : α → β → Prop} : ∀ {xs : List α} {ys : List β}, Paired R xs ys → ∀ {i : Nat} {x : α}, xs[i]? = some x → ∃ y, ys[i]? = some y ∧ R x y
  | _, _, .nil, _, _, h => nomatch h
  | _, _, .cons h r, 0, _, e => by
    cases e
    exact ⟨_, rfl, h⟩
  | _, _, .cons h r, i + 1, _, e => paired_at r (i := i) e
section
variable {P : Program} {w : World} {K : PySem.W.Frag} {mg : Str → Option Value} {base : Heap}
def spSummed : Sp := fun vs H Q _ => ∃ (L : Addr) (ts : List Addr) (ls : List Load), vs = [.ref L] ∧ H L = some (.lst (ts.map V.ref)) ∧ Paired (GoAt H) ts ls ∧ (∀ l ∈ ls, Kf l.2.2) ∧ ls.length ≤ 30 ∧
  ∀ t S all H', Same H H' → H' t = some (.tup [.int (sumA ls), .int (sumB ls), .ref S]) → H' S = some (.dK (sd all)) → Tot ls all → Q (.ref t) H'
theorem sc__law_summed : FnScope ["_law_rows", "_law_stores_all", "_law_away", "_law_home", "_law_cargo", "_law_name", "_law_row"] ["_law_rows"] (defScope s__law_summed) := ⟨rfl, rfl, rfl, by decide +kernel, rfl, by decide +kernel, by decide +kernel⟩
theorem ok__law_summed (D : All K P mg) : FnOk P w K mg base CX0 1 D.f__law_summed D.d__law_summed ["_law_rows"] spSummed := by
  refine D.h__law_summed.fn.ok sc__law_summed (fun vs H Q E h => ?_) (fun cdv A outer s H vs Q E hr h => ?_)
  · first | (obtain ⟨_, rfl, _⟩ := h; rfl) | (obtain ⟨_, _, rfl, _⟩ := h; rfl) | (obtain ⟨_, _, _, rfl, _⟩ := h; rfl) | (obtain ⟨_, _, _, _, rfl, _⟩ := h; rfl) | (obtain ⟨_, _, _, _, _, rfl, _⟩ := h; rfl) | (obtain ⟨_, _, _, _, _, _, rfl, _⟩ := h; rfl) | (obtain ⟨_, _, _, _, _, _, _, rfl, _⟩ := h; rfl) | (obtain ⟨_, _, _, _, _, _, _, _, rfl, _⟩ := h; rfl) | (obtain ⟨_, _, _, _, _, _, _, _, _, rfl, _⟩ := h; rfl) | (obtain ⟨_, _, _, _, _, _, _, _, _, _, rfl, _⟩ := h; rfl) | (obtain ⟨_, _, _, _, _, _, _, _, _, _, _, rfl, _⟩ := h; rfl) | (obtain ⟨_, _, _, _, _, _, _, _, _, _, _, _, rfl, _⟩ := h; rfl) | (obtain ⟨_, _, _, _, _, _, _, _, _, _, _, _, _, rfl, _⟩ := h; rfl) | (obtain ⟨_, _, _, _, _, _, _, _, _, _, _, _, _, _, rfl, _⟩ := h; rfl) | (obtain ⟨_, _, _, _, _, _, _, _, _, _, _, _, _, _, _, rfl, _⟩ := h; rfl)
  · have T := D.T
    have nd := sc__law_summed.nd
    have hu := hr.units
    have hu1 := hu_of hr
    have hu0 := hr.units0
    obtain ⟨L, ts, ls, rfl, hL, pr, hk, hl, q⟩ := h
    refine ⟨_, pss_cons (ps_set (i := 1) nd rfl (.inl rfl) pe_dnewK)
      (pss_cons (ps_for PassesOwn.never rfl (pi_list (pv 0)) (pg_tup rfl (pgs_cons (pg_name (i := 2) nd rfl (Or.inl rfl)) (pgs_cons (pg_name (i := 3) nd rfl (Or.inl rfl)) (pgs_cons (pg_name (i := 4) nd rfl (Or.inl rfl)) pgs_nil)))) (pss_one (ps_lock (ps_for PassesOwn.never rfl (pi_keys (pv 4)) (pg_name (i := 5) nd rfl (Or.inl rfl)) (pss_one (ps_dput hu1 (pv 1) (pv 5) (pe_op op_add (pe_dget2 hu1 (pv 1) (pv 5) pe_int ⟨rfl, rfl, rfl, rfl⟩) (pe_dget hu1 (pv 4) (pv 5) (fun _ _ => rfl))) rfl))))))
      (pss_one (ps_ret (pe_tup (pa_cons (pe_callB (cr_sum rfl) (by rfl) T.sum (by decide +kernel) (pa_cons (pe_lc (own := [("_law_row", 6)]) (g := gName 6) (tt := tYes) rfl nd (pi_list (pv 0)) (blkOk_by (N := ["_law_rows", "_law_stores_all", "_law_away", "_law_home", "_law_cargo", "_law_name", "_law_row"]) (sc := defScope s__law_summed) (by decide +kernel)) (fun _ _ _ _ _ => (pg_name (i := 6) nd rfl (Or.inl rfl))) (fun _ _ _ _ _ => pts_nil) (fun _ _ _ _ _ => (pe_ix (show IxR _ (rIxT K) from ix_tup) (pv 6) pe_int (fun _ _ => rfl)))) pa_nil)) (pa_cons (pe_callB (cr_sum rfl) (by rfl) T.sum (by decide +kernel) (pa_cons (pe_lc (own := [("_law_row", 6)]) (g := gName 6) (tt := tYes) rfl nd (pi_list (pv 0)) (blkOk_by (N := ["_law_rows", "_law_stores_all", "_law_away", "_law_home", "_law_cargo", "_law_name", "_law_row"]) (sc := defScope s__law_summed) (by decide +kernel)) (fun _ _ _ _ _ => (pg_name (i := 6) nd rfl (Or.inl rfl))) (fun _ _ _ _ _ => pts_nil) (fun _ _ _ _ _ => (pe_ix (show IxR _ (rIxT K) from ix_tup) (pv 6) pe_int (fun _ _ => rfl)))) pa_nil)) (pa_cons (pv 1) pa_nil))))))), ?_⟩
    refine fun S nS => ?_
    have s1 := same_upd (o := .dK []) nS
    have eS := upd_same (H := H) (a := S) (o := .dK [])
    generalize upd H S (.dK []) = H1 at *
    have lt := Paired.len pr
    refine ⟨_, rfl, L, rfl, ⟨_, SqL.of (s1 _ _ hL)⟩, for_list (xs := ts.map V.ref) (fun i σ H' => ∃ all x2 x3 x4 x5, σ = [some (.ref L), some (.ref S), x2, x3, x4, x5, none] ∧ Same H H' ∧ H' S = some (.dK (sd all)) ∧ Tot (ls.take i) all)
      ⟨[], none, none, none, none, rfl, s1, eS, ⟨List.nodup_nil, nofun, nofun, rfl⟩⟩ (fun i σ H' _ ⟨_, _, _, _, _, _, s, _⟩ => SqL.of (s _ _ hL)) ?_ ?_⟩
    · rintro i y σ H2 hy ⟨all, x2, x3, x4, x5, rfl, s2, eS2, tot⟩
      obtain ⟨hi, ey⟩ := List.getElem?_eq_some_iff.mp hy
      rw [List.length_map] at hi
      rw [List.getElem_map] at ey
      subst ey
      obtain ⟨l, hl', ⟨d, h1, h2⟩⟩ := paired_at pr (List.getElem?_eq_getElem hi)
      obtain ⟨hi2, el⟩ := List.getElem?_eq_some_iff.mp hl'
      have kf := hk l (el ▸ List.getElem_mem hi2)
      have nSd : S ≠ d := fun e => by rw [← e, nS] at h2; cases h2
      refine ⟨ts[i], _, rfl, SqT.of (s2 _ _ h1), rfl, _, _, rfl, _, _, rfl, _, _, rfl, rfl, ?_⟩
      -- the things of this going
      have hd2 := s2 _ _ h2
      refine ⟨d, _, hd2, trivial, fun od => ?_⟩
      refine ⟨_, rfl, d, od, rfl, .inl ⟨sd l.2.2, upd_same, for_it walk_keys (fun j σ H' => ∃ all' x5, σ = [some (.ref L), some (.ref S), some (.int l.1), some (.int l.2.1), some (.ref d), x5, none] ∧ H' d = some (.frz od (.dK (sd l.2.2))) ∧
          Same H (upd H' d (.dK (sd l.2.2))) ∧ H' S = some (.dK (sd all')) ∧ (all'.map (·.1)).Nodup ∧ (∀ p ∈ all', p.1 ∈ four) ∧ (∀ p ∈ all', 1 ≤ p.2) ∧ wsum all' = sumK (ls.take i) + wsum (l.2.2.take j))
        ⟨all, x5, rfl, upd_same, ?_, ?_, tot.nd, tot.nm, tot.w1, ?_⟩ (fun j σ H' _ ⟨_, _, _, e, _⟩ => e) ?_ ?_⟩⟩
      · rw [upd_upd, upd_id hd2]
        exact s2
      · rw [upd_ne nSd]
        exact eS2
      · rw [tot.sm]
        show _ = _ + 0
        omega
      · rintro j y σ H3 H3' hj ⟨all', x5, rfl, ed3, s3, eS3, nd3, nm3, w3, sm3⟩ ⟨rfl, k, v, hkv, rfl⟩
        rw [sd_len] at hj
        have hkv' : (k, v) = (Sum.inr l.2.2[j].1, V.int l.2.2[j].2) := by
          have : (sd l.2.2)[j]? = some (Sum.inr l.2.2[j].1, V.int l.2.2[j].2) := by
            unfold sd
            rw [List.getElem?_map, List.getElem?_eq_getElem hj]
            rfl
          rw [this] at hkv
          exact (Option.some.inj hkv).symm
        cases hkv'
        have hm := List.getElem_mem hj
        have gd : DGet H3' d (.str l.2.2[j].1) (some (.int l.2.2[j].2)) := by
          have := dget_frz (k := Sum.inr l.2.2[j].1) ed3
          rw [val_sd, show getA l.2.2 l.2.2[j].1 = some l.2.2[j].2 from getA_of_mem kf.nd hm] at this
          exact this
        have lall : all'.length ≤ 4 := len4 nd3 nm3
        refine ⟨_, rfl, S, rfl, .inl ⟨_, Rd.of eS3⟩, _, rfl, _, DGet.k (k := Sum.inr l.2.2[j].1) eS3, ?_⟩
        rw [val_sd, getD_int]
        refine ⟨_, rfl, _, rfl, d, _, rfl, gd, _, _, rfl, rfl, ?_⟩
        refine ⟨_, rfl, _, rfl, S, _, rfl, DPut.k (k := Sum.inr l.2.2[j].1) eS3 (small1000 (by rw [sd_len]; omega)), ?_⟩
        rw [put_sd']
        obtain ⟨p1, p2, p3, p4⟩ := Tot.put (ls := ls) nd3 nm3 w3 (kf.nm _ hm) (kf.w1 _ hm)
        refine ⟨_, _, rfl, ?_, ?_, upd_same, p1, p2, p3, ?_⟩
        · rw [upd_ne (Ne.symm nSd)]
          exact ed3
        · intro b ob e
          have := s3 b ob e
          by_cases hb : b = d
          · subst hb
            rw [upd_same] at this ⊢
            exact this
          · rw [upd_ne hb] at this ⊢
            rw [upd_ne (ne_of_none e nS)]
            exact this
        · rw [p4, sm3, List.take_succ_eq_append_getElem hj, show l.2.2.take j ++ [l.2.2[j]] = l.2.2.take j ++ [(l.2.2[j].1, l.2.2[j].2)] from rfl, wsum_snoc]
          omega
      · rintro σ H3 ⟨all', x5, rfl, ed3, s3, eS3, nd3, nm3, w3, sm3⟩
        refine ⟨ed3, all', _, _, _, _, rfl, s3, ?_, nd3, nm3, w3, ?_⟩
        · rw [upd_ne nSd]
          exact eS3
        · rw [sm3, sd_len, List.take_length, List.take_succ_eq_append_getElem hi2]
          unfold sumK
          rw [List.map_append, List.sum_append, el]
          simp
    · rintro σ H2 ⟨all, x2, x3, x4, x5, rfl, s2, eS2, tot⟩
      rw [List.length_map, lt, List.take_length] at tot
      have hL2 := s2 _ _ hL
      refine ⟨_, rfl, L, rfl, ⟨_, SqL.of hL2⟩, fun A nA => ?_⟩
      have get : ∀ {i : Nat} {y : V}, (ts.map V.ref)[i]? = some y → ∃ t l d, y = .ref t ∧ ls[i]? = some l ∧ H t = some (.tup [.int l.1, .int l.2.1, .ref d]) := fun {i y} hy => by
        obtain ⟨hi, ey⟩ := List.getElem?_eq_some_iff.mp hy
        rw [List.length_map] at hi
        rw [List.getElem_map] at ey
        obtain ⟨l, hl', ⟨d, h1, h2⟩⟩ := paired_at pr (List.getElem?_eq_getElem hi)
        exact ⟨_, l, d, ey.symm, hl', h1⟩
      refine lc_list (K := K) (a := L) (xs := ts.map V.ref) (fun i H' => Same H2 H' ∧ H' A = some (.lst (((ls.take i).map (·.1)).map V.int))) ⟨same_upd nA, upd_same⟩ (fun i H' _ h => h.1.seq (SqL.of hL2)) ?_ ?_
      · rintro i y H3 hy ⟨sm, eA⟩
        obtain ⟨t, l, d, rfl, hl', h1⟩ := get hy
        obtain ⟨hi2, el⟩ := List.getElem?_eq_some_iff.mp hl'
        refine ⟨rfl, _, rfl, t, _, 0, _, rfl, rfl, SqT.of ((s2.trans sm) _ _ h1), atI_nat (j := 0) rfl, _, eA, ?_, same_app nA sm, ?_⟩
        · rw [List.length_map, List.length_map, List.length_take]
          exact small1000 (by omega)
        · rw [upd_same, List.take_succ_eq_append_getElem hi2, List.map_append, List.map_append, el]
          rfl
      rintro H3 ⟨s3, eA⟩
      rw [List.length_map, lt, List.take_length] at eA
      refine ⟨A, _, rfl, SqL.of eA, ?_⟩
      have hL3 := s3 _ _ hL2
      refine ⟨_, rfl, L, rfl, ⟨_, SqL.of hL3⟩, fun B nB => ?_⟩
      refine lc_list (K := K) (a := L) (xs := ts.map V.ref) (fun i H' => Same H3 H' ∧ H' B = some (.lst (((ls.take i).map (·.2.1)).map V.int))) ⟨same_upd nB, upd_same⟩ (fun i H' _ h => h.1.seq (SqL.of hL3)) ?_ ?_
      · rintro i y H4 hy ⟨sm, eA⟩
        obtain ⟨t, l, d, rfl, hl', h1⟩ := get hy
        obtain ⟨hi2, el⟩ := List.getElem?_eq_some_iff.mp hl'
        refine ⟨rfl, _, rfl, t, _, 1, _, rfl, rfl, SqT.of ((s2.trans (s3.trans sm)) _ _ h1), atI_nat (j := 1) rfl, _, eA, ?_, same_app nB sm, ?_⟩
        · rw [List.length_map, List.length_map, List.length_take]
          exact small1000 (by omega)
        · rw [upd_same, List.take_succ_eq_append_getElem hi2, List.map_append, List.map_append, el]
          rfl
      rintro H4 ⟨s4, eB⟩
      rw [List.length_map, lt, List.take_length] at eB
      refine ⟨B, _, rfl, SqL.of eB, _, rfl, by show 3 ≤ sizeLine; decide, fun t nt => ?_⟩
      have s5 := same_upd (o := .tup [.int (sumA ls), .int (sumB ls), .ref S]) nt
      exact q t S all _ (s2.trans (s3.trans (s4.trans s5))) upd_same ((s3.trans (s4.trans s5)) _ _ eS2) tot
end
end K36

set_option Elab.async false
set_option linter.all false
set_option maxRecDepth 100000
set_option maxHeartbeats 1600000
set_option pp.maxSteps 300
namespace K36
open PySem PySem.Spec PyProof.Rows L2 LT NdefX
theorem lg120 {i : Int} (h : i.natAbs ≤ 10 ^ 120) : i.natAbs.log2 < 1920 := by
  rcases Nat.eq_zero_or_pos i.natAbs with z | z
  · rw [z]; decide
  · rw [Nat.log2_lt (by omega)]
    exact Nat.lt_of_le_of_lt h (by decide)
theorem tlen120 {i : Int} (h : i.natAbs ≤ 10 ^ 120) : (Str.ofString (toString i)).length ≤ 404 := by
  rw [PySem.ofString_length]
  rcases Nat.eq_zero_or_pos i.natAbs with z | z
  · rw [show i = 0 by omega]; decide
  · have : i.natAbs.log2 < 403 := by
      rw [Nat.log2_lt (by omega)]
      exact Nat.lt_of_le_of_lt h (by decide)
    exact Nat.le_trans (int_text_length_le (k := 403) (by decide) this) (by decide)
theorem tup_fit {z : Str} {x y : Int} (hz : (PyData.str z).showable = true) (lz : (PyData.str z).shown.length ≤ 20) (hx : x.natAbs ≤ 10 ^ 120) (hy : y.natAbs ≤ 10 ^ 120) :
    (PyData.tuple [.str z, .int x, .int y]).showable = true ∧ (PyData.tuple [.str z, .int x, .int y]).depth ≤ 60 ∧ (PyData.tuple [.str z, .int x, .int y]).shown.length ≤ sizeLine := by
  have x1 := lg120 hx
  have y1 := lg120 hy
  have x2 := tlen120 hx
  have y2 := tlen120 hy
  refine ⟨by simp [PyData.showable, PyData.showableAll, x1, y1], by simp [PyData.depth, PyData.depthAll], ?_⟩
  have e := tupleText_len_le [(PyData.str z).shown, (PyData.int x).shown, (PyData.int y).shown]
  simp only [List.map_cons, List.map_nil, List.sum_cons, List.sum_nil, List.length_cons, List.length_nil] at e
  have e2 : PyData.shown (.tuple [.str z, .int x, .int y]) = tupleText [(PyData.str z).shown, (PyData.int x).shown, (PyData.int y).shown] := by simp only [PyData.shown, PyData.shownAll]
  have ex : (PyData.int x).shown = Str.ofString (toString x) := by simp only [PyData.shown]
  have ey : (PyData.int y).shown = Str.ofString (toString y) := by simp only [PyData.shown]
  rw [e2, sizeLine_eq]
  rw [ex, ey] at e ⊢
  omega
/-! ### the numbers, once more -/
theorem do_iff {s c m t o b k : Int} : doB s c m t o b k = true ↔ o ≤ t * roomI s c m ∧ b ≤ t * roomI s c m ∧ o * m + k ≤ t * c := by
  unfold doB
  simp only [Bool.and_eq_true, Bool.not_eq_true', Bool.or_eq_false_iff, decide_eq_false_iff_not, decide_eq_true_eq]
  constructor
  · rintro ⟨⟨h1, h2⟩, h3⟩
    exact ⟨by omega, by omega, h3⟩
  · rintro ⟨h1, h2, h3⟩
    exact ⟨⟨by omega, by omega⟩, h3⟩
theorem do_mono {s c m t t' o b k : Int} (S : N3 s c m) (h : t ≤ t') (hd : doB s c m t o b k = true) : doB s c m t' o b k = true := by
  obtain ⟨r0, _⟩ := room_bd S.s1 S.c1 S.m1
  obtain ⟨h1, h2, h3⟩ := do_iff.mp hd
  have c1 := S.c1
  have e1 : t * roomI s c m ≤ t' * roomI s c m := Int.mul_le_mul_of_nonneg_right h r0
  have e2 : t * c ≤ t' * c := Int.mul_le_mul_of_nonneg_right h (by omega)
  exact do_iff.mpr ⟨by omega, by omega, by omega⟩
theorem bar_do {s c m g o b k : Int} (h : doB s c m g o b k = true) : barI g s c m o b k = none := by
  obtain ⟨h1, h2, h3⟩ := do_iff.mp h
  unfold barI
  rw [if_neg (by omega), if_neg (by omega), if_neg (by omega)]
/-- the three that may be told -/
def dues (s c m g o b k : Int) : List (Str × Int × Int) := [(Str.ofString "out", o, g * roomI s c m), (Str.ofString "back", b, g * roomI s c m), (Str.ofString "weight", o * m + k, g * c)]
theorem bar_no {s c m g o b k : Int} (h : doB s c m g o b k = false) : ∃ z x y, barI g s c m o b k = some (z, x, y) ∧ x > y ∧ (z, x, y) ∈ dues s c m g o b k := by
  have hn : ¬ (o ≤ g * roomI s c m ∧ b ≤ g * roomI s c m ∧ o * m + k ≤ g * c) := fun e => by
    rw [do_iff.mpr e] at h
    cases h
  unfold barI
  by_cases h1 : o > g * roomI s c m
  · rw [if_pos h1]
    exact ⟨_, _, _, rfl, h1, List.mem_cons_self⟩
  · rw [if_neg h1]
    by_cases h2 : b > g * roomI s c m
    · rw [if_pos h2]
      exact ⟨_, _, _, rfl, h2, List.mem_cons_of_mem _ List.mem_cons_self⟩
    · rw [if_neg h2]
      have h3 : o * m + k > g * c := by
        by_cases h3 : o * m + k > g * c
        · exact h3
        · exact absurd ⟨by omega, by omega, by omega⟩ hn
      rw [if_pos h3]
      exact ⟨_, _, _, rfl, h3, List.mem_cons_of_mem _ (List.mem_cons_of_mem _ List.mem_cons_self)⟩
theorem sum_le {α : Type} {f : α → Int} {B : Int} : ∀ {ls : List α}, (∀ l ∈ ls, f l ≤ B) → (ls.map f).sum ≤ ls.length * B
  | [], _ => by simp
  | l :: ls, h => by
    have h1 := h l List.mem_cons_self
    have h2 := sum_le (ls := ls) fun x hx => h x (List.mem_cons_of_mem _ hx)
    rw [List.map_cons, List.sum_cons, List.length_cons]
    have : ((ls.length + 1 : Nat) : Int) * B = ls.length * B + B := by
      rw [Int.natCast_add, Int.add_mul]
      simp
    omega
theorem sum_ge {α : Type} {f : α → Int} : ∀ {ls : List α}, (∀ l ∈ ls, 0 ≤ f l) → 0 ≤ (ls.map f).sum
  | [], _ => by simp
  | l :: ls, h => by
    have h1 := h l List.mem_cons_self
    have h2 := sum_ge (ls := ls) fun x hx => h x (List.mem_cons_of_mem _ hx)
    rw [List.map_cons, List.sum_cons]
    omega
theorem sum_wt {m : Int} : ∀ ls : List Load, (ls.map fun l => l.1 * m + wsum l.2.2).sum = sumA ls * m + sumK ls
  | [] => by simp [sumA, sumK]
  | l :: ls => by
    have ih := sum_wt (m := m) ls
    unfold sumA sumK at *
    rw [List.map_cons, List.sum_cons, ih, List.map_cons, List.sum_cons, List.map_cons, List.sum_cons, Int.add_mul]
    omega
/-- rows of goings, and their sums -/
structure Rw (s c m : Int) (ls : List Load) : Prop where
  go : ∀ l ∈ ls, Go s c m l
  ln : ls.length ≤ 30
theorem Rw.bd {s c m : Int} {ls : List Load} (S : S3 s c m) (h : Rw s c m ls) : 0 ≤ sumA ls ∧ sumA ls ≤ 30000 ∧ 0 ≤ sumB ls ∧ sumB ls ≤ 30000 ∧ 0 ≤ sumK ls ∧ sumK ls ≤ 30000 ∧ (roomI s c m = 0 → sumA ls = 0 ∧ sumB ls = 0) ∧ doB s c m ls.length (sumA ls) (sumB ls) (sumK ls) = true := by
  obtain ⟨r0, r1⟩ := room_bd S.s1 S.c1 S.m1
  have s2 := S.s2
  have c2 := S.c2
  have m1 := S.m1
  have hl := h.ln
  have a0 : 0 ≤ sumA ls := sum_ge fun l hl => (h.go l hl).a0
  have b0 : 0 ≤ sumB ls := sum_ge fun l hl => (h.go l hl).b0
  have k0 : 0 ≤ sumK ls := sum_ge fun l hl => wsum_nonneg (h.go l hl).kf.w1
  have a1 : sumA ls ≤ ls.length * roomI s c m := sum_le fun l hl => (h.go l hl).a1
  have b1 : sumB ls ≤ ls.length * roomI s c m := sum_le fun l hl => (h.go l hl).b1
  have w1 : sumA ls * m + sumK ls ≤ ls.length * c := by
    rw [← sum_wt]
    exact sum_le fun l hl => (h.go l hl).wt
  have e1 : (ls.length : Int) * roomI s c m ≤ 30 * 1000 := Int.mul_le_mul (by omega) (by omega) r0 (by decide)
  have e2 : (ls.length : Int) * c ≤ 30 * 1000 := Int.mul_le_mul (by omega) c2 (by have := S.c1; omega) (by decide)
  have am : 0 ≤ sumA ls * m := Int.mul_nonneg a0 (by omega)
  refine ⟨a0, by omega, b0, by omega, k0, by omega, fun hr => ?_, do_iff.mpr ⟨a1, b1, w1⟩⟩
  rw [hr, Int.mul_zero] at a1 b1
  omega
theorem few_some {s c m o b k : Int} (h : roomI s c m = 0 → o = 0 ∧ b = 0) : ∃ n, fewI s c m o b k = some n := by
  cases e : fewI s c m o b k with
  | some n => exact ⟨n, rfl⟩
  | none =>
    obtain ⟨h1, h2⟩ := few_none e
    exact absurd (h h1) h2
theorem few_le {s c m o b k n t : Int} (S : N3 s c m) (hn : n = 0 ∨ doB s c m (n - 1) o b k = false) (ht : 0 ≤ t) (hd : doB s c m t o b k = true) : n ≤ t := by
  rcases hn with rfl | hn
  · exact ht
  · by_cases h : n ≤ t
    · exact h
    · rw [do_mono S (show t ≤ n - 1 by omega) hd] at hn
      cases hn
theorem inV_str {z : Str} {zs : List Str} (h : z ∈ zs) : inV (.str z) (zs.map V.str) = true := by
  unfold inV
  rw [List.any_eq_true]
  exact ⟨_, List.mem_map.mpr ⟨z, h, rfl⟩, by show (z == z) = true; exact beq_self_eq_true z⟩
theorem strs_flat (zs : List Str) : (zs.map V.str).all flatV = true := by
  rw [List.all_eq_true]
  intro x hx
  obtain ⟨z, _, rfl⟩ := List.mem_map.mp hx
  rfl
def dueD (p : Str × Int × Int) : PyData := .tuple [.str p.1, .int p.2.1, .int p.2.2]
theorem due_fit {s c m g o b k : Int} (S : S3 s c m) (g0 : 0 ≤ g) (g1 : g ≤ 10 ^ 6) (o0 : 0 ≤ o) (o1 : o ≤ 10 ^ 6) (b0 : 0 ≤ b) (b1 : b ≤ 10 ^ 6) (k0 : 0 ≤ k) (k1 : k ≤ 10 ^ 6) :
    ∀ p ∈ dues s c m g o b k, (dueD p).showable = true ∧ (dueD p).depth ≤ 60 ∧ (dueD p).shown.length ≤ sizeLine := by
  obtain ⟨r0, r1⟩ := room_bd S.s1 S.c1 S.m1
  have s2 := S.s2
  have c1 := S.c1
  have c2 := S.c2
  have m1 := S.m1
  have m2 := S.m2
  have a1 : 0 ≤ g * roomI s c m := Int.mul_nonneg g0 r0
  have a2 : g * roomI s c m ≤ 10 ^ 6 * 10 ^ 6 := Int.mul_le_mul g1 (by omega) r0 (by decide)
  have a3 : 0 ≤ o * m := Int.mul_nonneg o0 (by omega)
  have a4 : o * m ≤ 10 ^ 6 * 10 ^ 6 := Int.mul_le_mul o1 (by omega) (by omega) (by decide)
  have a5 : 0 ≤ g * c := Int.mul_nonneg g0 (by omega)
  have a6 : g * c ≤ 10 ^ 6 * 10 ^ 6 := Int.mul_le_mul g1 (by omega) (by omega) (by decide)
  intro p hp
  simp only [dues, List.mem_cons, List.not_mem_nil, or_false] at hp
  rcases hp with rfl | rfl | rfl
  · exact tup_fit (z := Str.ofString "out") (by decide +kernel) (by decide +kernel) (by show o.natAbs ≤ _; omega) (by show (g * roomI s c m).natAbs ≤ _; omega)
  · exact tup_fit (z := Str.ofString "back") (by decide +kernel) (by decide +kernel) (by show b.natAbs ≤ _; omega) (by show (g * roomI s c m).natAbs ≤ _; omega)
  · exact tup_fit (z := Str.ofString "weight") (by decide +kernel) (by decide +kernel) (by show (o * m + k).natAbs ≤ _; omega) (by show (g * c).natAbs ≤ _; omega)
section
variable {P : Program} {w : World} {K : PySem.W.Frag} {mg : Str → Option Value} {base : Heap}
theorem due_sh {H : Hp} {t : Addr} {p : Str × Int × Int} (h : H t = some (.tup [.str p.1, .int p.2.1, .int p.2.2])) : Sh K H (.ref t) (dueD p) := .dp (.tup (SqT.of h) (.cons (.str _) (.cons (.int _) (.cons (.int _) .nil)))) (by simp [dueD, PyData.hasDict, PyData.hasDictAll])
def rReprSh (K : PySem.W.Frag) : List V → Hp → VK → Prop := fun xs H Q => ∃ x d, xs = [x] ∧ Sh K H x d ∧ d.showable = true ∧ d.depth ≤ 60 ∧ d.shown.length ≤ sizeLine ∧ Q (.str d.shown) H
def spBars : Sp := fun vs H Q _ => ∃ (t u th S : Addr) (g s c m o b : Int) (all : Kvs) (z : Str) (x y : Int), vs = [.ref t, .ref u, .ref th, .int g] ∧ H t = some (.tup [.str z, .int x, .int y]) ∧ x > y ∧ (z, x, y) ∈ dues s c m g o b (wsum all) ∧
  H u = some (.tup [.int s, .int c, .int m]) ∧ S3 s c m ∧ H th = some (.tup [.int o, .int b, .ref S]) ∧ H S = some (.dK (sd all)) ∧ 0 ≤ g ∧ g ≤ 10 ^ 6 ∧ 0 ≤ o ∧ o ≤ 10 ^ 6 ∧ 0 ≤ b ∧ b ≤ 10 ^ 6 ∧ 0 ≤ wsum all ∧ wsum all ≤ 10 ^ 6 ∧
  ∀ H', Same H H' → Q (.bl true) H'
theorem sc__law_bars : FnScope ["_law_told", "_law_ship", "_law_three", "_law_times", "_law_away", "_law_home", "_law_cargo", "_law_room", "_law_dues", "_law_due"] ["_law_told", "_law_ship", "_law_three", "_law_times"] (defScope s__law_bars) := ⟨rfl, rfl, rfl, by decide +kernel, rfl, by decide +kernel, by decide +kernel⟩
theorem ok__law_bars (D : All K P mg) : FnG P w K mg base CX0 1 D.f__law_bars D.d__law_bars ["_law_told", "_law_ship", "_law_three", "_law_times"] spBars := by
  refine okG D.h__law_bars.fn sc__law_bars (fun h => ?_) (fun cdv A outer s H vs Q E hG hr h => ?_)
  · first | (obtain ⟨_, rfl, _⟩ := h; rfl) | (obtain ⟨_, _, rfl, _⟩ := h; rfl) | (obtain ⟨_, _, _, rfl, _⟩ := h; rfl) | (obtain ⟨_, _, _, _, rfl, _⟩ := h; rfl) | (obtain ⟨_, _, _, _, _, rfl, _⟩ := h; rfl) | (obtain ⟨_, _, _, _, _, _, rfl, _⟩ := h; rfl) | (obtain ⟨_, _, _, _, _, _, _, rfl, _⟩ := h; rfl) | (obtain ⟨_, _, _, _, _, _, _, _, rfl, _⟩ := h; rfl) | (obtain ⟨_, _, _, _, _, _, _, _, _, rfl, _⟩ := h; rfl) | (obtain ⟨_, _, _, _, _, _, _, _, _, _, rfl, _⟩ := h; rfl) | (obtain ⟨_, _, _, _, _, _, _, _, _, _, _, rfl, _⟩ := h; rfl) | (obtain ⟨_, _, _, _, _, _, _, _, _, _, _, _, rfl, _⟩ := h; rfl) | (obtain ⟨_, _, _, _, _, _, _, _, _, _, _, _, _, rfl, _⟩ := h; rfl) | (obtain ⟨_, _, _, _, _, _, _, _, _, _, _, _, _, _, rfl, _⟩ := h; rfl) | (obtain ⟨_, _, _, _, _, _, _, _, _, _, _, _, _, _, _, rfl, _⟩ := h; rfl)
  · have T := D.T
    have nd := sc__law_bars.nd
    have hu := hr.units
    have hu1 := hu_of hr
    have hu0 := hr.units0
    have hG2 : (cxOf CX0 P w K mg base ["_law_told", "_law_ship", "_law_three", "_law_times", "_law_away", "_law_home", "_law_cargo", "_law_room", "_law_dues", "_law_due"] "_law_bars" (defScope s__law_bars) D.f__law_bars cdv A outer s H E).nox.A.guards = some [] := hG
    obtain ⟨t, u, th, S, g, sv, c, m, o, b, all, z, x, y, rfl, ht, hxy, hmem, hu', S3', hth, hS, g0, g1, o0, o1, b0, b1, k0, k1, q⟩ := h
    refine ⟨_, pss_cons (ps_asg (pv 2) (pg_tup rfl (pgs_cons (pg_name (i := 4) nd rfl (Or.inl rfl)) (pgs_cons (pg_name (i := 5) nd rfl (Or.inl rfl)) (pgs_cons (pg_name (i := 6) nd rfl (Or.inl rfl)) pgs_nil)))))
      (pss_cons (ps_set (i := 7) nd rfl (.inl rfl) (pe_callB (call_min2 rfl) (by rfl) T.min (by decide +kernel) (pa_cons (pe_ix ix_tup (pv 1) pe_int (fun _ _ => rfl)) (pa_cons (pe_op op_fdivW (pe_ix ix_tup (pv 1) pe_int (fun _ _ => rfl)) (pe_ix ix_tup (pv 1) pe_int (fun _ _ => rfl))) pa_nil))))
      (pss_cons (ps_set (i := 8) nd rfl (.inl rfl) (pe_lst (pa_cons (pe_tup (pa_cons pe_str (pa_cons (pv 4) (pa_cons (pe_op op_mul (pv 3) (pv 7)) pa_nil)))) (pa_cons (pe_tup (pa_cons pe_str (pa_cons (pv 5) (pa_cons (pe_op op_mul (pv 3) (pv 7)) pa_nil)))) pa_nil))))
      (pss_cons (ps_expr (pe_bm PySem.F.plainAttrs_list PySem.F.slot_list_append PySem.F.type_list_append mt_append (pv 8) (pa_cons (pe_tup (pa_cons pe_str (pa_cons (pe_op op_add (pe_op op_mul (pv 4) (pe_ix ix_tup (pv 1) pe_int (fun _ _ => rfl))) (pe_sumVals rfl (by rfl) T.sum (pv 6))) (pa_cons (pe_op op_mul (pv 3) (pe_ix ix_tup (pv 1) pe_int (fun _ _ => rfl))) pa_nil)))) pa_nil)))
      (pss_one (ps_ret (pe_and (pe_cmpR op_in_seq (pe_callB (call_reprSh hG2 hu) (by rfl) T.repr (by decide +kernel) (pa_cons (pv 0) pa_nil)) (pe_lc (own := [("_law_due", 9)]) (g := gName 9) (tt := tYes) rfl nd (pi_list (pv 8)) (blkOk_by (N := ["_law_told", "_law_ship", "_law_three", "_law_times", "_law_away", "_law_home", "_law_cargo", "_law_room", "_law_dues", "_law_due"]) (sc := defScope s__law_bars) (by decide +kernel)) (fun _ _ _ _ _ => (pg_name (i := 9) nd rfl (Or.inl rfl))) (fun _ _ _ _ _ => pts_nil) (fun _ _ _ _ _ => (pe_callB (show CallR _ (.builtin "repr") (rReprSh K) from call_reprSh hG2 hu) (by rfl) T.repr (by decide +kernel) (pa_cons (pv 9) pa_nil)))) (by rfl)) (pe_one (pe_cmpR op_gt (pe_ix ix_tup (pv 0) pe_int (fun _ _ => rfl)) (pe_ix ix_tup (pv 0) pe_int (fun _ _ => rfl)) (nomark _))))))))), ?_⟩
    have fit := due_fit S3' g0 g1 o0 o1 b0 b1 k0 k1
    obtain ⟨s1, c1, m1, s2, c2, m2⟩ := S3'
    obtain ⟨r0, r1⟩ := room_bd s1 c1 m1
    refine ⟨_, rfl, th, _, rfl, SqT.of hth, rfl, _, _, rfl, _, _, rfl, _, _, rfl, rfl, ?_⟩
    have hs : SqT K H u [.int sv, .int c, .int m] := SqT.of hu'
    refine ⟨_, rfl, u, _, 0, _, rfl, rfl, hs, atI_nat (j := 0) rfl, _, rfl, u, _, 1, _, rfl, rfl, hs, atI_nat (j := 1) rfl, _, rfl, u, _, 2, _, rfl, rfl, hs, atI_nat (j := 2) rfl, _, _, rfl, rfl, wide_div (b := 20) (by omega) (Nat.lt_of_le_of_lt (show m.natAbs ≤ 1000 by omega) (by decide)) (by decide) (by decide), _, _, rfl, ?_⟩
    have hR : (if c / m < sv then c / m else sv) = roomI sv c m := rfl
    rw [hR]
    refine ⟨_, rfl, _, rfl, _, rfl, _, _, rfl, rfl, .inl ⟨by omega, by omega⟩, by show 3 ≤ sizeLine; decide, fun t1 n1 => ?_⟩
    have e1s := same_upd (o := .tup [V.str (Str.ofString "out"), .int o, .int (g * roomI sv c m)]) n1
    have e1 := upd_same (H := H) (a := t1) (o := .tup [V.str (Str.ofString "out"), .int o, .int (g * roomI sv c m)])
    generalize upd H t1 (.tup [V.str (Str.ofString "out"), .int o, .int (g * roomI sv c m)]) = H1 at *
    refine ⟨_, rfl, _, rfl, _, rfl, _, _, rfl, rfl, .inl ⟨by omega, by omega⟩, by show 3 ≤ sizeLine; decide, fun t2 n2 => ?_⟩
    have e2s := same_upd (o := .tup [V.str (Str.ofString "back"), .int b, .int (g * roomI sv c m)]) n2
    have e2 := upd_same (H := H1) (a := t2) (o := .tup [V.str (Str.ofString "back"), .int b, .int (g * roomI sv c m)])
    generalize upd H1 t2 (.tup [V.str (Str.ofString "back"), .int b, .int (g * roomI sv c m)]) = H2 at *
    refine ⟨by show 2 ≤ sizeLine; decide, fun L nL => ?_⟩
    have e3s := same_upd (o := .lst [V.ref t1, .ref t2]) nL
    have eL := upd_same (H := H2) (a := L) (o := .lst [V.ref t1, .ref t2])
    generalize upd H2 L (.lst [V.ref t1, .ref t2]) = H3 at *
    have s03 := e1s.trans (e2s.trans e3s)
    refine ⟨_, rfl, .inl ⟨rfl, _, SqL.of eL⟩, _, rfl, _, rfl, u, _, 2, _, rfl, rfl, SqT.of (s03 _ _ hu'), atI_nat (j := 2) rfl, _, _, rfl, rfl, .inl ⟨by omega, by omega⟩, _, rfl, S, _, all.map (·.2), rfl, s03 _ _ hS, sd_vals all, _, _, rfl, rfl, ?_⟩
    refine ⟨_, rfl, _, rfl, u, _, 1, _, rfl, rfl, SqT.of (s03 _ _ hu'), atI_nat (j := 1) rfl, _, _, rfl, rfl, .inl ⟨by omega, by omega⟩, by show 3 ≤ sizeLine; decide, fun t3 n3 => ?_⟩
    have nLt3 : L ≠ t3 := ne_of_none eL n3
    have hW : (all.map (·.2)).sum = wsum all := rfl
    rw [hW]
    have e4s := same_upd (o := .tup [V.str (Str.ofString "weight"), .int (o * m + wsum all), .int (g * c)]) n3
    have e3 := upd_same (H := H3) (a := t3) (o := .tup [V.str (Str.ofString "weight"), .int (o * m + wsum all), .int (g * c)])
    generalize upd H3 t3 (.tup [V.str (Str.ofString "weight"), .int (o * m + wsum all), .int (g * c)]) = H4 at *
    refine ⟨L, _, _, rfl, rfl, e4s _ _ eL, small1000 (by show 2 ≤ 1000; decide), ?_⟩
    have nL0 : H L = none := (e1s.trans e2s).free nL
    have s05 : Same H (upd H4 L (.lst ([V.ref t1, .ref t2] ++ [V.ref t3]))) := same_app nL0 (s03.trans e4s)
    have w1 : (upd H4 L (.lst ([V.ref t1, .ref t2] ++ [V.ref t3]))) t1 = some (.tup [V.str (Str.ofString "out"), .int o, .int (g * roomI sv c m)]) := by
      rw [upd_ne (fun e => by have := (e2s.trans (e3s.trans e4s)) _ _ e1; rw [e, e4s _ _ eL] at this; cases this)]
      exact (e2s.trans (e3s.trans e4s)) _ _ e1
    have w2 : (upd H4 L (.lst ([V.ref t1, .ref t2] ++ [V.ref t3]))) t2 = some (.tup [V.str (Str.ofString "back"), .int b, .int (g * roomI sv c m)]) := by
      rw [upd_ne (fun e => by have := (e3s.trans e4s) _ _ e2; rw [e, e4s _ _ eL] at this; cases this)]
      exact (e3s.trans e4s) _ _ e2
    have w3 : (upd H4 L (.lst ([V.ref t1, .ref t2] ++ [V.ref t3]))) t3 = some (.tup [V.str (Str.ofString "weight"), .int (o * m + wsum all), .int (g * c)]) := by
      rw [upd_ne (Ne.symm nLt3)]
      exact e3
    have wL := upd_same (H := H4) (a := L) (o := .lst ([V.ref t1, .ref t2] ++ [V.ref t3]))
    generalize upd H4 L (.lst ([V.ref t1, .ref t2] ++ [V.ref t3])) = H5 at *
    obtain ⟨f1, f2, f3⟩ := fit _ hmem
    refine ⟨_, rfl, .ref t, _, rfl, due_sh (p := (z, x, y)) (s05 _ _ ht), f1, f2, f3, ?_⟩
    have pr : Paired (fun t p => H5 t = some (.tup [.str p.1, .int p.2.1, .int p.2.2])) [t1, t2, t3] (dues sv c m g o b (wsum all)) := .cons w1 (.cons w2 (.cons w3 .nil))
    refine ⟨_, rfl, L, rfl, ⟨_, SqL.of wL⟩, fun A nA => ?_⟩
    refine lc_list (K := K) (a := L) (xs := [t1, t2, t3].map V.ref) (fun i H' => Same H5 H' ∧ H' A = some (.lst ((((dues sv c m g o b (wsum all)).take i).map fun p => (dueD p).shown).map V.str))) ⟨same_upd nA, upd_same⟩ (fun i H' _ h => h.1.seq (SqL.of wL)) ?_ ?_
    · rintro i yv H6 hy ⟨sm, eA⟩
      obtain ⟨hi, ey⟩ := List.getElem?_eq_some_iff.mp hy
      rw [List.length_map] at hi
      rw [List.getElem_map] at ey
      subst ey
      obtain ⟨p, hp, h1⟩ := paired_at pr (List.getElem?_eq_getElem hi)
      obtain ⟨hi2, el⟩ := List.getElem?_eq_some_iff.mp hp
      obtain ⟨g1', g2', g3'⟩ := fit p (el ▸ List.getElem_mem hi2)
      refine ⟨rfl, _, rfl, _, _, rfl, due_sh (sm _ _ h1), g1', g2', g3', _, eA, ?_, same_app nA sm, ?_⟩
      · rw [List.length_map, List.length_map, List.length_take]
        exact small1000 (by have : i < 3 := hi; omega)
      · rw [upd_same, List.take_succ_eq_append_getElem hi2, List.map_append, List.map_append, el]
        rfl
    rintro H6 ⟨s6, eA⟩
    rw [show ([t1, t2, t3].map V.ref).length = (dues sv c m g o b (wsum all)).length from rfl, List.take_length] at eA
    refine ⟨A, _, rfl, .inl (SqL.of eA), rfl, strs_flat _, ?_⟩
    refine ⟨_, rfl, ?_⟩
    have hin : inV (.str (dueD (z, x, y)).shown) (((dues sv c m g o b (wsum all)).map fun p => (dueD p).shown).map V.str) = true := inV_str (List.mem_map.mpr ⟨_, hmem, rfl⟩)
    rw [show (if false = true then !inV (.str (dueD (z, x, y)).shown) (((dues sv c m g o b (wsum all)).map fun p => (dueD p).shown).map V.str) else inV (.str (dueD (z, x, y)).shown) (((dues sv c m g o b (wsum all)).map fun p => (dueD p).shown).map V.str)) = true from hin]
    have ht6 := s6 _ _ (s05 _ _ ht)
    refine ⟨_, rfl, t, _, 1, _, rfl, rfl, SqT.of ht6, atI_nat (j := 1) rfl, _, rfl, t, _, 2, _, rfl, rfl, SqT.of ht6, atI_nat (j := 2) rfl, _, _, rfl, rfl, ?_⟩
    show Q (.bl (decide (y < x))) H6
    rw [decide_eq_true (show y < x from hxy)]
    exact q H6 (s05.trans s6)
end
end K36

set_option Elab.async false
set_option linter.all false
set_option maxRecDepth 100000
set_option maxHeartbeats 1600000
set_option pp.maxSteps 300
namespace K36
open PySem PySem.Spec PyProof.Rows L2 LT NdefX
section
variable {P : Program} {w : World} {K : PySem.W.Frag} {mg : Str → Option Value} {base : Heap}
theorem Tot.kv {ls : List Load} {all : Kvs} (h : Tot ls all) (hb : sumK ls ≤ 10 ^ 6) : Kv all := ⟨h.nd, fun p hp => four_nm _ (h.nm p hp), h.w1, fun p hp => by have := mem_wsum h.w1 p hp; rw [h.sm] at this; omega⟩
def spRight (C : Addr) : Sp := fun vs H Q _ => ∃ (u x L : Addr) (s c m : Int) (ts : List Addr) (ls : List Load), vs = [.ref u, .ref x, .ref L] ∧ H u = some (.tup [.int s, .int c, .int m]) ∧ S3 s c m ∧ Bt C H x s c m ∧ H L = some (.lst (ts.map V.ref)) ∧ Paired (GoAt H) ts ls ∧ Rw s c m ls ∧
  ∀ H', Same H H' → Q (.bl true) H'
theorem sc__law_right : FnScope ["_law_ship", "_law_boat_made", "_law_rows", "_law_three", "_law_away", "_law_home", "_law_cargo", "_law_least", "_law_more"] ["_law_ship", "_law_boat_made", "_law_rows"] (defScope s__law_right) := ⟨rfl, rfl, rfl, by decide +kernel, rfl, by decide +kernel, by decide +kernel⟩
theorem ok__law_right (D : All K P mg) : FnG P w K mg base CX0 7 D.f__law_right D.d__law_right ["_law_ship", "_law_boat_made", "_law_rows"] (spRight D.C_Boat) := by
  refine okG D.h__law_right.fn sc__law_right (fun h => ?_) (fun cdv A outer s H vs Q E hG hr h => ?_)
  · first | (obtain ⟨_, rfl, _⟩ := h; rfl) | (obtain ⟨_, _, rfl, _⟩ := h; rfl) | (obtain ⟨_, _, _, rfl, _⟩ := h; rfl) | (obtain ⟨_, _, _, _, rfl, _⟩ := h; rfl) | (obtain ⟨_, _, _, _, _, rfl, _⟩ := h; rfl) | (obtain ⟨_, _, _, _, _, _, rfl, _⟩ := h; rfl) | (obtain ⟨_, _, _, _, _, _, _, rfl, _⟩ := h; rfl) | (obtain ⟨_, _, _, _, _, _, _, _, rfl, _⟩ := h; rfl) | (obtain ⟨_, _, _, _, _, _, _, _, _, rfl, _⟩ := h; rfl) | (obtain ⟨_, _, _, _, _, _, _, _, _, _, rfl, _⟩ := h; rfl) | (obtain ⟨_, _, _, _, _, _, _, _, _, _, _, rfl, _⟩ := h; rfl) | (obtain ⟨_, _, _, _, _, _, _, _, _, _, _, _, rfl, _⟩ := h; rfl) | (obtain ⟨_, _, _, _, _, _, _, _, _, _, _, _, _, rfl, _⟩ := h; rfl) | (obtain ⟨_, _, _, _, _, _, _, _, _, _, _, _, _, _, rfl, _⟩ := h; rfl) | (obtain ⟨_, _, _, _, _, _, _, _, _, _, _, _, _, _, _, rfl, _⟩ := h; rfl)
  · have T := D.T
    have nd := sc__law_right.nd
    have hu := hr.units
    have hu1 := hu_of hr
    have hu0 := hr.units0
    have hG2 : (cxOf CX0 P w K mg base ["_law_ship", "_law_boat_made", "_law_rows", "_law_three", "_law_away", "_law_home", "_law_cargo", "_law_least", "_law_more"] "_law_right" (defScope s__law_right) D.f__law_right cdv A outer s H E).nox.A.guards = some [] := hG
    obtain ⟨u, x, L, sv, c, m, ts, ls, rfl, hu', S, B, hL, pr, rw', q⟩ := h
    obtain ⟨_, v4_fewest, b4_fewest⟩ := D.q_fewest.binds1 (ps := ["boat", "out", "back", "stores"]) 4 2 (by simp) (by rfl) (fun _ _ _ _ _ _ _ us its h1 h2 => match us, its, h1, h2 with | [_, _, _, _], [_, _], _, _ => ⟨_, rfl, rfl⟩)
    obtain ⟨_, v4_loads, b4_loads⟩ := D.q_loads.binds1 (ps := ["boat", "out", "back", "stores"]) 4 2 (by simp) (by rfl) (fun _ _ _ _ _ _ _ us its h1 h2 => match us, its, h1, h2 with | [_, _, _, _], [_, _], _, _ => ⟨_, rfl, rfl⟩)
    obtain ⟨_, v5_barred, b5_barred⟩ := D.q_barred.binds1 (ps := ["boat", "goings", "out", "back", "stores"]) 5 2 (by simp) (by rfl) (fun _ _ _ _ _ _ _ us its h1 h2 => match us, its, h1, h2 with | [_, _, _, _, _], [_, _], _, _ => ⟨_, rfl, rfl⟩)
    refine ⟨_, pss_cons (ps_set (i := 3) nd rfl (.inl rfl) (pe_call (ok__law_summed D) (hr.mono (by decide)) (by rfl) D.h__law_summed.gl D.h__law_summed.fn.kp D.h__law_summed.bd .nil pass0 (pa_cons (pv 2) pa_nil)))
      (pss_cons (ps_asg (pv 3) (pg_tup rfl (pgs_cons (pg_name (i := 4) nd rfl (Or.inl rfl)) (pgs_cons (pg_name (i := 5) nd rfl (Or.inl rfl)) (pgs_cons (pg_name (i := 6) nd rfl (Or.inl rfl)) pgs_nil)))))
      (pss_cons (ps_set (i := 7) nd rfl (.inl rfl) (pe_call (ok_fewest D) (hr.mono (by decide)) (by rfl) D.gl_fewest D.kp_fewest b4_fewest v4_fewest passL (pa_cons (pv 1) (pa_cons (pv 4) (pa_cons (pv 5) (pa_cons (pv 6) pa_nil))))))
      (pss_cons (ps_if (PW.pt (pw_or (pt_not (pt_val (pe_callB call_isi (by rfl) T.isi (by decide +kernel) (pa_cons (pv 7) (pa_cons (pe_bltn (v := .ty "int") (by rfl) T.int (by decide +kernel) rfl) pa_nil))))) (pw_or (pt_cmpR op_gt (pv 7) (pe_callB call_len_seq (by rfl) T.len PySem.boot_len (pa_cons (pv 2) pa_nil)) (nomark _)) (pw_or1 (pt_cmpR op_ne (pe_callB call_len_seq (by rfl) T.len PySem.boot_len (pa_cons (pe_call (ok_loads D) (hr.mono (by decide)) (by rfl) D.gl_loads D.kp_loads b4_loads v4_loads passL (pa_cons (pv 1) (pa_cons (pv 4) (pa_cons (pv 5) (pa_cons (pv 6) pa_nil))))) pa_nil)) (pv 7) (nomark _)))))) (pss_one (ps_ret pe_bl)) pss_nil)
      (pss_cons (ps_for PassesOwn.never rfl (pi_list (pe_lst (pa_cons (pv 7) (pa_cons (pe_callB call_len_seq (by rfl) T.len PySem.boot_len (pa_cons (pv 2) pa_nil)) (pa_cons (pe_op op_add (pv 7) pe_int) (pa_cons (pe_op op_add (pe_op op_mul pe_int (pv 7)) pe_int) pa_nil)))))) (pg_name (i := 8) nd rfl (Or.inl rfl)) (pss_one (ps_if (pt_cmpR op_notN (pe_call (ok_barred D) (hr.mono (by decide)) (by rfl) D.gl_barred D.kp_barred b5_barred v5_barred pass0 (pa_cons (pv 1) (pa_cons (pv 8) (pa_cons (pv 4) (pa_cons (pv 5) (pa_cons (pv 6) pa_nil)))))) pe_non (nomark _)) (pss_one (ps_ret pe_bl)) pss_nil)))
      (pss_cons (ps_if (pt_cmpR op_gt (pv 7) pe_int (nomark _)) (pss_one (ps_ret (pe_callG (ok__law_bars D) hG2 (hr.mono (by decide)) (by rfl) D.h__law_bars.gl D.h__law_bars.fn.kp D.h__law_bars.bd .nil pass0 (pa_cons (pe_call (ok_barred D) (hr.mono (by decide)) (by rfl) D.gl_barred D.kp_barred b5_barred v5_barred pass0 (pa_cons (pv 1) (pa_cons (pe_op op_sub (pv 7) pe_int) (pa_cons (pv 4) (pa_cons (pv 5) (pa_cons (pv 6) pa_nil)))))) (pa_cons (pv 0) (pa_cons (pv 3) (pa_cons (pe_op op_sub (pv 7) pe_int) pa_nil))))))) pss_nil)
      (pss_one (ps_ret (pe_and (pe_cmpR op_eq (pv 4) pe_int (nomark _)) (pe_and (pe_cmpR op_eq (pv 5) pe_int (nomark _)) (pe_one (pe_cmpR (op_eq_dict hu0) (pv 6) pe_dnewK (nomark _)))))))))))), ?_⟩
    obtain ⟨a0, a1, b0, b1, k0, k1, hz, hdo⟩ := rw'.bd S
    have lt := Paired.len pr
    have hl := rw'.ln
    refine ⟨_, rfl, L, ts, ls, rfl, hL, pr, fun l h => (rw'.go l h).kf, hl, fun t G all H1 s1 et eG tot => ?_⟩
    refine ⟨_, rfl, t, _, rfl, SqT.of et, rfl, _, _, rfl, _, _, rfl, _, _, rfl, rfl, ?_⟩
    have sm := tot.sm
    have la := tot.len
    have hst : ∀ {Hx : Hp}, Same H1 Hx → StK Hx (.ref G) all := fun s => .dict (s _ _ eG) (tot.kv (by omega)) (by omega)
    have B1 := B.mono s1
    obtain ⟨n, hn⟩ := few_some (k := wsum all) hz
    obtain ⟨n0, _, n2, n3, _⟩ := few_ok S.n3 a0 b0 (by omega) (by omega) (by omega) (by omega) hn
    rw [← sm] at hdo
    have nl : n ≤ ls.length := few_le S.n3 n3 (by omega) hdo
    refine ⟨_, rfl, _, rfl, _, rfl, _, rfl, x, sv, c, m, _, _, wsum all, _, rfl, B1, a0, by omega, b0, by omega, (hst (Same.refl _)).v, (fun e => by rw [hn] at e; cases e), fun n' hn' H2 s2 => ?_⟩
    rw [hn] at hn'
    cases hn'
    refine ⟨_, rfl, .int n, .ty "int", _, _, true, rfl, .ty _, .base (.int n), kit_ty (show kitB "int" "int" = some true by decide +kernel), _, rfl, ?_⟩
    have hL2 := (s1.trans s2) _ _ hL
    refine ⟨_, rfl, _, rfl, L, _, rfl, .inl (SqL.of hL2), _, _, rfl, rfl, _, rfl, ?_⟩
    rw [decide_eq_false (show ¬ n > ((ts.map V.ref).length : Nat) by rw [List.length_map, lt]; omega)]
    have hn3 : n ≤ 300 := by omega
    refine ⟨_, rfl, _, rfl, _, rfl, _, rfl, x, sv, c, m, _, _, all, _, rfl, B1.mono s2, a0, by omega, b0, by omega, hst s2, (fun e => by rw [hn] at e; cases e), (fun n' e h3 => by rw [hn] at e; cases e; omega), fun n' e _ LL R tl H3 nLL s3 eLL prL => ?_⟩
    rw [hn] at e
    cases e
    have pl := Paired.len prL
    unfold loadsI at pl
    rw [List.length_map, List.length_range] at pl
    refine ⟨LL, _, rfl, .inl (SqL.of eLL), _, rfl, rfl, _, rfl, ?_⟩
    rw [decide_eq_true (show V.int ((tl.map V.ref).length : Nat) = V.int n by rw [List.length_map, pl]; congr 1; omega)]
    have s13 := s2.trans s3
    have hL3 := (s1.trans s13) _ _ hL
    have hd1 : ∀ g, n ≤ g → doB sv c m g (sumA ls) (sumB ls) (wsum all) = true := fun g hg => do_mono S.n3 hg n2
    -- as many and more do
    refine ⟨_, rfl, _, rfl, L, _, rfl, .inl (SqL.of hL3), _, rfl, _, _, rfl, rfl, _, rfl, _, _, rfl, rfl, .inl ⟨by omega, by omega⟩, _, _, rfl, rfl, by show 4 ≤ sizeLine; decide, fun L4 nL4 => ?_⟩
    have eM : [V.int n, .int ((ts.map V.ref).length : Nat), .int (n + 1), .int (3 * n + 7)] = [n, ((ts.map V.ref).length : Nat), n + 1, 3 * n + 7].map V.int := rfl
    have s4 := same_upd (o := .lst [V.int n, .int ((ts.map V.ref).length : Nat), .int (n + 1), .int (3 * n + 7)]) nL4
    have eL4 := upd_same (H := H3) (a := L4) (o := .lst [V.int n, .int ((ts.map V.ref).length : Nat), .int (n + 1), .int (3 * n + 7)])
    generalize upd H3 L4 (.lst [V.int n, .int ((ts.map V.ref).length : Nat), .int (n + 1), .int (3 * n + 7)]) = H4 at *
    have s14 := s13.trans s4
    refine ⟨L4, rfl, ⟨_, SqL.of eL4⟩, for_list (xs := [V.int n, .int ((ts.map V.ref).length : Nat), .int (n + 1), .int (3 * n + 7)]) (fun i σ H' => ∃ x8, σ = [some (.ref u), some (.ref x), some (.ref L), some (.ref t), some (.int (sumA ls)), some (.int (sumB ls)), some (.ref G), some (.int n), x8] ∧ Same H4 H')
      ⟨none, rfl, Same.refl _⟩ (fun i σ H' _ ⟨_, _, s⟩ => SqL.of (s _ _ eL4)) ?_ ?_⟩
    · rintro i y σ H5 hy ⟨x8, rfl, s5⟩
      obtain ⟨g, rfl, hg, hg2⟩ : ∃ g : Int, y = .int g ∧ n ≤ g ∧ g ≤ 1000 := by
        have := List.mem_of_getElem? hy
        simp only [List.mem_cons, List.not_mem_nil, or_false] at this
        rcases this with rfl | rfl | rfl | rfl
        · exact ⟨_, rfl, by omega, by omega⟩
        · exact ⟨_, rfl, by rw [List.length_map, lt]; omega, by rw [List.length_map, lt]; omega⟩
        · exact ⟨_, rfl, by omega, by omega⟩
        · exact ⟨_, rfl, by omega, by omega⟩
      refine ⟨_, rfl, _, rfl, _, rfl, _, rfl, _, rfl, x, sv, c, m, g, _, _, wsum all, _, rfl, B1.mono (s14.trans s5), ⟨by omega, by omega, a0, by omega, b0, by omega⟩, (hst (s14.trans s5)).v, fun v H6 s6 bv => ?_⟩
      rw [bar_do (hd1 g hg)] at bv
      obtain rfl : v = .non := bv
      refine ⟨rfl, _, rfl, ?_⟩
      rw [decide_eq_true rfl]
      exact ⟨_, rfl, s5.trans s6⟩
    · rintro σ H5 ⟨x8, rfl, s5⟩
      have s15 := s14.trans s5
      refine ⟨_, rfl, _, _, rfl, rfl, _, rfl, ?_⟩
      by_cases hp : n > 0
      · rw [decide_eq_true hp]
        have hd0 : doB sv c m (n - 1) (sumA ls) (sumB ls) (wsum all) = false := by
          rcases n3 with e | e
          · omega
          · exact e
        refine ⟨_, rfl, _, rfl, _, _, rfl, rfl, _, rfl, _, rfl, _, rfl, x, sv, c, m, n - 1, _, _, wsum all, _, rfl, B1.mono s15, ⟨by omega, by omega, a0, by omega, b0, by omega⟩, (hst s15).v, fun v H6 s6 bv => ?_⟩
        obtain ⟨z, x', y', eb, hgt, hmem⟩ := bar_no hd0
        rw [eb] at bv
        obtain ⟨tb, rfl, etb⟩ := bv
        refine ⟨_, rfl, _, rfl, _, rfl, _, _, rfl, rfl, tb, u, t, G, n - 1, sv, c, m, _, _, all, z, x', y', rfl, etb, hgt, hmem, (s1.trans (s15.trans s6)) _ _ hu', S, (s15.trans s6) _ _ et, (s15.trans s6) _ _ eG, by omega, by omega, a0, by omega, b0, by omega, by omega, by omega, fun H7 s7 => ?_⟩
        exact q H7 (s1.trans (s15.trans (s6.trans s7)))
      · rw [decide_eq_false hp]
        have e0 : n = 0 := by omega
        subst e0
        obtain ⟨d1, d2, d3⟩ := do_iff.mp n2
        rw [Int.zero_mul] at d1 d2 d3
        have am : 0 ≤ sumA ls * m := Int.mul_nonneg a0 (by have := S.m1; omega)
        have eA : sumA ls = 0 := by omega
        have eB : sumB ls = 0 := by omega
        have eK : wsum all = 0 := by omega
        have en : all = [] := by
          cases all with
          | nil => rfl
          | cons p r =>
            have := mem_wsum tot.w1 p List.mem_cons_self
            have := tot.w1 p List.mem_cons_self
            omega
        subst en
        refine ⟨_, rfl, rfl, _, rfl, ?_⟩
        rw [decide_eq_true (show V.int (sumA ls) = V.int 0 by rw [eA])]
        refine ⟨_, rfl, rfl, _, rfl, ?_⟩
        rw [decide_eq_true (show V.int (sumB ls) = V.int 0 by rw [eB])]
        refine ⟨_, rfl, fun d nd' => ?_⟩
        refine ⟨G, d, [], rfl, rfl, ?_, upd_same, List.nodup_nil, nofun, ?_⟩
        · rw [upd_ne (ne_of_none (s15 _ _ eG) nd')]
          exact s15 _ _ eG
        · exact q _ (s1.trans (s15.trans (same_upd nd')))
end
end K36

set_option Elab.async false
set_option linter.all false
set_option maxRecDepth 100000
set_option maxHeartbeats 1600000
set_option pp.maxSteps 200
namespace K36
open PySem PySem.Spec PyProof.Rows L2 LT NdefX
theorem paired_app {α β : Type} {R : α → β → Prop} {ys : List α} {es : List β} (h2 : Paired R ys es) : ∀ {xs : List α} {ds : List β}, Paired R xs ds → Paired R (xs ++ ys) (ds ++ es)
  | _, _, .nil => h2
  | _, _, .cons h r => .cons h (paired_app h2 r)
theorem paired_rev {α β : Type} {R : α → β → Prop} : ∀ {xs : List α} {ds : List β}, Paired R xs ds → Paired R xs.reverse ds.reverse
  | _, _, .nil => .nil
  | _, _, .cons h r => by
    rw [List.reverse_cons, List.reverse_cons]
    exact Paired.snoc h (paired_rev r)
theorem Rw.app {s c m : Int} {a b : List Load} (h1 : Rw s c m a) (h2 : Rw s c m b) (l1 : a.length ≤ 10) (l2 : b.length ≤ 10) : Rw s c m (a ++ b) :=
  ⟨fun l hl => (List.mem_append.mp hl).elim (h1.go l) (h2.go l), by rw [List.length_append]; omega⟩
theorem sums_app (a b : List Load) : sumA (a ++ b) = sumA a + sumA b ∧ sumB (a ++ b) = sumB a + sumB b ∧ sumK (a ++ b) = sumK a + sumK b := by
  unfold sumA sumB sumK
  simp only [List.map_append, List.sum_append]
  exact ⟨trivial, trivial, trivial⟩
/-- the fewest of a list of goings -/
theorem few_of {s c m : Int} {ls : List Load} (S : S3 s c m) (h : Rw s c m ls) : ∃ n, fewI s c m (sumA ls) (sumB ls) (sumK ls) = some n ∧ 0 ≤ n ∧ n ≤ ls.length ∧ doB s c m n (sumA ls) (sumB ls) (sumK ls) = true ∧ (n = 0 ∨ doB s c m (n - 1) (sumA ls) (sumB ls) (sumK ls) = false) := by
  obtain ⟨a0, a1, b0, b1, k0, k1, hz, hdo⟩ := h.bd S
  obtain ⟨n, hn⟩ := few_some (k := sumK ls) hz
  obtain ⟨n0, _, n2, n3, _⟩ := few_ok S.n3 a0 b0 (by omega) (by omega) (by omega) (by omega) hn
  exact ⟨n, hn, n0, few_le S.n3 n3 (by omega) hdo, n2, n3⟩
theorem few_add {s c m : Int} {a b : List Load} (S : S3 s c m) (ha : Rw s c m a) (hb : Rw s c m b) {n1 n2 n3 : Int} (d1 : doB s c m n1 (sumA a) (sumB a) (sumK a) = true) (e1 : n1 = 0 ∨ doB s c m (n1 - 1) (sumA a) (sumB a) (sumK a) = false) (p1 : 0 ≤ n1)
    (d2 : doB s c m n2 (sumA b) (sumB b) (sumK b) = true) (e2 : n2 = 0 ∨ doB s c m (n2 - 1) (sumA b) (sumB b) (sumK b) = false) (p2 : 0 ≤ n2)
    (d3 : doB s c m n3 (sumA (a ++ b)) (sumB (a ++ b)) (sumK (a ++ b)) = true) (e3 : n3 = 0 ∨ doB s c m (n3 - 1) (sumA (a ++ b)) (sumB (a ++ b)) (sumK (a ++ b)) = false) (p3 : 0 ≤ n3) : n3 ≤ n1 + n2 ∧ n1 ≤ n3 ∧ n2 ≤ n3 := by
  obtain ⟨s1, s2, s3⟩ := sums_app a b
  rw [s1, s2, s3] at d3 e3
  obtain ⟨a0, _, a1, _, a2, _, _, _⟩ := ha.bd S
  obtain ⟨b0, _, b1, _, b2, _, _, _⟩ := hb.bd S
  obtain ⟨x1, x2, x3⟩ := do_iff.mp d1
  obtain ⟨y1, y2, y3⟩ := do_iff.mp d2
  obtain ⟨z1, z2, z3⟩ := do_iff.mp d3
  have m1 := S.m1
  have am : 0 ≤ sumA a * m := Int.mul_nonneg a0 (by omega)
  have bm : 0 ≤ sumA b * m := Int.mul_nonneg b0 (by omega)
  have em : (sumA a + sumA b) * m = sumA a * m + sumA b * m := Int.add_mul ..
  refine ⟨few_le S.n3 e3 (by omega) (do_iff.mpr ⟨?_, ?_, ?_⟩), few_le S.n3 e1 p3 (do_iff.mpr ⟨by omega, by omega, by omega⟩), few_le S.n3 e2 p3 (do_iff.mpr ⟨by omega, by omega, by omega⟩)⟩
  · rw [Int.add_mul]; omega
  · rw [Int.add_mul]; omega
  · rw [Int.add_mul (a := n1)]; omega
section
variable {P : Program} {w : World} {K : PySem.W.Frag} {mg : Str → Option Value} {base : Heap}
def spLaw (K : PySem.W.Frag) : Sp := fun vs H Q _ => ∃ (a : Addr) (ns : List Int), vs = [.ref a] ∧ SqL K H a (ns.map V.int) ∧ ns.length ≤ 63 ∧ ∀ H', Q (.bl true) H'
/-- a list of goings stands at L -/
def Ro (H : Hp) (s c m : Int) (L : Addr) (ls : List Load) : Prop := ∃ ts, H L = some (.lst (ts.map V.ref)) ∧ Paired (GoAt H) ts ls ∧ Rw s c m ls
theorem Ro.mono {H H' : Hp} {s c m : Int} {L : Addr} {ls : List Load} (h : Ro H s c m L ls) (e : Same H H') : Ro H' s c m L ls := by
  obtain ⟨ts, h1, h2, h3⟩ := h
  exact ⟨ts, e _ _ h1, Paired.imp (fun _ _ h => h.mono e) h2, h3⟩
theorem sc_law : FnScope ["_law_script", "_law_k", "_law_pot_here", "_law_ship", "_law_boat_made", "_law_rows", "_law_more", "_law_some", "_law_told", "_law_least", "_law_turn", "_law_three"] ["_law_script"] (defScope s_law) := ⟨rfl, rfl, rfl, by decide +kernel, rfl, by decide +kernel, by decide +kernel⟩
theorem ok_law (D : All K P mg) {f : Addr} {fd : FuncData} (F : Fun K "law" "law" s_law f fd) : FnG P w K mg base CX0 8 f fd ["_law_script"] (spLaw K) := by
  refine okG F sc_law (fun h => ?_) (fun cdv A outer s H vs Q E hG hr h => ?_)
  · first | (obtain ⟨_, rfl, _⟩ := h; rfl) | (obtain ⟨_, _, rfl, _⟩ := h; rfl) | (obtain ⟨_, _, _, rfl, _⟩ := h; rfl) | (obtain ⟨_, _, _, _, rfl, _⟩ := h; rfl) | (obtain ⟨_, _, _, _, _, rfl, _⟩ := h; rfl) | (obtain ⟨_, _, _, _, _, _, rfl, _⟩ := h; rfl) | (obtain ⟨_, _, _, _, _, _, _, rfl, _⟩ := h; rfl) | (obtain ⟨_, _, _, _, _, _, _, _, rfl, _⟩ := h; rfl) | (obtain ⟨_, _, _, _, _, _, _, _, _, rfl, _⟩ := h; rfl) | (obtain ⟨_, _, _, _, _, _, _, _, _, _, rfl, _⟩ := h; rfl) | (obtain ⟨_, _, _, _, _, _, _, _, _, _, _, rfl, _⟩ := h; rfl) | (obtain ⟨_, _, _, _, _, _, _, _, _, _, _, _, rfl, _⟩ := h; rfl) | (obtain ⟨_, _, _, _, _, _, _, _, _, _, _, _, _, rfl, _⟩ := h; rfl) | (obtain ⟨_, _, _, _, _, _, _, _, _, _, _, _, _, _, rfl, _⟩ := h; rfl) | (obtain ⟨_, _, _, _, _, _, _, _, _, _, _, _, _, _, _, rfl, _⟩ := h; rfl)
  · have T := D.T
    have nd := sc_law.nd
    have hu := hr.units
    have hu1 := hu_of hr
    have hu0 := hr.units0
    have hG2 : (cxOf CX0 P w K mg base ["_law_script", "_law_k", "_law_pot_here", "_law_ship", "_law_boat_made", "_law_rows", "_law_more", "_law_some", "_law_told", "_law_least", "_law_turn", "_law_three"] "law" (defScope s_law) f cdv A outer s H E).nox.A.guards = some [] := hG
    obtain ⟨sc, ss, rfl, hS, hl, q⟩ := h
    obtain ⟨_, v4_fewest, b4_fewest⟩ := D.q_fewest.binds1 (ps := ["boat", "out", "back", "stores"]) 4 2 (by simp) (by rfl) (fun _ _ _ _ _ _ _ us its h1 h2 => match us, its, h1, h2 with | [_, _, _, _], [_, _], _, _ => ⟨_, rfl, rfl⟩)
    refine ⟨_, pss_cons (ps_for PassesOwn.never rfl (pi_range1 (by rfl) T.range (pa_cons (pe_callB (call_max2 rfl) (by rfl) T.max (by decide +kernel) (pa_cons pe_int (pa_cons (pe_callB (call_min2 rfl) (by rfl) T.min (by decide +kernel) (pa_cons (pe_callB call_len_seq (by rfl) T.len PySem.boot_len (pa_cons (pv 0) pa_nil)) (pa_cons pe_int pa_nil))) pa_nil))) pa_nil)) (pg_name (i := 1) nd rfl (Or.inl rfl)) (pss_cons (ps_set (i := 2) nd rfl (.inr rfl) (pe_call (ok__law_pot D) (hr.mono (by decide)) (by rfl) D.h__law_pot.gl D.h__law_pot.fn.kp D.h__law_pot.bd .nil pass0 (pa_cons (pv 0) (pa_cons (pv 1) pa_nil))))
      (pss_cons (ps_set (i := 3) nd rfl (.inr rfl) (pe_call (ok__law_boat D) (hr.mono (by decide)) (by rfl) D.h__law_boat.gl D.h__law_boat.fn.kp D.h__law_boat.bd .nil pass0 (pa_cons (pv 2) pa_nil)))
      (pss_cons (ps_set (i := 4) nd rfl (.inr rfl) (pe_make D.M_Boat (ok_Boat___init__ D) (hr.mono (by decide)) (by rfl) D.Z_Boat.gl D.h_Boat___init__.bd .nil pass0 (pa_cons (pe_ix ix_tup (pv 3) pe_int (fun _ _ => rfl)) (pa_cons (pe_ix ix_tup (pv 3) pe_int (fun _ _ => rfl)) (pa_cons (pe_ix ix_tup (pv 3) pe_int (fun _ _ => rfl)) pa_nil)))))
      (pss_cons (ps_setLc (i := 5) (own := [("_law_turn", 10)]) (g := gName 10) (tt := tYes) rfl nd rfl rfl (sw_true rfl rfl rfl (by decide +kernel)) (pi_range1 (by rfl) T.range (pa_cons (pe_call (ok__law_take D) (hr.mono (by decide)) (by rfl) D.h__law_take.gl D.h__law_take.fn.kp D.h__law_take.bd .nil pass0 (pa_cons (pv 2) (pa_cons pe_int pa_nil))) pa_nil)) (blkOk_by (N := ["_law_script", "_law_k", "_law_pot_here", "_law_ship", "_law_boat_made", "_law_rows", "_law_more", "_law_some", "_law_told", "_law_least", "_law_turn", "_law_three"]) (sc := defScope s_law) (by decide +kernel)) (fun _ _ _ _ _ => (pg_name (i := 10) nd rfl (Or.inl rfl))) (fun _ _ _ _ _ => pts_nil) (fun _ _ _ _ _ => (pe_call (ok__law_going D) (hr.mono (by decide)) (by rfl) D.h__law_going.gl D.h__law_going.fn.kp D.h__law_going.bd .nil pass0 (pa_cons (pv 2) (pa_cons (pv 3) pa_nil)))))
      (pss_cons (ps_setLc (i := 6) (own := [("_law_turn", 10)]) (g := gName 10) (tt := tYes) rfl nd rfl rfl (sw_true rfl rfl rfl (by decide +kernel)) (pi_range1 (by rfl) T.range (pa_cons (pe_call (ok__law_take D) (hr.mono (by decide)) (by rfl) D.h__law_take.gl D.h__law_take.fn.kp D.h__law_take.bd .nil pass0 (pa_cons (pv 2) (pa_cons pe_int pa_nil))) pa_nil)) (blkOk_by (N := ["_law_script", "_law_k", "_law_pot_here", "_law_ship", "_law_boat_made", "_law_rows", "_law_more", "_law_some", "_law_told", "_law_least", "_law_turn", "_law_three"]) (sc := defScope s_law) (by decide +kernel)) (fun _ _ _ _ _ => (pg_name (i := 10) nd rfl (Or.inl rfl))) (fun _ _ _ _ _ => pts_nil) (fun _ _ _ _ _ => (pe_call (ok__law_going D) (hr.mono (by decide)) (by rfl) D.h__law_going.gl D.h__law_going.fn.kp D.h__law_going.bd .nil pass0 (pa_cons (pv 2) (pa_cons (pv 3) pa_nil)))))
      (pss_cons (ps_for PassesOwn.never rfl (pi_list (pe_lst (pa_cons (pv 5) (pa_cons (pv 6) (pa_cons (pe_op op_cat (pv 5) (pv 6)) (pa_cons (pe_revL (pv 5)) pa_nil)))))) (pg_name (i := 7) nd rfl (Or.inl rfl)) (pss_one (ps_if (pt_not (pt_val (pe_callG (ok__law_right D) hG2 (hr.mono (by decide)) (by rfl) D.h__law_right.gl D.h__law_right.fn.kp D.h__law_right.bd .nil pass0 (pa_cons (pv 3) (pa_cons (pv 4) (pa_cons (pv 7) pa_nil)))))) (pss_one (ps_ret pe_bl)) pss_nil)))
      (pss_cons (ps_setLc (i := 8) (own := [("_law_some", 7)]) (g := gName 7) (tt := tYes) rfl nd rfl rfl (sw_true rfl rfl rfl (by decide +kernel)) (pi_list (pe_lst (pa_cons (pv 5) (pa_cons (pv 6) (pa_cons (pe_op op_cat (pv 5) (pv 6)) pa_nil))))) (blkOk_by (N := ["_law_script", "_law_k", "_law_pot_here", "_law_ship", "_law_boat_made", "_law_rows", "_law_more", "_law_some", "_law_told", "_law_least", "_law_turn", "_law_three"]) (sc := defScope s_law) (by decide +kernel)) (fun _ _ _ _ _ => (pg_name (i := 7) nd rfl (Or.inl rfl))) (fun _ _ _ _ _ => pts_nil) (fun _ _ _ _ _ => (pe_call (ok__law_summed D) (hr.mono (by decide)) (by rfl) D.h__law_summed.gl D.h__law_summed.fn.kp D.h__law_summed.bd .nil pass0 (pa_cons (pv 7) pa_nil))))
      (pss_cons (ps_setLc (i := 9) (own := [("_law_three", 11)]) (g := gName 11) (tt := tYes) rfl nd rfl rfl (sw_true rfl rfl rfl (by decide +kernel)) (pi_list (pv 8)) (blkOk_by (N := ["_law_script", "_law_k", "_law_pot_here", "_law_ship", "_law_boat_made", "_law_rows", "_law_more", "_law_some", "_law_told", "_law_least", "_law_turn", "_law_three"]) (sc := defScope s_law) (by decide +kernel)) (fun _ _ _ _ _ => (pg_name (i := 11) nd rfl (Or.inl rfl))) (fun _ _ _ _ _ => pts_nil) (fun _ _ _ _ _ => (pe_call (ok_fewest D) (hr.mono (by decide)) (by rfl) D.gl_fewest D.kp_fewest b4_fewest v4_fewest passL (pa_cons (pv 4) (pa_cons (pe_ix (show IxR _ (rIxT K) from ix_tup) (pv 11) pe_int (fun _ _ => rfl)) (pa_cons (pe_ix (show IxR _ (rIxT K) from ix_tup) (pv 11) pe_int (fun _ _ => rfl)) (pa_cons (pe_ix (show IxR _ (rIxT K) from ix_tup) (pv 11) pe_int (fun _ _ => rfl)) pa_nil)))))))
      (pss_one (ps_if (PW.pt (pw_or (pt_cmpR op_gt (pe_ix ix_list (pv 9) pe_int (fun _ _ => rfl)) (pe_op op_add (pe_ix ix_list (pv 9) pe_int (fun _ _ => rfl)) (pe_ix ix_list (pv 9) pe_int (fun _ _ => rfl))) (nomark _)) (pw_or1 (pt_cmpR op_lt (pe_ix ix_list (pv 9) pe_int (fun _ _ => rfl)) (pe_callB (cr_max rfl) (by rfl) T.max (by decide +kernel) (pa_cons (pe_slice sl_list (pv 9) po_none (po_some pe_int)) pa_nil)) (nomark _))))) (pss_one (ps_ret pe_bl)) pss_nil)))))))))))
      (pss_one (ps_ret pe_bl)), ?_⟩
    refine ⟨_, rfl, sc, _, rfl, .inl hS, _, _, rfl, _, _, rfl, ?_⟩
    generalize hN : (if (if (10 : Int) < ((ss.map V.int).length : Nat) then (10 : Int) else ((ss.map V.int).length : Nat)) > 1 then (if (10 : Int) < ((ss.map V.int).length : Nat) then (10 : Int) else ((ss.map V.int).length : Nat)) else 1) = N6
    have hN6 : 1 ≤ N6 ∧ N6 ≤ 10 := by
      rw [← hN]
      split <;> (try split) <;> omega
    refine ⟨N6, rfl, by omega, by omega, for_range (lo := 0) (n := N6.toNat) (fun i σ H' => ∃ x1 x2 x3 x4 x5 x6 x7 x8 x9, σ = [some (.ref sc), x1, x2, x3, x4, x5, x6, x7, x8, x9, none, none] ∧ Same H H')
      ⟨none, none, none, none, none, none, none, none, none, rfl, Same.refl _⟩ ?_ ?_⟩
    · rintro i σ H1 hi ⟨x1, x2, x3, x4, x5, x6, x7, x8, x9, rfl, sm1⟩
      refine ⟨_, rfl, _, rfl, sc, ss, i, (by rw [Int.zero_add]; rfl), sm1.seq hS, by omega, fun p H2 np s2 hp2 => ?_⟩
      refine ⟨_, rfl, p, rfl, hp2, fun u sv c m H3 S eu hp3 sb3 => ?_⟩
      have hs : SqT K H3 u [.int sv, .int c, .int m] := SqT.of eu
      have S' := S
      obtain ⟨s1', c1', m1', s2', c2', m2'⟩ := S'
      refine ⟨_, rfl, u, _, 0, _, rfl, rfl, hs, atI_nat (j := 0) rfl, _, rfl, u, _, 1, _, rfl, rfl, hs, atI_nat (j := 1) rfl, _, rfl, u, _, 2, _, rfl, rfl, hs, atI_nat (j := 2) rfl, fun x dx nx ndx nex => ?_⟩
      refine ⟨x, dx, sv, c, m, rfl, upd_same, s1', c1', m1', rfl, ?_⟩
      rw [upd_upd]
      have s4 : Same H3 (upd (upd H3 dx (.own x)) x (.ins D.C_Boat dx (bf (.int sv) (.int c) (.int m)))) := same_made (C := D.C_Boat) nx ndx
      have B4 : Bt D.C_Boat (upd (upd H3 dx (.own x)) x (.ins D.C_Boat dx (bf (.int sv) (.int c) (.int m)))) x sv c m := ⟨⟨dx, upd_same⟩, s1', c1', m1', by omega, by omega, by omega⟩
      generalize upd (upd H3 dx (.own x)) x (.ins D.C_Boat dx (bf (.int sv) (.int c) (.int m))) = H4 at *
      have hp4 := hp3.mono s4
      have eu4 := s4 _ _ eu
      have nup : u ≠ p := ne_of_pot hp4 eu4
      have b4 : ∀ {Hx : Hp}, SameB p H4 Hx → Bt D.C_Boat Hx x sv c m := fun sb => by
        obtain ⟨⟨dx', h⟩, r1, r2, r3, r4, r5, r6⟩ := B4
        exact ⟨⟨dx', sb _ _ (ne_of_pot hp4 h) h⟩, r1, r2, r3, r4, r5, r6⟩
      -- the goings, and more
      have sbA : SameB p H4 H4 := SameB.of (Same.refl _)
      refine ⟨_, rfl, p, 9, rfl, hp4, by decide, by decide, fun n1 H5a n10 n11 hp4a sbAa => ⟨_, rfl, by omega, by omega, fun A1 nA1 => ?_⟩⟩
      have nA1p : A1 ≠ p := hp4a.ne nA1
      have sbAb := sbA.trans sbAa
      have nA14 := sbAb.none hp4a nA1
      refine lc_range (lo := 0) (n := n1.toNat) (fun i H' => SameB p H4 H' ∧ Pot H' p ∧ ∃ (ts : List Addr) (ls : List Load), H' A1 = some (.lst (ts.map V.ref)) ∧ Paired (GoAt H') ts ls ∧ ls.length = i ∧ (∀ l ∈ ls, Go sv c m l))
        ⟨SameB.new nA14 sbAb, hp4a.upd nA1p, [], [], upd_same, .nil, rfl, nofun⟩ ?_ ?_
      · rintro i H' hi ⟨sb', hp', ts, ls, eD, pr, hl', hg⟩
        refine ⟨rfl, _, rfl, _, rfl, p, u, sv, c, m, rfl, hp', sb' _ _ nup eu4, S, fun t l Hy go ga nt hpy sby => ?_⟩
        have eDy := sby _ _ nA1p eD
        have prl := Paired.len pr
        refine ⟨_, eDy, small1000 (by rw [List.length_map]; omega), SameB.new nA14 (sb'.trans sby), hpy.upd nA1p, ts ++ [t], ls ++ [l], ?_, ?_, ?_, ?_⟩
        · rw [upd_same, List.map_append]
          rfl
        · have up : ∀ {t' : Addr} {l' : Load}, GoAt Hy t' l' → GoAt (upd Hy A1 (.lst (ts.map V.ref ++ [V.ref t]))) t' l' := fun ⟨d, h1, h2⟩ => by
            refine ⟨d, ?_, ?_⟩
            · rw [upd_ne (fun e => by rw [e, eDy] at h1; cases h1)]
              exact h1
            · rw [upd_ne (fun e => by rw [e, eDy] at h2; cases h2)]
              exact h2
          exact Paired.snoc (up ga) (Paired.imp (fun _ _ h => up (h.monoB hp' sby)) pr)
        · rw [List.length_append, hl']
          rfl
        · intro l' h
          rcases List.mem_append.mp h with h | h
          · exact hg l' h
          · rw [List.mem_singleton.mp h]
            exact go
      rintro H6 ⟨sbAc, hp4c, tsA, lsA, eA1, prlsA, llsA, glsA⟩
      have lA : lsA.length ≤ 9 := by omega
      refine ⟨_, rfl, p, 9, rfl, hp4c, by decide, by decide, fun n2 H7a n20 n21 hp4ca sbAca => ⟨_, rfl, by omega, by omega, fun A2 nA2 => ?_⟩⟩
      have nA2p : A2 ≠ p := hp4ca.ne nA2
      have sbAcb := sbAc.trans sbAca
      have nA24 := sbAcb.none hp4ca nA2
      have eA1x := sbAca _ _ nA1p eA1
      have nA12 : A1 ≠ A2 := ne_of_none eA1x nA2
      refine lc_range (lo := 0) (n := n2.toNat) (fun i H' => SameB p H4 H' ∧ Pot H' p ∧ ∃ (ts : List Addr) (ls : List Load), H' A2 = some (.lst (ts.map V.ref)) ∧ Paired (GoAt H') ts ls ∧ ls.length = i ∧ (∀ l ∈ ls, Go sv c m l) ∧ H' A1 = some (.lst (tsA.map V.ref)) ∧ Paired (GoAt H') tsA lsA)
        ⟨SameB.new nA24 sbAcb, hp4ca.upd nA2p, [], [], upd_same, .nil, rfl, nofun, ?_, ?_⟩ ?_ ?_
      · rw [upd_ne nA12]
        exact eA1x
      · exact Paired.imp (fun _ _ h => (h.monoB hp4c sbAca).mono (same_upd nA2)) prlsA
      · rintro i H' hi ⟨sb', hp', ts, ls, eD, pr, hl', hg, eA, prA⟩
        refine ⟨rfl, _, rfl, _, rfl, p, u, sv, c, m, rfl, hp', sb' _ _ nup eu4, S, fun t l Hy go ga nt hpy sby => ?_⟩
        have eDy := sby _ _ nA2p eD
        have prl := Paired.len pr
        refine ⟨_, eDy, small1000 (by rw [List.length_map]; omega), SameB.new nA24 (sb'.trans sby), hpy.upd nA2p, ts ++ [t], ls ++ [l], ?_, ?_, ?_, ?_, ?_, ?_⟩
        · rw [upd_same, List.map_append]
          rfl
        · have up : ∀ {t' : Addr} {l' : Load}, GoAt Hy t' l' → GoAt (upd Hy A2 (.lst (ts.map V.ref ++ [V.ref t]))) t' l' := fun ⟨d, h1, h2⟩ => by
            refine ⟨d, ?_, ?_⟩
            · rw [upd_ne (fun e => by rw [e, eDy] at h1; cases h1)]
              exact h1
            · rw [upd_ne (fun e => by rw [e, eDy] at h2; cases h2)]
              exact h2
          exact Paired.snoc (up ga) (Paired.imp (fun _ _ h => up (h.monoB hp' sby)) pr)
        · rw [List.length_append, hl']
          rfl
        · intro l' h
          rcases List.mem_append.mp h with h | h
          · exact hg l' h
          · rw [List.mem_singleton.mp h]
            exact go
        · rw [upd_ne nA12]
          exact sby _ _ nA1p eA
        · refine Paired.imp (fun t' l' h => ?_) prA
          obtain ⟨d, h1, h2⟩ := h.monoB hp' sby
          refine ⟨d, ?_, ?_⟩
          · rw [upd_ne (fun e => by rw [e, eDy] at h1; cases h1)]
            exact h1
          · rw [upd_ne (fun e => by rw [e, eDy] at h2; cases h2)]
            exact h2
      rintro H8 ⟨sbAcc, hp4cc, tsB, lsB, eA2, prlsB, llsB, glsB, eA1b, prAb⟩
      have lB : lsB.length ≤ 9 := by omega
      have rA : Ro H8 sv c m A1 lsA := ⟨tsA, eA1b, prAb, glsA, by omega⟩
      have rB : Ro H8 sv c m A2 lsB := ⟨tsB, eA2, prlsB, glsB, by omega⟩
      have B8 := b4 sbAcc
      have eu8 := sbAcc _ _ nup eu4
      have s18 : Same H1 H8 := sameB_new np s2 (sb3.trans ((SameB.of s4).trans sbAcc))
      have lnA : tsA.length = lsA.length := Paired.len prAb
      have lnB : tsB.length = lsB.length := Paired.len prlsB
      -- the four lists
      have cat : ∀ {Hx : Hp} {A3 : Addr}, Same H8 Hx → Hx A3 = none → Ro (upd Hx A3 (.lst (tsA.map V.ref ++ tsB.map V.ref))) sv c m A3 (lsA ++ lsB) := fun {Hx A3} s n => by
        refine ⟨tsA ++ tsB, by rw [upd_same, List.map_append], ?_, Rw.app rA.choose_spec.2.2 rB.choose_spec.2.2 (by omega) (by omega)⟩
        have s' := s.trans (same_upd (o := .lst (tsA.map V.ref ++ tsB.map V.ref)) n)
        exact paired_app (Paired.imp (fun _ _ h => h.mono s') prlsB) (Paired.imp (fun _ _ h => h.mono s') prAb)
      have szc : (tsA.map V.ref).length + (tsB.map V.ref).length ≤ sizeLine := Nat.le_of_lt (small1000 (by rw [List.length_map, List.length_map]; omega))
      refine ⟨_, rfl, _, rfl, _, rfl, _, rfl, A1, A2, _, _, rfl, rfl, eA1b, eA2, szc, fun A3 nA3 => ?_⟩
      have r3 := cat (Same.refl _) nA3
      have s9 := same_upd (o := .lst (tsA.map V.ref ++ tsB.map V.ref)) nA3
      generalize upd H8 A3 (.lst (tsA.map V.ref ++ tsB.map V.ref)) = H9 at *
      refine ⟨_, rfl, A1, _, rfl, SqL.of (s9 _ _ eA1b), fun A4 nA4 => ?_⟩
      have s10 := same_upd (o := .lst (tsA.map V.ref).reverse) nA4
      have r4 : Ro (upd H9 A4 (.lst (tsA.map V.ref).reverse)) sv c m A4 lsA.reverse := by
        refine ⟨tsA.reverse, by rw [upd_same, List.map_reverse], paired_rev (Paired.imp (fun _ _ h => h.mono (s9.trans s10)) prAb), ⟨fun l hl => glsA l (List.mem_reverse.mp hl), by rw [List.length_reverse]; omega⟩⟩
      generalize upd H9 A4 (.lst (tsA.map V.ref).reverse) = H10 at *
      refine ⟨by show 4 ≤ sizeLine; decide, fun F nF => ?_⟩
      have s11 := same_upd (o := .lst [V.ref A1, .ref A2, .ref A3, .ref A4]) nF
      have eF := upd_same (H := H10) (a := F) (o := .lst [V.ref A1, .ref A2, .ref A3, .ref A4])
      generalize upd H10 F (.lst [V.ref A1, .ref A2, .ref A3, .ref A4]) = H11 at *
      have s811 := s9.trans (s10.trans s11)
      refine ⟨F, rfl, ⟨_, SqL.of eF⟩, for_list (xs := [V.ref A1, .ref A2, .ref A3, .ref A4]) (fun _ σ H' => ∃ x7, σ = [some (.ref sc), some (.int (0 + (i : Nat))), some (.ref p), some (.ref u), some (.ref x), some (.ref A1), some (.ref A2), x7, x8, x9, none, none] ∧ Same H11 H')
        ⟨x7, rfl, Same.refl _⟩ (fun i σ H' _ ⟨_, _, s⟩ => SqL.of (s _ _ eF)) ?_ ?_⟩
      · rintro j y σ H12 hy ⟨x7, rfl, s12⟩
        obtain ⟨A, ls, rfl, r⟩ : ∃ A ls, y = .ref A ∧ Ro H11 sv c m A ls := by
          have := List.mem_of_getElem? hy
          simp only [List.mem_cons, List.not_mem_nil, or_false] at this
          rcases this with rfl | rfl | rfl | rfl
          · exact ⟨_, _, rfl, rA.mono s811⟩
          · exact ⟨_, _, rfl, rB.mono s811⟩
          · exact ⟨_, _, rfl, r3.mono (s10.trans s11)⟩
          · exact ⟨_, _, rfl, r4.mono s11⟩
        obtain ⟨ts, h1, h2, h3⟩ := r.mono s12
        exact ⟨_, rfl, _, rfl, _, rfl, u, x, A, sv, c, m, ts, ls, rfl, (s811.trans s12) _ _ eu8, S, B8.mono (s811.trans s12), h1, h2, h3, fun H13 s13 => ⟨_, rfl, _, rfl, s12.trans s13⟩⟩
      rintro σ H12 ⟨x7, rfl, s12⟩
      have s812 := s811.trans s12
      -- their sums
      refine ⟨_, rfl, _, rfl, _, rfl, _, rfl, A1, A2, _, _, rfl, rfl, s812 _ _ eA1b, s812 _ _ eA2, szc, fun A5 nA5 => ?_⟩
      have r5 := cat s812 nA5
      have s13 := same_upd (o := .lst (tsA.map V.ref ++ tsB.map V.ref)) nA5
      generalize upd H12 A5 (.lst (tsA.map V.ref ++ tsB.map V.ref)) = H13 at *
      refine ⟨by show 3 ≤ sizeLine; decide, fun F2 nF2 => ?_⟩
      have s14 := same_upd (o := .lst [V.ref A1, .ref A2, .ref A5]) nF2
      have eF2 := upd_same (H := H13) (a := F2) (o := .lst [V.ref A1, .ref A2, .ref A5])
      generalize upd H13 F2 (.lst [V.ref A1, .ref A2, .ref A5]) = H14 at *
      have s814 := s812.trans (s13.trans s14)
      refine ⟨F2, rfl, ⟨_, SqL.of eF2⟩, fun Tl nTl => ?_⟩
      have pr3 : Paired (fun v ls => ∃ A, v = V.ref A ∧ Ro H14 sv c m A ls) [V.ref A1, .ref A2, .ref A5] [lsA, lsB, lsA ++ lsB] := .cons ⟨_, rfl, rA.mono s814⟩ (.cons ⟨_, rfl, rB.mono s814⟩ (.cons ⟨_, rfl, r5.mono s14⟩ .nil))
      refine lc_list (K := K) (a := F2) (xs := [V.ref A1, .ref A2, .ref A5]) (fun j H' => Same H14 H' ∧ ∃ ws : List Addr, H' Tl = some (.lst (ws.map V.ref)) ∧ Paired (fun t ls => ∃ G all, H' t = some (.tup [.int (sumA ls), .int (sumB ls), .ref G]) ∧ H' G = some (.dK (sd all)) ∧ Tot ls all) ws ([lsA, lsB, lsA ++ lsB].take j))
        ⟨same_upd nTl, [], upd_same, .nil⟩ (fun i H' _ h => h.1.seq (SqL.of eF2)) ?_ ?_
      · rintro j y H' hy ⟨sm, ws, eT, prT⟩
        obtain ⟨ls, hls, A, rfl, r⟩ := paired_at pr3 hy
        obtain ⟨hj, el⟩ := List.getElem?_eq_some_iff.mp hls
        obtain ⟨ts, h1, h2, h3⟩ := r.mono sm
        refine ⟨rfl, _, rfl, A, ts, ls, rfl, h1, h2, fun l hl => (h3.go l hl).kf, h3.ln, fun t G all H'' s'' et eG tot => ?_⟩
        have eT' := s'' _ _ eT
        have lw := Paired.len prT
        rw [List.length_take] at lw
        have hne : ∀ {q : Addr} {o : HO}, H'' q = some o → (∀ xs, o ≠ .lst xs) → q ≠ Tl := fun h n e => by
          rw [e, eT'] at h
          cases h
          exact n _ rfl
        refine ⟨_, eT', small1000 (by rw [List.length_map, lw]; show min j 3 ≤ 1000; omega), same_app nTl (sm.trans s''), ws ++ [t], ?_, ?_⟩
        · rw [upd_same, List.map_append]
          rfl
        · rw [List.take_succ_eq_append_getElem hj, el]
          refine Paired.snoc ⟨G, all, ?_, ?_, tot⟩ (Paired.imp ?C prT)
          case C =>
            rintro t' ls' ⟨G', all', g1, g2, g3⟩
            refine ⟨G', all', ?_, ?_, g3⟩
            · rw [upd_ne (hne (s'' _ _ g1) nofun)]
              exact s'' _ _ g1
            · rw [upd_ne (hne (s'' _ _ g2) nofun)]
              exact s'' _ _ g2
          · rw [upd_ne (hne et nofun)]
            exact et
          · rw [upd_ne (hne eG nofun)]
            exact eG
      rintro H15 ⟨s15, ws, eT, prT⟩
      rw [show ([V.ref A1, .ref A2, .ref A5] : List V).length = [lsA, lsB, lsA ++ lsB].length from rfl, List.take_length] at prT
      have rwA : Rw sv c m lsA := ⟨glsA, by omega⟩
      have rwB : Rw sv c m lsB := ⟨glsB, by omega⟩
      have rwC : Rw sv c m (lsA ++ lsB) := Rw.app rwA rwB (by omega) (by omega)
      obtain ⟨k1, f1, k10, _, k1d, k1n⟩ := few_of S rwA
      obtain ⟨k2, f2, k20, _, k2d, k2n⟩ := few_of S rwB
      obtain ⟨k3, f3, k30, _, k3d, k3n⟩ := few_of S rwC
      have prK : Paired (fun ls n => Rw sv c m ls ∧ fewI sv c m (sumA ls) (sumB ls) (sumK ls) = some n) [lsA, lsB, lsA ++ lsB] [k1, k2, k3] := .cons ⟨rwA, f1⟩ (.cons ⟨rwB, f2⟩ (.cons ⟨rwC, f3⟩ .nil))
      have lw := Paired.len prT
      refine ⟨_, rfl, Tl, rfl, ⟨_, SqL.of eT⟩, fun Fl nFl => ?_⟩
      refine lc_list (K := K) (a := Tl) (xs := ws.map V.ref) (fun j H' => Same H15 H' ∧ H' Fl = some (.lst (([k1, k2, k3].take j).map V.int))) ⟨same_upd nFl, upd_same⟩ (fun i H' _ h => h.1.seq (SqL.of eT)) ?_ ?_
      · rintro j y H' hy ⟨sm, eFl⟩
        obtain ⟨hj, ey⟩ := List.getElem?_eq_some_iff.mp hy
        rw [List.length_map] at hj
        rw [List.getElem_map] at ey
        subst ey
        obtain ⟨ls, hls, G, all, g1, g2, tot⟩ := paired_at prT (List.getElem?_eq_getElem hj)
        obtain ⟨n, hn, rw1, fw⟩ := paired_at prK hls
        obtain ⟨hj2, en⟩ := List.getElem?_eq_some_iff.mp hn
        obtain ⟨a0, a1, b0, b1, q0, q1, _, _⟩ := rw1.bd S
        have g1' := sm _ _ g1
        have tl := tot.len
        refine ⟨rfl, _, rfl, _, rfl, _, _, 0, _, rfl, rfl, SqT.of g1', atI_nat (j := 0) rfl, _, rfl, _, _, 1, _, rfl, rfl, SqT.of g1', atI_nat (j := 1) rfl, _, rfl, _, _, 2, _, rfl, rfl, SqT.of g1', atI_nat (j := 2) rfl,
          x, sv, c, m, _, _, wsum all, _, rfl, B8.mono (s814.trans (s15.trans sm)), a0, by omega, b0, by omega, .dict (sm _ _ g2) (tot.kv (by omega)) (by omega), (fun e => by rw [tot.sm, fw] at e; cases e), fun n' hn' H'' s'' => ?_⟩
        rw [tot.sm, fw] at hn'
        cases hn'
        refine ⟨_, s'' _ _ eFl, small1000 (by rw [List.length_map, List.length_take]; show min j 3 ≤ 1000; omega), same_app nFl (sm.trans s''), ?_⟩
        rw [upd_same, List.take_succ_eq_append_getElem hj2, List.map_append, en]
        rfl
      rintro H16 ⟨s16, eFl⟩
      rw [List.length_map, lw, show [lsA, lsB, lsA ++ lsB].length = [k1, k2, k3].length from rfl, List.take_length] at eFl
      obtain ⟨u1, u2, u3⟩ := few_add S rwA rwB k1d k1n k10 k2d k2n k20 k3d k3n k30
      refine ⟨_, rfl, Fl, _, 2, _, rfl, rfl, SqL.of eFl, atI_nat (j := 2) rfl, _, rfl, Fl, _, 0, _, rfl, rfl, SqL.of eFl, atI_nat (j := 0) rfl, _, rfl, Fl, _, 1, _, rfl, rfl, SqL.of eFl, atI_nat (j := 1) rfl, _, _, rfl, rfl, _, _, rfl, rfl, _, rfl, ?_⟩
      rw [decide_eq_false (show ¬ k3 > k1 + k2 by omega)]
      refine ⟨_, rfl, Fl, _, 2, _, rfl, rfl, SqL.of eFl, atI_nat (j := 2) rfl, _, rfl, _, rfl, Fl, _, rfl, SqL.of eFl, fun M nM => ?_⟩
      rw [show cutV ([k1, k2, k3].map V.int) none (some 2) = [k1, k2].map V.int from rfl]
      refine ⟨M, [k1, k2], rfl, SqL.of upd_same, by show 0 < 2; decide, fun mx hmx _ => ?_⟩
      refine ⟨_, _, rfl, rfl, _, rfl, ?_⟩
      have hle : mx ≤ k3 := by
        simp only [List.mem_cons, List.not_mem_nil, or_false] at hmx
        rcases hmx with rfl | rfl <;> omega
      rw [decide_eq_false (show ¬ k3 < mx by omega)]
      exact ⟨_, _, _, _, _, _, _, _, _, rfl, sm1.trans (s18.trans (s814.trans (s15.trans (s16.trans (same_upd nM)))))⟩
    · rintro σ H1 ⟨x1, x2, x3, x4, x5, x6, x7, x8, x9, rfl, sm1⟩
      exact q H1
end
end K36

set_option Elab.async false
set_option linter.all false
set_option maxRecDepth 100000
set_option maxHeartbeats 3200000
namespace K36
open PySem PySem.Spec PyProof.Rows L2 LT NdefX
structure LeftC (K : PySem.W.Frag) (C_NoNumber C_NoBoat C_NoStores C_TooMany C_Small C_Boat : Addr) : Prop where
  n_NoNumber : PySem.W.nsIn K mainGlobals "NoNumber" = some (some (.ref C_NoNumber))
  n_NoBoat : PySem.W.nsIn K mainGlobals "NoBoat" = some (some (.ref C_NoBoat))
  n_NoStores : PySem.W.nsIn K mainGlobals "NoStores" = some (some (.ref C_NoStores))
  n_TooMany : PySem.W.nsIn K mainGlobals "TooMany" = some (some (.ref C_TooMany))
  n_Small : PySem.W.nsIn K mainGlobals "Small" = some (some (.ref C_Small))
  n_Boat : PySem.W.nsIn K mainGlobals "Boat" = some (some (.ref C_Boat))
  x_NoNumber : PySem.W.excIn K C_NoNumber [.type "ValueError", .type "Exception", .type "BaseException", .type "object"] "ValueError.__new__" = true
  k_NoNumber : PySem.W.keepIn K (.ref C_NoNumber) = true
  b_NoNumber : PySem.W.subIn K (.ref C_NoNumber) (.type "BaseException") = some true
  ty_NoNumber : PySem.W.typeIn K (.ref C_NoNumber) = some (.type "type")
  x_Small : PySem.W.excIn K C_Small [.type "ValueError", .type "Exception", .type "BaseException", .type "object"] "ValueError.__new__" = true
  k_Small : PySem.W.keepIn K (.ref C_Small) = true
  b_Small : PySem.W.subIn K (.ref C_Small) (.type "BaseException") = some true
  ty_Small : PySem.W.typeIn K (.ref C_Small) = some (.type "type")
  x_TooMany : PySem.W.excIn K C_TooMany [.type "ValueError", .type "Exception", .type "BaseException", .type "object"] "ValueError.__new__" = true
  k_TooMany : PySem.W.keepIn K (.ref C_TooMany) = true
  b_TooMany : PySem.W.subIn K (.ref C_TooMany) (.type "BaseException") = some true
  ty_TooMany : PySem.W.typeIn K (.ref C_TooMany) = some (.type "type")
  x_NoStores : PySem.W.excIn K C_NoStores [.type "ValueError", .type "Exception", .type "BaseException", .type "object"] "ValueError.__new__" = true
  k_NoStores : PySem.W.keepIn K (.ref C_NoStores) = true
  b_NoStores : PySem.W.subIn K (.ref C_NoStores) (.type "BaseException") = some true
  ty_NoStores : PySem.W.typeIn K (.ref C_NoStores) = some (.type "type")
  pg_Boat : PySem.W.plainGet K C_Boat Str.empty = true
  hd_Boat : PySem.W.hasDictIn K C_Boat = true
  po_Boat : PySem.W.plainOver K C_Boat = true
  sa_Boat : PySem.W.findIn K (.ref C_Boat) "__setattr__" = some (some (.builtin "object.__setattr__"))
  kC_Boat : PySem.W.keepIn K (.ref C_Boat) = true
  mk_Boat : PySem.W.makesIn K C_Boat = true
  f_Boat_many_seats : PySem.W.findIn K (.ref C_Boat) "many_seats" = some none
  f_Boat_most_weight : PySem.W.findIn K (.ref C_Boat) "most_weight" = some none
  f_Boat_man_weight : PySem.W.findIn K (.ref C_Boat) "man_weight" = some none
theorem all_mk {l : PySem.W.OpenLaw} {w : World} {K : PySem.W.Frag} {h : Heap} {mg : Str → Option Value} {fa : Addr} (X : K.In h) (G : h.Ns mainGlobals mg) (hfa : mg "law" = some (.ref fa))
    {C_NoNumber C_NoBoat C_NoStores C_TooMany C_Small C_Boat : Addr} (D : LeftC K C_NoNumber C_NoBoat C_NoStores C_TooMany C_Small C_Boat)
    {fENoBoat ccENoBoat cdENoBoat : Addr} {nmENoBoat qnENoBoat : Str} {NENoBoat : Addr} {bsENoBoat bmENoBoat : List Value} {snENoBoat : List Str} {subENoBoat : List Value} {abENoBoat : Bool} {colENoBoat : Option Bool} {ddENoBoat : Option Addr} {k0ENoBoat k1ENoBoat k2ENoBoat k3ENoBoat k5ENoBoat : Option Value} {ocENoBoat : Value} {odENoBoat : Option Addr} {kVENoBoat docENoBoat pmENoBoat : Value} {anENoBoat : Option Addr} {ctENoBoat : Value} {oslENoBoat : Array (Option Value)} {caENoBoat : Value} {cbENoBoat : Option Addr} {c3ENoBoat : Array (Option Value)} {kaENoBoat : Value} {kbENoBoat : Option Addr} {kcENoBoat : Array (Option Value)} {vsENoBoat : Array Value} {flENoBoat : Str} {tfENoBoat : Tok} (E_NoBoat : LeftE K l.prog "field" "NoBoat.__init__" s_NoBoat___init__ C_NoBoat fENoBoat ccENoBoat cdENoBoat nmENoBoat qnENoBoat NENoBoat bsENoBoat bmENoBoat snENoBoat subENoBoat abENoBoat colENoBoat ddENoBoat k0ENoBoat k1ENoBoat k2ENoBoat k3ENoBoat k5ENoBoat ocENoBoat odENoBoat kVENoBoat docENoBoat pmENoBoat anENoBoat ctENoBoat oslENoBoat caENoBoat cbENoBoat c3ENoBoat kaENoBoat kbENoBoat kcENoBoat vsENoBoat flENoBoat tfENoBoat)
    {fBoat___init__ : Addr} {ocBoat___init__ : Value} {odBoat___init__ anBoat___init__ : Option Addr} {kVBoat___init__ dcBoat___init__ pmBoat___init__ cdBoat___init__ ctBoat___init__ : Value} {slBoat___init__ : Array (Option Value)} (F_Boat___init__ : LeftM K C_Boat "__init__" "Boat.__init__" s_Boat___init__ fBoat___init__ ocBoat___init__ odBoat___init__ anBoat___init__ kVBoat___init__ dcBoat___init__ pmBoat___init__ cdBoat___init__ ctBoat___init__ slBoat___init__)
    {fBoat_seats : Addr} {ocBoat_seats : Value} {odBoat_seats anBoat_seats : Option Addr} {kVBoat_seats dcBoat_seats pmBoat_seats cdBoat_seats ctBoat_seats : Value} {slBoat_seats : Array (Option Value)} (F_Boat_seats : LeftM K C_Boat "seats" "Boat.seats" s_Boat_seats fBoat_seats ocBoat_seats odBoat_seats anBoat_seats kVBoat_seats dcBoat_seats pmBoat_seats cdBoat_seats ctBoat_seats slBoat_seats)
    {fBoat_carries : Addr} {ocBoat_carries : Value} {odBoat_carries anBoat_carries : Option Addr} {kVBoat_carries dcBoat_carries pmBoat_carries cdBoat_carries ctBoat_carries : Value} {slBoat_carries : Array (Option Value)} (F_Boat_carries : LeftM K C_Boat "carries" "Boat.carries" s_Boat_carries fBoat_carries ocBoat_carries odBoat_carries anBoat_carries kVBoat_carries dcBoat_carries pmBoat_carries cdBoat_carries ctBoat_carries slBoat_carries)
    {fBoat_man : Addr} {ocBoat_man : Value} {odBoat_man anBoat_man : Option Addr} {kVBoat_man dcBoat_man pmBoat_man cdBoat_man ctBoat_man : Value} {slBoat_man : Array (Option Value)} (F_Boat_man : LeftM K C_Boat "man" "Boat.man" s_Boat_man fBoat_man ocBoat_man odBoat_man anBoat_man kVBoat_man dcBoat_man pmBoat_man cdBoat_man ctBoat_man slBoat_man)
    {fbarred Tbarred : Addr} {ocbarred : Value} {odbarred anbarred : Option Addr} {kVbarred dcbarred pmbarred cdbarred ctbarred : Value} {slbarred : Array (Option Value)} {oTbarred : Value} {dTbarred : Option Addr} {nTbarred : Nat} {sTbarred : Array (Option Value)} {t0barred : Tok} (F_barred : LeftD K "barred" s_barred #[.int 0 t0barred, .none] fbarred Tbarred ocbarred odbarred anbarred kVbarred dcbarred pmbarred cdbarred ctbarred slbarred oTbarred dTbarred nTbarred sTbarred)
    {ffewest Tfewest : Addr} {ocfewest : Value} {odfewest anfewest : Option Addr} {kVfewest dcfewest pmfewest cdfewest ctfewest : Value} {slfewest : Array (Option Value)} {oTfewest : Value} {dTfewest : Option Addr} {nTfewest : Nat} {sTfewest : Array (Option Value)} {t0fewest : Tok} (F_fewest : LeftD K "fewest" s_fewest #[.int 0 t0fewest, .none] ffewest Tfewest ocfewest odfewest anfewest kVfewest dcfewest pmfewest cdfewest ctfewest slfewest oTfewest dTfewest nTfewest sTfewest)
    {floads Tloads : Addr} {ocloads : Value} {odloads anloads : Option Addr} {kVloads dcloads pmloads cdloads ctloads : Value} {slloads : Array (Option Value)} {oTloads : Value} {dTloads : Option Addr} {nTloads : Nat} {sTloads : Array (Option Value)} {t0loads : Tok} (F_loads : LeftD K "loads" s_loads #[.int 0 t0loads, .none] floads Tloads ocloads odloads anloads kVloads dcloads pmloads cdloads ctloads slloads oTloads dTloads nTloads sTloads)
    {fis_name : Addr} {ocis_name : Value} {odis_name anis_name : Option Addr} {kVis_name dcis_name pmis_name cdis_name ctis_name : Value} {slis_name : Array (Option Value)} (F_is_name : Left K "is_name" s_is_name fis_name ocis_name odis_name anis_name kVis_name dcis_name pmis_name cdis_name ctis_name slis_name)
    {fis_whole : Addr} {ocis_whole : Value} {odis_whole anis_whole : Option Addr} {kVis_whole dcis_whole pmis_whole cdis_whole ctis_whole : Value} {slis_whole : Array (Option Value)} (F_is_whole : Left K "is_whole" s_is_whole fis_whole ocis_whole odis_whole anis_whole kVis_whole dcis_whole pmis_whole cdis_whole ctis_whole slis_whole)
    {fis_from : Addr} {ocis_from : Value} {odis_from anis_from : Option Addr} {kVis_from dcis_from pmis_from cdis_from ctis_from : Value} {slis_from : Array (Option Value)} (F_is_from : Left K "is_from" s_is_from fis_from ocis_from odis_from anis_from kVis_from dcis_from pmis_from cdis_from ctis_from slis_from)
    {fparts_for : Addr} {ocparts_for : Value} {odparts_for anparts_for : Option Addr} {kVparts_for dcparts_for pmparts_for cdparts_for ctparts_for : Value} {slparts_for : Array (Option Value)} (F_parts_for : Left K "parts_for" s_parts_for fparts_for ocparts_for odparts_for anparts_for kVparts_for dcparts_for pmparts_for cdparts_for ctparts_for slparts_for)
    {ftaken : Addr} {octaken : Value} {odtaken antaken : Option Addr} {kVtaken dctaken pmtaken cdtaken cttaken : Value} {sltaken : Array (Option Value)} (F_taken : Left K "taken" s_taken ftaken octaken odtaken antaken kVtaken dctaken pmtaken cdtaken cttaken sltaken)
    {froom_of : Addr} {ocroom_of : Value} {odroom_of anroom_of : Option Addr} {kVroom_of dcroom_of pmroom_of cdroom_of ctroom_of : Value} {slroom_of : Array (Option Value)} (F_room_of : Left K "room_of" s_room_of froom_of ocroom_of odroom_of anroom_of kVroom_of dcroom_of pmroom_of cdroom_of ctroom_of slroom_of)
    {fweight_out : Addr} {ocweight_out : Value} {odweight_out anweight_out : Option Addr} {kVweight_out dcweight_out pmweight_out cdweight_out ctweight_out : Value} {slweight_out : Array (Option Value)} (F_weight_out : Left K "weight_out" s_weight_out fweight_out ocweight_out odweight_out anweight_out kVweight_out dcweight_out pmweight_out cdweight_out ctweight_out slweight_out)
    {fcheck_wanted : Addr} {occheck_wanted : Value} {odcheck_wanted ancheck_wanted : Option Addr} {kVcheck_wanted dccheck_wanted pmcheck_wanted cdcheck_wanted ctcheck_wanted : Value} {slcheck_wanted : Array (Option Value)} (F_check_wanted : Left K "check_wanted" s_check_wanted fcheck_wanted occheck_wanted odcheck_wanted ancheck_wanted kVcheck_wanted dccheck_wanted pmcheck_wanted cdcheck_wanted ctcheck_wanted slcheck_wanted)
    {fare_stores : Addr} {ocare_stores : Value} {odare_stores anare_stores : Option Addr} {kVare_stores dcare_stores pmare_stores cdare_stores ctare_stores : Value} {slare_stores : Array (Option Value)} (F_are_stores : Left K "are_stores" s_are_stores fare_stores ocare_stores odare_stores anare_stores kVare_stores dcare_stores pmare_stores cdare_stores ctare_stores slare_stores)
    {f_law_cell : Addr} {oc_law_cell : Value} {od_law_cell an_law_cell : Option Addr} {kV_law_cell dc_law_cell pm_law_cell cd_law_cell ct_law_cell : Value} {sl_law_cell : Array (Option Value)} (F__law_cell : Left K "_law_cell" s__law_cell f_law_cell oc_law_cell od_law_cell an_law_cell kV_law_cell dc_law_cell pm_law_cell cd_law_cell ct_law_cell sl_law_cell)
    {f_law_pot : Addr} {oc_law_pot : Value} {od_law_pot an_law_pot : Option Addr} {kV_law_pot dc_law_pot pm_law_pot cd_law_pot ct_law_pot : Value} {sl_law_pot : Array (Option Value)} (F__law_pot : Left K "_law_pot" s__law_pot f_law_pot oc_law_pot od_law_pot an_law_pot kV_law_pot dc_law_pot pm_law_pot cd_law_pot ct_law_pot sl_law_pot)
    {f_law_take : Addr} {oc_law_take : Value} {od_law_take an_law_take : Option Addr} {kV_law_take dc_law_take pm_law_take cd_law_take ct_law_take : Value} {sl_law_take : Array (Option Value)} (F__law_take : Left K "_law_take" s__law_take f_law_take oc_law_take od_law_take an_law_take kV_law_take dc_law_take pm_law_take cd_law_take ct_law_take sl_law_take)
    {f_law_boat : Addr} {oc_law_boat : Value} {od_law_boat an_law_boat : Option Addr} {kV_law_boat dc_law_boat pm_law_boat cd_law_boat ct_law_boat : Value} {sl_law_boat : Array (Option Value)} (F__law_boat : Left K "_law_boat" s__law_boat f_law_boat oc_law_boat od_law_boat an_law_boat kV_law_boat dc_law_boat pm_law_boat cd_law_boat ct_law_boat sl_law_boat)
    {f_law_going : Addr} {oc_law_going : Value} {od_law_going an_law_going : Option Addr} {kV_law_going dc_law_going pm_law_going cd_law_going ct_law_going : Value} {sl_law_going : Array (Option Value)} (F__law_going : Left K "_law_going" s__law_going f_law_going oc_law_going od_law_going an_law_going kV_law_going dc_law_going pm_law_going cd_law_going ct_law_going sl_law_going)
    {f_law_summed : Addr} {oc_law_summed : Value} {od_law_summed an_law_summed : Option Addr} {kV_law_summed dc_law_summed pm_law_summed cd_law_summed ct_law_summed : Value} {sl_law_summed : Array (Option Value)} (F__law_summed : Left K "_law_summed" s__law_summed f_law_summed oc_law_summed od_law_summed an_law_summed kV_law_summed dc_law_summed pm_law_summed cd_law_summed ct_law_summed sl_law_summed)
    {f_law_bars : Addr} {oc_law_bars : Value} {od_law_bars an_law_bars : Option Addr} {kV_law_bars dc_law_bars pm_law_bars cd_law_bars ct_law_bars : Value} {sl_law_bars : Array (Option Value)} (F__law_bars : Left K "_law_bars" s__law_bars f_law_bars oc_law_bars od_law_bars an_law_bars kV_law_bars dc_law_bars pm_law_bars cd_law_bars ct_law_bars sl_law_bars)
    {f_law_right : Addr} {oc_law_right : Value} {od_law_right an_law_right : Option Addr} {kV_law_right dc_law_right pm_law_right cd_law_right ct_law_right : Value} {sl_law_right : Array (Option Value)} (F__law_right : Left K "_law_right" s__law_right f_law_right oc_law_right od_law_right an_law_right kV_law_right dc_law_right pm_law_right cd_law_right ct_law_right sl_law_right)
    {flaw : Addr} {oclaw : Value} {odlaw anlaw : Option Addr} {kVlaw dclaw pmlaw cdlaw ctlaw : Value} {sllaw : Array (Option Value)} (F_law : Left K "law" s_law flaw oclaw odlaw anlaw kVlaw dclaw pmlaw cdlaw ctlaw sllaw)
    (pT : (l.prog.main.scope.names.lookup ("super" : Str)).isSome = false)
    {t_SMALL_LETTERS : Tok} (y_SMALL_LETTERS : PySem.W.nsIn K mainGlobals "SMALL_LETTERS" = some (some (.str (Str.ofString "abcdefghijklmnopqrstuvwxyz") t_SMALL_LETTERS)))
    {t_LONGEST_NAME : Tok} (y_LONGEST_NAME : PySem.W.nsIn K mainGlobals "LONGEST_NAME" = some (some (.int (8) t_LONGEST_NAME)))
    {t_MOST_THINGS : Tok} (y_MOST_THINGS : PySem.W.nsIn K mainGlobals "MOST_THINGS" = some (some (.int (8) t_MOST_THINGS)))
    {t_MOST_LOADS : Tok} (y_MOST_LOADS : PySem.W.nsIn K mainGlobals "MOST_LOADS" = some (some (.int (300) t_MOST_LOADS)))
    (z_isinstance : PySem.W.nsIn K mainGlobals "isinstance" = some none)
    (z_int : PySem.W.nsIn K mainGlobals "int" = some none)
    (z_bool : PySem.W.nsIn K mainGlobals "bool" = some none)
    (z_len : PySem.W.nsIn K mainGlobals "len" = some none)
    (z_abs : PySem.W.nsIn K mainGlobals "abs" = some none)
    (z_max : PySem.W.nsIn K mainGlobals "max" = some none)
    (z_min : PySem.W.nsIn K mainGlobals "min" = some none)
    (z_divmod : PySem.W.nsIn K mainGlobals "divmod" = some none)
    (z_range : PySem.W.nsIn K mainGlobals "range" = some none)
    (z_repr : PySem.W.nsIn K mainGlobals "repr" = some none)
    (z_zip : PySem.W.nsIn K mainGlobals "zip" = some none)
    (z_ValueError : PySem.W.nsIn K mainGlobals "ValueError" = some none)
    (z_all : PySem.W.nsIn K mainGlobals "all" = some none)
    (z_any : PySem.W.nsIn K mainGlobals "any" = some none)
    (z_sum : PySem.W.nsIn K mainGlobals "sum" = some none)
    (z_sorted : PySem.W.nsIn K mainGlobals "sorted" = some none)
    (z_list : PySem.W.nsIn K mainGlobals "list" = some none)
    (z_tuple : PySem.W.nsIn K mainGlobals "tuple" = some none)
    (z_dict : PySem.W.nsIn K mainGlobals "dict" = some none)
    (z_enumerate : PySem.W.nsIn K mainGlobals "enumerate" = some none)
    (z_reversed : PySem.W.nsIn K mainGlobals "reversed" = some none)
    (z_str : PySem.W.nsIn K mainGlobals "str" = some none)
    (z_set : PySem.W.nsIn K mainGlobals "set" = some none)
    (z_super : PySem.W.nsIn K mainGlobals "super" = some none)
    : ∃ fd : FuncData, (∀ (s : Shared) (v : Value), BindsTo s fd ⟨[v], []⟩ [("_law_script", v)]) ∧
      ∀ base : Heap, K.In base → base.Ns mainGlobals mg → FnG l.prog w K mg base CX0 8 fa fd ["_law_script"] (spLaw K) := by
  have e := hfa.symm.trans (PySem.W.mg_of X G F_law.ns)
  cases e
  have N : ∀ {x : Str}, PySem.W.nsIn K mainGlobals x = some none → mg x = none := fun z => PySem.W.mg_none_of X G z
  have S_NoBoat : SupC K l.prog mg C_NoBoat ccENoBoat (nfI s_NoBoat___init__ "NoBoat.__init__" ccENoBoat cdENoBoat) (arI s_NoBoat___init__) := ⟨⟨⟨nmENoBoat, qnENoBoat, NENoBoat, bsENoBoat, bmENoBoat, snENoBoat, subENoBoat, abENoBoat, colENoBoat, ddENoBoat, k0ENoBoat, k1ENoBoat, k2ENoBoat, k3ENoBoat, k5ENoBoat, E_NoBoat.lk, E_NoBoat.rv⟩, E_NoBoat.sa, E_NoBoat.exC, E_NoBoat.tyC, E_NoBoat.kC⟩, rfl, ⟨_, _, _, E_NoBoat.cell⟩, ⟨_, _, _, _, _, _, E_NoBoat.code, E_NoBoat.v2, E_NoBoat.file⟩, E_NoBoat.hsub, E_NoBoat.sup, E_NoBoat.sB, E_NoBoat.op, rfl, E_NoBoat.cd, rfl, pT, N z_super⟩
  have D_barred : FunD K "barred" "barred" (defArgs s_barred) (defBody s_barred) (defScope s_barred) [.int 0, .non] [] _ _ := ⟨⟨ocbarred, odbarred, .ref Tbarred, kVbarred, dcbarred, pmbarred, anbarred, cdbarred, ctbarred, slbarred, rfl, F_barred.lk, F_barred.cd, .inr ⟨nofun, Tbarred, _, [.int 0 t0barred, .none], nTbarred, rfl, F_barred.lT, rfl, (.cons ⟨_, rfl⟩ (.cons rfl .nil))⟩, .inl rfl⟩, F_barred.kp⟩
  have D_fewest : FunD K "fewest" "fewest" (defArgs s_fewest) (defBody s_fewest) (defScope s_fewest) [.int 0, .non] [] _ _ := ⟨⟨ocfewest, odfewest, .ref Tfewest, kVfewest, dcfewest, pmfewest, anfewest, cdfewest, ctfewest, slfewest, rfl, F_fewest.lk, F_fewest.cd, .inr ⟨nofun, Tfewest, _, [.int 0 t0fewest, .none], nTfewest, rfl, F_fewest.lT, rfl, (.cons ⟨_, rfl⟩ (.cons rfl .nil))⟩, .inl rfl⟩, F_fewest.kp⟩
  have D_loads : FunD K "loads" "loads" (defArgs s_loads) (defBody s_loads) (defScope s_loads) [.int 0, .non] [] _ _ := ⟨⟨ocloads, odloads, .ref Tloads, kVloads, dcloads, pmloads, anloads, cdloads, ctloads, slloads, rfl, F_loads.lk, F_loads.cd, .inr ⟨nofun, Tloads, _, [.int 0 t0loads, .none], nTloads, rfl, F_loads.lT, rfl, (.cons ⟨_, rfl⟩ (.cons rfl .nil))⟩, .inl rfl⟩, F_loads.kp⟩
  let A : All K l.prog mg := {
    T := ⟨N z_isinstance, N z_int, N z_bool, N z_len, N z_abs, N z_max, N z_min, N z_divmod, N z_range, N z_repr, N z_zip, N z_ValueError, N z_all, N z_any, N z_sum, N z_sorted, N z_list, N z_tuple, N z_dict, N z_enumerate, N z_reversed, N z_str, N z_set⟩
    t_SMALL_LETTERS := t_SMALL_LETTERS
    g_SMALL_LETTERS := PySem.W.mg_of X G y_SMALL_LETTERS
    t_LONGEST_NAME := t_LONGEST_NAME
    g_LONGEST_NAME := PySem.W.mg_of X G y_LONGEST_NAME
    t_MOST_THINGS := t_MOST_THINGS
    g_MOST_THINGS := PySem.W.mg_of X G y_MOST_THINGS
    t_MOST_LOADS := t_MOST_LOADS
    g_MOST_LOADS := PySem.W.mg_of X G y_MOST_LOADS
    C_NoNumber := C_NoNumber
    g_NoNumber := PySem.W.mg_of X G D.n_NoNumber
    C_NoBoat := C_NoBoat
    g_NoBoat := PySem.W.mg_of X G D.n_NoBoat
    C_NoStores := C_NoStores
    g_NoStores := PySem.W.mg_of X G D.n_NoStores
    C_TooMany := C_TooMany
    g_TooMany := PySem.W.mg_of X G D.n_TooMany
    C_Small := C_Small
    g_Small := PySem.W.mg_of X G D.n_Small
    f_NoBoat := fENoBoat
    cc_NoBoat := ccENoBoat
    cd_NoBoat := cdENoBoat
    d_NoBoat := _
    N_NoBoat := ⟨S_NoBoat, ⟨_, _, _, _, _, _, _, _, _, rfl, E_NoBoat.fn⟩, E_NoBoat.hno, E_NoBoat.ini, E_NoBoat.tI, .all (fun us hl => match us, hl with | [_, _], _ => rfl), PySem.W.mg_of X G D.n_NoBoat⟩
    E_NoNumber := ⟨PySem.W.mg_of X G D.n_NoNumber, D.x_NoNumber, D.k_NoNumber, D.b_NoNumber, D.ty_NoNumber⟩
    E_Small := ⟨PySem.W.mg_of X G D.n_Small, D.x_Small, D.k_Small, D.b_Small, D.ty_Small⟩
    E_TooMany := ⟨PySem.W.mg_of X G D.n_TooMany, D.x_TooMany, D.k_TooMany, D.b_TooMany, D.ty_TooMany⟩
    E_NoStores := ⟨PySem.W.mg_of X G D.n_NoStores, D.x_NoStores, D.k_NoStores, D.b_NoStores, D.ty_NoStores⟩
    C_Boat := C_Boat
    Z_Boat := ⟨⟨D.pg_Boat, D.hd_Boat, D.po_Boat, D.sa_Boat⟩, PySem.W.mg_of X G D.n_Boat, D.kC_Boat⟩
    n_Boat_many_seats := D.f_Boat_many_seats
    n_Boat_most_weight := D.f_Boat_most_weight
    n_Boat_man_weight := D.f_Boat_man_weight
    f_Boat___init__ := fBoat___init__
    d_Boat___init__ := _
    h_Boat___init__ := ⟨F_Boat___init__.fn, F_Boat___init__.fn.binds fun _ _ _ _ _ _ us hl => match us, hl with | [_, _, _, _], _ => rfl, F_Boat___init__.me⟩
    M_Boat := ⟨D.mk_Boat, F_Boat___init__.at_, F_Boat___init__.isf, D.kC_Boat⟩
    f_Boat_seats := fBoat_seats
    d_Boat_seats := _
    h_Boat_seats := ⟨F_Boat_seats.fn, F_Boat_seats.fn.binds fun _ _ _ _ _ _ us hl => match us, hl with | [_], _ => rfl, F_Boat_seats.me⟩
    f_Boat_carries := fBoat_carries
    d_Boat_carries := _
    h_Boat_carries := ⟨F_Boat_carries.fn, F_Boat_carries.fn.binds fun _ _ _ _ _ _ us hl => match us, hl with | [_], _ => rfl, F_Boat_carries.me⟩
    f_Boat_man := fBoat_man
    d_Boat_man := _
    h_Boat_man := ⟨F_Boat_man.fn, F_Boat_man.fn.binds fun _ _ _ _ _ _ us hl => match us, hl with | [_], _ => rfl, F_Boat_man.me⟩
    f_is_name := fis_name
    d_is_name := _
    h_is_name := ⟨F_is_name.fn, F_is_name.fn.binds fun _ _ _ _ _ _ us hl => match us, hl with | [_], _ => rfl, PySem.W.mg_of X G F_is_name.ns⟩
    f_is_whole := fis_whole
    d_is_whole := _
    h_is_whole := ⟨F_is_whole.fn, F_is_whole.fn.binds fun _ _ _ _ _ _ us hl => match us, hl with | [_], _ => rfl, PySem.W.mg_of X G F_is_whole.ns⟩
    f_is_from := fis_from
    d_is_from := _
    h_is_from := ⟨F_is_from.fn, F_is_from.fn.binds fun _ _ _ _ _ _ us hl => match us, hl with | [_, _], _ => rfl, PySem.W.mg_of X G F_is_from.ns⟩
    f_parts_for := fparts_for
    d_parts_for := _
    h_parts_for := ⟨F_parts_for.fn, F_parts_for.fn.binds fun _ _ _ _ _ _ us hl => match us, hl with | [_, _], _ => rfl, PySem.W.mg_of X G F_parts_for.ns⟩
    f_taken := ftaken
    d_taken := _
    h_taken := ⟨F_taken.fn, F_taken.fn.binds fun _ _ _ _ _ _ us hl => match us, hl with | [_, _], _ => rfl, PySem.W.mg_of X G F_taken.ns⟩
    f_room_of := froom_of
    d_room_of := _
    h_room_of := ⟨F_room_of.fn, F_room_of.fn.binds fun _ _ _ _ _ _ us hl => match us, hl with | [_], _ => rfl, PySem.W.mg_of X G F_room_of.ns⟩
    f_weight_out := fweight_out
    d_weight_out := _
    h_weight_out := ⟨F_weight_out.fn, F_weight_out.fn.binds fun _ _ _ _ _ _ us hl => match us, hl with | [_, _, _], _ => rfl, PySem.W.mg_of X G F_weight_out.ns⟩
    f_check_wanted := fcheck_wanted
    d_check_wanted := _
    h_check_wanted := ⟨F_check_wanted.fn, F_check_wanted.fn.binds fun _ _ _ _ _ _ us hl => match us, hl with | [_, _, _], _ => rfl, PySem.W.mg_of X G F_check_wanted.ns⟩
    f_are_stores := fare_stores
    d_are_stores := _
    h_are_stores := ⟨F_are_stores.fn, F_are_stores.fn.binds fun _ _ _ _ _ _ us hl => match us, hl with | [_], _ => rfl, PySem.W.mg_of X G F_are_stores.ns⟩
    f__law_cell := f_law_cell
    d__law_cell := _
    h__law_cell := ⟨F__law_cell.fn, F__law_cell.fn.binds fun _ _ _ _ _ _ us hl => match us, hl with | [_, _], _ => rfl, PySem.W.mg_of X G F__law_cell.ns⟩
    f__law_pot := f_law_pot
    d__law_pot := _
    h__law_pot := ⟨F__law_pot.fn, F__law_pot.fn.binds fun _ _ _ _ _ _ us hl => match us, hl with | [_, _], _ => rfl, PySem.W.mg_of X G F__law_pot.ns⟩
    f__law_take := f_law_take
    d__law_take := _
    h__law_take := ⟨F__law_take.fn, F__law_take.fn.binds fun _ _ _ _ _ _ us hl => match us, hl with | [_, _], _ => rfl, PySem.W.mg_of X G F__law_take.ns⟩
    f__law_boat := f_law_boat
    d__law_boat := _
    h__law_boat := ⟨F__law_boat.fn, F__law_boat.fn.binds fun _ _ _ _ _ _ us hl => match us, hl with | [_], _ => rfl, PySem.W.mg_of X G F__law_boat.ns⟩
    f__law_going := f_law_going
    d__law_going := _
    h__law_going := ⟨F__law_going.fn, F__law_going.fn.binds fun _ _ _ _ _ _ us hl => match us, hl with | [_, _], _ => rfl, PySem.W.mg_of X G F__law_going.ns⟩
    f__law_summed := f_law_summed
    d__law_summed := _
    h__law_summed := ⟨F__law_summed.fn, F__law_summed.fn.binds fun _ _ _ _ _ _ us hl => match us, hl with | [_], _ => rfl, PySem.W.mg_of X G F__law_summed.ns⟩
    f__law_bars := f_law_bars
    d__law_bars := _
    h__law_bars := ⟨F__law_bars.fn, F__law_bars.fn.binds fun _ _ _ _ _ _ us hl => match us, hl with | [_, _, _, _], _ => rfl, PySem.W.mg_of X G F__law_bars.ns⟩
    f__law_right := f_law_right
    d__law_right := _
    h__law_right := ⟨F__law_right.fn, F__law_right.fn.binds fun _ _ _ _ _ _ us hl => match us, hl with | [_, _, _], _ => rfl, PySem.W.mg_of X G F__law_right.ns⟩
    f_barred := fbarred
    d_barred := _
    q_barred := D_barred
    gl_barred := PySem.W.mg_of X G F_barred.ns
    kp_barred := F_barred.kp
    f_fewest := ffewest
    d_fewest := _
    q_fewest := D_fewest
    gl_fewest := PySem.W.mg_of X G F_fewest.ns
    kp_fewest := F_fewest.kp
    f_loads := floads
    d_loads := _
    q_loads := D_loads
    gl_loads := PySem.W.mg_of X G F_loads.ns
    kp_loads := F_loads.kp }
  exact ⟨_, fun s v => .of_eq rfl, fun base _ _ => ok_law A F_law.fn⟩
end K36
open PySem PySem.W PyProof.Rows
set_option maxHeartbeats 0 in
theorem PySem.Challenge.cw_lightturns_k36_whole_no_fewer_goings_holds : PySem.Challenge.rw_lightturns_k36_whole_no_fewer_goings.Holds := by
  w_on; o_law; k_head; (case hw => w_witness2)
  k_fill
  refine LT.end_of (l := PySem.Challenge.rw_lightturns_k36_whole_no_fewer_goings) (n := 63) (k := 8) (x := "_law_script") (CX := fun _ => L2.CX0) (sp := fun w => K36.spLaw _) rfl (by decide) rfl ⟨rfl, by decide, by decide⟩ (fun w h Y => PySem.W.kIn_of Y) ?F (fun _ _ a ns hl hb _ hS => ⟨a, ns, rfl, hS, hl, fun _ => rfl⟩) (fun _ _ _ _ _ h => h)
  case F =>
    intro w mg fa h KX G hmg
    refine' K36.all_mk (l := PySem.Challenge.rw_lightturns_k36_whole_no_fewer_goings) KX G hmg ⟨?d_n_NoNumber, ?d_n_NoBoat, ?d_n_NoStores, ?d_n_TooMany, ?d_n_Small, ?d_n_Boat, ?d_x_NoNumber, ?d_k_NoNumber, ?d_b_NoNumber, ?d_ty_NoNumber, ?d_x_Small, ?d_k_Small, ?d_b_Small, ?d_ty_Small, ?d_x_TooMany, ?d_k_TooMany, ?d_b_TooMany, ?d_ty_TooMany, ?d_x_NoStores, ?d_k_NoStores, ?d_b_NoStores, ?d_ty_NoStores, ?d_pg_Boat, ?d_hd_Boat, ?d_po_Boat, ?d_sa_Boat, ?d_kC_Boat, ?d_mk_Boat, ?d_f_Boat_many_seats, ?d_f_Boat_most_weight, ?d_f_Boat_man_weight⟩ ⟨?e_NoBoat_lk, ?e_NoBoat_rv, ?e_NoBoat_sa, ?e_NoBoat_exC, ?e_NoBoat_tyC, ?e_NoBoat_kC, ?e_NoBoat_cell, ?e_NoBoat_code, ?e_NoBoat_v2, ?e_NoBoat_file, ?e_NoBoat_hsub, ?e_NoBoat_sup, ?e_NoBoat_sB, ?e_NoBoat_op, ?e_NoBoat_cd, ?e_NoBoat_fn, ?e_NoBoat_hno, ?e_NoBoat_ini, ?e_NoBoat_tI⟩ ⟨?m_Boat___init___at, ?m_Boat___init___lk, ?m_Boat___init___cd, ?m_Boat___init___kp, ?m_Boat___init___isf⟩ ⟨?m_Boat_seats_at, ?m_Boat_seats_lk, ?m_Boat_seats_cd, ?m_Boat_seats_kp, ?m_Boat_seats_isf⟩ ⟨?m_Boat_carries_at, ?m_Boat_carries_lk, ?m_Boat_carries_cd, ?m_Boat_carries_kp, ?m_Boat_carries_isf⟩ ⟨?m_Boat_man_at, ?m_Boat_man_lk, ?m_Boat_man_cd, ?m_Boat_man_kp, ?m_Boat_man_isf⟩ ⟨?g_barred_ns, ?g_barred_lk, ?g_barred_cd, ?g_barred_kp, ?g_barred_lT⟩ ⟨?g_fewest_ns, ?g_fewest_lk, ?g_fewest_cd, ?g_fewest_kp, ?g_fewest_lT⟩ ⟨?g_loads_ns, ?g_loads_lk, ?g_loads_cd, ?g_loads_kp, ?g_loads_lT⟩ ⟨?f_is_name_ns, ?f_is_name_lk, ?f_is_name_cd, ?f_is_name_kp⟩ ⟨?f_is_whole_ns, ?f_is_whole_lk, ?f_is_whole_cd, ?f_is_whole_kp⟩ ⟨?f_is_from_ns, ?f_is_from_lk, ?f_is_from_cd, ?f_is_from_kp⟩ ⟨?f_parts_for_ns, ?f_parts_for_lk, ?f_parts_for_cd, ?f_parts_for_kp⟩ ⟨?f_taken_ns, ?f_taken_lk, ?f_taken_cd, ?f_taken_kp⟩ ⟨?f_room_of_ns, ?f_room_of_lk, ?f_room_of_cd, ?f_room_of_kp⟩ ⟨?f_weight_out_ns, ?f_weight_out_lk, ?f_weight_out_cd, ?f_weight_out_kp⟩ ⟨?f_check_wanted_ns, ?f_check_wanted_lk, ?f_check_wanted_cd, ?f_check_wanted_kp⟩ ⟨?f_are_stores_ns, ?f_are_stores_lk, ?f_are_stores_cd, ?f_are_stores_kp⟩ ⟨?f__law_cell_ns, ?f__law_cell_lk, ?f__law_cell_cd, ?f__law_cell_kp⟩ ⟨?f__law_pot_ns, ?f__law_pot_lk, ?f__law_pot_cd, ?f__law_pot_kp⟩ ⟨?f__law_take_ns, ?f__law_take_lk, ?f__law_take_cd, ?f__law_take_kp⟩ ⟨?f__law_boat_ns, ?f__law_boat_lk, ?f__law_boat_cd, ?f__law_boat_kp⟩ ⟨?f__law_going_ns, ?f__law_going_lk, ?f__law_going_cd, ?f__law_going_kp⟩ ⟨?f__law_summed_ns, ?f__law_summed_lk, ?f__law_summed_cd, ?f__law_summed_kp⟩ ⟨?f__law_bars_ns, ?f__law_bars_lk, ?f__law_bars_cd, ?f__law_bars_kp⟩ ⟨?f__law_right_ns, ?f__law_right_lk, ?f__law_right_cd, ?f__law_right_kp⟩ ⟨?f_law_ns, ?f_law_lk, ?f_law_cd, ?f_law_kp⟩ ?p_T ?y_SMALL_LETTERS ?y_LONGEST_NAME ?y_MOST_THINGS ?y_MOST_LOADS ?z_isinstance ?z_int ?z_bool ?z_len ?z_abs ?z_max ?z_min ?z_divmod ?z_range ?z_repr ?z_zip ?z_ValueError ?z_all ?z_any ?z_sum ?z_sorted ?z_list ?z_tuple ?z_dict ?z_enumerate ?z_reversed ?z_str ?z_set ?z_super
    (case d_n_NoNumber => k_is)
    (case d_n_NoBoat => k_is)
    (case d_n_NoStores => k_is)
    (case d_n_TooMany => k_is)
    (case d_n_Small => k_is)
    (case d_n_Boat => k_is)
    (case m_Boat___init___at => k_is)
    (case m_Boat_seats_at => k_is)
    (case m_Boat_carries_at => k_is)
    (case m_Boat_man_at => k_is)
    (case g_barred_ns => k_is)
    (case g_fewest_ns => k_is)
    (case g_loads_ns => k_is)
    (case f_is_name_ns => k_is)
    (case f_is_whole_ns => k_is)
    (case f_is_from_ns => k_is)
    (case f_parts_for_ns => k_is)
    (case f_taken_ns => k_is)
    (case f_room_of_ns => k_is)
    (case f_weight_out_ns => k_is)
    (case f_check_wanted_ns => k_is)
    (case f_are_stores_ns => k_is)
    (case f__law_cell_ns => k_is)
    (case f__law_pot_ns => k_is)
    (case f__law_take_ns => k_is)
    (case f__law_boat_ns => k_is)
    (case f__law_going_ns => k_is)
    (case f__law_summed_ns => k_is)
    (case f__law_bars_ns => k_is)
    (case f__law_right_ns => k_is)
    (case f_law_ns => k_is)
    (case y_SMALL_LETTERS => k_is)
    (case y_LONGEST_NAME => k_is)
    (case y_MOST_THINGS => k_is)
    (case y_MOST_LOADS => k_is)
    (case e_NoBoat_lk => k_is)
    (case e_NoBoat_ini => k_is)
    (case e_NoBoat_fn => k_is)
    (case m_Boat___init___lk => k_is)
    (case m_Boat_seats_lk => k_is)
    (case m_Boat_carries_lk => k_is)
    (case m_Boat_man_lk => k_is)
    (case g_barred_lk => k_is)
    (case g_fewest_lk => k_is)
    (case g_loads_lk => k_is)
    (case f_is_name_lk => k_is)
    (case f_is_whole_lk => k_is)
    (case f_is_from_lk => k_is)
    (case f_parts_for_lk => k_is)
    (case f_taken_lk => k_is)
    (case f_room_of_lk => k_is)
    (case f_weight_out_lk => k_is)
    (case f_check_wanted_lk => k_is)
    (case f_are_stores_lk => k_is)
    (case f__law_cell_lk => k_is)
    (case f__law_pot_lk => k_is)
    (case f__law_take_lk => k_is)
    (case f__law_boat_lk => k_is)
    (case f__law_going_lk => k_is)
    (case f__law_summed_lk => k_is)
    (case f__law_bars_lk => k_is)
    (case f__law_right_lk => k_is)
    (case f_law_lk => k_is)
    (case e_NoBoat_cell => k_is)
    (case e_NoBoat_code => k_is)
    (case g_barred_lT => k_is)
    (case g_fewest_lT => k_is)
    (case g_loads_lT => k_is)
    (case e_NoBoat_v2 => rfl)
    (case e_NoBoat_rv => kernel_rfl)
    (case e_NoBoat_sa => k_is)
    (case e_NoBoat_exC => k_is)
    (case e_NoBoat_tyC => k_is)
    (case e_NoBoat_kC => k_is)
    (case e_NoBoat_file => decide +kernel)
    (case e_NoBoat_hsub => k_is)
    (case e_NoBoat_sup => ks_is)
    (case e_NoBoat_sB => k_is)
    (case e_NoBoat_op => k_is)
    (case e_NoBoat_cd => k_is)
    (case e_NoBoat_hno => k_is)
    (case e_NoBoat_tI => k_is)
    (case d_x_NoNumber => k_exc)
    (case d_k_NoNumber => k_is)
    (case d_b_NoNumber => k_is)
    (case d_ty_NoNumber => k_is)
    (case d_x_Small => k_exc)
    (case d_k_Small => k_is)
    (case d_b_Small => k_is)
    (case d_ty_Small => k_is)
    (case d_x_TooMany => k_exc)
    (case d_k_TooMany => k_is)
    (case d_b_TooMany => k_is)
    (case d_ty_TooMany => k_is)
    (case d_x_NoStores => k_exc)
    (case d_k_NoStores => k_is)
    (case d_b_NoStores => k_is)
    (case d_ty_NoStores => k_is)
    (case d_pg_Boat => k_is)
    (case d_hd_Boat => k_is)
    (case d_po_Boat => k_is)
    (case d_sa_Boat => k_is)
    (case d_kC_Boat => k_is)
    (case d_mk_Boat => k_is)
    (case d_f_Boat_many_seats => k_is)
    (case d_f_Boat_most_weight => k_is)
    (case d_f_Boat_man_weight => k_is)
    (case m_Boat___init___cd => k_is)
    (case m_Boat___init___kp => k_is)
    (case m_Boat___init___isf => k_is)
    (case m_Boat_seats_cd => k_is)
    (case m_Boat_seats_kp => k_is)
    (case m_Boat_seats_isf => k_is)
    (case m_Boat_carries_cd => k_is)
    (case m_Boat_carries_kp => k_is)
    (case m_Boat_carries_isf => k_is)
    (case m_Boat_man_cd => k_is)
    (case m_Boat_man_kp => k_is)
    (case m_Boat_man_isf => k_is)
    (case g_barred_cd => k_is)
    (case g_barred_kp => k_is)
    (case g_fewest_cd => k_is)
    (case g_fewest_kp => k_is)
    (case g_loads_cd => k_is)
    (case g_loads_kp => k_is)
    (case f_is_name_cd => k_is)
    (case f_is_name_kp => k_is)
    (case f_is_whole_cd => k_is)
    (case f_is_whole_kp => k_is)
    (case f_is_from_cd => k_is)
    (case f_is_from_kp => k_is)
    (case f_parts_for_cd => k_is)
    (case f_parts_for_kp => k_is)
    (case f_taken_cd => k_is)
    (case f_taken_kp => k_is)
    (case f_room_of_cd => k_is)
    (case f_room_of_kp => k_is)
    (case f_weight_out_cd => k_is)
    (case f_weight_out_kp => k_is)
    (case f_check_wanted_cd => k_is)
    (case f_check_wanted_kp => k_is)
    (case f_are_stores_cd => k_is)
    (case f_are_stores_kp => k_is)
    (case f__law_cell_cd => k_is)
    (case f__law_cell_kp => k_is)
    (case f__law_pot_cd => k_is)
    (case f__law_pot_kp => k_is)
    (case f__law_take_cd => k_is)
    (case f__law_take_kp => k_is)
    (case f__law_boat_cd => k_is)
    (case f__law_boat_kp => k_is)
    (case f__law_going_cd => k_is)
    (case f__law_going_kp => k_is)
    (case f__law_summed_cd => k_is)
    (case f__law_summed_kp => k_is)
    (case f__law_bars_cd => k_is)
    (case f__law_bars_kp => k_is)
    (case f__law_right_cd => k_is)
    (case f__law_right_kp => k_is)
    (case f_law_cd => k_is)
    (case f_law_kp => k_is)
    (case p_T => decide +kernel)
    (case z_isinstance => k_is)
    (case z_int => k_is)
    (case z_bool => k_is)
    (case z_len => k_is)
    (case z_abs => k_is)
    (case z_max => k_is)
    (case z_min => k_is)
    (case z_divmod => k_is)
    (case z_range => k_is)
    (case z_repr => k_is)
    (case z_zip => k_is)
    (case z_ValueError => k_is)
    (case z_all => k_is)
    (case z_any => k_is)
    (case z_sum => k_is)
    (case z_sorted => k_is)
    (case z_list => k_is)
    (case z_tuple => k_is)
    (case z_dict => k_is)
    (case z_enumerate => k_is)
    (case z_reversed => k_is)
    (case z_str => k_is)
    (case z_set => k_is)
    (case z_super => k_is)

