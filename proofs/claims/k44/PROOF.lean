import PyProof.Rows.All
import Wide.All
import OpenK.AllK
import Wide.FinOn
import HandS.ForMost
import HandS.Walk
import HandS.IsInst
import HandS.Style
import HandS.TupSets
import HandS.SetFor
import HandS.Strs
import HandS.Deep
import HandS.SortOrd
import HandS.SetBool
import HandS.TupLe
import PySem.Challenge.RW_settingsmerge_k44_matchings_told_from_ot
set_option Elab.async false
set_option linter.all false
set_option maxRecDepth 100000
/-! words of my own over the hand layer: repr of data, a text times a number, calls by keywords alone, defs that may ask for a repr -/
namespace My
open PySem PySem.Spec PyProof.Rows L2
section
variable {X : Cx}
/-- repr(x), x any data, where no other repr is under way -/
theorem call_repr (hg : X.A.guards = some []) (hu : X.A.units + 64 < cLine) : CallR X (.builtin "repr") (fun xs H Q => ∃ x d, xs = [x] ∧ Dp X.K H x d ∧ d.showable = true ∧ d.hasDict = false ∧ d.depth ≤ 8 ∧ d.shown.length ≤ sizeLine ∧ Q (.str d.shown) H) := by
  intro pins s σ H xs us Q I rr h
  obtain ⟨x, d, rfl, hd, hs, hn, hp, hz, q⟩ := h
  obtain ⟨u, rfl, ru⟩ := vals1 rr
  obtain ⟨as, rd⟩ := Dp.reads I d x u hd ru
  cases hd with
  | non =>
    cases (show u = Value.none from ru)
    exact PySem.P.repr_of_none ⟨.str _, H, I.tok _, ⟨_, rfl⟩, q⟩
  | bl b =>
    cases (show u = Value.bool b from ru)
    refine PySem.P.repr_of_bool ⟨.str _, H, I.tok _, ⟨_, rfl⟩, ?_⟩
    have e : (PyData.bool b).shown = (if b then ("True" : Str) else "False") := by cases b <;> rfl
    rw [e] at q
    cases b <;> exact q
  | int i =>
    obtain ⟨t, rfl⟩ := (show ∃ t, u = Value.int i t from ru)
    exact PySem.P.repr_of_int (of_decide_eq_true (by simpa [PyData.showable] using hs)) ⟨.str _, H, I.tok _, ⟨_, rfl⟩, q⟩
  | str z =>
    obtain ⟨t, rfl⟩ := (show ∃ t, u = Value.str z t from ru)
    exact PySem.P.repr_of_str ⟨.str _, H, I.tok _, ⟨_, rfl⟩, q⟩ hz
  | @lst a xs ds hS hA =>
    cases (show u = Value.ref a from ru)
    exact repr_of_reads' rd hs (PyData.noDict_hsm hn) hg (by omega) (fun _ _ e => e) (fun h' u tk hk => ⟨.str _, H, I.kept hk, ⟨_, rfl⟩, q⟩) hz
  | @tup a xs ds hS hA =>
    cases (show u = Value.ref a from ru)
    exact repr_of_reads' rd hs (PyData.noDict_hsm hn) hg (by omega) (fun _ _ e => e) (fun h' u tk hk => ⟨.str _, H, I.kept hk, ⟨_, rfl⟩, q⟩) hz
/-- a text n times, n from 2 to 1000 -/
theorem op_mulS : OpR X (binaryOp .Mult) (fun x y H Q => ∃ (z : Str) (n : Int), x = .str z ∧ y = .int n ∧ 2 ≤ n ∧ n ≤ 1000 ∧ 1 ≤ z.length ∧ z.length ≤ 1000 ∧ PySem.Builtin.Str.tooLong (z.length * n.toNat) = false ∧
    (⟨(List.replicate n.toNat z.cps).foldl (· ++ ·) #[]⟩ : Str).length ≤ sizeLine ∧ Q (.str ⟨(List.replicate n.toNat z.cps).foldl (· ++ ·) #[]⟩) H) := by
  intro pins s σ H x y v u Q I rx ry h
  obtain ⟨z, n, rfl, rfl, h1, h2, h3, h4, h5, h6, q⟩ := h
  obtain ⟨t, rfl⟩ := (show ∃ t, v = Value.str z t from rx)
  obtain ⟨t', rfl⟩ := (show ∃ t, u = Value.int n t from ry)
  have e0 : ¬ n < 1 := by omega
  have e1 : (n == 1 || z.length == 0) = false := by
    rw [Bool.or_eq_false_iff]
    exact ⟨beq_eq_false_iff_ne.mpr (by omega), beq_eq_false_iff_ne.mpr (by omega)⟩
  refine PySem.P.mul_str (by
      rw [decide_eq_false (show ¬ n < -(2 ^ 63 : Int) by omega), decide_eq_false (show ¬ n ≥ 2 ^ 63 by omega)]; rfl) (fun _ _ => ?_) (fun _ _ => h5) ?_
  · have : (1000 : Int) ≤ (2 ^ 63 - 1) / n := by
      rw [Int.le_ediv_iff_mul_le (by omega)]
      omega
    omega
  · rw [if_neg e0, if_neg (by rw [e1]; exact Bool.false_ne_true)]
    exact ⟨h6, ⟨.str _, H, I.tok _, ⟨_, rfl⟩, q⟩⟩
end

/-! ### a list against the empty list -/
section
variable {X : Cx}
theorem isL {pins : List (Addr × Obj)} {σ : L2.St} {H : Hp} {s : Shared} {a : Addr} {xs : List V} (I : Inv X pins σ H s) (h : SqL X.K H a xs) : ∃ its : Array Value, its.size = xs.length ∧ s.heap.IsList a its := by
  obtain ⟨its, r, ⟨o, n, h1, h2, _, h4⟩, _⟩ := I.list h
  exact ⟨its.toArray, r.length.symm, o, h1, h2, n, h4⟩
theorem op_eqNil (hu : X.A.units < cLine) : OpR X (compareOp .Eq) (fun x y H Q => ∃ (a b : Addr) (xs : List V), x = .ref a ∧ y = .ref b ∧ SqL X.K H a xs ∧ SqL X.K H b [] ∧ Q (.bl xs.isEmpty) H) := by
  intro pins s σ H x y v u Q I rx ry h
  obtain ⟨a, b, xs, rfl, rfl, h1, h2, q⟩ := h
  cases (show v = Value.ref a from rx)
  cases (show u = Value.ref b from ry)
  obtain ⟨i1, z1, l1⟩ := isL I h1
  obtain ⟨i2, z2, l2⟩ := isL I h2
  cases xs with
  | nil =>
    have zz : i1.size = i2.size := by rw [z1, z2]
    refine PySem.SeqAt.eq_listAt (e := fun _ => true) l1 l2 zz hu (fun j h3 _ => ?_) ?_
    · rw [z1] at h3
      cases h3
    · rw [z1]
      exact ⟨.bl true, H, I, rfl, q⟩
  | cons y ys =>
    refine PySem.SeqAt.eq_list_lengthsAt l1 l2 ?_ hu ⟨.bl false, H, I, rfl, q⟩
    rw [z1, z2]
    rfl
end

/-! ### a call by keywords alone -/
/-- all parameters are given by name -/
def KB0 (K : PySem.W.Frag) (fd : FuncData) (ps : List Str) : Prop := ∀ (s : Shared) (ws : List Value), K.In s.heap → ws.length = ps.length → BindsTo s fd ⟨[], ps.zip ws⟩ (ps.zip ws)
def tCallK0 (sp : Sp) (tk : TA) : TE := fun σ H Q => tk σ H fun zs H1 => sp zs H1 Q E0
section
variable {X : Cx} {k : Nat} {f : Addr} {fd : FuncData} {ps : List Str} {sp : Sp} {x : Str} {p pos : Pos} {kws : List Keyword} {tk : TA}
theorem pe_callK0 (F : FnOk X.prog X.w X.K X.mg X.base CX0 k f fd ps sp) (hr : Room k X.A) (hg : Gl X x) (hm : X.mg x = some (.ref f)) (hk : PySem.W.keepIn X.K (.ref f) = true) (hb : KB0 X.K fd ps) (hkw : PK X kws tk)
    (hall : (backToKw pos (keywordEach kws X.env)).all (·.1.isSome) = true := by rfl) (hks : (backToKw pos (keywordEach kws X.env)).filterMap (·.1) = ps := by rfl) (hdb : (x == ("__debug__" : Str)) = false := by decide)
    (hpl : ((backTo pos (starEach [] X.env)).any (·.1) || (backToKw pos (keywordEach kws X.env)).any (·.1.isNone)) = false := by rfl) :
    PE X (.Call (.Name x p) [] kws pos) (tCallK0 sp tk) := by
  constructor
  intro pins s σ H Q I h
  apply wpAny_Call_Name_kw
  apply ld_glob I hg hm _ hdb
  apply PySem.W.callWith_KW0 (h₀ := X.base) I.ok.mod.kin hk hall _ hpl
  apply thn (hkw.run pos pins s σ H _ I h)
  rintro ws s2 ⟨zs, H2, I2, rz, q2⟩
  refine ⟨I2.kIn, ?_⟩
  have hl : ws.length = ps.length := rz.length.symm.trans (F.len _ _ _ _ q2)
  have go := F.run X.A X.stack s2 H2 ⟨[], ps.zip ws⟩ ws zs Q E0 hr I2.env0 (hb s2 ws I2.kIn hl) rz q2
  rw [hks]
  refine wpAny_call (codeAny_mono go fun r s' hq => ?_)
  match r, hq with
  | .error _, hq => exact False.elim hq
  | .ok (.ret _), hq => exact I2.after hq
  | .ok .next, hq => exact False.elim hq
  | .ok .brk, hq => exact False.elim hq
  | .ok .cont, hq => exact False.elim hq
end

/-! ### defs that may ask for a repr: no repr is under way -/
structure FnG (P : Program) (w : World) (K : PySem.W.Frag) (mg : Str → Option Value) (base : Heap) (k : Nat) (f : Addr) (fd : FuncData) (ps : List Str) (sp : Sp) : Prop where
  len : ∀ vs H Q E, sp vs H Q E → vs.length = ps.length
  run : ∀ (A : Around) (outer : List Env) (s : Shared) (H : Hp) (args : Args) (us : List Value) (vs : List V) (Q : VK) (E : XK), Room k A → A.guards = some [] → Env0 P w K mg base A outer s H →
    BindsTo s fd args (ps.zip us) → Vals vs us → sp vs H Q E → codeAny (model P w) A (.call (.ref f) args) (CR CX0 outer P w H s Q E) s
section
variable {P : Program} {w : World} {K : PySem.W.Frag} {mg : Str → Option Value} {base : Heap}
theorem Fun.okG {x qual : Str} {st : Stmt} {f : Addr} {fd : FuncData} {N ps : List Str} {k : Nat} {sp : Sp} (F : Fun K x qual st f fd) (S : FnScope N ps (defScope st)) (len : ∀ vs H Q E, sp vs H Q E → vs.length = ps.length)
    (hbody : ∀ (cdv : Value) (A : Around) (outer : List Env) (s : Shared) (H : Hp) (vs : List V) (Q : VK) (E : XK), Room k (A.deeper (envOfC qual (defScope st) s.heap.objs.size f cdv)) → A.guards = some [] → sp vs H Q E →
      ∃ t, PSs (cxOf CX0 P w K mg base N qual (defScope st) f cdv A outer s H E).nox (defBody st) t ∧ t { nx := fun _ H' => Q .non H', rt := Q } (start N vs) H) : FnG P w K mg base (k + 1) f fd ps sp := by
  obtain ⟨c0, d0, v0, e0, p0, n0, cv, t0, l0, rfl, hl0, hc0⟩ := F.ex
  constructor
  · exact len
  intro A outer s H args us vs Q E hr hgd en hb rv hsp
  have hlen := len _ _ _ _ hsp
  have hkept : ∀ b o, base.get? b = some o → s.heap.get? b = some o := fun b o e => (en.bs b o e).1
  have hK : K.In s.heap := en.mod.kin.keeps hkept
  have hlim : s.heap.NoLimit := en.mod.nolimit.keeps hkept
  have hpar : ∀ y ∈ ps.zip us, (defScope st).names.lookup y.1 = some .local ∨ ((defScope st).names.lookup y.1 = some .cell ∧ ((cellsFrom (s.heap.objs.size + 1) (defScope st).names []).lookup y.1).isSome = true) := by
    rintro ⟨n, v⟩ hy
    rcases S.par n (List.of_mem_zip hy).1 with q | q
    · exact Or.inl q
    · exact Or.inr ⟨q, PySem.W.cellsFrom_some _ _ _ (Or.inl q)⟩
  apply codeAny_call_function hr.depth (hK _ _ hl0) rfl S.co S.gen rfl (PySem.W.codeRec_of hK hc0)
  apply hb
  apply wpAny_newFunctionEnv_cells S.kind hpar
  rintro env he s1 inC
  subst he
  refine ⟨hlim.keeps inC.toInCall.keep, codeAny_func ?_⟩
  obtain ⟨t, ht, hq⟩ := hbody cv A outer s H vs Q E (hr.deeper _) hgd hsp
  have I := inv_start (CX := CX0) (E := E) S hr.hd en hlen rv inC
  refine wpAny_mono (ht.nox.run [] s1 (start N vs) H _ I hq) ?_ (fun _ _ z => z)
  intro fl s' hs
  match fl, hs with
  | .ret u, ⟨v, σ', H', J, r2, q⟩ => exact ⟨v, H', J.os, J.bare, J.base, J.hok, r2, q⟩
  | .next, ⟨σ', H', J, q⟩ => exact ⟨V.non, H', J.os, J.bare, J.base, J.hok, rfl, q⟩
  | .brk, ⟨_, _, _, q⟩ => exact False.elim q
  | .cont, ⟨_, _, _, q⟩ => exact False.elim q
end
section
variable {X : Cx} {k : Nat} {f : Addr} {fd : FuncData} {ps : List Str} {sp : Sp} {x : Str} {p pos : Pos} {e : Expr} {es : List Expr} {t : TA}
/-- f(e, ..) of such a def -/
theorem pe_callG (F : FnG X.prog X.w X.K X.mg X.base k f fd ps sp) (hgd : X.A.guards = some []) (hr : Room k X.A) (hg : Gl X x) (hm : X.mg x = some (.ref f)) (hk : PySem.W.keepIn X.K (.ref f) = true) (hb : Binds X.K fd ps []) (ha : PA X (e :: es) t)
    (hdb : (x == ("__debug__" : Str)) = false := by decide) (he : starEach (e :: es) X.env = (false, eval e X.env) :: starEach es X.env := by rfl) (hpl : (backTo pos (starEach es X.env)).any (·.1) = false := by rfl) :
    PE X (.Call (.Name x p) (e :: es) [] pos) (tCall sp [] E0 t) := by
  constructor
  intro pins s σ H Q I h
  apply wpAny_Call_Name_kw
  apply ld_glob I hg hm _ hdb
  refine PySem.W.callWith_K (h₀ := X.base) I.ok.mod.kin hk ?_ he hpl
  apply thn (ha.run pos pins s σ H _ I h)
  rintro us s1 ⟨vs, H1, I1, r, q⟩
  refine ⟨I1.kIn, ?_⟩
  have r2 : Vals (vs ++ []) (us ++ []) := r.append .nil
  have hl : (us ++ []).length = ps.length := by rw [← r2.length]; exact F.len _ _ _ _ q
  have go := F.run X.A X.stack s1 H1 ⟨us, []⟩ (us ++ []) (vs ++ []) Q E0 hr hgd I1.env0 (hb s1 us I1.kIn hl) r2 q
  refine wpAny_call (codeAny_mono go fun r s' hq => ?_)
  match r, hq with
  | .error _, hq => exact False.elim hq
  | .ok (.ret _), hq => exact I1.after hq
  | .ok .next, hq => exact False.elim hq
  | .ok .brk, hq => exact False.elim hq
  | .ok .cont, hq => exact False.elim hq
end

/-! ### a method called by keywords alone -/
def KM0 (K : PySem.W.Frag) (fd : FuncData) (ps : List Str) : Prop := ∀ (s : Shared) (u : Value) (ws : List Value), K.In s.heap → ws.length + 1 = ps.length → BindsTo s fd ⟨[u], (ps.drop 1).zip ws⟩ (ps.zip (u :: ws))
def tMethK0 (C : Addr) (m : Str) (sp : Sp) (ta : TE) (tk : TA) : TE := fun σ H Q => ta σ H fun x H1 => ∃ a dx fs, x = .ref a ∧ H1 a = some (.ins C dx fs) ∧ fs.lookup m = none ∧ tk σ H1 fun zs H2 => sp (x :: zs) H2 Q E0
section
variable {X : Cx} {k : Nat} {f C : Addr} {fd : FuncData} {ps : List Str} {sp : Sp} {m : Str} {apos pos : Pos} {o : Expr} {kws : List Keyword} {ta : TE} {tk : TA}
theorem pe_methK0 {pl : Sem Bool} (he : PE X o ta) (c : Cls X.K C) (hm : Meth X.K C m f) (F : FnOk X.prog X.w X.K X.mg X.base CX0 k f fd ps sp) (hr : Room k X.A) (hb : KM0 X.K fd ps) (hkw : PK X kws tk)
    (hall : (backToKw pos (keywordEach kws X.env)).all (·.1.isSome) = true := by rfl) (hks : (backToKw pos (keywordEach kws X.env)).filterMap (·.1) = ps.drop 1 := by rfl)
    (hpl : ((backTo pos (starEach [] X.env)).any (·.1) || (backToKw pos (keywordEach kws X.env)).any (·.1.isNone)) = false := by rfl)
    (ht : eval (.Call (.Attribute o m apos) [] kws pos) X.env = (do
      let ov ← eval o X.env
      standAt apos.atName
      let (f, first) ← holding [ov] (getMethod ov m pl)
      callWith pos f first (backTo pos (starEach [] X.env)) (backToKw pos (keywordEach kws X.env))) := by rfl) :
    PE X (.Call (.Attribute o m apos) [] kws pos) (tMethK0 C m sp ta tk) := by
  constructor
  intro pins s σ H Q I h
  apply PySem.W.methodCall_KW (pl := pl) _ ht
  apply thn (he.run pins s σ H _ I h)
  rintro u s1 ⟨x, H1, I1, rx, a, dx, fs, rfl, ea, l, q⟩
  have eu : u = Value.ref a := rx
  subst eu
  apply getmeth_ok I1 ea c hm l
  apply PySem.W.callWith_KW0 (h₀ := X.base) (first := [.ref a]) I1.ok.mod.kin hm.kp hall _ hpl
  apply thn (hkw.run pos pins s1 σ H1 _ I1 q)
  rintro ws s2 ⟨zs, H2, I2, rz, q2⟩
  refine ⟨I2.kIn, ?_⟩
  have hl : ws.length + 1 = ps.length := by
    rw [← rz.length]
    exact F.len _ _ _ _ q2
  have rz2 : Vals (V.ref a :: zs) (Value.ref a :: ws) := .cons rfl rz
  have go := F.run X.A X.stack s2 H2 ⟨[.ref a], (ps.drop 1).zip ws⟩ (.ref a :: ws) (.ref a :: zs) Q E0 hr I2.env0 (hb s2 (.ref a) ws I2.kIn hl) rz2 q2
  rw [hks]
  refine wpAny_call (codeAny_mono go fun r s' hq => ?_)
  match r, hq with
  | .error _, hq => exact False.elim hq
  | .ok (.ret _), hq => exact I2.after hq
  | .ok .next, hq => exact False.elim hq
  | .ok .brk, hq => exact False.elim hq
  | .ok .cont, hq => exact False.elim hq
end

/-! ### the end of a law whose def may ask for a repr -/
section
variable {P : Program} {w : World} {K : PySem.W.Frag} {mg mb : Str → Option Value} {k : Nat} {fa a : Addr} {fd : FuncData} {x : Str} {sp : Sp} {s₁ : Shared} {vs : List Value} {ns : List Int} {H : Hp}
/-- what is tracked is the script at most: the state at the law's call -/
theorem env_law (KX : K.In s₁.heap) (hns : s₁.heap.Ns mainGlobals mg) (hb : s₁.heap.Ns builtinsNs mb) (hbb : ∀ x : Str, x ≠ "__name__" → mb x = bootBuiltins x) (hlim : s₁.heap.NoLimit) (hg : s₁.gens = #[])
    (ha : s₁.heap.get? a = some { cls := .type "list", data := .seq vs.toArray }) (hA : ∀ b, H b ≠ none → b = a) (hK : H a ≠ none → K.lookup a = none) (hok : HOk P w H s₁.heap) :
    K.In (hidT s₁.heap H) ∧ (hidT s₁.heap H).Ns mainGlobals mg ∧ Env0 P w K mg (hidT s₁.heap H) callerA [] s₁ H := by
  have free : ∀ {b : Addr} {o : Obj}, s₁.heap.get? b = some o → (∀ es ep, o.data = .dict es ep → False) ∨ H b = none := by
    intro b o e
    by_cases hb : H b = none
    · exact Or.inr hb
    · left
      intro es ep hd
      have := hA b hb
      subst this
      rw [ha] at e
      cases e
      cases hd
  have nsOf : ∀ {b : Addr} {m : Str → Option Value}, s₁.heap.Ns b m → (hidT s₁.heap H).Ns b m := by
    rintro b m ⟨o, es, ep, e, hd, rest⟩
    rcases free e with z | z
    · exact (z es ep hd).elim
    · exact ⟨o, es, ep, hidT_get e z, hd, rest⟩
  have kIn : K.In (hidT s₁.heap H) := by
    intro b o e
    refine hidT_get (KX b o e) ?_
    by_cases hb : H b = none
    · exact hb
    · have := hA b hb
      subst this
      rw [hK hb] at e
      cases e
  have md : Mod K mg (hidT s₁.heap H) := by
    obtain ⟨mc, h1, h2⟩ := hlim
    exact ⟨kIn, nsOf hns, ⟨mb, nsOf hb, hbb⟩, ⟨mc, nsOf h1, h2⟩⟩
  refine ⟨kIn, nsOf hns, ⟨rfl, md, fun b o e => of_hidT e, Nat.le_of_eq (hidT_size _ _), trivial, ?_, hok, .of_eq hg⟩⟩
  intro b z
  cases (show b ∈ ([] : List Addr) from z)
/-- the law's own call -/
theorem law_callG (KX : K.In s₁.heap) (hns : s₁.heap.Ns mainGlobals mg) (hb : s₁.heap.Ns builtinsNs mb) (hbb : ∀ x : Str, x ≠ "__name__" → mb x = bootBuiltins x) (hlim : s₁.heap.NoLimit) (hg : s₁.gens = #[])
    (ha : s₁.heap.get? a = some { cls := .type "list", data := .seq vs.toArray }) (hi : IntsAre vs ns) (hl : ns.length ≤ sizeLine) (hr : Room k callerA)
    (F : ∀ base : Heap, K.In base → base.Ns mainGlobals mg → FnG P w K mg base k fa fd [x] sp) (hbind : ∀ (s : Shared) (u : Value), BindsTo s fd ⟨[u], []⟩ [(x, u)])
    (hsp : ∀ H : Hp, Only H → SqL K H a (ns.map V.int) → sp [.ref a] H (fun v _ => v = .bl true) fun _ _ _ => False) :
    codeAny (model P w) callerA (.call (.ref fa) ⟨[.ref a], []⟩) (fun r s' => r = .ok (.ret (.bool true)) ∧ OldK s₁.heap s'.heap ∧ s'.os = s₁.os ∧ AllBare s'.gens) s₁ := by
  have main : ∀ H : Hp, Only H → SqL K H a (ns.map V.int) → HOk P w H s₁.heap → (∀ b, H b ≠ none → b = a) → (H a ≠ none → K.lookup a = none) →
      codeAny (model P w) callerA (.call (.ref fa) ⟨[.ref a], []⟩) (fun r s' => r = .ok (.ret (.bool true)) ∧ OldK s₁.heap s'.heap ∧ s'.os = s₁.os ∧ AllBare s'.gens) s₁ := by
    intro H only seq hok hA hK
    obtain ⟨k1, k2, en⟩ := env_law KX hns hb hbb hlim hg ha hA hK hok
    have go := (F _ k1 k2).run callerA [] s₁ H ⟨[.ref a], []⟩ [.ref a] [.ref a] (fun v _ => v = .bl true) (fun _ _ _ => False) hr rfl en (hbind s₁ (.ref a)) (.cons rfl .nil) (hsp H only seq)
    refine codeAny_mono go fun r s' hq => ?_
    match r, hq with
    | .error _, hq => exact False.elim hq
    | .ok .next, hq => exact False.elim hq
    | .ok .brk, hq => exact False.elim hq
    | .ok .cont, hq => exact False.elim hq
    | .ok (.ret u), ⟨v, H', os, bare, un, hok', ru, ev⟩ =>
      have ev' : v = .bl true := ev
      subst ev'
      have eu : u = Value.bool true := ru
      subst eu
      refine ⟨rfl, OldK.of_keep ?_, os, bare⟩
      intro b o e
      rcases only b with z | ⟨ob, xs, z⟩
      · exact un.keep b o e z (by intro z2; cases (show b ∈ ([] : List Addr) from z2)) (by intro z2; cases z2)
      · have after := (hok' b _ (un.frzs b ob _ z)).1
        have ahead := (hok b _ z).1
        rw [e] at ahead
        cases ahead
        exact after
  have rv := vals_ints hi
  cases hk : K.lookup a with
  | some o =>
    have e := KX a o hk
    rw [ha] at e
    cases e
    refine main (fun _ => none) (fun _ => Or.inl rfl) (Or.inr ⟨_, vs.toArray, _, hk, rfl, rfl, rfl, ?_, ?_⟩) ?_ (fun b z => absurd rfl z) (fun z => absurd rfl z)
    · rw [List.size_toArray, hi.length]
      exact hl
    · simpa using rv
    · intro b u z
      cases (show (none : Option HO) = some u from z)
  | none =>
    let H0 : Hp := fun b => if b = a then some (.frz { cls := .type "list", data := .seq vs.toArray } (.lst (ns.map V.int))) else none
    have at0 : H0 a = some (.frz { cls := .type "list", data := .seq vs.toArray } (.lst (ns.map V.int))) := if_pos rfl
    have off : ∀ b, b ≠ a → H0 b = none := fun b h => if_neg h
    refine main H0 ?_ (Or.inl (Or.inr ⟨_, at0⟩)) ?_ ?_ (fun _ => hk)
    · intro b
      by_cases h : b = a
      · subst h
        exact Or.inr ⟨_, _, at0⟩
      · exact Or.inl (off b h)
    · intro b u z
      by_cases h : b = a
      · subst h
        rw [at0] at z
        cases z
        refine ⟨ha, ?_, vs, _, rv, ha⟩
        rw [List.length_map]
        exact hl
      · rw [off b h] at z
        cases z
    · intro b z
      by_cases h : b = a
      · exact h
      · exact absurd (off b h) z
end
/-- the goal that the head leaves, by the law's promise -/
theorem walk_ofG {l : PySem.W.OpenLaw} {n k : Nat} {q : Program} {loose : List Str} {XP : (Str → Option Value) → Heap → Prop} {YP : World → Heap → Prop} {d : DefRec} {K : Params → PySem.W.Frag} {sp : World → Sp} {x : Str}
    (hn : l.most = some n) (hn2 : n ≤ sizeLine) (hdf : d.params.defaults = []) (hr : Room k callerA) (hY : ∀ (w : World) (h : Heap), YP w h → (K w.params).In h)
    (F : ∀ (w : World) (mg : Str → Option Value) (fa : Addr) (h : Heap), (K w.params).In h → h.Ns mainGlobals mg → mg d.name = some (.ref fa) →
      ∃ fd : FuncData, (∀ (s : Shared) (u : Value), BindsTo s fd ⟨[u], []⟩ [(x, u)]) ∧ ∀ base : Heap, (K w.params).In base → base.Ns mainGlobals mg → FnG l.prog w (K w.params) mg base k fa fd [x] (sp w))
    (hsp : ∀ (w : World) (H : Hp) (a : Addr) (ns : List Int), ns.length ≤ n → Only H → SqL (K w.params) H a (ns.map V.int) → sp w [.ref a] H (fun v _ => v = .bl true) fun _ _ _ => False) :
    PySem.W.WalkO q loose XP YP l.row.toRowW d [] (fun f vs => PySem.call f vs) := by
  apply Att.attach_call hn hdf
  intro w s₀ s₁ mg mb fa o pm cd doc a vs ns G Y ho hd hcd hmg hobj hints hlen hgens
  obtain ⟨fd, hb, hF⟩ := F w mg fa _ (hY w _ Y) G.T.g hmg
  exact law_callG (hY w _ Y) G.T.g G.T.b G.T.builtins G.T.nolimit hgens hobj hints (Nat.le_trans hlen hn2) hr hF hb (fun H h1 h2 => hsp w H a ns hlen h1 h2)
end My
set_option Elab.async false
set_option linter.all false
set_option maxRecDepth 100000
/-! what does not hang on the text of a law: bags of numbers, plain texts, names, places, values, data that repr shows -/
namespace My
open PySem PySem.Spec PyProof.Rows L2
/-- the law's bag of numbers -/
def Bag (H : Hp) (b : Addr) : Prop := ∃ n m : Int, H b = some (.lst [.int n, .int m]) ∧ 0 ≤ n ∧ 0 ≤ m ∧ m < 2147483648
/-- only the bag may have changed -/
def Kept (b : Addr) (H H' : Hp) : Prop := ∀ x o, x ≠ b → H x = some o → H' x = some o
/-- two ways that go on alike -/
theorem ite_via {c A B C : Prop} [Decidable c] (ha : c → C → A) (hb : ¬ c → C → B) (h : C) : if c then A else B := by
  by_cases e : c
  · rw [if_pos e]; exact ha e h
  · rw [if_neg e]; exact hb e h
theorem same_new {H : Hp} {p : Addr} {o : HO} (h : H p = none) : Same H (upd H p o) := fun b x e => by
  rw [upd_ne (ne_of_none e h)]
  exact e
theorem Bag.same {H H' : Hp} {b : Addr} (h : Bag H b) (s : Same H H') : Bag H' b := by
  obtain ⟨n, m, e, r⟩ := h
  exact ⟨n, m, s _ _ e, r⟩
theorem cut_ints (ns : List Int) (lo hi : Option Int) : ∃ ms : List Int, cutV (ns.map V.int) lo hi = ms.map V.int ∧ ms.length ≤ ns.length := by
  refine ⟨(ns.drop (HT.sIx ns.length 0 lo)).take (HT.sIx ns.length ns.length hi - HT.sIx ns.length 0 lo), ?_, ?_⟩
  · unfold cutV
    rw [List.length_map, List.map_take, List.map_drop]
  · rw [List.length_take, List.length_drop]
    omega
/-! ### names, places, values -/
abbrev letters : Str := "abcdefghijklmnopqrstuvwxyz"
/-- a text of 1 to most of these signs -/
def madeOf (cs : Str) (most : Int) (z : Str) : Bool := decide (1 ≤ z.length) && (decide ((z.length : Int) ≤ most) && z.cps.toList.all fun c => decide (c ∈ cs.cps.toList))
def ofText (f : Str → Bool) : V → Bool
  | .str z => f z
  | _ => false
/-- what is asked about: a text of no great length, or no text at all -/
def Ask (K : PySem.W.Frag) (H : Hp) (v : V) : Prop := (∃ z, v = .str z ∧ z.length ≤ 1000) ∨ ((∀ f, ofText f v = false) ∧ ∃ t, TyX K H v (.type t) ∧ kitB t "str" = some false)
theorem Ask.text {K : PySem.W.Frag} {H : Hp} {z : Str} (h : z.length ≤ 1000) : Ask K H (.str z) := .inl ⟨z, rfl, h⟩
theorem len1000 {n : Nat} (h : n ≤ 1000) : n ≤ sizeLine := Nat.le_of_lt (small1000 h)
theorem take_all_map {α β : Type} (f : α → β) (l : List α) (i : Nat) (x : α) (h : l[i]? = some x) : (l.take (i + 1)).map f = (l.take i).map f ++ [f x] := by
  rw [List.take_add_one, h, List.map_append]
  rfl
def nameS : Str → Bool := madeOf letters 8
/-- the text up to the first dot and behind it -/
def dot : Str := "."
def placeS (z : Str) : Bool := nameS (Txt.partition z dot).1 && nameS (Txt.partition z dot).2.2
abbrev valueSigns : Str := letters ++ "0123456789" ++ "-"
def valueS (z : Str) : Bool := madeOf valueSigns 12 z && !Txt.startswith z "-"
theorem part_len (z : Str) : (Txt.partition z dot).1.length ≤ z.length ∧ (Txt.partition z dot).2.2.length ≤ z.length := ⟨(fact_partition z dot).1, (fact_partition z dot).2.2⟩
def oddL (cs : Str) (l : List Nat) : List Nat := l.filter fun c => !decide (c ∈ cs.cps.toList)
theorem oddL_len (cs : Str) (l : List Nat) : (oddL cs l).length ≤ l.length := List.length_filter_le _ _
theorem oddL_nil (cs : Str) (l : List Nat) : (oddL cs l).isEmpty = l.all fun c => decide (c ∈ cs.cps.toList) := by
  unfold oddL
  induction l with
  | nil => rfl
  | cons c r ih =>
    rw [List.filter_cons, List.all_cons]
    cases h : decide (c ∈ cs.cps.toList) with
    | false => rfl
    | true => rw [Bool.true_and, ← ih]; rfl
theorem oddL_take {cs : Str} {l : List Nat} {i c : Nat} (h : l[i]? = some c) : oddL cs (l.take (i + 1)) = oddL cs (l.take i) ++ (if (!decide (c ∈ cs.cps.toList)) = true then [c] else []) := by
  unfold oddL
  rw [List.take_add_one, h, List.filter_append]
  congr 1
  show List.filter _ [c] = _
  rw [List.filter_cons, List.filter_nil]
/-! ### a place by its first dot, and by all its dots -/
theorem name_free {a : Str} (h : nameS a = true) : 46 ∉ TL.tl a := by
  unfold nameS madeOf at h
  rw [Bool.and_eq_true, Bool.and_eq_true] at h
  intro hm
  have h2 := List.all_eq_true.mp h.2.2 46 hm
  exact absurd (of_decide_eq_true h2) (by decide)
theorem name_empty : nameS Str.empty = false := by decide
theorem tl_dot : TL.tl dot = 46 :: [] := by decide
/-- by all its dots -/
def placeL : List Str → Bool
  | [a, b] => nameS a && nameS b
  | _ => false
theorem place_of (z : Str) : placeS z = placeL (Txt.split z dot) := by
  have hd : dot = (⟨#[46]⟩ : Str) := by decide
  have two : ∀ p q : Str, Str.join dot [p, q] = p ++ dot ++ q := fun p q => rfl
  by_cases hp : placeS z = true
  · have h1 := hp
    unfold placeS at h1
    rw [Bool.and_eq_true] at h1
    rcases partition_whole z dot with ⟨e, _⟩ | ⟨i, e, _⟩
    · rw [e] at h1
      exact absurd h1.2 (by rw [name_empty]; exact Bool.false_ne_true)
    · have sum := PySem.StrLaws.partition_sum z dot
      have mid : (Txt.partition z dot).2.1 = dot := by rw [e]
      rw [mid] at sum
      have back := TL.split_join (y := dot) tl_dot (by decide +kernel) (parts := [(Txt.partition z dot).1, (Txt.partition z dot).2.2]) (by simp) (fun p hm => by
        rcases List.mem_cons.mp hm with rfl | hm
        · exact name_free h1.1
        · cases List.mem_singleton.mp hm
          exact name_free h1.2)
      rw [TL.join_eq, two, sum] at back
      rw [back, hp]
      show true = (nameS _ && nameS _)
      rw [h1.1, h1.2]
      rfl
  · have hf : placeS z = false := eq_false_of_ne_true hp
    rw [hf]
    cases hs : Txt.split z dot with
    | nil => rfl
    | cons p r =>
      cases r with
      | nil => rfl
      | cons q r2 =>
        cases r2 with
        | cons _ _ => rfl
        | nil =>
          have sum := PySem.StrLaws.join_split z dot
          rw [hs, two] at sum
          have fr := PySem.StrLaws.split_free z 46
          rw [← hd, hs] at fr
          have e := TL.partition_app (y := dot) tl_dot (a := p) (b := q) (fr p (List.mem_cons_self ..))
          rw [sum] at e
          unfold placeS at hf
          rw [e] at hf
          exact hf.symm
theorem split_short (z : Str) : ∀ a ∈ Txt.split z dot, a.length ≤ z.length := fun a h => part_short h
/-! ### values: the same signs in another order -/
abbrev lawSigns : Str := "0123456789-abcdefghijklmnopqrstuvwxyz"
theorem signs_iff (c : Nat) : c ∈ lawSigns.cps.toList ↔ c ∈ valueSigns.cps.toList := by
  have h1 : ∀ x ∈ lawSigns.cps.toList, x ∈ valueSigns.cps.toList := by decide
  have h2 : ∀ x ∈ valueSigns.cps.toList, x ∈ lawSigns.cps.toList := by decide
  exact ⟨h1 c, h2 c⟩
theorem value_of (z : Str) : valueS z = ((oddL lawSigns z.cps.toList).isEmpty && ((decide ((1 : Int) ≤ (z.length : Int)) && decide ((z.length : Int) ≤ 12)) && !Txt.startswith z "-")) := by
  rw [oddL_nil]
  unfold valueS madeOf
  have e : (z.cps.toList.all fun c => decide (c ∈ lawSigns.cps.toList)) = z.cps.toList.all fun c => decide (c ∈ valueSigns.cps.toList) := by
    congr 1
    funext c
    exact decide_eq_decide.mpr (signs_iff c)
  rw [e, show decide ((1 : Int) ≤ (z.length : Int)) = decide (1 ≤ z.length) from decide_eq_decide.mpr (by omega)]
  cases decide (1 ≤ z.length) <;> cases decide ((z.length : Int) ≤ 12) <;> cases (z.cps.toList.all fun c => decide (c ∈ valueSigns.cps.toList)) <;> cases Txt.startswith z "-" <;> rfl
def dueOf (v : V) : List V := [.bl (ofText nameS v), .bl (ofText placeS v), .bl (ofText valueS v)]
/-! ### texts of at most n plain signs -/
structure Plain (n : Nat) (z : Str) : Prop where
  len : z.length ≤ n
  small : ∀ c ∈ TL.tl z, c < 128
theorem Plain.mono {n m : Nat} {z : Str} (h : Plain n z) (l : n ≤ m) : Plain m z := ⟨Nat.le_trans h.len l, h.small⟩
theorem len_tl (z : Str) : z.length = (TL.tl z).length := rfl
theorem Plain.app {n m : Nat} {a b : Str} (h : Plain n a) (g : Plain m b) : Plain (n + m) (a ++ b) := by
  have h1 := h.len
  have h2 := g.len
  refine ⟨?_, ?_⟩
  · rw [len_tl] at h1 h2 ⊢
    rw [TL.tl_append, List.length_append]
    omega
  · intro c hc
    rw [TL.tl_append] at hc
    rcases List.mem_append.mp hc with x | x
    · exact h.small c x
    · exact g.small c x
theorem Plain.cut {n : Nat} {z : Str} (h : Plain n z) (lo hi : Option Int) : Plain n (cutS z lo hi) := by
  have h1 := h.len
  constructor
  · rw [len_tl] at h1 ⊢
    show ((List.take _ (List.drop _ z.cps.toList)).toArray.toList).length ≤ n
    rw [List.length_take, List.length_drop]
    have : z.cps.toList.length = (TL.tl z).length := rfl
    omega
  · intro c hc
    have hc : c ∈ List.take (HT.sIx z.length z.length hi - HT.sIx z.length 0 lo) (List.drop (HT.sIx z.length 0 lo) z.cps.toList) := hc
    exact h.small c (List.mem_of_mem_drop (List.mem_of_mem_take hc))
theorem plain_joinL : ∀ {l : List Str}, (∀ y ∈ l, Plain 1 y) → (TL.joinL [] (l.map TL.tl)).length ≤ l.length ∧ ∀ c ∈ TL.joinL [] (l.map TL.tl), c < 128
  | [], _ => ⟨Nat.le_refl _, fun _ h => by cases h⟩
  | [y], h => ⟨(h y (by simp)).len, (h y (by simp)).small⟩
  | y :: y2 :: r, h => by
    have ih := plain_joinL (l := y2 :: r) fun z hz => h z (List.mem_cons_of_mem _ hz)
    have h1 := (h y (by simp)).len
    have h2 := (h y (by simp)).small
    show (TL.tl y ++ ([] ++ TL.joinL [] ((y2 :: r).map TL.tl))).length ≤ _ ∧ ∀ c ∈ TL.tl y ++ ([] ++ TL.joinL [] ((y2 :: r).map TL.tl)), c < 128
    rw [List.nil_append]
    constructor
    · rw [List.length_append, List.length_cons]
      have := ih.1
      rw [len_tl] at h1
      omega
    · intro c hc
      rcases List.mem_append.mp hc with x | x
      · exact h2 c x
      · exact ih.2 c x
theorem plain_join {l : List Str} (h : ∀ y ∈ l, Plain 1 y) : Plain l.length (Txt.join "" l) := by
  have e : TL.tl (Txt.join "" l) = TL.joinL [] (l.map TL.tl) := by rw [TL.join_eq, TL.tl_join]; rfl
  have q := plain_joinL h
  rw [← e] at q
  exact ⟨q.1, q.2⟩
theorem mem_joinL {S : List Nat} {c : Nat} {p : List Nat} : ∀ {ps : List (List Nat)}, p ∈ ps → c ∈ p → c ∈ TL.joinL S ps
  | [q], h, hc => by
    cases List.mem_singleton.mp h
    exact hc
  | q :: q2 :: r, h, hc => by
    show c ∈ q ++ (S ++ TL.joinL S (q2 :: r))
    rcases List.mem_cons.mp h with rfl | h
    · exact List.mem_append_left _ hc
    · exact List.mem_append_right _ (List.mem_append_right _ (mem_joinL h hc))
theorem Plain.part {n : Nat} {z a : Str} (h : Plain n z) (ha : a ∈ Txt.split z dot) : Plain n a := by
  refine ⟨Nat.le_trans (split_short z a ha) h.len, fun c hc => h.small c ?_⟩
  have e := PySem.StrLaws.join_split z dot
  rw [← e, TL.tl_join]
  exact mem_joinL (List.mem_map_of_mem ha) hc
theorem sum_len {l : List Str} (h : ∀ y ∈ l, Plain 1 y) : (l.map (·.length)).sum ≤ l.length := by
  induction l with
  | nil => exact Nat.le_refl _
  | cons y r ih =>
    have h1 := (h y (by simp)).len
    have h2 := ih fun z hz => h z (List.mem_cons_of_mem _ hz)
    rw [List.map_cons, List.sum_cons, List.length_cons]
    omega
/-! ### heaps of which the bag may have changed -/
theorem Kept.refl (b : Addr) (H : Hp) : Kept b H H := fun _ _ _ h => h
theorem Kept.trans {b : Addr} {H H1 H2 : Hp} (a : Kept b H H1) (c : Kept b H1 H2) : Kept b H H2 := fun x o h e => c x o h (a x o h e)
theorem Kept.same {b : Addr} {H H' : Hp} (h : Same H H') : Kept b H H' := fun x o _ e => h x o e
theorem Kept.new {b : Addr} {H : Hp} {p : Addr} {o : HO} (h : H p = none) : Kept b H (upd H p o) := Kept.same (same_new h)
theorem Kept.at {b : Addr} {H : Hp} {o : HO} : Kept b H (upd H b o) := fun x o h e => by
  rw [upd_ne h]
  exact e
theorem Bag.at {H : Hp} {b : Addr} {n m : Int} (n0 : 0 ≤ n) (m0 : 0 ≤ m) (m1 : m < 2147483648) : Bag (upd H b (.lst [.int n, .int m])) b := ⟨n, m, upd_same, n0, m0, m1⟩
theorem Bag.ne {H : Hp} {b p : Addr} (h : Bag H b) (hp : H p = none) : p ≠ b := by
  obtain ⟨n, m, e, _⟩ := h
  exact (ne_of_none e hp).symm
theorem Bag.new {H : Hp} {b p : Addr} {o : HO} (h : Bag H b) (hp : H p = none) : Bag (upd H p o) b := h.same (same_new hp)
theorem Kept.free {b p : Addr} {H H' : Hp} (k : Kept b H H') (hb : Bag H' b) (h : H' p = none) : H p = none := by
  have ne := hb.ne h
  cases e : H p with
  | none => rfl
  | some o =>
    rw [k p o ne e] at h
    cases h
/-- a comprehension of drawn texts of one sign -/
theorem lc_draw {n i : Nat} {te : TE} {vs : List Nat} {σ : L2.St} {H1 : Hp} {D b : Addr} {Qd : Hp → Prop} (hb : Bag H1 b) (nD : H1 D = none) (hn : n ≤ 1000) (hσ : ∀ x, wipe ((wipe σ vs).set i (some x)) vs = wipe σ vs)
    (hte : ∀ (x : V) (H3 : Hp) (Q' : V → Hp → Prop), Bag H3 b → (∀ y H4, Plain 1 y → Kept b H3 H4 → Bag H4 b → Q' (.str y) H4) → te ((wipe σ vs).set i (some x)) H3 Q')
    (hd : ∀ (ys : List Str) (H3 : Hp), ys.length = n → (∀ y ∈ ys, Plain 1 y) → Kept b H1 H3 → Bag H3 b → H3 D = some (.lst (ys.map V.str)) → Qd H3) :
    ∃ W : Nat → Nat → Hp → Prop, (∃ m, W 0 m (upd H1 D (.lst []))) ∧ ∀ j m H, W j m H →
      ((Itr 0 n).stop j H ∧ Qd H) ∨ ((Itr 0 n).go j H ∧ ∃ Nx : Hp → Prop, (∀ H', Nx H' → ∃ m', m' < m ∧ W (j + 1) m' H') ∧ ∀ x H', (Itr 0 n).yld j H x H' → gName i x (wipe σ vs) H' fun σ2 H2 => wipe σ2 vs = wipe σ vs ∧ tYes σ2 H2 fun c H3 =>
        if c = true then te σ2 H3 fun y H4 => ∃ acc, H4 D = some (.lst acc) ∧ acc.length < sizeLine ∧ Nx (upd H4 D (.lst (acc ++ [y]))) else Nx H3) := by
  refine lc_it walk_range (fun j H3 => ∃ ys : List Str, ys.length = j ∧ (∀ y ∈ ys, Plain 1 y) ∧ Kept b H1 H3 ∧ Bag H3 b ∧ H3 D = some (.lst (ys.map V.str))) ?_ (fun _ _ _ _ => trivial) ?_ ?_
  · exact ⟨[], rfl, (fun _ h => by cases h), Kept.new nD, hb.new nD, upd_same⟩
  · rintro j x H3 H4 hj ⟨ys, l, hp, k, hb3, d3⟩ ⟨rfl, rfl⟩
    refine ⟨hσ _, ?_⟩
    simp only [tYes, if_true]
    refine hte _ _ _ hb3 fun y H5 hy k5 b5 => ?_
    have nDb : D ≠ b := hb.ne nD
    have d5 := k5 D _ nDb d3
    refine ⟨_, d5, ?_, ys ++ [y], ?_, ?_, ?_, ?_, ?_⟩
    · rw [List.length_map]
      exact small1000 (by omega)
    · rw [List.length_append, l]
      rfl
    · intro z hz
      rcases List.mem_append.mp hz with x | x
      · exact hp z x
      · cases List.mem_singleton.mp x
        exact hy
    · intro x o hx e
      rw [upd_ne (ne_of_none e nD)]
      exact (k.trans k5) x o hx e
    · obtain ⟨n5, m5, e5, r5⟩ := b5
      exact ⟨n5, m5, by rw [upd_ne nDb.symm]; exact e5, r5⟩
    · rw [upd_same, List.map_append]
      rfl
  · rintro H3 ⟨ys, l, hp, k, hb3, d3⟩
    exact hd ys H3 l hp k hb3 d3
theorem plain_all {n : Nat} {cs : List Str} (h : (cs.all fun y => decide (y.length ≤ n) && y.cps.toList.all fun c => decide (c < 128)) = true) : ∀ y ∈ cs, Plain n y := fun y hy => by
  have h1 := List.all_eq_true.mp h y hy
  rw [Bool.and_eq_true] at h1
  exact ⟨of_decide_eq_true h1.1, fun c hc => of_decide_eq_true (List.all_eq_true.mp h1.2 c hc)⟩
/-! ### things that are asked about -/
/-- data that repr can show -/
structure Shows (d : PyData) : Prop where
  s : d.showable = true
  n : d.hasDict = false
  p : d.depth ≤ 8
  z : d.shown.length ≤ sizeLine
def Thing (K : PySem.W.Frag) (H : Hp) (v : V) : Prop := Ask K H v ∧ ∃ d, Dp K H v d ∧ Shows d
theorem shows_str {n : Nat} {z : Str} (h : Plain n z) (hn : n ≤ 1000) : Shows (.str z) := by
  refine ⟨rfl, rfl, Nat.zero_le _, ?_⟩
  have h1 := PySem.StrLaws.reprText_len z fun c hc => Nat.lt_trans (h.small c hc) (by decide)
  have h2 := h.len
  have h3 : (100000 : Nat) ≤ sizeLine := by decide
  show (reprText z).length ≤ sizeLine
  omega
theorem texts_show {l : List Str} (h : ∀ y ∈ l, Plain 50 y) : PyData.showableAll (l.map .str) = true ∧ PyData.hasDictAll (l.map .str) = false ∧ PyData.depthAll (l.map .str) = 0 ∧ PyData.leavesShortAll 8 (l.map .str) = true ∧ PyData.bulkAll (l.map .str) ≤ 51 * l.length := by
  induction l with
  | nil => exact ⟨rfl, rfl, rfl, rfl, Nat.le_refl _⟩
  | cons y r ih =>
    obtain ⟨h1, h2, h3, h4, h5⟩ := ih fun z hz => h z (List.mem_cons_of_mem _ hz)
    have hy := h y (by simp)
    have hl := hy.len
    refine ⟨?_, ?_, ?_, ?_, ?_⟩
    · show (true && PyData.showableAll (r.map .str)) = true
      rw [h1]; rfl
    · show (false || PyData.hasDictAll (r.map .str)) = false
      rw [h2]; rfl
    · show max 0 (PyData.depthAll (r.map .str)) = 0
      rw [h3]; rfl
    · show ((PyData.str y).leavesShort 8 && PyData.leavesShortAll 8 (r.map .str)) = true
      rw [h4, Bool.and_true]
      have : ∀ c ∈ y.cps.toList, c < 16 ^ 8 := fun c hc => Nat.lt_trans (hy.small c hc) (by decide)
      simpa only [PyData.leavesShort, List.all_eq_true, decide_eq_true_eq] using this
    · show y.cps.size + 1 + PyData.bulkAll (r.map .str) ≤ 51 * (r.length + 1)
      have : y.length = y.cps.size := rfl
      omega
theorem shows_list {l : List Str} (h : ∀ y ∈ l, Plain 50 y) (hl : l.length ≤ 1000) : Shows (.list (l.map .str)) := by
  obtain ⟨h1, h2, h3, h4, h5⟩ := texts_show h
  refine ⟨h1, h2, by show PyData.depthAll (l.map .str) + 1 ≤ 8; omega, ?_⟩
  have b := PyData.shown_le_bulk 8 (by decide) (.list (l.map .str)) h4
  have e : (PyData.list (l.map .str)).bulk = PyData.bulkAll (l.map .str) := rfl
  have h6 : (1000000 : Nat) ≤ sizeLine := by decide
  rw [e] at b
  omega
theorem shows_tuple {l : List Str} (h : ∀ y ∈ l, Plain 50 y) (hl : l.length ≤ 1000) : Shows (.tuple (l.map .str)) := by
  obtain ⟨h1, h2, h3, h4, h5⟩ := texts_show h
  refine ⟨h1, h2, by show PyData.depthAll (l.map .str) + 1 ≤ 8; omega, ?_⟩
  have b := PyData.shown_le_bulk 8 (by decide) (.tuple (l.map .str)) h4
  have e : (PyData.tuple (l.map .str)).bulk = PyData.bulkAll (l.map .str) := rfl
  have h6 : (1000000 : Nat) ≤ sizeLine := by decide
  rw [e] at b
  omega
theorem dp_strs {K : PySem.W.Frag} {H : Hp} : ∀ l : List Str, DpAll K H (l.map V.str) (l.map .str)
  | [] => .nil
  | y :: r => .cons (.str y) (dp_strs r)
section
variable {K : PySem.W.Frag} {H H' : Hp} {v : V}
mutual
theorem Dp.same (s : Same H H') : ∀ {v : V} {d : PyData}, Dp K H v d → Dp K H' v d
  | _, _, .non => .non
  | _, _, .bl b => .bl b
  | _, _, .int i => .int i
  | _, _, .str x => .str x
  | _, _, .lst h a => .lst (s.seq h) (DpAll.same s a)
  | _, _, .tup h a => .tup (by
      rcases h with (h | ⟨o, h⟩) | h
      · exact .inl (.inl (s _ _ h))
      · exact .inl (.inr ⟨o, s _ _ h⟩)
      · exact .inr h) (DpAll.same s a)
theorem DpAll.same (s : Same H H') : ∀ {vs : List V} {ds : List PyData}, DpAll K H vs ds → DpAll K H' vs ds
  | _, _, .nil => .nil
  | _, _, .cons h a => .cons (Dp.same s h) (DpAll.same s a)
end
end
/-- a kind that is told by values that stand in the heap, or by the value alone -/
inductive Kind (H : Hp) : V → String → Prop where
  | non : Kind H .non "NoneType"
  | bl (b : Bool) : Kind H (.bl b) "bool"
  | int (i : Int) : Kind H (.int i) "int"
  | lst {a : Addr} {xs : List V} (e : H a = some (.lst xs)) : Kind H (.ref a) "list"
  | tup {a : Addr} {xs : List V} (e : H a = some (.tup xs)) : Kind H (.ref a) "tuple"
theorem Kind.ask {K : PySem.W.Frag} {H : Hp} {v : V} {t : String} (k : Kind H v t) : Ask K H v := by
  cases k with
  | non => exact .inr ⟨fun _ => rfl, _, .base .non, by decide +kernel⟩
  | bl b => exact .inr ⟨fun _ => rfl, _, .base (.bl b), by decide +kernel⟩
  | int i => exact .inr ⟨fun _ => rfl, _, .base (.int i), by decide +kernel⟩
  | lst e => exact .inr ⟨fun _ => rfl, _, .base (.lst e), by decide +kernel⟩
  | tup e => exact .inr ⟨fun _ => rfl, _, .base (.tup e), by decide +kernel⟩
/-- asked about again, behind more -/
def Ask' (K : PySem.W.Frag) (H : Hp) (v : V) : Prop := (∃ z, v = .str z ∧ z.length ≤ 1000) ∨ ∃ t, Kind H v t
theorem Ask'.ask {K : PySem.W.Frag} {H : Hp} {v : V} (h : Ask' K H v) : Ask K H v := by
  rcases h with h | ⟨t, h⟩
  · exact .inl h
  · exact h.ask
theorem Ask'.same {K : PySem.W.Frag} {H H' : Hp} {v : V} (h : Ask' K H v) (s : Same H H') : Ask' K H' v := by
  rcases h with h | ⟨t, h⟩
  · exact .inl h
  · cases h with
    | non => exact .inr ⟨_, .non⟩
    | bl b => exact .inr ⟨_, .bl b⟩
    | int i => exact .inr ⟨_, .int i⟩
    | lst e => exact .inr ⟨_, .lst (s _ _ e)⟩
    | tup e => exact .inr ⟨_, .tup (s _ _ e)⟩
theorem step_new {H : Hp} {b p : Addr} {o : HO} (hb : Bag H b) (np : H p = none) : ∃ H2, upd H p o = H2 ∧ H2 p = some o ∧ Kept b H H2 ∧ Bag H2 b ∧ p ≠ b :=
  ⟨_, rfl, upd_same, Kept.new np, hb.new np, hb.ne np⟩
def Held (K : PySem.W.Frag) (p a : Addr) (xs : List V) (H : Hp) : Prop := SqL K H a xs ∧ ∀ H', Kept p H H' → SqL K H' a xs
theorem held_of {K : PySem.W.Frag} {H H1 : Hp} {p a : Addr} {xs : List V} (h : SqL K H a xs) (s : Same H H1) (np : H p = none) : ∀ H', Kept p H1 H' → SqL K H' a xs := by
  intro H' k
  rcases h with (h | ⟨o, h⟩) | h
  · exact .inl (.inl (k _ _ (ne_of_none h np) (s _ _ h)))
  · exact .inl (.inr ⟨o, k _ _ (ne_of_none h np) (s _ _ h)⟩)
  · exact .inr h
end My
set_option linter.all false
/-! The search for a partner: what it leaves when it finds one (Found) and when it finds none (Dead ends). -/
namespace My
variable {N : Int → List Int} {m m1 m' : Int → Option Int} {t t1 t' : Int → Prop} {x y : Int}
/-- every y of T is matched, and all rivals of its partner are in T again -/
def Closed (N : Int → List Int) (m : Int → Option Int) (T : Int → Prop) : Prop := ∀ y, T y → ∃ x, m y = some x ∧ ∀ z ∈ N x, T z
def Dead (N : Int → List Int) (m : Int → Option Int) (x : Int) : Prop := ∃ T, Closed N m T ∧ ∀ z ∈ N x, T z
def setM (m : Int → Option Int) (y x : Int) : Int → Option Int := fun a => if a = y then some x else m a
theorem setM_same : setM m y x y = some x := if_pos rfl
theorem setM_ne {a : Int} (h : a ≠ y) : setM m y x a = m a := if_neg h
structure Found (N : Int → List Int) (m m' : Int → Option Int) (t : Int → Prop) (x : Int) : Prop where
  tr : ∀ y, t y → m' y = m y
  own : ∃ y, ¬ t y ∧ m' y = some x ∧ y ∈ N x ∧ ∀ a, m' a = some x → (t a ∧ m a = some x) ∨ a = y
  inj : ∀ a b v, m' a = some v → m' b = some v → a = b ∨ v = x
  st : ∀ v, (∀ y, m y = some v → t y) → v ≠ x → ∀ a, m' a = some v → m a = some v
  gr : ∀ v a, m a = some v → ∃ b, m' b = some v
  vs : ∀ v a, m' a = some v → v = x ∨ ∃ b, m b = some v
  ed : (∀ a v, m a = some v → a ∈ N v) → ∀ a v, m' a = some v → a ∈ N v
  ks : ∀ a, m a ≠ none → m' a ≠ none
  lv : ∀ T, Closed N m T → ∃ z ∈ N x, ¬ T z
  cl : ∀ T, Closed N m T → ∀ y, T y → m' y = m y
structure Failed (N : Int → List Int) (m : Int → Option Int) (t t' : Int → Prop) (x : Int) : Prop where
  sub : ∀ y, t y → t' y
  all : ∀ y ∈ N x, t' y
  new : ∀ y, t' y → t y ∨ ∃ x', m y = some x' ∧ ∀ z ∈ N x', t' z
/-- what a call may rely on: no partner twice, and x is matched at tried ones alone -/
structure Ready (m : Int → Option Int) (t : Int → Prop) (x : Int) : Prop where
  inj : ∀ a b v, m a = some v → m b = some v → a = b
  tri : ∀ a, m a = some x → t a
theorem found_free (R : Ready m t x) (hy : y ∈ N x) (ht : ¬ t y) (hm : m y = none) : Found N m (setM m y x) t x where
  tr := fun a ha => setM_ne (fun e => ht (e ▸ ha))
  own := ⟨y, ht, setM_same, hy, fun a ha => by
    by_cases e : a = y
    · exact .inr e
    · rw [setM_ne e] at ha; exact .inl ⟨R.tri a ha, ha⟩⟩
  inj := fun a b v ha hb => by
    by_cases e : a = y
    · rw [e, setM_same] at ha; cases ha; exact .inr rfl
    · by_cases e2 : b = y
      · rw [e2, setM_same] at hb; cases hb; exact .inr rfl
      · rw [setM_ne e] at ha; rw [setM_ne e2] at hb; exact .inl (R.inj a b v ha hb)
  st := fun v _ hv a ha => by
    by_cases e : a = y
    · rw [e, setM_same] at ha; cases ha; exact (hv rfl).elim
    · rw [setM_ne e] at ha; exact ha
  gr := fun v a ha => ⟨a, by rw [setM_ne (fun e => by rw [e, hm] at ha; cases ha)]; exact ha⟩
  vs := fun v a ha => by
    by_cases e : a = y
    · rw [e, setM_same] at ha; cases ha; exact .inl rfl
    · rw [setM_ne e] at ha; exact .inr ⟨a, ha⟩
  ed := fun h a v ha => by
    by_cases e : a = y
    · rw [e, setM_same] at ha; cases ha; rw [e]; exact hy
    · rw [setM_ne e] at ha; exact h a v ha
  ks := fun a ha => by
    by_cases e : a = y
    · rw [e, setM_same]; exact fun z => nomatch z
    · rw [setM_ne e]; exact ha
  lv := fun T hT => ⟨y, hy, fun h => by obtain ⟨x', h', _⟩ := hT y h; rw [hm] at h'; cases h'⟩
  cl := fun T hT a ha => setM_ne (fun e => by obtain ⟨x', h', _⟩ := hT a ha; rw [e, hm] at h'; cases h')
theorem ready_next (R : Ready m t x) {x' : Int} (hm : m y = some x') (h1 : t1 y) : Ready m t1 x' where
  inj := R.inj
  tri := fun a ha => by rw [R.inj a y x' ha hm]; exact h1
theorem found_next (R : Ready m t x) (hy : y ∈ N x) (ht : ¬ t y) {x' : Int} (hm : m y = some x') (hs : ∀ a, t a → t1 a) (h1 : t1 y) (F : Found N m m1 t1 x') : Found N m (setM m1 y x) t x := by
  have m1y : m1 y = some x' := by rw [F.tr y h1]; exact hm
  have hxx : x ≠ x' := fun e => ht (R.tri y (by rw [e]; exact hm))
  obtain ⟨y2, n2, e2, i2, o2⟩ := F.own
  have y2y : y2 ≠ y := fun e => n2 (e ▸ h1)
  have stx : ∀ a, m1 a = some x → m a = some x := fun a ha => F.st x (fun b hb => hs b (R.tri b hb)) hxx a ha
  exact {
    tr := fun a ha => by
      have : a ≠ y := fun e => ht (e ▸ ha)
      rw [setM_ne this]; exact F.tr a (hs a ha)
    own := ⟨y, ht, setM_same, hy, fun a ha => by
      by_cases e : a = y
      · exact .inr e
      · rw [setM_ne e] at ha; exact .inl ⟨R.tri a (stx a ha), stx a ha⟩⟩
    inj := fun a b v ha hb => by
      by_cases e : a = y
      · rw [e, setM_same] at ha; cases ha; exact .inr rfl
      · by_cases eb : b = y
        · rw [eb, setM_same] at hb; cases hb; exact .inr rfl
        · rw [setM_ne e] at ha; rw [setM_ne eb] at hb
          rcases F.inj a b v ha hb with h | h
          · exact .inl h
          · subst h
            have pa : a = y2 := by
              rcases o2 a ha with ⟨_, h⟩ | h
              · exact (e (R.inj a y v h hm)).elim
              · exact h
            have pb : b = y2 := by
              rcases o2 b hb with ⟨_, h⟩ | h
              · exact (eb (R.inj b y v h hm)).elim
              · exact h
            exact .inl (pa.trans pb.symm)
    st := fun v hv hvx a ha => by
      have hvx' : v ≠ x' := fun e => ht (hv y (by rw [e]; exact hm))
      by_cases e : a = y
      · rw [e, setM_same] at ha; cases ha; exact (hvx rfl).elim
      · rw [setM_ne e] at ha; exact F.st v (fun b hb => hs b (hv b hb)) hvx' a ha
    gr := fun v a ha => by
      obtain ⟨b, hb⟩ := F.gr v a ha
      by_cases e : b = y
      · rw [e, m1y] at hb; cases hb
        exact ⟨y2, by rw [setM_ne y2y]; exact e2⟩
      · exact ⟨b, by rw [setM_ne e]; exact hb⟩
    vs := fun v a ha => by
      by_cases e : a = y
      · rw [e, setM_same] at ha; cases ha; exact .inl rfl
      · rw [setM_ne e] at ha
        rcases F.vs v a ha with h | h
        · exact .inr ⟨y, by rw [h]; exact hm⟩
        · exact .inr h
    ed := fun h a v ha => by
      by_cases e : a = y
      · rw [e, setM_same] at ha; cases ha; rw [e]; exact hy
      · rw [setM_ne e] at ha; exact F.ed h a v ha
    ks := fun a ha => by
      by_cases e : a = y
      · rw [e, setM_same]; exact fun z => nomatch z
      · rw [setM_ne e]; exact F.ks a ha
    lv := fun T hT => ⟨y, hy, fun h => by
      obtain ⟨x2, h2, h3⟩ := hT y h
      rw [hm] at h2; cases h2
      obtain ⟨z, hz, nz⟩ := F.lv T hT
      exact nz (h3 z hz)⟩
    cl := fun T hT a ha => by
      have : a ≠ y := fun e => by
        obtain ⟨x2, h2, h3⟩ := hT a ha
        rw [e, hm] at h2; cases h2
        obtain ⟨z, hz, nz⟩ := F.lv T hT
        exact nz (h3 z hz)
      rw [setM_ne this]
      exact F.cl T hT a ha }
/-- the search's loop while nothing is found: the rivals ys of x are looked at -/
structure Seeks (N : Int → List Int) (m : Int → Option Int) (t t' : Int → Prop) (ys : List Int) : Prop where
  sub : ∀ y, t y → t' y
  all : ∀ y ∈ ys, t' y
  new : ∀ y, t' y → t y ∨ ∃ x', m y = some x' ∧ ∀ z ∈ N x', t' z
theorem seeks_nil : Seeks N m t t [] := ⟨fun _ h => h, (fun _ h => nomatch h), fun _ h => .inl h⟩
theorem seeks_skip {ys : List Int} (S : Seeks N m t t1 ys) (h : t1 y) : Seeks N m t t1 (ys ++ [y]) where
  sub := S.sub
  all := fun a ha => by
    rcases List.mem_append.mp ha with h' | h'
    · exact S.all a h'
    · rw [List.mem_singleton.mp h']; exact h
  new := S.new
theorem seeks_fail {ys : List Int} (S : Seeks N m t t1 ys) {x' : Int} (hm : m y = some x') (F : Failed N m (fun a => t1 a ∨ a = y) t' x') : Seeks N m t t' (ys ++ [y]) where
  sub := fun a ha => F.sub a (.inl (S.sub a ha))
  all := fun a ha => by
    rcases List.mem_append.mp ha with h' | h'
    · exact F.sub a (.inl (S.all a h'))
    · rw [List.mem_singleton.mp h']; exact F.sub y (.inr rfl)
  new := fun a ha => by
    rcases F.new a ha with (h | h) | h
    · rcases S.new a h with h' | ⟨z, hz, h'⟩
      · exact .inl h'
      · exact .inr ⟨z, hz, fun c hc => F.sub c (.inl (h' c hc))⟩
    · exact .inr ⟨x', by rw [h]; exact hm, F.all⟩
    · exact .inr h
theorem Seeks.failed (S : Seeks N m t t' (N x)) : Failed N m t t' x := ⟨S.sub, S.all, S.new⟩
theorem Failed.dead (F : Failed N m (fun _ => False) t' x) : Dead N m x :=
  ⟨t', fun y hy => (F.new y hy).elim (fun h => h.elim) id, F.all⟩
theorem Found.dead (F : Found N m m' t x) {z : Int} (h : Dead N m z) : Dead N m' z := by
  obtain ⟨T, hT, hz⟩ := h
  exact ⟨T, fun y hy => by obtain ⟨x', h1, h2⟩ := hT y hy; exact ⟨x', by rw [F.cl T hT y hy]; exact h1, h2⟩, hz⟩
/-- what the matching holds when the x of xs were looked at -/
structure Mat (N : Int → List Int) (m : Int → Option Int) (xs : List Int) : Prop where
  inj : ∀ a b v, m a = some v → m b = some v → a = b
  ed : ∀ a v, m a = some v → a ∈ N v
  vs : ∀ a v, m a = some v → v ∈ xs
  dead : ∀ x ∈ xs, (∃ a, m a = some x) ∨ Dead N m x
theorem mat_nil : Mat N (fun _ => none) [] := ⟨(fun _ _ _ h _ => nomatch h), (fun _ _ h => nomatch h), (fun _ _ h => nomatch h), (fun _ h => nomatch h)⟩
theorem Mat.ready {xs : List Int} (M : Mat N m xs) (hx : x ∉ xs) : Ready m (fun _ => False) x := ⟨M.inj, fun a ha => hx (M.vs a x ha)⟩
theorem Mat.found {xs : List Int} (M : Mat N m xs) (hx : x ∉ xs) (F : Found N m m' (fun _ => False) x) : Mat N m' (xs ++ [x]) where
  inj := fun a b v ha hb => by
    rcases F.inj a b v ha hb with h | h
    · exact h
    · subst h
      obtain ⟨y, _, _, _, o⟩ := F.own
      have pa := (o a ha).elim (fun h => h.1.elim) id
      have pb := (o b hb).elim (fun h => h.1.elim) id
      exact pa.trans pb.symm
  ed := F.ed M.ed
  vs := fun a v ha => by
    rcases F.vs v a ha with h | ⟨b, h⟩
    · exact List.mem_append.mpr (.inr (List.mem_singleton.mpr h))
    · exact List.mem_append.mpr (.inl (M.vs b v h))
  dead := fun z hz => by
    rcases List.mem_append.mp hz with h | h
    · rcases M.dead z h with ⟨a, ha⟩ | h
      · exact .inl (F.gr z a ha)
      · exact .inr (F.dead h)
    · obtain ⟨y, _, e, _⟩ := F.own
      rw [List.mem_singleton.mp h]
      exact .inl ⟨y, e⟩
theorem Mat.failed {xs : List Int} (M : Mat N m xs) (F : Failed N m (fun _ => False) t' x) : Mat N m (xs ++ [x]) where
  inj := M.inj
  ed := M.ed
  vs := fun a v ha => List.mem_append.mpr (.inl (M.vs a v ha))
  dead := fun z hz => by
    rcases List.mem_append.mp hz with h | h
    · exact M.dead z h
    · rw [List.mem_singleton.mp h]; exact .inr F.dead
/-- from a dead x every rival is matched, and its partner is dead again -/
theorem dead_next (h : Dead N m x) (hy : y ∈ N x) : ∃ x', m y = some x' ∧ Dead N m x' := by
  obtain ⟨T, hT, hx⟩ := h
  obtain ⟨x', e, h'⟩ := hT y (hx y hy)
  exact ⟨x', e, T, hT, h'⟩
end My
set_option Elab.async false
set_option linter.all false
set_option maxRecDepth 100000
/-! Dicts with int keys as tables; lists of pairs of ints in the heap; the free ones of twelve. -/
namespace My
open PySem PySem.Spec PyProof.Rows L2
def tab (xs : List Int) (f : Int → V) : List (Key × V) := xs.map fun x => (Sum.inl x, f x)
theorem tab_val (xs : List Int) (f : Int → V) (k : Int) : valV (tab xs f) (Sum.inl k) = if k ∈ xs then some (f k) else none := by
  induction xs with
  | nil => rfl
  | cons x r ih =>
    show valV ((Sum.inl x, f x) :: tab r f) (Sum.inl k) = _
    by_cases e : x = k
    · subst e
      rw [valV_pos (p := (Sum.inl x, f x)) rfl, if_pos List.mem_cons_self]
    · rw [valV_neg (p := (Sum.inl x, f x)) (fun z => e (Sum.inl.inj z)), ih]
      have : (k ∈ x :: r) ↔ k ∈ r := ⟨fun h => (List.mem_cons.mp h).elim (fun h => (e h.symm).elim) id, List.mem_cons_of_mem _⟩
      by_cases hk : k ∈ r
      · rw [if_pos hk, if_pos (this.mpr hk)]
      · rw [if_neg hk, if_neg (fun h => hk (this.mp h))]
theorem tab_at {xs : List Int} {f : Int → V} {k : Int} (h : k ∈ xs) : valV (tab xs f) (Sum.inl k) = some (f k) := by rw [tab_val, if_pos h]
theorem tab_no {xs : List Int} {f : Int → V} {k : Int} (h : k ∉ xs) : valV (tab xs f) (Sum.inl k) = none := by rw [tab_val, if_neg h]
def addK (xs : List Int) (k : Int) : List Int := if k ∈ xs then xs else xs ++ [k]
theorem mem_addK {xs : List Int} {k a : Int} : a ∈ addK xs k ↔ a ∈ xs ∨ a = k := by
  unfold addK
  by_cases h : k ∈ xs
  · rw [if_pos h]
    exact ⟨.inl, fun h' => h'.elim id (fun e => e ▸ h)⟩
  · rw [if_neg h, List.mem_append, List.mem_singleton]
theorem nd_addK {xs : List Int} {k : Int} (h : xs.Nodup) : (addK xs k).Nodup := by
  unfold addK
  by_cases hk : k ∈ xs
  · rw [if_pos hk]; exact h
  · rw [if_neg hk]; exact nd_snoc h hk
theorem tab_put (xs : List Int) (f : Int → V) (k : Int) (v : V) : putK (tab xs f) (Sum.inl k) v = tab (addK xs k) (fun x => if x = k then v else f x) := by
  unfold putK addK
  rw [valV_any, tab_val]
  by_cases h : k ∈ xs
  · rw [if_pos h, if_pos h, if_pos (show (some (f k)).isSome = true from rfl)]
    unfold tab
    rw [List.map_map]
    refine List.map_congr_left fun x _ => ?_
    show (if (Sum.inl x : Key) = Sum.inl k then ((Sum.inl x : Key), v) else (Sum.inl x, f x)) = (Sum.inl x, if x = k then v else f x)
    by_cases e : x = k
    · rw [if_pos (by rw [e]), if_pos e]
    · rw [if_neg (fun z => e (Sum.inl.inj z)), if_neg e]
  · rw [if_neg h, if_neg h, if_neg (by decide)]
    unfold tab
    rw [List.map_append, List.map_cons, List.map_nil]
    show _ ++ [(Sum.inl k, v)] = _ ++ [(Sum.inl k, if k = k then v else f k)]
    rw [if_pos rfl]
    congr 1
    refine List.map_congr_left fun x hx => ?_
    show (Sum.inl x, f x) = (Sum.inl x, if x = k then v else f x)
    rw [if_neg (fun e : x = k => h (e ▸ hx))]
theorem tab_len (xs : List Int) (f : Int → V) : (tab xs f).length = xs.length := List.length_map ..
theorem tab_keys (xs : List Int) (f : Int → V) : (tab xs f).map (·.1) = xs.map Sum.inl := by
  unfold tab
  rw [List.map_map]
  rfl
theorem tab_congr {xs : List Int} {f g : Int → V} (h : ∀ x ∈ xs, f x = g x) : tab xs f = tab xs g := List.map_congr_left fun x hx => by rw [h x hx]
theorem ite_heap {c A B : Prop} [Decidable c] {C : Hp → Prop} (R : Hp → Prop) (hb : ¬ c → (∀ H, R H → C H) → B) (ha : c → (∀ H, R H → C H) → A) (h : ∀ H, R H → C H) : if c then A else B := by
  by_cases e : c
  · rw [if_pos e]; exact ha e h
  · rw [if_neg e]; exact hb e h
/-! ### of twelve -/
def In12 (y : Int) : Prop := 0 ≤ y ∧ y < 12
theorem filt_lt {p q : Nat → Bool} (hs : ∀ x, q x = true → p x = true) {n : Nat} (pn : p n = true) (qn : q n = false) : ∀ l : List Nat, n ∈ l → (l.filter q).length < (l.filter p).length
  | [], h => nomatch h
  | a :: r, h => by
    have le : ∀ l : List Nat, (l.filter q).length ≤ (l.filter p).length := by
      intro l
      induction l with
      | nil => exact Nat.le_refl _
      | cons b l ih =>
        rw [List.filter_cons, List.filter_cons]
        cases e : q b with
        | true => rw [hs b e]; simpa using ih
        | false =>
          cases e2 : p b with
          | true => simp; omega
          | false => simpa using ih
    rw [List.filter_cons, List.filter_cons]
    by_cases ea : a = n
    · subst ea
      rw [pn, qn]
      have := le r
      simp
      omega
    · have hr : n ∈ r := (List.mem_cons.mp h).elim (fun e => (ea e.symm).elim) id
      have ih := filt_lt hs pn qn r hr
      cases e : q a with
      | true => rw [hs a e]; simpa using ih
      | false =>
        cases e2 : p a with
        | true => simp; omega
        | false => simpa using ih
/-- how many of the twelve are not in ts -/
def free (ts : List Int) : Nat := ((List.range 12).filter fun n : Nat => !decide ((n : Int) ∈ ts)).length
theorem free_nil : free [] = 12 := by decide
theorem free_lt {ts ts' : List Int} {y : Int} (hy : In12 y) (hn : y ∉ ts) (hi : y ∈ ts') (hs : ∀ a ∈ ts, a ∈ ts') : free ts' < free ts := by
  refine filt_lt (fun x hx => ?_) (n := y.toNat) ?_ ?_ _ ?_
  · rw [Bool.not_eq_true', decide_eq_false_iff_not] at hx ⊢
    exact fun h => hx (hs _ h)
  · rw [Bool.not_eq_true', decide_eq_false_iff_not]
    have : ((y.toNat : Nat) : Int) = y := Int.toNat_of_nonneg hy.1
    rw [this]; exact hn
  · have : ((y.toNat : Nat) : Int) = y := Int.toNat_of_nonneg hy.1
    rw [this, decide_eq_true hi]; rfl
  · rw [List.mem_range]
    have := hy.1; have := hy.2
    omega
theorem len12 {ts : List Int} (nd : ts.Nodup) (h : ∀ y ∈ ts, In12 y) : ts.length ≤ 12 := by
  have key : ∀ (ts D : List Int), ts.Nodup → (∀ x ∈ ts, x ∈ D) → ts.length ≤ D.length := by
    intro ts
    induction ts with
    | nil => intro D _ _; exact Nat.zero_le _
    | cons a r ih =>
      intro D nd hs
      obtain ⟨n1, n2⟩ := List.nodup_cons.mp nd
      have ha : a ∈ D := hs a List.mem_cons_self
      have := ih (D.erase a) n2 (fun x hx => (List.mem_erase_of_ne (fun e : x = a => n1 (e ▸ hx))).mpr (hs x (List.mem_cons_of_mem _ hx)))
      rw [List.length_erase_of_mem ha] at this
      have hp : 0 < D.length := List.length_pos_of_mem ha
      rw [List.length_cons]
      omega
  have := key ts ((List.range 12).map fun n : Nat => (n : Int)) nd (fun y hy => List.mem_map.mpr ⟨y.toNat, by rw [List.mem_range]; have := (h y hy).1; have := (h y hy).2; omega, Int.toNat_of_nonneg (h y hy).1⟩)
  simpa using this
/-! ### pairs of ints in the heap -/
def Pr (H : Hp) (q : Addr × Int × Int) : Prop := H q.1 = some (.tup [.int q.2.1, .int q.2.2])
def Prs (H : Hp) (l : Addr) (ps : List (Addr × Int × Int)) : Prop := H l = some (.lst (ps.map fun q => V.ref q.1)) ∧ ∀ q ∈ ps, Pr H q
def PrsT (H : Hp) (l : Addr) (ps : List (Addr × Int × Int)) : Prop := H l = some (.tup (ps.map fun q => V.ref q.1)) ∧ ∀ q ∈ ps, Pr H q
def Sm12 (ps : List (Addr × Int × Int)) : Prop := ∀ q ∈ ps, In12 q.2.1 ∧ In12 q.2.2
theorem Prs.same {H H' : Hp} {l : Addr} {ps : List (Addr × Int × Int)} (h : Prs H l ps) (s : Same H H') : Prs H' l ps := ⟨s _ _ h.1, fun q hq => s _ _ (h.2 q hq)⟩
theorem PrsT.same {H H' : Hp} {l : Addr} {ps : List (Addr × Int × Int)} (h : PrsT H l ps) (s : Same H H') : PrsT H' l ps := ⟨s _ _ h.1, fun q hq => s _ _ (h.2 q hq)⟩
end My
set_option Elab.async false
set_option linter.all false
set_option maxRecDepth 100000
namespace My
open PySem PySem.Spec PyProof.Rows L2
/-- a dict from ints to lists of ints -/
structure Riv (H : Hp) (d : Addr) (xs : List Int) (ad : Int → Addr) (N : Int → List Int) : Prop where
  dict : H d = some (.dK (tab xs fun x => .ref (ad x)))
  rows : ∀ x ∈ xs, H (ad x) = some (.lst ((N x).map V.int))
  nd : xs.Nodup
  inj : ∀ x ∈ xs, ∀ z ∈ xs, ad x = ad z → x = z
theorem Riv.same {H H' : Hp} {d : Addr} {xs : List Int} {ad : Int → Addr} {N : Int → List Int} (r : Riv H d xs ad N) (h1 : H' d = H d) (h2 : ∀ x ∈ xs, H' (ad x) = H (ad x)) : Riv H' d xs ad N :=
  ⟨by rw [h1]; exact r.dict, fun x hx => by rw [h2 x hx]; exact r.rows x hx, r.nd, r.inj⟩
/-- what it holds: the conflicts E -/
structure Graph (E : Int → Int → Prop) (xs : List Int) (N : Int → List Int) (n : Nat) : Prop where
  ed : ∀ x y, E x y ↔ x ∈ xs ∧ y ∈ N x
  sm : ∀ x ∈ xs, (N x).length ≤ n
theorem Riv.key {H : Hp} {d l : Addr} {xs : List Int} {ad : Int → Addr} {N : Int → List Int} {x : Int} (r : Riv H d xs ad N) (nl : H l = none) (hx : x ∉ xs) :
    Riv (upd (upd H l (.lst [])) d (.dK (putK (tab xs fun x => .ref (ad x)) (Sum.inl x) (.ref l)))) d (xs ++ [x]) (fun z => if z = x then l else ad z) (fun z => if z = x then [] else N z) := by
  have ld : l ≠ d := (ne_of_none r.dict nl).symm
  have la : ∀ z ∈ xs, ad z ≠ l := fun z hz => ne_of_none (r.rows z hz) nl
  have da : ∀ z ∈ xs, ad z ≠ d := fun z hz e => by
    have := r.rows z hz
    rw [e, r.dict] at this
    cases this
  refine ⟨?_, ?_, nd_snoc r.nd hx, ?_⟩
  · rw [upd_same, tab_put]
    congr 2
    unfold addK
    rw [if_neg hx]
    refine tab_congr fun z _ => ?_
    by_cases e : z = x
    · rw [if_pos e, if_pos e]
    · rw [if_neg e, if_neg e]
  · intro z hz
    by_cases e : z = x
    · rw [if_pos e, if_pos e, upd_ne ld, upd_same]; rfl
    · rw [if_neg e, if_neg e]
      have hz : z ∈ xs := (List.mem_append.mp hz).elim id (fun h => (e (List.mem_singleton.mp h)).elim)
      rw [upd_ne (da z hz), upd_ne (la z hz)]
      exact r.rows z hz
  · intro z hz u hu
    by_cases e : z = x
    · by_cases e2 : u = x
      · intro _; rw [e, e2]
      · have hu : u ∈ xs := (List.mem_append.mp hu).elim id (fun h => (e2 (List.mem_singleton.mp h)).elim)
        rw [if_pos e, if_neg e2]
        exact fun h => (la u hu h.symm).elim
    · have hz : z ∈ xs := (List.mem_append.mp hz).elim id (fun h => (e (List.mem_singleton.mp h)).elim)
      by_cases e2 : u = x
      · rw [if_neg e, if_pos e2]
        exact fun h => (la z hz h).elim
      · have hu : u ∈ xs := (List.mem_append.mp hu).elim id (fun h => (e2 (List.mem_singleton.mp h)).elim)
        rw [if_neg e, if_neg e2]
        exact r.inj z hz u hu
theorem Riv.push {H : Hp} {d : Addr} {xs : List Int} {ad : Int → Addr} {N : Int → List Int} {x : Int} (r : Riv H d xs ad N) (hx : x ∈ xs) (y : Int) :
    Riv (upd H (ad x) (.lst ((N x).map V.int ++ [.int y]))) d xs ad (fun z => if z = x then N x ++ [y] else N z) := by
  have da : ad x ≠ d := fun e => by
    have := r.rows x hx
    rw [e, r.dict] at this
    cases this
  refine ⟨by rw [upd_ne da.symm]; exact r.dict, fun z hz => ?_, r.nd, r.inj⟩
  by_cases e : z = x
  · rw [if_pos e, e, upd_same, List.map_append]; rfl
  · rw [if_neg e, upd_ne (fun h => e (r.inj z hz x hx h))]
    exact r.rows z hz
end My
set_option Elab.async false
set_option linter.all false
set_option maxRecDepth 100000
namespace My
open PySem PySem.Spec PyProof.Rows L2
def mOf (ys : List Int) (g : Int → Int) : Int → Option Int := fun y => if y ∈ ys then some (g y) else none
theorem mOf_at {ys : List Int} {g : Int → Int} {y : Int} (h : y ∈ ys) : mOf ys g y = some (g y) := if_pos h
theorem mOf_no {ys : List Int} {g : Int → Int} {y : Int} (h : y ∉ ys) : mOf ys g y = none := if_neg h
theorem mOf_put (ys : List Int) (g : Int → Int) (y x : Int) : mOf (addK ys y) (fun z => if z = y then x else g z) = setM (mOf ys g) y x := by
  funext a
  show (if a ∈ addK ys y then some (if a = y then x else g a) else none) = if a = y then some x else if a ∈ ys then some (g a) else none
  by_cases e : a = y
  · rw [if_pos (mem_addK.mpr (.inr e)), if_pos e, if_pos e]
  · by_cases h : a ∈ ys
    · rw [if_pos (mem_addK.mpr (.inl h)), if_pos h, if_neg e, if_neg e]
    · rw [if_neg (fun z => (mem_addK.mp z).elim h e), if_neg h, if_neg e]
/-- a matcher in the heap -/
structure MAt (C : Addr) (H : Hp) (a dx rd md td : Addr) (xs : List Int) (ad : Int → Addr) (N : Int → List Int) (ys : List Int) (g : Int → Int) (ts : List Int) : Prop where
  ob : H a = some (.ins C dx [("rivals", .ref rd), ("matched", .ref md), ("tried", .ref td)])
  riv : Riv H rd xs ad N
  mat : H md = some (.dK (tab ys fun y => .int (g y)))
  tri : H td = some (.dK (tab ts fun _ => .bl true))
  n1 : md ≠ td
  n2 : rd ≠ md
  n3 : rd ≠ td
def Kept2 (md td : Addr) (H H' : Hp) : Prop := ∀ b o, b ≠ md → b ≠ td → H b = some o → H' b = some o
theorem Kept2.trans {md td : Addr} {H H1 H2 : Hp} (a : Kept2 md td H H1) (c : Kept2 md td H1 H2) : Kept2 md td H H2 := fun b o h1 h2 e => c b o h1 h2 (a b o h1 h2 e)
theorem Kept2.same {md td : Addr} {H H' : Hp} (h : Same H H') : Kept2 md td H H' := fun b o _ _ e => h b o e
theorem Kept2.atM {md td : Addr} {H : Hp} {o : HO} : Kept2 md td H (upd H md o) := fun b o' h _ e => by rw [upd_ne h]; exact e
theorem Kept2.atT {md td : Addr} {H : Hp} {o : HO} : Kept2 md td H (upd H td o) := fun b o' _ h e => by rw [upd_ne h]; exact e
section
variable {C : Addr} {H H' : Hp} {a dx rd md td : Addr} {xs : List Int} {ad : Int → Addr} {N : Int → List Int} {ys ys' : List Int} {g g' : Int → Int} {ts ts' : List Int}
theorem MAt.am (M : MAt C H a dx rd md td xs ad N ys g ts) : a ≠ md := fun e => by have := M.ob; rw [e, M.mat] at this; cases this
theorem MAt.at' (M : MAt C H a dx rd md td xs ad N ys g ts) : a ≠ td := fun e => by have := M.ob; rw [e, M.tri] at this; cases this
theorem MAt.keep (M : MAt C H a dx rd md td xs ad N ys g ts) (k : Kept2 md td H H') (hm : H' md = some (.dK (tab ys' fun y => .int (g' y)))) (ht : H' td = some (.dK (tab ts' fun _ => .bl true))) : MAt C H' a dx rd md td xs ad N ys' g' ts' where
  ob := k _ _ M.am M.at' M.ob
  riv := ⟨k _ _ M.n2 M.n3 M.riv.dict, fun x hx => k _ _ (fun e => by have := M.riv.rows x hx; rw [e, M.mat] at this; cases this) (fun e => by have := M.riv.rows x hx; rw [e, M.tri] at this; cases this) (M.riv.rows x hx), M.riv.nd, M.riv.inj⟩
  mat := hm
  tri := ht
  n1 := M.n1
  n2 := M.n2
  n3 := M.n3
theorem MAt.more (M : MAt C H a dx rd md td xs ad N ys g ts) (s : Same H H') : MAt C H' a dx rd md td xs ad N ys g ts := M.keep (Kept2.same s) (s _ _ M.mat) (s _ _ M.tri)
theorem MAt.try (M : MAt C H a dx rd md td xs ad N ys g ts) {y : Int} (hy : y ∉ ts) : MAt C (upd H td (.dK (putK (tab ts fun _ => .bl true) (Sum.inl y) (.bl true)))) a dx rd md td xs ad N ys g (ts ++ [y]) := by
  refine M.keep Kept2.atT (by rw [upd_ne M.n1]; exact M.mat) ?_
  rw [upd_same, tab_put]
  unfold addK
  rw [if_neg hy]
  congr 2
  exact tab_congr fun z _ => by split <;> rfl
theorem MAt.match' (M : MAt C H a dx rd md td xs ad N ys g ts) (y x : Int) : MAt C (upd H md (.dK (putK (tab ys fun y => .int (g y)) (Sum.inl y) (.int x)))) a dx rd md td xs ad N (addK ys y) (fun z => if z = y then x else g z) ts := by
  refine M.keep Kept2.atM ?_ (by rw [upd_ne M.n1.symm]; exact M.tri)
  rw [upd_same, tab_put]
  congr 2
  refine tab_congr fun z _ => ?_
  by_cases e : z = y
  · rw [if_pos e, if_pos e]
  · rw [if_neg e, if_neg e]
/-- what the numbers of a matcher are -/
structure Fine (xs : List Int) (N : Int → List Int) (ys : List Int) (g : Int → Int) (ts : List Int) : Prop where
  n12 : ∀ x ∈ xs, ∀ y ∈ N x, In12 y
  few : ∀ x ∈ xs, (N x).length ≤ 64
  gy : ∀ y ∈ ys, g y ∈ xs
  y12 : ∀ y ∈ ys, In12 y
  ndy : ys.Nodup
  t12 : ∀ y ∈ ts, In12 y
  ndt : ts.Nodup
theorem Fine.tried (f : Fine xs N ys g ts) {y : Int} (hy : In12 y) (hn : y ∉ ts) : Fine xs N ys g (ts ++ [y]) :=
  { f with
    t12 := fun z hz => (List.mem_append.mp hz).elim (f.t12 z) (fun h => by rw [List.mem_singleton.mp h]; exact hy)
    ndt := nd_snoc f.ndt hn }
theorem Fine.matched (f : Fine xs N ys g ts) {x y : Int} (hx : x ∈ xs) (hy : In12 y) : Fine xs N (addK ys y) (fun z => if z = y then x else g z) ts :=
  { f with
    gy := fun z hz => by
      show (if z = y then x else g z) ∈ xs
      by_cases e : z = y
      · rw [if_pos e]; exact hx
      · rw [if_neg e]; exact f.gy z ((mem_addK.mp hz).elim id (fun h => (e h).elim))
    y12 := fun z hz => (mem_addK.mp hz).elim (f.y12 z) (fun h => by rw [h]; exact hy)
    ndy := nd_addK f.ndy }
end
def sp_find (C : Addr) (d : Nat) : Sp := fun vs H Q _ => ∃ (a dx rd md td : Addr) (x : Int) (xs : List Int) (ad : Int → Addr) (N : Int → List Int) (ys : List Int) (g : Int → Int) (ts : List Int),
  vs = [.ref a, .int x] ∧ MAt C H a dx rd md td xs ad N ys g ts ∧ x ∈ xs ∧ Fine xs N ys g ts ∧ Ready (mOf ys g) (· ∈ ts) x ∧ free ts ≤ d ∧
  (∀ (H' : Hp) (ts' : List Int), Kept2 md td H H' → MAt C H' a dx rd md td xs ad N ys g ts' → Fine xs N ys g ts' → Failed N (mOf ys g) (· ∈ ts) (· ∈ ts') x → Q (.bl false) H') ∧
  (∀ (H' : Hp) (ys' : List Int) (g' : Int → Int) (ts' : List Int), Kept2 md td H H' → MAt C H' a dx rd md td xs ad N ys' g' ts' → Fine xs N ys' g' ts' → Found N (mOf ys g) (mOf ys' g') (· ∈ ts) x → Q (.bl true) H')
end My
set_option Elab.async false
set_option linter.all false
set_option maxRecDepth 100000
namespace My
open PySem PySem.Spec PyProof.Rows L2
def ltP (p q : Int × Int) : Prop := p.1 < q.1 ∨ (p.1 = q.1 ∧ p.2 < q.2)
/-- from x no way by turns leads to a y without a partner -/
def DeadE (E F : List (Int × Int)) (x : Int) : Prop := ∃ T : Int → Prop, (∀ y, T y → ∃ x', (x', y) ∈ F ∧ ∀ z, (x', z) ∈ E → T z) ∧ ∀ z, (x, z) ∈ E → T z
structure Maxi (E F : List (Int × Int)) : Prop where
  sub : ∀ p ∈ F, p ∈ E
  n1 : (F.map (·.1)).Nodup
  n2 : (F.map (·.2)).Nodup
  dead : ∀ x y, (x, y) ∈ E → x ∉ F.map (·.1) → DeadE E F x
theorem perm_map_ex {α β : Type} {f : α → β} {ys zs : List β} (h : ys.Perm zs) : ∀ l : List α, zs = l.map f → ∃ l' : List α, l'.Perm l ∧ l'.map f = ys := by
  induction h with
  | nil => intro l e; cases l with
    | nil => exact ⟨[], .nil, rfl⟩
    | cons a r => cases e
  | cons x h ih =>
    intro l e
    cases l with
    | nil => cases e
    | cons a r =>
      injection e with e1 e2
      obtain ⟨l', p, e3⟩ := ih r e2
      exact ⟨a :: l', p.cons a, by rw [List.map_cons, e3, e1]⟩
  | swap x y r =>
    intro l e
    cases l with
    | nil => cases e
    | cons a l =>
      injection e with e1 e2
      cases l with
      | nil => cases e2
      | cons b l =>
        injection e2 with e2 e3
        exact ⟨b :: a :: l, .swap a b l, by rw [List.map_cons, List.map_cons, e1, e2, e3]⟩
  | trans h1 h2 ih1 ih2 =>
    intro l e
    obtain ⟨l2, p2, e2⟩ := ih2 l e
    obtain ⟨l1, p1, e1⟩ := ih1 l2 e2.symm
    exact ⟨l1, p1.trans p2, e1⟩
theorem nodup_map {α β : Type} {f : α → β} : ∀ {l : List α}, l.Nodup → (∀ a ∈ l, ∀ b ∈ l, f a = f b → a = b) → (l.map f).Nodup
  | [], _, _ => List.nodup_nil
  | a :: r, nd, h => by
    obtain ⟨n1, n2⟩ := List.nodup_cons.mp nd
    refine List.nodup_cons.mpr ⟨fun hm => ?_, nodup_map n2 fun b hb c hc => h b (List.mem_cons_of_mem _ hb) c (List.mem_cons_of_mem _ hc)⟩
    obtain ⟨b, hb, e⟩ := List.mem_map.mp hm
    exact n1 (h a List.mem_cons_self b (List.mem_cons_of_mem _ hb) e.symm ▸ hb)
theorem maxi_of {E F : List (Int × Int)} {xs : List Int} {N : Int → List Int} {ys : List Int} {g : Int → Int} {ts : List Int} (gr : Graph (fun x y => (x, y) ∈ E) xs N 64) (f : Fine xs N ys g ts) (M : Mat N (mOf ys g) xs) (p : F.Perm (ys.map fun y => (g y, y))) : Maxi E F := by
  have mem : ∀ x y, (x, y) ∈ F ↔ y ∈ ys ∧ g y = x := fun x y => by
    rw [p.mem_iff, List.mem_map]
    constructor
    · rintro ⟨z, hz, e⟩
      injection e with e1 e2
      subst e2
      exact ⟨hz, e1⟩
    · rintro ⟨h, e⟩
      exact ⟨y, h, by rw [e]⟩
  have one : ∀ x y, (x, y) ∈ F → mOf ys g y = some x := fun x y h => by
    obtain ⟨h1, h2⟩ := (mem x y).mp h
    rw [mOf_at h1, h2]
  have back : ∀ x y, mOf ys g y = some x → (x, y) ∈ F := fun x y h => by
    by_cases hy : y ∈ ys
    · rw [mOf_at hy] at h
      exact (mem x y).mpr ⟨hy, Option.some.inj h⟩
    · rw [mOf_no hy] at h; cases h
  refine ⟨fun q hq => ?_, ?_, ?_, fun x y hxy hx => ?_⟩
  · have := one q.1 q.2 hq
    exact (gr.ed q.1 q.2).mpr ⟨M.vs _ _ this, M.ed _ _ this⟩
  · rw [(p.map (·.1)).nodup_iff, List.map_map]
    exact nodup_map f.ndy fun a ha b hb e => M.inj a b (g a) (mOf_at ha) (by rw [mOf_at hb]; exact congrArg some e.symm)
  · rw [(p.map (·.2)).nodup_iff, List.map_map]
    exact nodup_map f.ndy fun a _ b _ e => e
  · have hxs := ((gr.ed x y).mp hxy).1
    rcases M.dead x hxs with ⟨a, ha⟩ | ⟨T, hT, hN⟩
    · exact (hx (List.mem_map.mpr ⟨(x, a), back x a ha, rfl⟩)).elim
    · refine ⟨T, fun b hb => ?_, fun z hz => hN z ((gr.ed x z).mp hz).2⟩
      obtain ⟨x', e, h'⟩ := hT b hb
      exact ⟨x', back x' b e, fun z hz => h' z ((gr.ed x' z).mp hz).2⟩
theorem dead_step {E F : List (Int × Int)} {x y : Int} (h : DeadE E F x) (hy : (x, y) ∈ E) : ∃ x', (x', y) ∈ F ∧ DeadE E F x' := by
  obtain ⟨T, hT, hx⟩ := h
  obtain ⟨x', e, h'⟩ := hT y (hx y hy)
  exact ⟨x', e, T, hT, h'⟩
end My
set_option Elab.async false
set_option linter.all false
set_option maxRecDepth 100000
namespace My
open PySem PySem.Spec PyProof.Rows L2
section
variable {P : Program} {w : World} {A : Around} {E : Value → Shared → Prop} {s : Shared}
/-- a new set, as it is made -/
def set0 (w : World) : Obj := { cls := .type "set", dict := none, data := .set #[] 0 (.fresh 0 0 (!w.params.followText "set-order")) }
set_option maxHeartbeats 3200000 in
theorem set_pre {x : Value} {D : Heap → Prop} {Q : Value → Shared → Prop}
    (hin : ∀ R : Result → Shared → Prop, (∀ (h' : Heap) (tk : Nat), D h' → R (.ok (.ret .none)) { s with heap := h', toks := tk }) →
      wpAny (model P w) A.in1.in1 (Builtin.«set.__init__» { pos := [.ref s.heap.objs.size, x] }) (fun fin s' => match fin with
        | .done f => R (.ok f) s'
        | .again c' => c'.quiet = true ∧ codeAny (model P w) A.in1 c' R s') (fun e s' => R (.error e) s') { s with heap := s.heap.push (set0 w) })
    (h : ∀ (h' : Heap) (tk : Nat), D h' → Q (.ref s.heap.objs.size) { s with heap := h', toks := tk }) :
    wpAny (model P w) A (call (.type "set") [x]) Q E s := by
  obtain ⟨_, _, mro⟩ := F.called_set.mro
  have q1 := F.called_set.made
  have q2 := F.called_set.sub
  have q3 := F.called_set.notType
  have q4 := F.called_set.canCreate
  have q5 := F.typeCall_set_1 x
  refine wpAny_call (codeAny_of_tree ?_)
  change wpAny _ _ (callAny (.type "set") _) _ _ _
  refine wpAny_pure ⟨Code.quiet_builtin _ (by decide +kernel), ?_⟩
  refine codeAny_builtin F.entry_type_call ?_
  rw [Around.under_plain (weight_type_call_type "set" [x] []) rfl]
  repeat (any_goals (first | assumption | wp_step))
  refine codeAny_mono (code_set_led1 x (E := E) (Q₁ := fun o s1 => o = .ref s.heap.objs.size ∧ s1 = { s with heap := s.heap.push (set0 w) }) ⟨rfl, rfl⟩) ?_
  rintro (e | fl) s1 hr
  · exact hr
  · cases fl with
    | ret o =>
      obtain ⟨rfl, rfl⟩ := hr
      have g0 : (s.heap.push (set0 w)).get? s.heap.objs.size = some (set0 w) := Heap.get?_push_size _ rfl
      have ty : Shared.TypeIs { s with heap := s.heap.push (set0 w) } (.ref s.heap.objs.size) "set" := ⟨_, g0, rfl⟩
      have q6 := F.called_set.init.lookup
      have q7 := F.called_set.init.bind (.ref s.heap.objs.size)
      repeat (any_goals (first | assumption | wp_step))
      refine codeAny_mono (codeAny_call_builtin (R := wants (fun r s2 => r = .none ∧ ∃ h' tk, s2 = { s with heap := h', toks := tk } ∧ D h') E) F.called_set.init.plain F.entry_set_init (check_set_init_1 ty ?_)) ?_
      · exact hin _ fun h' tk d => ⟨rfl, h', tk, rfl, d⟩
      · rintro (e | fl) s2 hr2
        · exact hr2
        · cases fl with
          | ret r =>
            obtain ⟨rfl, h', tk, rfl, hd⟩ := hr2
            repeat (any_goals (first | assumption | wp_step))
            exact h _ _ hd
          | _ => exact hr2.elim
    | _ => exact hr.elim
theorem none_beyond {h : Heap} {b : Addr} (hb : h.objs.size ≤ b) : h.get? b = none := by
  cases q : h.get? b with
  | none => rfl
  | some o => exact absurd (Nat.lt_of_lt_of_le (Heap.lt_size q) hb) (Nat.lt_irrefl _)
set_option maxHeartbeats 3200000 in
/-- set(xs) of a list of ints, with its order led -/
theorem set_listI {l : Addr} {items : Array Value} (ns : List Int) {Q : Value → Shared → Prop} (hh : A.handled = none) (hl : s.heap.IsList l items) (hit : IntsAre items.toList ns) (few : ns.length + 1 < scanBound)
    (h : ∀ (h' : Heap) (tk c : Nat), SetR w h' s.heap.objs.size (fun j => decide (j ∈ ns)) c → c ≤ ns.length → (∀ b o, s.heap.get? b = some o → h'.get? b = some o) → Q (.ref s.heap.objs.size) { s with heap := h', toks := tk }) :
    wpAny (model P w) A (call (.type "set") [.ref l]) Q E s := by
  have many : items.size = ns.length := by
    rw [← IntsAre.length hit, Array.length_toList]
  refine set_pre (D := fun h' => ∃ c, SetR w h' s.heap.objs.size (fun j => decide (j ∈ ns)) c ∧ c ≤ ns.length ∧ ∀ b o, s.heap.get? b = some o → h'.get? b = some o) (fun R hR => ?_) (fun h' tk ⟨c, a1, a2, a3⟩ => h h' tk c a1 a2 a3)
  obtain ⟨⟨cls, dict, data, slots⟩, at_l, hcl, nl, hdl⟩ := hl
  simp only at hcl hdl
  subst hcl; subst hdl
  have at2 : (s.heap.push (set0 w)).get? l = some { cls := .type "list", dict := dict, data := .seq items nl, slots := slots } := Heap.get?_push_of_some _ at_l
  have k1 := F.sub_list_set
  have k2 := F.sub_list_frozenset
  have k3 : (Value.type "list" == Value.type "dict") = false := by decide
  have isl : (s.heap.push (set0 w)).IsList l items := ⟨_, at2, rfl, nl, rfl⟩
  unfold Builtin.«set.__init__» noKeywords Builtin.Frozenset.updateFrom
  generalize ePI : pyIter = PI
  wp_walk
  subst ePI
  refine wpAny_pyIter_list isl (wpAny_bind (wpAny_runValue ?_))
  have lS : l < s.heap.objs.size := Heap.lt_size at_l
  have l1 : l ≠ (s.heap.push (set0 w)).objs.size := by rw [Heap.size_push]; exact Nat.ne_of_lt (Nat.lt_succ_of_lt lS)
  have l2 : s.heap.objs.size ∉ [(s.heap.push (set0 w)).objs.size, l] := by
    rw [Heap.size_push]
    intro z
    rcases List.mem_cons.mp z with z | z
    · exact Nat.ne_of_lt (Nat.lt_succ_self _) z
    · exact Nat.ne_of_gt lS (List.mem_singleton.mp z)
  refine set_update_ints ((Walks.list (by simp [hh]) _ l l1 items).toS) s.heap.objs.size l2 ns many few (fun i v hv => ?_) (items.size - 0) 0 _ (by omega) (Nat.zero_le _) ⟨⟨_, Heap.get?_push_size _ rfl, rfl, rfl⟩, isl.push _⟩ ⟨0, Nat.le_refl 0, setR_new_at (Heap.get?_push_of_some _ (Heap.get?_push_size _ rfl))⟩ ?_
  · have hi : i < ns.length := by rw [← many]; exact (Array.getElem?_eq_some_iff.mp hv).1
    obtain ⟨t, e⟩ := IntsAre.int_at hit i v (by rw [Array.getElem?_toList]; exact hv)
    refine ⟨ns[i], t, List.getElem?_eq_getElem hi, ?_⟩
    rw [e, List.getD_eq_getElem?_getD, List.getElem?_eq_getElem hi]
    rfl
  · rintro ⟨h', g2, d2, tk', os'⟩ c mv hc hS
    have eg : g2 = s.gens := mv.gens
    have ed : d2 = s.drawn := mv.drawn
    have eo : os' = s.os := mv.os
    subst eg; subst ed; subst eo
    refine wpAny_pure (wpAny_pure (hR h' tk' ⟨c, hS, by omega, fun b o e => ?_⟩))
    have b0 : b < s.heap.objs.size := Heap.lt_size e
    refine mv.heap b o (fun z => ?_) (Heap.get?_push_of_some _ (Heap.get?_push_of_some _ e))
    rw [Heap.size_push] at z
    rcases List.mem_cons.mp z with z | z
    · exact Nat.ne_of_lt b0 z
    · exact Nat.ne_of_lt (Nat.lt_succ_of_lt b0) (List.mem_singleton.mp z)
set_option maxHeartbeats 3200000 in
/-- set(t) of a tuple of tuples of ints -/
theorem set_tupT {l : Addr} {items : Array Value} (ks : List (Addr × List Int)) {Q : Value → Shared → Prop} (hh : A.handled = none) (hl : s.heap.IsTuple l items) (hit : items.toList = ks.map fun p => Value.ref p.1)
    (hk : ∀ p ∈ ks, IsTupleKey (intKind P w) s.heap p.2 p.1) (few : ks.length < 64) (hu : A.units + 3 < cLine)
    (h : ∀ (h' : Heap) (tk : Nat) L es ep t, SetTR P w h' s.heap.objs.size L es ep t → Got ks ks.length L → (∀ b o, s.heap.get? b = some o → h'.get? b = some o) → Q (.ref s.heap.objs.size) { s with heap := h', toks := tk }) :
    wpAny (model P w) A (call (.type "set") [.ref l]) Q E s := by
  have many : items.size = ks.length := by
    have q := congrArg List.length hit
    rw [Array.length_toList, List.length_map] at q
    exact q
  refine set_pre (D := fun h' => ∃ L es ep t, SetTR P w h' s.heap.objs.size L es ep t ∧ Got ks ks.length L ∧ ∀ b o, s.heap.get? b = some o → h'.get? b = some o) (fun R hR => ?_) (fun h' tk ⟨L, es, ep, t, a1, a2, a3⟩ => h h' tk L es ep t a1 a2 a3)
  obtain ⟨⟨cls, dict, data, slots⟩, at_l, hcl, nl, hdl⟩ := hl
  simp only at hcl hdl
  subst hcl; subst hdl
  have at2 : (s.heap.push (set0 w)).get? l = some { cls := .type "tuple", dict := dict, data := .seq items nl, slots := slots } := Heap.get?_push_of_some _ at_l
  have k1 := F.sub_tuple_set
  have k2 := F.sub_tuple_frozenset
  have k3 : (Value.type "tuple" == Value.type "dict") = false := by decide
  have isl : (s.heap.push (set0 w)).IsTuple l items := ⟨_, at2, rfl, nl, rfl⟩
  unfold Builtin.«set.__init__» noKeywords Builtin.Frozenset.updateFrom
  generalize ePI : pyIter = PI
  wp_walk
  subst ePI
  refine wpAny_pyIter_tuple isl (wpAny_bind (wpAny_runValue ?_))
  have lS : l < s.heap.objs.size := Heap.lt_size at_l
  have l1 : l ≠ (s.heap.push (set0 w)).objs.size := by rw [Heap.size_push]; exact Nat.ne_of_lt (Nat.lt_succ_of_lt lS)
  have l2 : s.heap.objs.size ∉ [(s.heap.push (set0 w)).objs.size, l] := by
    rw [Heap.size_push]
    intro z
    rcases List.mem_cons.mp z with z | z
    · exact Nat.ne_of_lt (Nat.lt_succ_self _) z
    · exact Nat.ne_of_gt lS (List.mem_singleton.mp z)
  refine set_update_tups ((Walks.tuple (by simp [hh]) _ l l1 items).toS) s.heap.objs.size l2 ks many few (fun i v hv => ?_) s.heap hk (none_beyond (Nat.le_refl _)) (fun b hb => none_beyond ?_) hu (items.size - 0) 0 _ (by omega) (Nat.zero_le _) ⟨⟨_, Heap.get?_push_size _ rfl, rfl, rfl⟩, isl.push _⟩ (fun b o e => Heap.get?_push_of_some _ (Heap.get?_push_of_some _ e)) ⟨[], #[], 0, _, setTR_fresh (Heap.get?_push_of_some _ (Heap.get?_push_size _ rfl)), Got.zero ks⟩ ?_
  · have q : items.toList[i]? = some v := by rw [Array.getElem?_toList]; exact hv
    rw [hit, List.getElem?_map] at q
    cases hq : ks[i]? with
    | none => rw [hq] at q; cases q
    | some p => rw [hq] at q; exact ⟨p, rfl, (Option.some.inj q).symm⟩
  · rw [List.mem_singleton.mp hb, Heap.size_push]
    exact Nat.le_succ _
  · rintro ⟨h', g2, d2, tk', os'⟩ L es ep t mv hS got keep
    have eg : g2 = s.gens := mv.gens
    have ed : d2 = s.drawn := mv.drawn
    have eo : os' = s.os := mv.os
    subst eg; subst ed; subst eo
    rw [many] at got
    exact wpAny_pure (wpAny_pure (hR h' tk' ⟨L, es, ep, t, hS, got, keep⟩))
end
end My
set_option Elab.async false
set_option linter.all false
set_option maxRecDepth 100000
namespace My
open PySem PySem.Spec PyProof.Rows L2
section
variable {X : Cx}
/-- set(xs), xs a list of ints -/
def rSetOfI (K : PySem.W.Frag) (w : World) : List V → Hp → VK → Prop := fun xs H Q => ∃ (l : Addr) (ns : List Int), xs = [V.ref l] ∧ SqL K H l (ns.map V.int) ∧ ns.length ≤ 1000 ∧
  ∀ a c, H a = none → c ≤ ns.length → Q (.ref a) (upd H a (SetO w a (fun j => decide (j ∈ ns)) c))
theorem cr_setOfI (hc : X.calm = true) : CallR X (.type "set") (rSetOfI X.K X.w) := by
  intro pins s σ H xs us Q I r h
  obtain ⟨l, ns, rfl, hl, few, q⟩ := h
  rw [Vals.ref1 r]
  obtain ⟨its, rv, pl, hz⟩ := I.list hl
  refine set_listI ns (I.ok.hd hc) pl.isList (by simpa using rv.ints) (by unfold scanBound; omega) fun h' tk c R hcl k => ?_
  exact ⟨.ref s.heap.objs.size, upd H _ (SetO X.w _ _ c), I.laid (t' := tk) k (Nat.le_refl _) (setO_new R), rfl, q _ c (I.hok.fresh (Nat.le_refl _)) hcl⟩
/-- set(t), t a tuple of tuples of ints -/
def rSetOfTT (K : PySem.W.Frag) (P : Program) (w : World) : List V → Hp → VK → Prop := fun xs H Q => ∃ (l : Addr) (ks : List (Addr × List Int)), xs = [V.ref l] ∧ SqT K H l (ks.map fun p => V.ref p.1) ∧
  (∀ p ∈ ks, SqT K H p.1 (p.2.map V.int)) ∧ ks.length < 64 ∧
  ∀ a L, H a = none → (∀ p ∈ L, p ∈ ks) → (∀ p ∈ ks, p.2 ∈ L.map (·.2)) → Q (.ref a) (upd H a (SetTO P w a L))
theorem cr_setOfTT (hc : X.calm = true) (hu : X.A.units + 64 < cLine) : CallR X (.type "set") (rSetOfTT X.K X.prog X.w) := by
  intro pins s σ H xs us Q I r h
  obtain ⟨l, ks, rfl, hl, hk, few, q⟩ := h
  rw [Vals.ref1 r]
  obtain ⟨its, rv, pl, hz⟩ := I.tuple hl
  refine set_tupT (P := X.prog) (w := X.w) ks (I.ok.hd hc) pl (by simpa using refs_of_vals rv) (fun p hp => I.isT (hk p hp)) few (by omega) fun h' tk L es ep t R g k => ?_
  refine ⟨.ref s.heap.objs.size, upd H _ (SetTO X.prog X.w _ L), I.laid (t' := tk) k (Nat.le_refl _) (setTO_new R.t0), rfl, q _ L (I.hok.fresh (Nat.le_refl _)) (fun p hp => List.mem_of_mem_take (g.sub p hp)) fun p hp => g.all p ?_⟩
  rw [List.take_length]; exact hp
end
end My
set_option Elab.async false
set_option linter.all false
set_option maxRecDepth 100000
namespace My
open PySem PySem.Spec PyProof.Rows L2
/-- data: pairs of ints -/
def pd (p : Int × Int) : PyData := .tuple [.int p.1, .int p.2]
theorem dp_pr {K : PySem.W.Frag} {H : Hp} {q : Addr × Int × Int} (h : Pr H q) : Dp K H (.ref q.1) (pd q.2) := .tup (SqT.of h) (.cons (.int _) (.cons (.int _) .nil))
theorem dp_prAll {K : PySem.W.Frag} {H : Hp} : ∀ {ps : List (Addr × Int × Int)}, (∀ q ∈ ps, Pr H q) → DpAll K H (ps.map fun q => V.ref q.1) ((ps.map (·.2)).map pd)
  | [], _ => .nil
  | q :: r, h => .cons (dp_pr (h q List.mem_cons_self)) (dp_prAll fun z hz => h z (List.mem_cons_of_mem _ hz))
theorem dp_prs {K : PySem.W.Frag} {H : Hp} {l : Addr} {ps : List (Addr × Int × Int)} (h : Prs H l ps) : Dp K H (.ref l) (.list ((ps.map (·.2)).map pd)) := .lst (SqL.of h.1) (dp_prAll h.2)
theorem dp_prsT {K : PySem.W.Frag} {H : Hp} {l : Addr} {ps : List (Addr × Int × Int)} (h : PrsT H l ps) : Dp K H (.ref l) (.tuple ((ps.map (·.2)).map pd)) := .tup (SqT.of h.1) (dp_prAll h.2)
theorem can_pd (l : List (Int × Int)) : PyData.canLayAll0 (l.map pd) = true ∧ PyData.depthAll (l.map pd) ≤ 1 := by
  induction l with
  | nil => exact ⟨rfl, Nat.zero_le _⟩
  | cons p r ih =>
    refine ⟨?_, ?_⟩
    · show (true && PyData.canLayAll0 (r.map pd)) = true
      rw [ih.1]; rfl
    · show max (max 0 (max 0 0) + 1) (PyData.depthAll (r.map pd)) ≤ 1
      have := ih.2
      omega
theorem shaped_pd (l : List (Int × Int)) : SeqAt.shaped (.list (l.map pd)) = true := by
  unfold SeqAt.shaped
  rw [Bool.and_eq_true]
  refine ⟨(can_pd l).1, decide_eq_true ?_⟩
  show PyData.depthAll (l.map pd) + 1 ≤ 64
  have := (can_pd l).2
  omega
theorem shaped_pdT (l : List (Int × Int)) : SeqAt.shaped (.tuple (l.map pd)) = true := by
  unfold SeqAt.shaped
  rw [Bool.and_eq_true]
  refine ⟨(can_pd l).1, decide_eq_true ?_⟩
  show PyData.depthAll (l.map pd) + 1 ≤ 64
  have := (can_pd l).2
  omega
theorem shaped_pd1 (p : Int × Int) : SeqAt.shaped (pd p) = true := by
  unfold SeqAt.shaped
  rw [Bool.and_eq_true]
  exact ⟨rfl, decide_eq_true (show max 0 (max 0 0) + 1 ≤ 64 by decide)⟩
theorem eqv_of {d : PyData} (h : SeqAt.shaped d = true) : PyData.eqv d d = true := SeqAt.eqv_refl d (SeqAt.canLay_of_shaped h)
theorem eqv_pd (p q : Int × Int) : PyData.eqv (pd p) (pd q) = decide (p = q) := by
  show ((p.1 == q.1) && ((p.2 == q.2) && true)) = _
  rw [Bool.and_true]
  obtain ⟨a, b⟩ := p
  obtain ⟨c, d⟩ := q
  by_cases h : a = c
  · by_cases h2 : b = d
    · simp [h, h2]
    · simp [h2]
  · simp [h]
theorem any_pd (l : List (Int × Int)) (p : Int × Int) : ((l.map pd).any fun z => PyData.eqv z (pd p)) = decide (p ∈ l) := by
  rw [List.any_map]
  by_cases h : p ∈ l
  · rw [decide_eq_true h]
    exact List.any_eq_true.mpr ⟨p, h, by show PyData.eqv (pd p) (pd p) = true; rw [eqv_pd, decide_eq_true rfl]⟩
  · rw [decide_eq_false h]
    refine List.any_eq_false.mpr fun q hq e => ?_
    have e : PyData.eqv (pd q) (pd p) = true := e
    rw [eqv_pd] at e
    exact h (of_decide_eq_true e ▸ hq)
theorem eqv_nilI (l : List (Int × Int)) : PyData.eqv (.list (l.map pd)) (.list []) = l.isEmpty := by
  cases l with
  | nil => rfl
  | cons y r => rfl
theorem sorted_eq {α : Type} {R : α → α → Prop} (as : ∀ a b, R a b → ¬ R b a) : ∀ l1 l2 : List α, l1.Pairwise R → l2.Pairwise R → (∀ x, x ∈ l1 ↔ x ∈ l2) → l1 = l2
  | [], [], _, _, _ => rfl
  | [], b :: r, _, _, h => nomatch (h b).mpr List.mem_cons_self
  | a :: r, [], _, _, h => nomatch (h a).mp List.mem_cons_self
  | a :: r1, b :: r2, p1, p2, h => by
    obtain ⟨q1, w1⟩ := List.pairwise_cons.mp p1
    obtain ⟨q2, w2⟩ := List.pairwise_cons.mp p2
    have e : a = b := by
      rcases List.mem_cons.mp ((h a).mp List.mem_cons_self) with e | ha
      · exact e
      · rcases List.mem_cons.mp ((h b).mpr List.mem_cons_self) with e | hb
        · exact e.symm
        · exact (as _ _ (q1 b hb) (q2 a ha)).elim
    subst e
    rw [sorted_eq as r1 r2 w1 w2 fun x => ⟨fun hx => ?_, fun hx => ?_⟩]
    · rcases List.mem_cons.mp ((h x).mp (List.mem_cons_of_mem _ hx)) with e | h'
      · exact (as _ _ (q1 x hx) (e ▸ q1 x hx)).elim
      · exact h'
    · rcases List.mem_cons.mp ((h x).mpr (List.mem_cons_of_mem _ hx)) with e | h'
      · exact (as _ _ (q2 x hx) (e ▸ q2 x hx)).elim
      · exact h'
theorem ltP_asym (a b : Int × Int) (h : ltP a b) : ¬ ltP b a := by
  unfold ltP at *
  omega
def asInts (ps : List (Addr × Int × Int)) : List (Addr × List Int) := ps.map fun q => (q.1, [q.2.1, q.2.2])
theorem asInts_mem {ps : List (Addr × Int × Int)} {p : Addr × List Int} (h : p ∈ asInts ps) : ∃ x y, (p.1, x, y) ∈ ps ∧ p.2 = [x, y] := by
  obtain ⟨q, hq, e⟩ := List.mem_map.mp h
  subst e
  exact ⟨q.2.1, q.2.2, hq, rfl⟩
theorem asInts_of {ps : List (Addr × Int × Int)} : ∀ L : List (Addr × List Int), (∀ g ∈ L, g ∈ asInts ps) → ∃ qs, L = asInts qs ∧ ∀ q ∈ qs, q ∈ ps
  | [], _ => ⟨[], rfl, fun _ h => nomatch h⟩
  | g :: r, h => by
    obtain ⟨qs, e, hs⟩ := asInts_of r fun z hz => h z (List.mem_cons_of_mem _ hz)
    obtain ⟨q, hq, eq⟩ := List.mem_map.mp (h g List.mem_cons_self)
    refine ⟨q :: qs, by rw [e, ← eq]; rfl, fun z hz => ?_⟩
    rcases List.mem_cons.mp hz with e | h'
    · rw [e]; exact hq
    · exact hs z h'
/-- what sorted(set(ps)) gives: the pairs, ascending -/
theorem sorted_pairs {ps qs : List (Addr × Int × Int)} {L : List (Addr × List Int)} (sm : Sm12 ps) (sub : ∀ q ∈ qs, q ∈ ps) (perm : (asInts qs).Perm L) (all : ∀ p ∈ asInts ps, p.2 ∈ L.map (·.2)) (nd : ((asInts qs).map (·.2)).Nodup)
    (pw : (asInts qs).Pairwise (fun q r => TS.code 64 q.2 ≤ TS.code 64 r.2)) : (qs.map (·.2)).Pairwise ltP ∧ ∀ x, x ∈ qs.map (·.2) ↔ x ∈ ps.map (·.2) := by
  refine ⟨?_, fun x => ⟨fun h => ?_, fun h => ?_⟩⟩
  · refine List.pairwise_map.mpr ?_
    unfold asInts at nd pw
    rw [List.map_map] at nd
    have n2 := List.pairwise_map.mp nd
    have p2 := List.pairwise_map.mp pw
    refine List.Pairwise.imp_of_mem (fun {a b} ha hb h => ?_) (List.Pairwise.and p2 n2)
    obtain ⟨⟨x0, x1⟩, y0, y1⟩ := sm a (sub a ha)
    obtain ⟨⟨x2, x3⟩, y2, y3⟩ := sm b (sub b hb)
    exact pair_lt h.1 h.2 ⟨x0, by omega⟩ ⟨y0, by omega⟩ ⟨x2, by omega⟩ ⟨y2, by omega⟩
  · obtain ⟨q, hq, e⟩ := List.mem_map.mp h
    exact List.mem_map.mpr ⟨q, sub q hq, e⟩
  · obtain ⟨q, hq, e⟩ := List.mem_map.mp h
    have := all (q.1, [q.2.1, q.2.2]) (List.mem_map.mpr ⟨q, hq, rfl⟩)
    obtain ⟨g, hg, eg⟩ := List.mem_map.mp ((perm.map (·.2)).mem_iff.mpr this)
    obtain ⟨u, hu, eu⟩ := List.mem_map.mp hg
    rw [← eu] at eg
    injection eg with e1 e2
    injection e2 with e2 _
    refine List.mem_map.mpr ⟨u, hu, ?_⟩
    rw [← e]
    exact Prod.ext e1 e2
theorem asInts_refs (ps : List (Addr × Int × Int)) : (asInts ps).map (fun q => V.ref q.1) = ps.map fun q => V.ref q.1 := by
  unfold asInts
  rw [List.map_map]
  rfl
theorem Room.u65 {k : Nat} {A : Around} (r : Room k A) : A.units + 65 < cLine := by have := r.un; omega
end My
set_option Elab.async false
set_option linter.all false
/-! Covers and matchings: as many claims as conflicts (Nu), the least cover found claim by claim (greedy), what is left of it behind its first claim. Pure. -/
namespace My
/-- a claim: the slot, and whether it is the shipped side -/
abbrev Cl := Int × Bool
def bears (e : Int × Int) (c : Cl) : Bool := if c.2 = true then decide (e.2 = c.1) else decide (e.1 = c.1)
theorem bears_own {e : Int × Int} {x : Int} : bears e (x, false) = true ↔ e.1 = x := by simp [bears]
theorem bears_shp {e : Int × Int} {y : Int} : bears e (y, true) = true ↔ e.2 = y := by simp [bears]
def outOf (E : List (Int × Int)) (c : Cl) : List (Int × Int) := E.filter fun e => !bears e c
theorem mem_out {E : List (Int × Int)} {c : Cl} {e : Int × Int} : e ∈ outOf E c ↔ e ∈ E ∧ bears e c = false := by
  unfold outOf
  rw [List.mem_filter, Bool.not_eq_true']
def Cov (E : List (Int × Int)) (C : List Cl) : Prop := ∀ e ∈ E, ∃ c ∈ C, bears e c = true
structure IsM (E P : List (Int × Int)) : Prop where
  sub : ∀ p ∈ P, p ∈ E
  n1 : (P.map (·.1)).Nodup
  n2 : (P.map (·.2)).Nodup
theorem sub_len {α : Type} [DecidableEq α] : ∀ (l D : List α), l.Nodup → (∀ x ∈ l, x ∈ D) → l.length ≤ D.length
  | [], D, _, _ => Nat.zero_le _
  | a :: r, D, nd, hs => by
    obtain ⟨n1, n2⟩ := List.nodup_cons.mp nd
    have ha : a ∈ D := hs a List.mem_cons_self
    have := sub_len r (D.erase a) n2 (fun x hx => (List.mem_erase_of_ne (fun e : x = a => n1 (e ▸ hx))).mpr (hs x (List.mem_cons_of_mem _ hx)))
    rw [List.length_erase_of_mem ha] at this
    have hp : 0 < D.length := List.length_pos_of_mem ha
    rw [List.length_cons]
    omega
theorem uniq1 {F : List (Int × Int)} (nd : (F.map (·.1)).Nodup) : ∀ a ∈ F, ∀ b ∈ F, a.1 = b.1 → a = b := by
  induction F with
  | nil => intro a h; exact nomatch h
  | cons z r ih =>
    obtain ⟨n1, n2⟩ := List.nodup_cons.mp nd
    intro a ha b hb e
    rcases List.mem_cons.mp ha with ea | ha
    · rcases List.mem_cons.mp hb with eb | hb
      · rw [ea, eb]
      · exact (n1 (List.mem_map.mpr ⟨b, hb, by rw [← e, ea]⟩)).elim
    · rcases List.mem_cons.mp hb with eb | hb
      · exact (n1 (List.mem_map.mpr ⟨a, ha, by rw [e, eb]⟩)).elim
      · exact ih n2 a ha b hb e
theorem uniq2 {F : List (Int × Int)} (nd : (F.map (·.2)).Nodup) : ∀ a ∈ F, ∀ b ∈ F, a.2 = b.2 → a = b := by
  induction F with
  | nil => intro a h; exact nomatch h
  | cons z r ih =>
    obtain ⟨n1, n2⟩ := List.nodup_cons.mp nd
    intro a ha b hb e
    rcases List.mem_cons.mp ha with ea | ha
    · rcases List.mem_cons.mp hb with eb | hb
      · rw [ea, eb]
      · exact (n1 (List.mem_map.mpr ⟨b, hb, by rw [← e, ea]⟩)).elim
    · rcases List.mem_cons.mp hb with eb | hb
      · exact (n1 (List.mem_map.mpr ⟨a, ha, by rw [e, eb]⟩)).elim
      · exact ih n2 a ha b hb e
theorem nodup_of {α β : Type} {f : α → β} {l : List α} (h : (l.map f).Nodup) : l.Nodup := List.Pairwise.of_map f (fun _ _ hne e => hne (congrArg f e)) h
theorem weak {E P : List (Int × Int)} {C : List Cl} (m : IsM E P) (c : Cov E C) : P.length ≤ C.length := by
  let f : Int × Int → Cl := fun p => if (p.1, false) ∈ C then (p.1, false) else (p.2, true)
  have fin : ∀ p ∈ P, f p ∈ C := fun p hp => by
    show (if (p.1, false) ∈ C then (p.1, false) else (p.2, true)) ∈ C
    by_cases h : (p.1, false) ∈ C
    · rw [if_pos h]; exact h
    · rw [if_neg h]
      obtain ⟨⟨x, b⟩, hc, hb⟩ := c p (m.sub p hp)
      cases b with
      | false => rw [bears_own.mp hb] at h; exact (h hc).elim
      | true => rw [bears_shp.mp hb]; exact hc
  have inj : ∀ a ∈ P, ∀ b ∈ P, f a = f b → a = b := fun a ha b hb e => by
    have e : (if (a.1, false) ∈ C then (a.1, false) else (a.2, true)) = if (b.1, false) ∈ C then (b.1, false) else (b.2, true) := e
    by_cases h1 : (a.1, false) ∈ C
    · rw [if_pos h1] at e
      by_cases h2 : (b.1, false) ∈ C
      · rw [if_pos h2] at e
        exact uniq1 m.n1 a ha b hb (Prod.mk.inj e).1
      · rw [if_neg h2] at e
        exact nomatch (congrArg Prod.snd e : false = true)
    · rw [if_neg h1] at e
      by_cases h2 : (b.1, false) ∈ C
      · rw [if_pos h2] at e
        exact nomatch (congrArg Prod.snd e : true = false)
      · rw [if_neg h2] at e
        exact uniq2 m.n2 a ha b hb (Prod.mk.inj e).1
  have := sub_len (P.map f) C (nodup_map (nodup_of m.n1) inj) (fun x hx => by obtain ⟨p, hp, e⟩ := List.mem_map.mp hx; rw [← e]; exact fin p hp)
  rwa [List.length_map] at this
/-- n conflicts match, n claims cover -/
def Nu (E : List (Int × Int)) (n : Nat) : Prop := ∃ P C, IsM E P ∧ Cov E C ∧ P.length = n ∧ C.length = n
theorem nu_one {E : List (Int × Int)} {n m : Nat} (h : Nu E n) (g : Nu E m) : n = m := by
  obtain ⟨P, C, a1, a2, a3, a4⟩ := h
  obtain ⟨P', C', b1, b2, b3, b4⟩ := g
  have := weak a1 b2
  have := weak b1 a2
  omega
theorem nu_same {E E' : List (Int × Int)} {n : Nat} (s : ∀ e, e ∈ E ↔ e ∈ E') (h : Nu E n) : Nu E' n := by
  obtain ⟨P, C, a1, a2, a3, a4⟩ := h
  exact ⟨P, C, ⟨fun p hp => (s p).mp (a1.sub p hp), a1.n1, a1.n2⟩, fun e he => a2 e ((s e).mpr he), a3, a4⟩
theorem cov_len {E : List (Int × Int)} {n : Nat} {C : List Cl} (h : Nu E n) (c : Cov E C) : n ≤ C.length := by
  obtain ⟨P, _, a1, _, a3, _⟩ := h
  have := weak a1 c
  omega
theorem mat_len {E P : List (Int × Int)} {n : Nat} (h : Nu E n) (m : IsM E P) : P.length ≤ n := by
  obtain ⟨_, C, _, a2, _, a4⟩ := h
  have := weak m a2
  omega
theorem nu_out {E : List (Int × Int)} {c : Cl} {n n' : Nat} (h : Nu E n) (g : Nu (outOf E c) n') : n' ≤ n ∧ n ≤ n' + 1 := by
  obtain ⟨P', C', b1, b2, b3, b4⟩ := g
  refine ⟨?_, ?_⟩
  · rw [← b3]
    exact mat_len h ⟨fun p hp => (mem_out.mp (b1.sub p hp)).1, b1.n1, b1.n2⟩
  · have : Cov E (c :: C') := fun e he => by
      cases hb : bears e c with
      | true => exact ⟨c, List.mem_cons_self, hb⟩
      | false =>
        obtain ⟨d, hd, hh⟩ := b2 e (mem_out.mpr ⟨he, hb⟩)
        exact ⟨d, List.mem_cons_of_mem _ hd, hh⟩
    have := cov_len h this
    rw [List.length_cons] at this
    omega
theorem nu_nil : Nu [] 0 := ⟨[], [], ⟨(fun _ h => nomatch h), List.nodup_nil, List.nodup_nil⟩, (fun _ h => nomatch h), rfl, rfl⟩
/-- a maximal matching has a cover of its size -/
theorem Maxi.nu {E F : List (Int × Int)} (m : Maxi E F) : Nu E F.length := by
  classical
  let dd : Int → Prop := fun y => ∃ x, DeadE E F x ∧ (x, y) ∈ E
  let f : Int × Int → Cl := fun p => if dd p.2 then (p.2, true) else (p.1, false)
  refine ⟨F, F.map f, ⟨m.sub, m.n1, m.n2⟩, fun e he => ?_, rfl, List.length_map ..⟩
  obtain ⟨x, y⟩ := e
  by_cases hx : DeadE E F x
  · obtain ⟨x', hF, _⟩ := dead_step hx he
    refine ⟨(y, true), List.mem_map.mpr ⟨(x', y), hF, ?_⟩, bears_shp.mpr rfl⟩
    show (if dd y then _ else _) = _
    rw [if_pos ⟨x, hx, he⟩]
  · have hm : x ∈ F.map (·.1) := by
      by_cases h : x ∈ F.map (·.1)
      · exact h
      · exact (hx (m.dead x y he h)).elim
    obtain ⟨⟨x0, y'⟩, hF, e0⟩ := List.mem_map.mp hm
    have e0 : x0 = x := e0
    subst e0
    refine ⟨(x0, false), List.mem_map.mpr ⟨(x0, y'), hF, ?_⟩, bears_own.mpr rfl⟩
    show (if dd y' then _ else _) = _
    rw [if_neg]
    rintro ⟨x1, h1, h2⟩
    obtain ⟨x2, hF2, h3⟩ := dead_step h1 h2
    have := uniq2 m.n2 (x2, y') hF2 (x0, y') hF rfl
    have : x2 = x0 := congrArg Prod.fst this
    rw [this] at h3
    exact hx h3
/-! ### the least cover -/
def ltC (a b : Cl) : Prop := a.1 < b.1 ∨ (a.1 = b.1 ∧ a.2 = false ∧ b.2 = true)
theorem ltC_irr {a : Cl} : ¬ ltC a a := fun h => by
  rcases h with h | ⟨_, h1, h2⟩
  · omega
  · rw [h1] at h2; cases h2
theorem ltC_trans {a b c : Cl} (h : ltC a b) (g : ltC b c) : ltC a c := by
  unfold ltC at *
  rcases h with h | ⟨h1, h2, h3⟩
  · rcases g with g | ⟨g1, g2, g3⟩
    · left; omega
    · left; omega
  · rcases g with g | ⟨g1, g2, g3⟩
    · left; omega
    · rw [h3] at g2; cases g2
theorem ltC_tri (a b : Cl) : ltC a b ∨ a = b ∨ ltC b a := by
  obtain ⟨x, p⟩ := a
  obtain ⟨y, q⟩ := b
  unfold ltC
  rcases Int.lt_trichotomy x y with h | h | h
  · exact .inl (.inl h)
  · subst h
    cases p <;> cases q <;> simp
  · exact .inr (.inr (.inl h))
/-- ahead of, of lists of the same length -/
def lexC : List Cl → List Cl → Prop
  | a :: r, b :: q => ltC a b ∨ (a = b ∧ lexC r q)
  | _, _ => False
theorem lexC_irr : ∀ {l : List Cl}, ¬ lexC l l
  | [], h => h
  | a :: r, h => by
    rcases h with h | ⟨_, h⟩
    · exact ltC_irr h
    · exact lexC_irr h
theorem lexC_asym : ∀ {l m : List Cl}, lexC l m → ¬ lexC m l
  | [], _, h, _ => h
  | a :: r, [], h, _ => h
  | a :: r, b :: q, h, g => by
    rcases h with h | ⟨h1, h⟩
    · rcases g with g | ⟨g1, g⟩
      · exact ltC_irr (ltC_trans h g)
      · rw [g1] at h; exact ltC_irr h
    · rcases g with g | ⟨g1, g⟩
      · rw [h1] at g; exact ltC_irr g
      · exact lexC_asym h g
structure Least (E : List (Int × Int)) (C : List Cl) : Prop where
  cov : Cov E C
  nu : Nu E C.length
  asc : C.Pairwise ltC
  min : ∀ D, D.Pairwise ltC → Cov E D → D.length = C.length → C = D ∨ lexC C D
theorem Least.one {E : List (Int × Int)} {C D : List Cl} (a : Least E C) (b : Least E D) : C = D := by
  have e := nu_one a.nu b.nu
  rcases a.min D b.asc b.cov e.symm with h | h
  · exact h
  · rcases b.min C a.asc a.cov e with g | g
    · exact g.symm
    · exact (lexC_asym h g).elim
theorem Least.same {E E' : List (Int × Int)} {C : List Cl} (s : ∀ e, e ∈ E ↔ e ∈ E') (a : Least E C) : Least E' C :=
  ⟨fun e he => a.cov e ((s e).mpr he), nu_same s a.nu, a.asc, fun D h1 h2 h3 => a.min D h1 (fun e he => h2 e ((s e).mp he)) h3⟩
theorem least_nil : Least [] [] := ⟨(fun _ h => nomatch h), nu_nil, List.Pairwise.nil, fun D _ _ h => by
  cases D with
  | nil => exact .inl rfl
  | cons a r => cases h⟩
/-- every claim of a least list of claims is one of the conflicts' -/
theorem least_claim {E : List (Int × Int)} {n : Nat} {D : List Cl} (h : Nu E n) (c : Cov E D) (e : D.length = n) {d : Cl} (hd : d ∈ D) : ∃ e ∈ E, bears e d = true := by
  by_cases hh : ∃ e ∈ E, bears e d = true
  · exact hh
  · have : Cov E (D.erase d) := fun e he => by
      obtain ⟨c', hc, hb⟩ := c e he
      have : c' ≠ d := fun z => hh ⟨e, he, z ▸ hb⟩
      exact ⟨c', (List.mem_erase_of_ne this).mpr hc, hb⟩
    have := cov_len h this
    rw [List.length_erase_of_mem hd] at this
    have := List.length_pos_of_mem hd
    omega
/-- without d what is left of such a list covers the rest -/
theorem cov_erase {E : List (Int × Int)} {D : List Cl} (c : Cov E D) (d : Cl) : Cov (outOf E d) (D.erase d) := fun e he => by
  obtain ⟨h1, h2⟩ := mem_out.mp he
  obtain ⟨c', hc, hb⟩ := c e h1
  exact ⟨c', (List.mem_erase_of_ne (fun z => by rw [z, h2] at hb; cases hb)).mpr hc, hb⟩
/-- claim by claim: it is taken if the others have a smaller matching -/
def greedy (ν : List (Int × Int) → Nat) : List Cl → List (Int × Int) → Nat → List Cl
  | [], _, _ => []
  | c :: cs, left, n => if ν (outOf left c) < n then c :: greedy ν cs (outOf left c) (n - 1) else greedy ν cs left n
theorem out_comm (E : List (Int × Int)) (c d : Cl) : outOf (outOf E c) d = outOf (outOf E d) c := by
  unfold outOf
  rw [List.filter_filter, List.filter_filter]
  exact List.filter_congr fun e _ => Bool.and_comm _ _
theorem greedy_ok {ν : List (Int × Int) → Nat} {G : List (Int × Int) → Prop} (hG : ∀ E c, G E → G (outOf E c)) (hν : ∀ E, G E → Nu E (ν E)) : ∀ (cs : List Cl) (left : List (Int × Int)) (n : Nat) (ps : List Cl), G left → Nu left n → cs.Pairwise ltC →
    (∀ e ∈ left, ∀ d, bears e d = true → d ∈ cs ∨ d ∈ ps) → (∀ p ∈ ps, Nu (outOf left p) n) →
    Cov left (greedy ν cs left n) ∧ (greedy ν cs left n).length = n ∧ (greedy ν cs left n).Sublist cs ∧ ∀ D, D.Pairwise ltC → Cov left D → D.length = n → greedy ν cs left n = D ∨ lexC (greedy ν cs left n) D
  | [], left, n, ps, g, h, _, hall, hps => by
    have n0 : n = 0 := by
      cases n with
      | zero => rfl
      | succ n =>
        obtain ⟨P, C, a1, a2, a3, a4⟩ := id h
        cases C with
        | nil => cases a4
        | cons d r =>
          obtain ⟨e, he, hb⟩ := least_claim h a2 a4 List.mem_cons_self
          have hd := (hall e he d hb).elim (fun z => nomatch z) id
          have := cov_len (hps d hd) (cov_erase a2 d)
          rw [List.length_erase_of_mem List.mem_cons_self, a4] at this
          omega
    subst n0
    obtain ⟨P, C, a1, a2, a3, a4⟩ := h
    have : C = [] := List.eq_nil_of_length_eq_zero a4
    subst this
    refine ⟨a2, rfl, List.Sublist.refl _, fun D _ _ hD => .inl ?_⟩
    exact (List.eq_nil_of_length_eq_zero hD).symm
  | c :: cs, left, n, ps, g, h, asc, hall, hps => by
    obtain ⟨big, asc'⟩ := List.pairwise_cons.mp asc
    have g' := hG left c g
    have h' := hν _ g'
    obtain ⟨le, ge⟩ := nu_out h h'
    unfold greedy
    by_cases take : ν (outOf left c) < n
    · rw [if_pos take]
      have en : ν (outOf left c) = n - 1 := by omega
      rw [en] at h'
      obtain ⟨i1, i2, i3, i4⟩ := greedy_ok hG hν cs (outOf left c) (n - 1) ps g' h' asc' (fun e he d hb => by
        obtain ⟨h1, h2⟩ := mem_out.mp he
        rcases hall e h1 d hb with z | z
        · rcases List.mem_cons.mp z with z | z
          · rw [z, h2] at hb; cases hb
          · exact .inl z
        · exact .inr z) (fun p hp => by
        have q := hps p hp
        rw [out_comm]
        have g2 := hG _ c (hG left p g)
        have q2 := hν _ g2
        have := nu_out q q2
        have q3 : Nu (outOf (outOf left c) p) (ν (outOf (outOf left p) c)) := by rw [out_comm]; exact q2
        have := nu_out h' q3
        have e : ν (outOf (outOf left p) c) = n - 1 := by omega
        rw [e] at q2
        exact q2)
      refine ⟨fun e he => ?_, by rw [List.length_cons, i2]; omega, i3.cons_cons c, fun D dAsc dCov dLen => ?_⟩
      · cases hb : bears e c with
        | true => exact ⟨c, List.mem_cons_self, hb⟩
        | false =>
          obtain ⟨d, hd, hh⟩ := i1 e (mem_out.mpr ⟨he, hb⟩)
          exact ⟨d, List.mem_cons_of_mem _ hd, hh⟩
      · cases D with
        | nil => rw [List.length_nil] at dLen; omega
        | cons d r =>
          obtain ⟨dbig, rAsc⟩ := List.pairwise_cons.mp dAsc
          -- d is a claim of what is left, and none that was passed
          obtain ⟨e, he, hb⟩ := least_claim h dCov dLen List.mem_cons_self
          rcases hall e he d hb with z | z
          · rcases List.mem_cons.mp z with z | z
            · subst z
              have rc : Cov (outOf left d) r := fun e' he' => by
                obtain ⟨x, hx, hh⟩ := cov_erase dCov d e' he'
                rw [List.erase_cons_head] at hx
                exact ⟨x, hx, hh⟩
              rw [List.length_cons] at dLen
              rcases i4 r rAsc rc (by omega) with k | k
              · exact .inl (by rw [k])
              · exact .inr (.inr ⟨rfl, k⟩)
            · exact .inr (.inl (big d z))
          · have := cov_len (hps d z) (cov_erase dCov d)
            rw [List.erase_cons_head] at this
            rw [List.length_cons] at dLen
            omega
    · rw [if_neg take]
      have en : ν (outOf left c) = n := by omega
      rw [en] at h'
      obtain ⟨i1, i2, i3, i4⟩ := greedy_ok hG hν cs left n (c :: ps) g h asc' (fun e he d hb => by
        rcases hall e he d hb with z | z
        · rcases List.mem_cons.mp z with z | z
          · exact .inr (by rw [z]; exact List.mem_cons_self)
          · exact .inl z
        · exact .inr (List.mem_cons_of_mem _ z)) (fun p hp => by
        rcases List.mem_cons.mp hp with z | z
        · rw [z]; exact h'
        · exact hps p z)
      exact ⟨i1, i2, i3.cons c, i4⟩
theorem greedy_least {ν : List (Int × Int) → Nat} {G : List (Int × Int) → Prop} (hG : ∀ E c, G E → G (outOf E c)) (hν : ∀ E, G E → Nu E (ν E)) {E : List (Int × Int)} {cs : List Cl} (g : G E) (asc : cs.Pairwise ltC) (all : ∀ e ∈ E, ∀ d, bears e d = true → d ∈ cs) :
    Least E (greedy ν cs E (ν E)) := by
  obtain ⟨a1, a2, a3, a4⟩ := greedy_ok hG hν cs E (ν E) [] g (hν E g) asc (fun e he d hb => .inl (all e he d hb)) (fun _ h => nomatch h)
  exact ⟨a1, by rw [a2]; exact hν E g, asc.sublist a3, fun D h1 h2 h3 => a4 D h1 h2 (by rw [h3, a2])⟩
/-! ### behind the first claim -/
def insC (c : Cl) : List Cl → List Cl
  | [] => [c]
  | d :: r => if decide (d.1 < c.1) || (decide (d.1 = c.1) && (!d.2 && c.2)) then d :: insC c r else c :: d :: r
theorem ins_test {c d : Cl} : (decide (d.1 < c.1) || (decide (d.1 = c.1) && (!d.2 && c.2))) = true ↔ ltC d c := by
  unfold ltC
  cases hd : d.2 <;> cases hc : c.2 <;> simp
theorem ins_mem {c x : Cl} : ∀ {l : List Cl}, x ∈ insC c l ↔ x = c ∨ x ∈ l
  | [] => by simp [insC]
  | d :: r => by
    unfold insC
    split
    · rw [List.mem_cons, ins_mem, List.mem_cons]
      constructor
      · rintro (h | h | h)
        · exact .inr (.inl h)
        · exact .inl h
        · exact .inr (.inr h)
      · rintro (h | h | h)
        · exact .inr (.inl h)
        · exact .inl h
        · exact .inr (.inr h)
    · rw [List.mem_cons]
theorem ins_len {c : Cl} : ∀ {l : List Cl}, (insC c l).length = l.length + 1
  | [] => rfl
  | d :: r => by
    unfold insC
    split
    · rw [List.length_cons, ins_len, List.length_cons]
    · rfl
theorem ins_asc {c : Cl} : ∀ {l : List Cl}, l.Pairwise ltC → c ∉ l → (insC c l).Pairwise ltC
  | [], _, _ => List.pairwise_singleton _ _
  | d :: r, h, hn => by
    obtain ⟨h1, h2⟩ := List.pairwise_cons.mp h
    unfold insC
    split
    · rename_i t
      refine List.pairwise_cons.mpr ⟨fun x hx => ?_, ins_asc h2 (fun z => hn (List.mem_cons_of_mem _ z))⟩
      rcases ins_mem.mp hx with e | e
      · rw [e]; exact ins_test.mp t
      · exact h1 x e
    · rename_i t
      have cd : ltC c d := by
        rcases ltC_tri c d with k | k | k
        · exact k
        · exact (hn (k ▸ List.mem_cons_self)).elim
        · exact (t (ins_test.mpr k)).elim
      exact List.pairwise_cons.mpr ⟨fun x hx => by
        rcases List.mem_cons.mp hx with e | e
        · rw [e]; exact cd
        · exact ltC_trans cd (h1 x e), h⟩
theorem Least.tail {E : List (Int × Int)} {c : Cl} {R : List Cl} (a : Least E (c :: R)) {n' : Nat} (h : Nu (outOf E c) n') : Least (outOf E c) R := by
  have cov : Cov (outOf E c) R := fun e he => by
    obtain ⟨x, hx, hh⟩ := cov_erase a.cov c e he
    rw [List.erase_cons_head] at hx
    exact ⟨x, hx, hh⟩
  have en : n' = R.length := by
    have := nu_out a.nu h
    have := cov_len h cov
    rw [List.length_cons] at *
    omega
  rw [en] at h
  refine ⟨cov, h, (List.pairwise_cons.mp a.asc).2, fun D dAsc dCov dLen => ?_⟩
  have hc : c ∉ D := fun hc => by
    have : Cov E D := fun e he => by
      cases hb : bears e c with
      | true => exact ⟨c, hc, hb⟩
      | false => exact dCov e (mem_out.mpr ⟨he, hb⟩)
    have := cov_len a.nu this
    rw [List.length_cons] at this
    omega
  have big : Cov E (insC c D) := fun e he => by
    cases hb : bears e c with
    | true => exact ⟨c, ins_mem.mpr (.inl rfl), hb⟩
    | false =>
      obtain ⟨x, hx, hh⟩ := dCov e (mem_out.mpr ⟨he, hb⟩)
      exact ⟨x, ins_mem.mpr (.inr hx), hh⟩
  have key := a.min (insC c D) (ins_asc dAsc hc) big (by rw [ins_len, List.length_cons, dLen])
  cases D with
  | nil =>
    have : R = [] := List.eq_nil_of_length_eq_zero dLen.symm
    exact .inl this
  | cons d r =>
    unfold insC at key
    split at key
    · rename_i t
      have dc := ins_test.mp t
      rcases key with k | k
      · injection k with k1 k2
        rw [k1] at dc; exact (ltC_irr dc).elim
      · rcases k with k | ⟨k, _⟩
        · exact (ltC_irr (ltC_trans dc k)).elim
        · rw [k] at dc; exact (ltC_irr dc).elim
    · rcases key with k | k
      · injection k with k1 k2
        exact .inl k2
      · rcases k with k | ⟨_, k⟩
        · exact (ltC_irr k).elim
        · exact .inr k
end My
set_option Elab.async false
set_option linter.all false
set_option maxRecDepth 100000
/-! Sets of tuples whose parts are keys of any kind (ints and texts among them). The table's own theory (TabOk, go_spec, relaid_ok) is the library's. -/
namespace My
open PySem PySem.Spec PyProof.Rows L2
section
variable {P : Program} {w : World} {A : Around} {E : Value → Shared → Prop} {s : Shared} {κ : Type} [DecidableEq κ] {kd : KeyKind P w κ}
abbrev Tp (kd : KeyKind P w κ) (h : Heap) (k : List κ) (b : Addr) : Prop := IsTupleKey kd h k b
abbrev hsh (kd : KeyKind P w κ) (k : List κ) : Int := tupleKeyHash kd k
theorem nref {v : Value} (h : carriedByValue v = true) : (∀ n, ofAClassStatement n v = pure false) ∧ ∃ b, ∀ n, hashByValue n v = pure b := by
  cases v with
  | ref a => simp [carriedByValue] at h
  | float b t => exact ⟨fun n => by cases n <;> rfl, (Float64.hash? b).isSome, fun n => by cases n <;> rfl⟩
  | _ =>
    refine ⟨fun n => by cases n <;> rfl, ?_⟩
    first
      | (refine ⟨true, fun n => ?_⟩; cases n <;> rfl)
      | (refine ⟨false, fun n => ?_⟩; cases n <;> rfl)
/-- a tuple of keys is of no class statement -/
theorem noClass {k : List κ} {b : Addr} {Q : Bool → Shared → Prop} (hk : Tp kd s.heap k b) (q : Q false s) : wpAny (model P w) A (ofAClassStatement 8 (.ref b)) Q E s := by
  have ty := hk.typeIs
  obtain ⟨o, its, n, at_b, _, dat, items⟩ := hk
  have all := items.byValue
  unfold ofAClassStatement
  refine wpAny_bind (wpAny_typeOf ty ?_)
  dsimp only
  have same : (("tuple" : String) == "tuple") = true := by decide
  simp only [same, Bool.not_true, if_true, if_false, Bool.false_eq_true]
  try refine wpAny_bind (wpAny_pure ?_)
  try simp only [Bool.not_true, if_false, Bool.false_eq_true]
  refine wpAny_bind (m := seqItems? (.ref b)) (wpAny_seqItems at_b dat ?_)
  dsimp only
  refine wpAny_bind (m := forIn its _ _) ?_
  rw [← Array.forIn_toList]
  refine wpAny_forIn_list _ (fun left r s' => r.1 = none ∧ s' = s ∧ ∀ v ∈ left, carriedByValue v = true) _ ?_ ?_ _ _ ⟨rfl, rfl, all⟩
  · rintro v left r s' ⟨_, rfl, here⟩
    rw [(nref (here v List.mem_cons_self)).1]
    refine wpAny_bind (wpAny_pure ?_)
    simp only [if_false, Bool.false_eq_true]
    exact wpAny_pure ⟨rfl, rfl, fun u hu => here u (List.mem_cons_of_mem _ hu)⟩
  · rintro ⟨r1, r2⟩ s' ⟨e, rfl, _⟩
    dsimp only at e
    subst e
    exact wpAny_pure q
/-- whether its hash is one by value is answered, and nothing changes -/
theorem byVal {k : List κ} {b : Addr} {Q : Bool → Shared → Prop} (hk : Tp kd s.heap k b) (q : ∀ c, Q c s) : wpAny (model P w) A (hashByValue 8 (.ref b)) Q E s := by
  have ty := hk.typeIs
  obtain ⟨o, its, n, at_b, _, dat, items⟩ := hk
  have all := items.byValue
  unfold hashByValue
  refine wpAny_bind (wpAny_specialOf ty F.slot_tuple_hash.lookup ?_)
  refine wpAny_bind (m := seqItems? (.ref b)) (wpAny_seqItems at_b dat ?_)
  refine wpAny_bind (m := forIn its _ _) ?_
  rw [← Array.forIn_toList]
  refine wpAny_forIn_list _ (fun left r s' => r.1 = none ∧ s' = s ∧ ∀ v ∈ left, carriedByValue v = true) _ ?_ ?_ _ _ ⟨rfl, rfl, all⟩
  · rintro v left r s' ⟨_, rfl, here⟩
    obtain ⟨c, hc⟩ := (nref (here v List.mem_cons_self)).2
    rw [hc]
    refine wpAny_bind (wpAny_pure ?_)
    cases c with
    | true =>
      simp only [Bool.not_true, if_false, Bool.false_eq_true]
      exact wpAny_pure ⟨rfl, rfl, fun u hu => here u (List.mem_cons_of_mem _ hu)⟩
    | false =>
      simp only [Bool.not_false, if_true]
      exact wpAny_pure (wpAny_pure (q _))
  · rintro ⟨r1, r2⟩ s' ⟨e, rfl, _⟩
    dsimp only at e
    subst e
    exact wpAny_pure (q _)

/-- a search among such tuples shows nothing of the table -/
theorem unseen {k : List κ} {b : Addr} {Q : Bool → Shared → Prop} (hk : Tp kd s.heap k b) {ys : List Value} (hy : ∀ y ∈ ys, ∃ k' c, y = Value.ref c ∧ Tp kd s.heap k' c) (q : Q false s) :
    wpAny (model P w) A (searchCouldBeSeen (.ref b) ys) Q E s := by
  unfold searchCouldBeSeen
  refine wpAny_bind (wpAny_forIn_list _ (fun left r s' => r.1 = none ∧ s' = s ∧ ∀ y ∈ left, ∃ k' c, y = Value.ref c ∧ Tp kd s.heap k' c) _ ?_ ?_ _ _ ⟨rfl, rfl, hy⟩)
  · rintro v left r s' ⟨_, rfl, here⟩
    obtain ⟨k2, c, rfl, hc⟩ := here v List.mem_cons_self
    have later : ∀ y ∈ left, ∃ k' c, y = Value.ref c ∧ Tp kd s'.heap k' c := fun u hu => here u (List.mem_cons_of_mem _ hu)
    dsimp only
    by_cases one : (b == c || (carriedByValue (.ref b) && carriedByValue (.ref c))) = true
    · exact wp_if_pos one (wpAny_pure ⟨rfl, rfl, later⟩)
    · refine wp_if_neg one (wpAny_bind (wpAny_eqIsQuiet_tuple hk ?_))
      simp only [Bool.not_true, if_false, Bool.false_eq_true]
      refine wpAny_bind (wpAny_eqIsQuiet_tuple hc ?_)
      simp only [Bool.not_true, if_false, Bool.false_eq_true]
      refine wpAny_bind (noClass hk ?_)
      simp only [if_false, Bool.false_eq_true]
      refine wpAny_bind (noClass hc ?_)
      simp only [if_false, Bool.false_eq_true]
      exact wpAny_pure ⟨rfl, rfl, later⟩
  · rintro ⟨r1, r2⟩ s' ⟨e, rfl, _⟩
    dsimp only at e
    subst e
    exact wpAny_pure q
/-! ### the set -/
abbrev entsOf (kd : KeyKind P w κ) (L : List (Addr × List κ)) : List (Int × Value) := L.map fun p => (hsh kd p.2, Value.ref p.1)
structure KSet (kd : KeyKind P w κ) (h : Heap) (a : Addr) (L : List (Addr × List κ)) (es : Array (Int × Value)) (ep : Nat) (t : SetTable) : Prop where
  obj : ∃ o, h.get? a = some o ∧ o.ExactSet ∧ o.data = .set es ep t
  ents : es.toList = entsOf kd L
  tab : TabOk t (L.map fun p => hsh kd p.2)
  uniq : (L.map (·.2)).Nodup
  tups : ∀ p ∈ L, Tp kd h p.2 p.1
  lead : w.params.followText "set-order" = true ∨ t.led = true
  room : L.length * 5 < t.mask * 3
  few : L.length < 64
theorem ents_len {L : List (Addr × List κ)} {es : Array (Int × Value)} (e : es.toList = entsOf kd L) : es.size = L.length := by
  rw [← Array.length_toList, e, List.length_map]
theorem ents_at {L : List (Addr × List κ)} {es : Array (Int × Value)} (e : es.toList = entsOf kd L) {i : Nat} {p : Addr × List κ} (h : L[i]? = some p) : es[i]? = some (hsh kd p.2, Value.ref p.1) := by
  rw [← Array.getElem?_toList, e, List.getElem?_map, h]
  rfl
theorem fits_of {t : SetTable} {n : Nat} (h1 : t.place.size = n) (h2 : t.dummies = #[]) (h3 : n ≤ t.mask) : t.fits n = true := by
  unfold SetTable.fits SetTable.fill
  rw [h2, Bool.and_eq_true, beq_iff_eq, decide_eq_true_eq]
  exact ⟨h1, by show t.place.size + 0 ≤ t.mask; omega⟩
variable {a : Addr} {L : List (Addr × List κ)} {es : Array (Int × Value)} {ep : Nat} {t : SetTable}
theorem KSet.fits (R : KSet kd s.heap a L es ep t) : t.fits es.size = true := by
  have h1 := R.tab.sz
  have h2 := R.room
  rw [List.length_map] at h1
  rw [ents_len R.ents]
  exact fits_of h1 R.tab.dm (by omega)
theorem KSet.stays (R : KSet kd s.heap a L es ep t) : ¬ t.gaveWay = true := by
  unfold SetTable.gaveWay
  rw [mask_odd R.tab.mok]
  exact of_decide_eq_false rfl
/-- the probe behind c steps -/
abbrev stp (t : SetTable) (h : Int) (c : Nat) : SetTable.Probe := nth t.mask (runAt t.mask (SetTable.bits h % (t.mask + 1)) (SetTable.bits h)) c
theorem nth_clean (m : Nat) : ∀ (n : Nat) (q : SetTable.Probe), q.dummy = none → (nth m q n).dummy = none
  | 0, q, e => e
  | n + 1, q, e => nth_clean m n (adv m q) (by unfold adv; split <;> exact e)
theorem stp_on (t : SetTable) (h : Int) (c q : Nat) : nth t.mask (stp t h c) q = stp t h (c + q) := (nth_add t.mask c _ q).symm
/-- the search, from the c-th step on; n is the first empty place on the way -/
theorem KSet.seek (R : KSet kd s.heap a L es ep t) {x : Addr} {k : List κ} (hx : Tp kd s.heap k x) (hu : A.units < cLine) {n : Nat} (hn : n < 10 * SetTable.turns t.mask) (off : way t.mask (hsh kd k) n ∉ t.place.toList)
    (on : ∀ c, c < n → way t.mask (hsh kd k) c ∈ t.place.toList) {Q : SetFound → Shared → Prop} (yes : k ∈ L.map (·.2) → Q (.there none) s) (no : k ∉ L.map (·.2) → Q (.free (way t.mask (hsh kd k) n) false) s) :
    ∀ (f c : Nat) (st : Option SetTable.Probe), st.getD (t.probeStart (hsh kd k)) = stp t (hsh kd k) c → c ≤ n → n - c < f →
      (∀ (i : Nat) p, L[i]? = some p → p.2 = k → ∃ c', c ≤ c' ∧ c' < n ∧ t.place.toList[i]? = some (way t.mask (hsh kd k) c')) → wpAny (model P w) A (setSearchFrom a (.ref x) (hsh kd k) true f st) Q E s
  | 0, _, _, _, _, bad, _ => (Nat.not_lt_zero _ bad).elim
  | f + 1, c, st, e0, le, lf, ahead => by
    obtain ⟨o, ho, hex, hd⟩ := R.obj
    rw [setSearchFrom_succ]
    refine wpAny_bind (wpAny_setState_of ho hd R.fits ?_)
    dsimp only
    refine wp_if_neg R.stays ?_
    try refine wpAny_bind (wpAny_pure ?_)
    rw [e0]
    have jj : ∀ q, (nth t.mask (stp t (hsh kd k) c) q).j = way t.mask (hsh kd k) (c + q) := fun q => congrArg SetTable.Probe.j (stp_on t (hsh kd k) c q)
    have hashes : ∀ (i : Nat) p, L[i]? = some p → (es[i]?.map (·.1)).getD 0 = hsh kd p.2 := fun i p hp => by
      rw [ents_at R.ents hp]
      rfl
    have last : c + (n - c) = n := by omega
    -- one with the key that is still ahead is not met by other hashes
    have clash : ∀ (m i0 : Nat) (p0 : Addr × List κ), L[i0]? = some p0 → p0.2 = k → c ≤ m → t.place.toList[i0]? = some (way t.mask (hsh kd k) m) →
        (∀ (k' i' : Nat), k' = m - c → t.place.toList[i']? = some (nth t.mask (stp t (hsh kd k) c) k').j → (es[i']?.map (·.1)).getD 0 ≠ hsh kd k) → False := fun m i0 p0 h0 hk0 lm hat none' => by
      refine none' (m - c) i0 rfl ?_ ((hashes i0 p0 h0).trans (congrArg (hsh kd) hk0))
      rw [jj, show c + (m - c) = m by omega]
      exact hat
    rcases go_spec t R.tab.ris R.tab.dm (fun i => (es[i]?.map (·.1)).getD 0) (hsh kd k) (10 * SetTable.turns t.mask) (n - c) (stp t (hsh kd k) c) (nth_clean _ _ _ rfl) (by omega)
      (fun q hq => by rw [jj]; exact on _ (by omega)) (by rw [jj, last]; exact off) with ⟨q, i, hq, hi, _, first, met⟩ | ⟨first, met⟩
    · have pr : t.probe (fun i => (es[i]?.map (·.1)).getD 0) (hsh kd k) (stp t (hsh kd k) c) = some (.candidate (way t.mask (hsh kd k) (c + q)) i (stp t (hsh kd k) (c + (q + 1)))) := by
        rw [← jj, ← stp_on]
        exact met
      rw [pr]
      dsimp only
      rw [jj] at hi
      have li : i < L.length := by
        have h1 := (List.getElem?_eq_some_iff.mp hi).1
        have h2 := R.tab.sz
        rw [Array.length_toList] at h1
        rw [List.length_map] at h2
        omega
      obtain ⟨p, hp⟩ : ∃ p, L[i]? = some p := ⟨_, List.getElem?_eq_getElem li⟩
      have pm : p ∈ L := List.mem_of_getElem? hp
      have live : t.slot (way t.mask (hsh kd k) (c + q)) = .live i := slot_live R.tab.ris hi
      have behind : wpAny (model P w) A (searchRest a (.ref x) (hsh kd k) true f es t (way t.mask (hsh kd k) (c + q)) i (stp t (hsh kd k) (c + (q + 1)))) Q E s := by
        unfold searchRest
        rw [ents_at R.ents hp]
        dsimp only
        refine wpAny_bind (wpAny_holding (wpAny_eqBool_tuple hu (R.tups p pm) hx (wpAny_bind (wpAny_setState_of ho hd R.fits ?_))))
        dsimp only
        by_cases eq : p.2 = k
        · exact wp_if_pos (by rw [decide_eq_true eq]; rfl) (wpAny_pure (yes (List.mem_map.mpr ⟨p, pm, eq⟩)))
        · refine wp_if_neg (by rw [decide_eq_false eq]; exact Bool.false_ne_true) ?_
          try refine wpAny_bind (wpAny_pure ?_)
          rw [sameMem]
          dsimp only
          simp only [live, ents_at R.ents hp, if_true]
          refine wpAny_bind (wpAny_isSame_ref_self (wpAny_bind (wpAny_pure ?_)))
          simp only [if_true]
          refine wp_if_neg (by rw [decide_eq_false eq]; exact Bool.false_ne_true) ?_
          refine KSet.seek R hx hu hn off on yes no f (c + (q + 1)) _ rfl (by omega) (by omega) fun i0 p0 h0 hk0 => ?_
          obtain ⟨m, m1, m2, m3⟩ := ahead i0 p0 h0 hk0
          refine ⟨m, ?_, m2, m3⟩
          rcases Nat.lt_trichotomy m (c + q) with z | z | z
          · exact (clash m i0 p0 h0 hk0 m1 m3 fun k' i' ek => first k' i' (by omega)).elim
          · rw [z] at m3
            have l2 := slot_live R.tab.ris m3
            rw [live] at l2
            injection l2 with l2
            rw [← l2, hp] at h0
            exact (eq ((congrArg Prod.snd (Option.some.inj h0)).trans hk0)).elim
          · omega
      by_cases led : t.led = true
      · refine wp_if_neg (by rw [led]; exact Bool.false_ne_true) ?_
        try refine wpAny_bind (wpAny_pure ?_)
        exact behind
      · refine wp_if_pos (by rw [Bool.not_eq_true] at led; rw [led]; rfl) ?_
        refine wpAny_bind (unseen hx (fun y hy => ?_) ?_)
        · obtain ⟨e, he, rfl⟩ := List.mem_map.mp hy
          have hin : e ∈ es.toList := by
            have := (Array.mem_filter.mp (Array.mem_toList_iff.mp he)).1
            exact Array.mem_toList_iff.mpr this
          rw [R.ents] at hin
          obtain ⟨p2, hp2, rfl⟩ := List.mem_map.mp hin
          exact ⟨p2.2, p2.1, rfl, R.tups p2 hp2⟩
        · refine wp_if_neg Bool.false_ne_true ?_
          try refine wpAny_bind (wpAny_pure ?_)
          exact behind
    · have pr : t.probe (fun i => (es[i]?.map (·.1)).getD 0) (hsh kd k) (stp t (hsh kd k) c) = some (.empty (way t.mask (hsh kd k) n) none) := by
        rw [show way t.mask (hsh kd k) n = (nth t.mask (stp t (hsh kd k) c) (n - c)).j by rw [jj, last]]
        exact met
      rw [pr]
      dsimp only
      refine wpAny_pure (no fun hm => ?_)
      obtain ⟨p0, h0, hk0⟩ := List.mem_map.mp hm
      obtain ⟨i0, li0, e0'⟩ := List.getElem_of_mem h0
      have h00 : L[i0]? = some p0 := by rw [List.getElem?_eq_getElem li0, e0']
      obtain ⟨m, m1, m2, m3⟩ := ahead i0 p0 h00 hk0
      exact clash m i0 p0 h00 hk0 m1 m3 fun k' i' ek => first k' i' (by omega)
theorem KSet.search (R : KSet kd s.heap a L es ep t) {x : Addr} {k : List κ} (hx : Tp kd s.heap k x) (hu : A.units < cLine) {Q : SetFound → Shared → Prop} (yes : k ∈ L.map (·.2) → Q (.there none) s)
    (no : ∀ n, k ∉ L.map (·.2) → way t.mask (hsh kd k) n ∉ t.place.toList → (∀ c, c < n → way t.mask (hsh kd k) c ∈ t.place.toList) → Q (.free (way t.mask (hsh kd k) n) false) s) :
    wpAny (model P w) A (setSearch a (.ref x) (hsh kd k) true) Q E s := by
  have room := R.room
  obtain ⟨n, hn, off, on⟩ := R.tab.first (by rw [List.length_map]; omega) (hsh kd k)
  have big : n < 100000 := by
    refine Nat.lt_of_lt_of_le hn ?_
    unfold SetTable.turns
    rcases R.tab.mok with e | e | e <;> rw [e] <;> decide
  refine R.seek hx hu hn off on yes (fun out => no n out off on) 100000 0 none rfl (Nat.zero_le _) (by omega) fun i p hp hk => ?_
  have li : i < t.place.toList.length := by
    have h1 := (List.getElem?_eq_some_iff.mp hp).1
    have h2 := R.tab.sz
    rw [List.length_map] at h2
    rw [Array.length_toList]
    omega
  have hj := List.getElem?_eq_getElem li
  obtain ⟨c, hc, e⟩ := R.tab.before off (by rw [List.getElem?_map, hp, ← hk]; rfl) hj
  exact ⟨c, Nat.zero_le _, hc, by rw [hj, e]⟩

/-! ### one more -/
theorem tp_at {h h' : Heap} {k : List κ} {a b : Addr} {o : Obj} {es : Array (Int × Value)} {ep : Nat} {t : SetTable} (hb : Tp kd h k b) (ho : h.get? a = some o) (hd : o.data = .set es ep t) (sb : Heap.SameBut a h h') : Tp kd h' k b := by
  obtain ⟨u, its, n, hu, c, d, r⟩ := hb
  refine ⟨u, its, n, (sb.2 b fun e => ?_).trans hu, c, d, r⟩
  rw [e, ho] at hu
  cases hu
  rw [hd] at d
  cases d
theorem range_get {α : Type} : ∀ L : List α, (List.range L.length).filterMap (fun i => L[i]?) = L
  | [] => rfl
  | x :: r => by
    rw [List.length_cons, List.range_succ_eq_map, List.filterMap_cons_some (f := fun i => (x :: r)[i]?) (b := x) rfl, List.filterMap_map]
    exact congrArg (x :: ·) (range_get r)
theorem reorder {es : Array (Int × Value)} (e : es.toList = entsOf kd L) {order : Array Nat} (hp : order.toList.Perm (List.range L.length)) :
    ∃ M : List (Addr × List κ), (order.filterMap (es[·]?)).toList = entsOf kd M ∧ M.Perm L ∧ (M.map fun p => hsh kd p.2) = order.toList.map fun i => (es.map (·.1)).getD i 0 := by
  have each : ∀ i, es[i]? = (L[i]?).map fun p : Addr × List κ => (hsh kd p.2, Value.ref p.1) := fun i => by
    rw [← Array.getElem?_toList, e, List.getElem?_map]
  refine ⟨order.toList.filterMap fun i => L[i]?, ?_, ?_, ?_⟩
  · rw [Array.toList_filterMap]
    show _ = List.map _ (List.filterMap _ _)
    rw [List.map_filterMap]
    exact congrArg (fun f => List.filterMap f order.toList) (funext each)
  · have := hp.filterMap fun i => L[i]?
    rw [range_get] at this
    exact this
  · have bd : ∀ i ∈ order.toList, i < L.length := fun i hi => List.mem_range.mp (hp.mem_iff.mp hi)
    generalize order.toList = l at bd
    induction l with
    | nil => rfl
    | cons i r ih =>
      have li := bd i List.mem_cons_self
      have here := each i
      rw [List.getElem?_eq_getElem li] at here
      rw [List.filterMap_cons_some (List.getElem?_eq_getElem li), List.map_cons, List.map_cons, ih fun j hj => bd j (List.mem_cons_of_mem _ hj)]
      congr 1
      rw [Array.getD_eq_getD_getElem?, Array.getElem?_map, here]
      rfl
/-- the table laid anew, larger -/
theorem relayK {o : Obj} (ho : s.heap.get? a = some o) (hex : o.ExactSet) (hd : o.data = .set es ep t) (ents : es.toList = entsOf kd L) (sz : t.place.size = L.length) (dm : t.dummies = #[]) (fl : L.length ≤ t.mask)
    (uniq : (L.map (·.2)).Nodup) (tups : ∀ p ∈ L, Tp kd s.heap p.2 p.1) (lead : w.params.followText "set-order" = true ∨ t.led = true) (few : L.length < 64) {want M : Nat}
    (hw : SetTable.sizeAbove want = M + 1) (mok : MaskOk M) (room : L.length * 5 < M * 3) {Q : Unit → Shared → Prop}
    (hQ : ∀ h' L' es' ep' t', Heap.SameBut a s.heap h' → KSet kd h' a L' es' ep' t' → L'.Perm L → Q () { s with heap := h' }) : wpAny (model P w) A (setRelay a want) Q E s := by
  have le := ents_len ents
  have M127 : M ≤ 127 := by rcases mok with e | e | e <;> rw [e] <;> decide
  obtain ⟨t2, order, laid, perm, tab, em, el, _, _⟩ := relaid_ok t (hs := es.map (·.1)) (wanted := want) (M := M) (by rw [hw]; rfl) mok (by rw [Array.size_map, le]; omega)
  rw [Array.size_map, le] at perm
  obtain ⟨L2, r1, r2, r3⟩ := reorder ents perm
  have len2 := ents_len r1
  rw [← r3] at tab
  rw [setRelay_eq]
  refine wpAny_bind (wpAny_setState_of ho hd (by rw [le]; exact fits_of sz dm fl) ?_)
  dsimp only
  refine wp_if_neg (by rw [hw, sizeLine_eq]; omega) ?_
  try refine wpAny_bind (wpAny_pure ?_)
  rw [laid]
  refine wpAny_bind ?_
  dsimp only
  refine wp_if_neg (by rw [len2, r2.length_eq, le]; simp) ?_
  try refine wpAny_bind (wpAny_pure ?_)
  refine wpAny_pure ?_
  dsimp only
  refine wpAny_storeSet_of ho hd ?_ (by rw [len2, r2.length_eq, sizeLine_eq]; omega)
  have sb : Heap.SameBut a s.heap (s.heap.update a (Obj.putSet (order.filterMap (es[·]?)) t2)) := Heap.SameBut.update ..
  refine hQ _ L2 _ (ep + 1) t2 sb ⟨⟨_, store_at ho hd, ⟨hex.1, hex.2.1, hex.2.2⟩, rfl⟩, r1, tab, (r2.map (·.2)).nodup_iff.mpr uniq, fun p hp => tp_at (tups p (r2.mem_iff.mp hp)) ho hd sb, by rw [el]; exact lead, ?_, by rw [r2.length_eq]; exact few⟩ r2
  rw [r2.length_eq, em]
  exact room
theorem size_5 : SetTable.sizeAbove (SetTable.grown 5) = 31 + 1 := by decide +kernel
theorem size_19 : SetTable.sizeAbove (SetTable.grown 19) = 127 + 1 := by decide +kernel
theorem KSet.add (R : KSet kd s.heap a L es ep t) {x : Addr} {k : List κ} (hx : Tp kd s.heap k x) (hu : A.units < cLine) (few : L.length + 1 < 64) {Q : Bool → Shared → Prop}
    (hQ : ∀ b h' L' es' ep' t', Heap.SameBut a s.heap h' → KSet kd h' a L' es' ep' t' → (k ∈ L.map (·.2) → L' = L) → (k ∉ L.map (·.2) → L'.Perm ((x, k) :: L)) → Q b { s with heap := h' }) :
    wpAny (model P w) A (setAddHashed a (.ref x) (hsh kd k)) Q E s := by
  obtain ⟨o, ho, hex, hd⟩ := R.obj
  have le := ents_len R.ents
  have room := R.room
  unfold setAddHashed
  refine wpAny_holding ?_
  rw [show (100000 : Nat) = 99999 + 1 from rfl, setAddHashedIn_succ]
  refine wpAny_bind (wpAny_setState_of ho hd R.fits ?_)
  dsimp only
  refine wp_if_neg (by simp [byScan, Value.scannable]) ?_
  try refine wpAny_bind (wpAny_pure ?_)
  refine wpAny_bind (R.search hx hu (fun hm => ?_) fun n hm off on => ?_)
  · exact wpAny_pure (hQ false s.heap L es ep t (Heap.SameBut.refl a s.heap) R (fun _ => rfl) fun z => (z hm).elim)
  dsimp only
  refine wpAny_bind (wpAny_setState_of ho hd R.fits ?_)
  dsimp only
  obtain ⟨p1, p2, p3, p4, p5, _, _, _, p9⟩ := R.tab.put off on
  generalize put : t.put (way t.mask (hsh kd k) n) = pt at p1 p3 p4 p5 p9 ⊢
  obtain ⟨t1, i⟩ := pt
  dsimp only at p1 p3 p4 p5 p9 ⊢
  subst p1
  generalize SetTable.below t.place (way t.mask (hsh kd k) n) = i at p2 p3 ⊢
  have pm := put_perm L i (x, k)
  have len1 : (L.take i ++ (x, k) :: L.drop i).length = L.length + 1 := pm.length_eq
  have ents1 : (SetTable.insertAt es i (hsh kd k, Value.ref x)).toList = entsOf kd (L.take i ++ (x, k) :: L.drop i) := by
    rw [SetTable.toList_insertAt, R.ents]
    show _ = List.map _ _
    rw [List.map_append, List.map_cons, List.map_take, List.map_drop]
  have tab1 : TabOk t1 ((L.take i ++ (x, k) :: L.drop i).map fun p => hsh kd p.2) := by
    rw [List.map_append, List.map_cons, List.map_take, List.map_drop]
    exact p3
  have uniq1 : ((L.take i ++ (x, k) :: L.drop i).map (·.2)).Nodup := (pm.map (·.2)).nodup_iff.mpr (List.nodup_cons.mpr ⟨hm, R.uniq⟩)
  generalize L.take i ++ (x, k) :: L.drop i = L1 at pm len1 ents1 tab1 uniq1
  generalize SetTable.insertAt es i (hsh kd k, Value.ref x) = es1 at ents1 ⊢
  have le1 := ents_len ents1
  -- whatever the answer, the table stays the same but for one mark
  have go : ∀ t2 : SetTable, t2.place = t1.place → t2.dummies = t1.dummies → t2.mask = t1.mask → t2.led = t1.led → TabOk t2 (L1.map fun p => hsh kd p.2) →
      wpAny (model P w) A (do
        storeSet a es1 t2
        if !false && t2.tooFull then setRelay a (SetTable.grown (es.size + 1))
        return true) Q E s := fun t2 g1 g2 g3 g4 tab2 => by
    refine wpAny_bind (wpAny_storeSet_of ho hd ?_ (by rw [le1, len1, sizeLine_eq]; omega))
    have sb : Heap.SameBut a s.heap (s.heap.update a (Obj.putSet es1 t2)) := Heap.SameBut.update ..
    have ho1 := store_at (es' := es1) (t' := t2) ho hd
    generalize s.heap.update a (Obj.putSet es1 t2) = h1 at sb ho1 ⊢
    have tups1 : ∀ p ∈ L1, Tp kd h1 p.2 p.1 := fun p hp => by
      rcases List.mem_cons.mp (pm.mem_iff.mp hp) with e | hp
      · rw [e]; exact tp_at hx ho hd sb
      · exact tp_at (R.tups p hp) ho hd sb
    have lead1 : w.params.followText "set-order" = true ∨ t2.led = true := by rw [g4, p5]; exact R.lead
    have fill : t2.fill = L.length + 1 := by
      unfold SetTable.fill
      rw [g1, g2]
      have := p9
      unfold SetTable.fill at this
      rw [this, List.length_map]
    have full : t2.tooFull = decide ((L.length + 1) * 5 ≥ t.mask * 3) := by
      unfold SetTable.tooFull
      rw [fill, g3, p4]
    have mk : KeyKind P w κ := kd
    by_cases hf : (L.length + 1) * 5 ≥ t.mask * 3
    · rw [full, decide_eq_true hf, le]
      have sz2 : t2.place.size = L1.length := by
        have := tab2.sz
        rwa [List.length_map] at this
      have relay : ∀ M, SetTable.sizeAbove (SetTable.grown (L.length + 1)) = M + 1 → MaskOk M → (L.length + 1) * 5 < M * 3 → L.length + 1 ≤ t.mask →
          wpAny (model P w) A (setRelay a (SetTable.grown (L.length + 1))) (fun _ s' => wpAny (model P w) A (pure true) Q E s') E { s with heap := h1 } := fun M h1' h2' h3' h4' =>
        relayK (s := { s with heap := h1 }) ho1 ⟨hex.1, hex.2.1, hex.2.2⟩ rfl ents1 sz2 tab2.dm (by rw [len1, g3, p4]; exact h4') uniq1 tups1 lead1 (by rw [len1]; exact few) h1' h2' (by rw [len1]; exact h3')
          fun h2 L2 es2 ep2 t3 sb2 R2 pm2 => wpAny_pure (hQ true h2 L2 es2 ep2 t3 (sb.trans sb2) R2 (fun z => (hm z).elim) fun _ => pm2.trans pm)
      have both : (L.length = 4 ∧ t.mask = 7) ∨ (L.length = 18 ∧ t.mask = 31) := by
        rcases R.tab.mok with e | e | e
        · left; rw [e] at hf room; exact ⟨by omega, e⟩
        · right; rw [e] at hf room; exact ⟨by omega, e⟩
        · exfalso; rw [e] at hf; omega
      first
        | (refine wpAny_bind ?_; refine wp_if_pos rfl ?_)
        | (refine wp_if_pos rfl ?_; refine wpAny_bind ?_)
      rcases both with ⟨e2, e3⟩ | ⟨e2, e3⟩
      · exact relay 31 (by rw [e2]; exact size_5) (.inr (.inl rfl)) (by omega) (by omega)
      · exact relay 127 (by rw [e2]; exact size_19) (.inr (.inr rfl)) (by omega) (by omega)
    · rw [full, decide_eq_false hf]
      first
        | refine wp_if_neg Bool.false_ne_true ?_
        | (refine wpAny_bind ?_; refine wp_if_neg Bool.false_ne_true ?_; refine wpAny_pure ?_)
      refine wpAny_pure (hQ true h1 L1 es1 (ep + 1) t2 sb ⟨⟨_, ho1, ⟨hex.1, hex.2.1, hex.2.2⟩, rfl⟩, ents1, tab2, uniq1, tups1, lead1, ?_, by rw [len1]; exact few⟩ (fun z => (hm z).elim) fun _ => pm)
      rw [len1, g3, p4]
      omega
  have done : ∀ c : Bool, wpAny (model P w) A (do
      storeSet a es1 (if c = true then t1 else { t1 with plain := false })
      if !false && (if c = true then t1 else { t1 with plain := false }).tooFull then setRelay a (SetTable.grown (es.size + 1))
      return true) Q E s := fun c => by
    cases c with
    | true => exact go t1 rfl rfl rfl rfl tab1
    | false => exact go { t1 with plain := false } rfl rfl rfl rfl ⟨tab1.ris, tab1.dm, tab1.sz, tab1.mok, tab1.bd, tab1.reach⟩
  by_cases pl : t1.plain = true
  · first
      | (refine wpAny_bind ?_; refine wp_if_pos pl ?_; exact byVal hx done)
      | exact wp_if_pos pl (wpAny_bind (byVal hx done))
  · first
      | (refine wpAny_bind ?_; refine wp_if_neg pl ?_; exact wpAny_pure (done true))
      | exact wp_if_neg pl (wpAny_bind (wpAny_pure (done true)))

/-! ### all of a list -/
structure GotK (ks : List (Addr × List κ)) (i : Nat) (L : List (Addr × List κ)) : Prop where
  sub : ∀ p ∈ L, p ∈ ks.take i
  all : ∀ p ∈ ks.take i, p.2 ∈ L.map (·.2)
theorem GotK.step {ks L L' : List (Addr × List κ)} {i : Nat} {x : Addr × List κ} (g : GotK ks i L) (h : ks[i]? = some x) (h1 : x.2 ∈ L.map (·.2) → L' = L) (h2 : x.2 ∉ L.map (·.2) → L'.Perm (x :: L)) : GotK ks (i + 1) L' := by
  have nx := take_next h
  by_cases c : x.2 ∈ L.map (·.2)
  · rw [h1 c]
    refine ⟨fun p hp => nx ▸ List.mem_append_left _ (g.sub p hp), fun p hp => ?_⟩
    rw [nx] at hp
    rcases List.mem_append.mp hp with z | z
    · exact g.all p z
    · exact List.mem_singleton.mp z ▸ c
  · have pm := h2 c
    refine ⟨fun p hp => ?_, fun p hp => ?_⟩
    · rw [nx]
      rcases List.mem_cons.mp (pm.mem_iff.mp hp) with z | z
      · exact List.mem_append_right _ (List.mem_singleton.mpr z)
      · exact List.mem_append_left _ (g.sub p z)
    · rw [(pm.map (·.2)).mem_iff]
      rw [nx] at hp
      rcases List.mem_append.mp hp with z | z
      · exact List.mem_cons_of_mem _ (g.all p z)
      · rw [List.mem_singleton.mp z]; exact List.mem_cons_self
/-- few of them are unlike -/
def FewK (ks : List (Addr × List κ)) : Prop := ∀ M : List (Addr × List κ), (M.map (·.2)).Nodup → (∀ p ∈ M, p ∈ ks) → M.length < 63
theorem tp_keep {h h' : Heap} {k : List κ} {b : Addr} (x : Tp kd h k b) (keep : ∀ c o, h.get? c = some o → h'.get? c = some o) : Tp kd h' k b := by
  obtain ⟨o, its, n, ho, r⟩ := x
  exact ⟨o, its, n, keep b o ho, r⟩
theorem KSet.keep {h h' : Heap} (R : KSet kd h a L es ep t) (ha : ∀ o, h.get? a = some o → h'.get? a = some o) (ht : ∀ p ∈ L, Tp kd h' p.2 p.1) : KSet kd h' a L es ep t := by
  obtain ⟨o, ho, r⟩ := R.obj
  exact ⟨⟨o, ha o ho, r⟩, R.ents, R.tab, R.uniq, ht, R.lead, R.room, R.few⟩
theorem kset_new {h : Heap} (ho : h.get? a = some (set0 w)) : KSet kd h a [] #[] 0 (.fresh 0 0 (!w.params.followText "set-order")) :=
  ⟨⟨_, ho, ⟨rfl, rfl, rfl⟩, rfl⟩, rfl, ⟨List.Pairwise.nil, rfl, rfl, .inl rfl, (fun x hx => nomatch hx), fun i h j hi => (by simp at hi)⟩, List.nodup_nil, (fun p hp => nomatch hp),
    by cases e : w.params.followText "set-order" <;> simp [SetTable.fresh], (show 0 * 5 < 7 * 3 by decide), (show 0 < 64 by decide)⟩
theorem updateK {I : Addr} {fp wr : List Addr} {G : Array GenState → Array GenState → Prop} {n : Nat} {Pv : Nat → Value → Prop} {St : Nat → Shared → Prop} {R : Result → Shared → Prop}
    (W : WalksS P w A.in1 I fp wr G n Pv St) (S : Addr) (hS : S ∉ fp) (ks : List (Addr × List κ)) (hn : n = ks.length) (few : FewK ks) (items : ∀ i v, Pv i v → ∃ p, ks[i]? = some p ∧ v = .ref p.1)
    (h0 : Heap) (tups : ∀ p ∈ ks, Tp kd h0 p.2 p.1) (newS : h0.get? S = none) (newW : ∀ b ∈ wr, h0.get? b = none) (hu : A.in1.units < cLine) :
    ∀ (m i : Nat) (s : Shared), n - i = m → i ≤ n → St i s → (∀ b o, h0.get? b = some o → s.heap.get? b = some o) → (∃ L es ep t, KSet kd s.heap S L es ep t ∧ GotK ks i L) →
      (∀ s' L es ep t, Moved (S :: wr) G s s' → KSet kd s'.heap S L es ep t → GotK ks n L → (∀ b o, h0.get? b = some o → s'.heap.get? b = some o) → R (.ok (.ret .none)) s') →
      codeAny (model P w) A (.builtin "set.update.loop" ⟨[.ref S, .ref I], []⟩) R s := by
  have offW : S ∉ wr := fun h => hS (W.sub _ h)
  have on : ∀ {s s' : Shared}, Moved wr G s s' → (∀ b o, h0.get? b = some o → s.heap.get? b = some o) → ∀ b o, h0.get? b = some o → s'.heap.get? b = some o := fun mv old b o e =>
    mv.heap b o (fun hb => by rw [newW b hb] at e; cases e) (old b o e)
  have kept : ∀ {s s' : Shared} {L es ep t i}, Moved wr G s s' → (∀ b o, h0.get? b = some o → s.heap.get? b = some o) → KSet kd s.heap S L es ep t → GotK ks i L → KSet kd s'.heap S L es ep t := fun mv old R g =>
    R.keep (fun o e => mv.heap S o offW e) fun p hp => tp_keep (tups p (List.mem_of_mem_take (g.sub p hp))) (on mv old)
  intro m
  induction m with
  | zero =>
    intro i s hm hi st old ⟨L, es, ep, t, K, g⟩ hR
    obtain rfl : i = n := by omega
    refine codeAny_builtin F.entry_set_update_loop ?_
    rw [Around.under_plainId F.plain_set_update_loop _]
    refine wpAny_bind (m := pyNext (.ref I)) (W.done s _ _ st fun s' mv => ?_)
    exact wpAny_pure (hR s' L es ep t (mv.mono fun b hb => List.mem_cons_of_mem _ hb) (kept mv old K g) g (on mv old))
  | succ m ih =>
    intro i s hm hi st old ⟨L, es, ep, t, K, g⟩ hR
    have lt : i < n := by omega
    refine codeAny_builtin F.entry_set_update_loop ?_
    rw [Around.under_plainId F.plain_set_update_loop _]
    refine wpAny_bind (m := pyNext (.ref I)) (W.item i s _ _ lt st fun v s' hv st' mv => ?_)
    obtain ⟨p, hp, rfl⟩ := items i v hv
    have old' := on mv old
    have px : Tp kd s'.heap p.2 p.1 := tp_keep (tups p (List.mem_of_getElem? hp)) old'
    have room := few L K.uniq fun q hq => List.mem_of_mem_take (g.sub q hq)
    refine wpAny_bind (m := holding [Value.ref p.1] (setAdd S (.ref p.1))) (wpAny_holding ?_)
    unfold setAdd
    refine wpAny_holding (wpAny_bind (wpAny_pyHash_tuple hu px ?_))
    have K1 : KSet kd s'.heap S L es ep t := kept mv old K g
    refine KSet.add (s := { s' with toks := s'.toks + (p.2.length + 1) }) K1 px hu (by omega) fun b h' L' es' ep' t' sb K' c1 c2 => ?_
    have old2 : ∀ b o, h0.get? b = some o → h'.get? b = some o := fun b o e => (sb.2 b fun z => by rw [z, newS] at e; cases e).trans (old' b o e)
    refine wpAny_pure ⟨plainId_quiet F.plain_set_update_loop _, ih (i + 1) _ (by omega) lt (W.frame _ s' _ _ st' (Nat.le_add_right _ _) fun b hb o e => ?_) old2 ⟨L', es', ep', t', K', g.step hp c1 c2⟩ fun s2 L2 es2 ep2 t2 mv2 K2 g2 o2 => ?_⟩
    · exact (sb.2 b fun z => hS (z ▸ hb)).trans e
    · refine hR s2 L2 es2 ep2 t2 (Moved.trans W.gtrans ((mv.mono fun b hb => List.mem_cons_of_mem _ hb).then_heap (Nat.le_add_right _ _) fun b o hb e => ?_) mv2) K2 g2 o2
      exact (sb.2 b fun z => hb (z ▸ List.mem_cons_self)).trans e
set_option maxHeartbeats 3200000 in
/-- set(xs), xs a list or a tuple of such tuples -/
theorem set_ofK {l : Addr} {items : Array Value} (ks : List (Addr × List κ)) {Q : Value → Shared → Prop} (hh : A.handled = none) (hl : s.heap.IsList l items ∨ s.heap.IsTuple l items) (hit : items.toList = ks.map fun p => Value.ref p.1)
    (hk : ∀ p ∈ ks, Tp kd s.heap p.2 p.1) (few : FewK ks) (hu : A.units + 3 < cLine)
    (h : ∀ (h' : Heap) (tk : Nat) L es ep t, KSet kd h' s.heap.objs.size L es ep t → GotK ks ks.length L → (∀ b o, s.heap.get? b = some o → h'.get? b = some o) → Q (.ref s.heap.objs.size) { s with heap := h', toks := tk }) :
    wpAny (model P w) A (call (.type "set") [.ref l]) Q E s := by
  have many : items.size = ks.length := by
    have q := congrArg List.length hit
    rwa [Array.length_toList, List.length_map] at q
  have vals : ∀ (i : Nat) (v : Value), items[i]? = some v → ∃ p, ks[i]? = some p ∧ v = .ref p.1 := fun i v hv => by
    have q : items.toList[i]? = some v := by rw [Array.getElem?_toList]; exact hv
    rw [hit, List.getElem?_map] at q
    cases hq : ks[i]? with
    | none => rw [hq] at q; cases q
    | some p => rw [hq] at q; exact ⟨p, rfl, (Option.some.inj q).symm⟩
  refine set_pre (D := fun h' => ∃ L es ep t, KSet kd h' s.heap.objs.size L es ep t ∧ GotK ks ks.length L ∧ ∀ b o, s.heap.get? b = some o → h'.get? b = some o) (fun R hR => ?_) (fun h' tk ⟨L, es, ep, t, a1, a2, a3⟩ => h h' tk L es ep t a1 a2 a3)
  have z0 : (s.heap.push (set0 w)).objs.size = s.heap.objs.size + 1 := Heap.size_push ..
  rcases hl with ⟨⟨cls, dict, data, slots⟩, at_l, hcl, nl, hdl⟩ | ⟨⟨cls, dict, data, slots⟩, at_l, hcl, nl, hdl⟩
  all_goals
    simp only at hcl hdl
    subst hcl; subst hdl
    have lS : l < s.heap.objs.size := Heap.lt_size at_l
    have l1 : l ≠ (s.heap.push (set0 w)).objs.size := by rw [z0]; exact Nat.ne_of_lt (Nat.lt_succ_of_lt lS)
    have l2 : s.heap.objs.size ∉ [(s.heap.push (set0 w)).objs.size, l] := by
      rw [z0]
      intro z
      rcases List.mem_cons.mp z with z | z
      · exact Nat.ne_of_lt (Nat.lt_succ_self _) z
      · exact Nat.ne_of_gt lS (List.mem_singleton.mp z)
    have beyond : ∀ b ∈ [(s.heap.push (set0 w)).objs.size], s.heap.get? b = none := fun b hb => none_beyond (by rw [List.mem_singleton.mp hb, z0]; exact Nat.le_succ _)
  · have at2 : (s.heap.push (set0 w)).get? l = some { cls := .type "list", dict := dict, data := .seq items nl, slots := slots } := Heap.get?_push_of_some _ at_l
    have k1 := F.sub_list_set
    have k2 := F.sub_list_frozenset
    have k3 : (Value.type "list" == Value.type "dict") = false := by decide
    have isl : (s.heap.push (set0 w)).IsList l items := ⟨_, at2, rfl, nl, rfl⟩
    unfold Builtin.«set.__init__» noKeywords Builtin.Frozenset.updateFrom
    generalize ePI : pyIter = PI
    wp_walk
    subst ePI
    refine wpAny_pyIter_list isl (wpAny_bind (wpAny_runValue ?_))
    refine updateK ((Walks.list (by simp [hh]) _ l l1 items).toS) s.heap.objs.size l2 ks many few vals s.heap hk (none_beyond (Nat.le_refl _)) beyond hu (items.size - 0) 0 _ (by omega) (Nat.zero_le _) ⟨⟨_, Heap.get?_push_size _ rfl, rfl, rfl⟩, isl.push _⟩
      (fun b o e => Heap.get?_push_of_some _ (Heap.get?_push_of_some _ e)) ⟨[], #[], 0, _, kset_new (Heap.get?_push_of_some _ (Heap.get?_push_size _ rfl)), ⟨(fun p hp => nomatch hp), fun p hp => (by simp at hp)⟩⟩ ?_
    rintro ⟨h', g2, d2, tk', os'⟩ L es ep t mv K g old
    have eg : g2 = s.gens := mv.gens
    have ed : d2 = s.drawn := mv.drawn
    have eo : os' = s.os := mv.os
    subst eg; subst ed; subst eo
    rw [many] at g
    exact wpAny_pure (wpAny_pure (hR h' tk' ⟨L, es, ep, t, K, g, old⟩))
  · have at2 : (s.heap.push (set0 w)).get? l = some { cls := .type "tuple", dict := dict, data := .seq items nl, slots := slots } := Heap.get?_push_of_some _ at_l
    have k1 := F.sub_tuple_set
    have k2 := F.sub_tuple_frozenset
    have k3 : (Value.type "tuple" == Value.type "dict") = false := by decide
    have isl : (s.heap.push (set0 w)).IsTuple l items := ⟨_, at2, rfl, nl, rfl⟩
    unfold Builtin.«set.__init__» noKeywords Builtin.Frozenset.updateFrom
    generalize ePI : pyIter = PI
    wp_walk
    subst ePI
    refine wpAny_pyIter_tuple isl (wpAny_bind (wpAny_runValue ?_))
    refine updateK ((Walks.tuple (by simp [hh]) _ l l1 items).toS) s.heap.objs.size l2 ks many few vals s.heap hk (none_beyond (Nat.le_refl _)) beyond hu (items.size - 0) 0 _ (by omega) (Nat.zero_le _) ⟨⟨_, Heap.get?_push_size _ rfl, rfl, rfl⟩, isl.push _⟩
      (fun b o e => Heap.get?_push_of_some _ (Heap.get?_push_of_some _ e)) ⟨[], #[], 0, _, kset_new (Heap.get?_push_of_some _ (Heap.get?_push_size _ rfl)), ⟨(fun p hp => nomatch hp), fun p hp => (by simp at hp)⟩⟩ ?_
    rintro ⟨h', g2, d2, tk', os'⟩ L es ep t mv K g old
    have eg : g2 = s.gens := mv.gens
    have ed : d2 = s.drawn := mv.drawn
    have eo : os' = s.os := mv.os
    subst eg; subst ed; subst eo
    rw [many] at g
    exact wpAny_pure (wpAny_pure (hR h' tk' ⟨L, es, ep, t, K, g, old⟩))
end
end My
set_option Elab.async false
set_option linter.all false
set_option maxRecDepth 100000
/-! Claims (slot, side) in the heap: sets of them, and these sorted. -/
namespace My
open PySem PySem.Spec PyProof.Rows L2
def side (b : Bool) : Str := if b = true then "shipped" else "own"
theorem side_inj {a b : Bool} (h : side a = side b) : a = b := by
  cases a <;> cases b <;> first | rfl | exact absurd h (by decide +kernel)
theorem side_eq (a b : Bool) : (side a == side b) = decide (a = b) := by
  cases a <;> cases b <;> decide +kernel
theorem side_lt (a b : Bool) : decide ((side a).cps.toList < (side b).cps.toList) = decide (a = false ∧ b = true) := by
  cases a <;> cases b <;> decide +kernel
instance (a b : Cl) : Decidable (ltC a b) := by unfold ltC; infer_instance
def clV (c : Cl) : List V := [.int c.1, .str (side c.2)]
def ck (c : Cl) : List Key := [Sum.inl c.1, Sum.inr (side c.2)]
theorem ck_kV (c : Cl) : (ck c).map kV = clV c := rfl
theorem ck_inj {a b : Cl} (h : ck a = ck b) : a = b := by
  injection h with h1 h2
  injection h2 with h2 _
  exact Prod.ext (Sum.inl.inj h1) (side_inj (Sum.inr.inj h2))
/-- the claim at an address -/
def CAt (K : PySem.W.Frag) (H : Hp) (q : Addr × Cl) : Prop := SqT K H q.1 (clV q.2)
theorem CAt.of {K : PySem.W.Frag} {H : Hp} {q : Addr × Cl} (h : H q.1 = some (.tup (clV q.2))) : CAt K H q := SqT.of h
section
variable {P : Program} {w : World} {A : Around} {E : Value → Shared → Prop} {s : Shared}
abbrev asK (L : List (Addr × Cl)) : List (Addr × List Key) := L.map fun q => (q.1, ck q.2)
theorem asK_refs (L : List (Addr × Cl)) : (asK L).map (fun p => Value.ref p.1) = L.map fun q => Value.ref q.1 := by rw [List.map_map]; rfl
theorem asK_keys (L : List (Addr × Cl)) : (asK L).map (·.2) = (L.map (·.2)).map ck := by rw [List.map_map, List.map_map]; rfl
theorem asK_of {ks : List (Addr × Cl)} : ∀ M : List (Addr × List Key), (∀ p ∈ M, p ∈ asK ks) → ∃ L, M = asK L ∧ ∀ q ∈ L, q ∈ ks
  | [], _ => ⟨[], rfl, fun _ h => nomatch h⟩
  | p :: r, h => by
    obtain ⟨L, e, hs⟩ := asK_of r fun z hz => h z (List.mem_cons_of_mem _ hz)
    obtain ⟨q, hq, eq⟩ := List.mem_map.mp (h p List.mem_cons_self)
    refine ⟨q :: L, by rw [e, ← eq]; rfl, fun z hz => ?_⟩
    rcases List.mem_cons.mp hz with e | h'
    · rw [e]; exact hq
    · exact hs z h'
theorem nodup_ck {l : List Cl} (h : (l.map ck).Nodup) : l.Nodup := nodup_of h
/-- the set at a, without the tuples themselves -/
def CSet (P : Program) (w : World) (h : Heap) (a : Addr) (L : List (Addr × Cl)) : Prop := ∃ (es : Array (Int × Value)) (ep : Nat) (t : SetTable), (∃ o, h.get? a = some o ∧ o.ExactSet ∧ o.data = .set es ep t) ∧
  es.toList = entsOf (mixKind P w) (asK L) ∧ TabOk t ((asK L).map fun p => hsh (mixKind P w) p.2) ∧ ((asK L).map (·.2)).Nodup ∧ (w.params.followText "set-order" = true ∨ t.led = true) ∧ (asK L).length * 5 < t.mask * 3 ∧ (asK L).length < 64
def SetCO (P : Program) (w : World) (a : Addr) (L : List (Addr × Cl)) : HO := .ext fun h => CSet P w h a L
theorem KSet.claims {h : Heap} {a : Addr} {L : List (Addr × Cl)} {es : Array (Int × Value)} {ep : Nat} {t : SetTable} (R : KSet (mixKind P w) h a (asK L) es ep t) : CSet P w h a L :=
  ⟨es, ep, t, R.obj, R.ents, R.tab, R.uniq, R.lead, R.room, R.few⟩
theorem CSet.full {h : Heap} {a : Addr} {L : List (Addr × Cl)} (R : CSet P w h a L) (ht : ∀ q ∈ L, Tp (mixKind P w) h (ck q.2) q.1) : ∃ es ep t, KSet (mixKind P w) h a (asK L) es ep t := by
  obtain ⟨es, ep, t, h1, h2, h3, h4, h5, h6, h7⟩ := R
  refine ⟨es, ep, t, h1, h2, h3, h4, fun p hp => ?_, h5, h6, h7⟩
  obtain ⟨q, hq, e⟩ := List.mem_map.mp hp
  rw [← e]
  exact ht q hq
theorem setCO_ok {H : Hp} {h : Heap} {a : Addr} {L : List (Addr × Cl)} (R : CSet P w h a L) : ObjOk P w H h a (SetCO P w a L) := by
  have ⟨es, ep, t, ⟨o, ho, r⟩, q⟩ := R
  refine ⟨R, ⟨o, ho⟩, fun h1 h2 p k => ?_⟩
  have ⟨es', ep', t', ⟨o', ho', r'⟩, q'⟩ := (show CSet P w h1 a L from p)
  exact (show CSet P w h2 a L from ⟨es', ep', t', ⟨o', k o' ho', r'⟩, q'⟩)
/-! ### the order of two claims -/
/-- the claim that a value is, by the list -/
noncomputable def clOf (L : List (Addr × Cl)) (v : Value) : Cl := by
  classical
  exact if h : ∃ q ∈ L, v = Value.ref q.1 then (Classical.choose h).2 else (0, false)
theorem clOf_at {L : List (Addr × Cl)} (one : ∀ q ∈ L, ∀ r ∈ L, q.1 = r.1 → q = r) {q : Addr × Cl} (hq : q ∈ L) : clOf L (.ref q.1) = q.2 := by
  classical
  have h : ∃ r ∈ L, Value.ref q.1 = Value.ref r.1 := ⟨q, hq, rfl⟩
  unfold clOf
  rw [dif_pos h]
  obtain ⟨h1, h2⟩ := Classical.choose_spec h
  injection h2 with h2
  exact congrArg Prod.snd (one q hq _ h1 h2).symm
theorem swoC (f : Value → Cl) : SrtO.Swo fun v u => decide (ltC (f v) (f u)) := by
  refine ⟨fun x y h => decide_eq_false fun g => ltC_irr (ltC_trans (of_decide_eq_true h) g), fun x y z h1 h2 => decide_eq_false fun g => ?_⟩
  have a := of_decide_eq_false h1
  have b := of_decide_eq_false h2
  rcases ltC_tri (f z) (f y) with k | k | k
  · exact b k
  · rw [k] at g; exact a g
  · exact a (ltC_trans k g)
theorem cmpC {L : List (Addr × Cl)} (one : ∀ q ∈ L, ∀ r ∈ L, q.1 = r.1 → q = r) (hk : ∀ q ∈ L, Tp (mixKind P w) s.heap (ck q.2) q.1) :
    SrtO.Cmp P w A s (tuples' true) (fun p => p.1 ∈ L.map fun q => Value.ref q.1) (SrtO.lt2 fun v u => decide (ltC (clOf L v) (clOf L u))) := by
  intro p q hm hm'
  obtain ⟨c, hc, e⟩ := List.mem_map.mp hm
  obtain ⟨d, hd, e'⟩ := List.mem_map.mp hm'
  show wpAny (model P w) A (keyLt' (tuples' true) p.1 q.1) (fun r s' => s' = s ∧ r = decide (ltC (clOf L p.1) (clOf L q.1))) (fun _ _ => False) s
  rw [← e, ← e', clOf_at one hc, clOf_at one hd]
  have ok : ∀ {c : Addr × Cl}, c ∈ L → ∃ o t u n, s.heap.get? c.1 = some o ∧ o.cls = .type "tuple" ∧ o.data = .seq #[.int c.2.1 t, .str (side c.2.2) u] n := fun {c} hc => by
    obtain ⟨o, its, n, ho, hcl, hdt, hi⟩ := hk c hc
    cases hit : its.toList with
    | nil => rw [hit] at hi; cases hi
    | cons x r =>
      rw [hit] at hi
      cases hi with
      | cons h1 h2 =>
        cases h2 with
        | cons h3 h4 =>
          cases h4
          rcases keyIs_shape (show keyIs (Sum.inl c.2.1) _ = true from h1) with ⟨i, t, e1, rfl⟩ | ⟨z, t, e1, _⟩
          · rcases keyIs_shape (show keyIs (Sum.inr (side c.2.2)) _ = true from h3) with ⟨i', t', e3, _⟩ | ⟨z', u, e3, rfl⟩
            · cases e3
            · cases e1
              cases e3
              refine ⟨o, t, u, n, ho, hcl, ?_⟩
              rw [hdt]
              congr 1
              exact Array.toList_inj.mp hit
          · cases e1
  obtain ⟨o, t, u, n, ho, _, hdt⟩ := ok hc
  obtain ⟨o', t', u', n', ho', _, hdt'⟩ := ok hd
  obtain ⟨_, x, b⟩ := c
  obtain ⟨_, y, b'⟩ := d
  dsimp only at *
  refine PySem.W.kat_lt ho hdt ho' hdt' ?_
  show PySem.W.KatLex P w A true (decide (2 < 2)) _ [(.int x t, .int y t'), (.str (side b) u, .str (side b') u')] 0 s
  refine PySem.W.kat_cons (SeqAt.EqAt.int_int x t y t' P w _ _ (PySem.W.kat_go (fun e1 => ?_) (fun e1 => ?_)))
  · have ex : x = y := by simpa using e1
    subst ex
    refine PySem.W.kat_yes (PySem.W.kat_cons (SeqAt.EqAt.str_str (side b) u (side b') u' P w _ _ ?_))
    rw [side_eq]
    refine PySem.W.kat_go (fun e2 => ?_) (fun e2 => ?_)
    · have eb := of_decide_eq_true e2
      subst eb
      exact PySem.W.kat_yes (PySem.W.kat_nil ⟨rfl, (decide_eq_false ltC_irr).symm⟩)
    · refine PySem.W.kat_no (PySem.W.kat_one _ _ (PyProof.Rows.lt_str ?_))
      refine (show s = s ∧ decide ((side b).cps.toList < (side b').cps.toList) = decide (ltC (x, b) (x, b')) from ⟨rfl, ?_⟩)
      rw [side_lt]
      exact decide_eq_decide.mpr ⟨fun h => .inr ⟨rfl, h⟩, fun h => h.elim (fun z => absurd z (Int.lt_irrefl _)) (·.2)⟩
  · have ex : ¬ x = y := by simpa using e1
    refine PySem.W.kat_no (oneLt_int (Q := fun r s' => s' = s ∧ r = decide (ltC (x, b) (y, b'))) ⟨rfl, decide_eq_decide.mpr ⟨fun h => .inl h, fun h => h.elim id (fun z => (ex z.1).elim)⟩⟩)

/-- sorted(set) of claims -/
theorem sorted_setC {a : Addr} {L : List (Addr × Cl)} {es : Array (Int × Value)} {ep : Nat} {t : SetTable} {Q : Value → Shared → Prop} (R : KSet (mixKind P w) s.heap a (asK L) es ep t) (hh : A.handled = none)
    (hQ : ∀ s' p (out : Array Value) (c : Nat) (M : List (Addr × Cl)), (∀ b o, s.heap.get? b = some o → s'.heap.get? b = some o) → s'.gens = s.gens → s'.os = s.os → s.heap.objs.size ≤ p →
      s'.heap.get? p = some (seqObj "list" out c) → out.toList = M.map (fun q => Value.ref q.1) → M.Perm L → (M.map (·.2)).Pairwise ltC → Q (.ref p) s') :
    wpAny (model P w) A (call (.builtin "sorted") [.ref a]) Q E s := by
  obtain ⟨o, ho, hex, hd⟩ := R.obj
  have le := ents_len R.ents
  rw [List.length_map] at le
  have few := R.few
  rw [List.length_map] at few
  have tup : ∀ q ∈ L, Tp (mixKind P w) s.heap (ck q.2) q.1 := fun q hq => R.tups (q.1, ck q.2) (List.mem_map.mpr ⟨q, hq, rfl⟩)
  have one : ∀ q ∈ L, ∀ r ∈ L, q.1 = r.1 → q = r := fun q hq r hr e => by
    have h1 := tup q hq
    have h2 := tup r hr
    rw [e] at h1
    exact Prod.ext e (ck_inj (h1.inj h2))
  have uq : (L.map (·.2)).Nodup := by
    have := R.uniq
    rw [asK_keys] at this
    exact nodup_ck this
  have uref : (L.map fun q => Value.ref q.1).Nodup := by
    refine List.pairwise_map.mpr (List.Pairwise.imp_of_mem (fun {q r} hq hr ne e => ?_) (nodup_of uq))
    injection e with e
    exact ne (one q hq r hr e)
  refine Calls.call_function_entry kind_sorted plain_sorted entry_sorted (args_sorted1 _) ?_
  unfold Builtin.«sorted»
  refine wpAny_bind (m := checkCount "sorted" 1 1 _) (wpAny_pure (wpAny_bind ?_))
  refine collect_set (A := A.in1) hh ⟨o, ho, hex.1, hd⟩ R.fits (by unfold scanBound; omega) R.tab.ris R.lead fun s1 vs keep1 grow g1 o1 pm => ?_
  have eV : es.toList.map (·.2) = L.map fun q => Value.ref q.1 := by
    rw [R.ents, List.map_map, List.map_map]
    rfl
  rw [eV] at pm
  have lv : vs.length = L.length := by rw [pm.length_eq, List.length_map]
  refine wpAny_bind (wpAny_newList ?_ (by rw [sizeLine_eq]; omega))
  have at1 : (s1.heap.push (seqObj "list" vs.toArray 0)).get? s1.heap.objs.size = some (seqObj "list" vs.toArray 0) := Heap.get?_push_size _ rfl
  have keep2 : ∀ b u, s.heap.get? b = some u → (s1.heap.push (seqObj "list" vs.toArray 0)).get? b = some u := fun b u e => Heap.get?_push_of_some _ (keep1 b u e)
  have mem : ∀ {v}, v ∈ vs → v ∈ L.map fun q => Value.ref q.1 := fun {v} hv => pm.mem_iff.mp hv
  refine wpAny_bind (wpAny_holding (wpAny_call_entry slot_list_sort ⟨_, at1, rfl⟩ entry_list_sort (SrtO.list_sort_ord (s := { s1 with heap := s1.heap.push (seqObj "list" vs.toArray 0) }) (ltv := fun v u => decide (ltC (clOf L v) (clOf L u))) (swoC _) at1 (by rw [sizeLine_eq]; omega)
    (fun h2 => ?_) fun out srt stb => ⟨_, rfl, ?_⟩) (args_list_sort _)))
  · intro h' keep3
    have tup' : ∀ q ∈ L, Tp (mixKind P w) h' (ck q.2) q.1 := fun q hq => by
      obtain ⟨u, its, n, hu, c, d, r⟩ := tup q hq
      refine ⟨u, its, n, keep3 q.1 u (fun e => ?_) (keep2 _ _ hu), c, d, r⟩
      have := keep2 _ _ hu
      rw [e, at1] at this
      cases this
      exact absurd (Value.type.inj c) (by decide)
    have firsts : ∀ l : List Value, (∀ v ∈ l, v ∈ L.map fun q => Value.ref q.1) → ∃ fs, PySem.W.KatTups h' l fs ∧ fs.length = l.length ∧ ∀ f ∈ fs, ∃ x t, f = Value.int x t := by
      intro l
      induction l with
      | nil => intro _; exact ⟨[], .nil, rfl, fun _ h => nomatch h⟩
      | cons v r ih =>
        intro hv
        obtain ⟨fs, k1, k2, k3⟩ := ih fun u hu => hv u (List.mem_cons_of_mem _ hu)
        obtain ⟨q, hq, e⟩ := List.mem_map.mp (hv v List.mem_cons_self)
        obtain ⟨u, its, n, hu, c, d, it⟩ := tup' q hq
        cases hit : its.toList with
        | nil => rw [hit] at it; cases it
        | cons x y =>
          rw [hit] at it
          cases it with
          | cons h1 _ =>
            obtain ⟨i, t, e1, ex⟩ | ⟨z, t, e1, _⟩ := keyIs_shape (show keyIs (Sum.inl q.2.1) _ = true from h1)
            · have f0 : its[0]? = some x := by rw [← Array.getElem?_toList, hit]; rfl
              rw [← e]
              refine ⟨x :: fs, .cons hu c d f0 k1, by rw [List.length_cons, List.length_cons, k2], fun f hf => ?_⟩
              rcases List.mem_cons.mp hf with z | z
              · exact ⟨i, t, z.trans ex⟩
              · exact k3 f z
            · cases e1
    obtain ⟨fs, k1, k2, k3⟩ := firsts vs fun v hv => mem hv
    refine ⟨tuples' true, fun Q' E' hq => ?_, fun p q hp hq => cmpC (s := { s1 with heap := h' }) one tup' p q (mem hp) (mem hq)⟩
    refine PySem.W.kat_kind (T := .type "int") k1 (by omega) (fun f hf => ?_) (by rfl) ?_
    · obtain ⟨x, t, rfl⟩ := k3 f hf
      exact PySem.W.Looks.now
    · have e : (Value.type "int" != Value.type "tuple") = true := by decide +kernel
      rw [e]
      exact hq
  · obtain ⟨c, hc⟩ := sortedHeap_at (vs := vs) (out := out.toArray) at1
    have pout := stb.perm.trans pm
    have back : ∀ l : List Value, (∀ v ∈ l, v ∈ L.map fun q => Value.ref q.1) → ∃ M : List (Addr × Cl), l = M.map (fun q => Value.ref q.1) ∧ ∀ q ∈ M, q ∈ L := by
      intro l
      induction l with
      | nil => intro _; exact ⟨[], rfl, fun _ h => nomatch h⟩
      | cons v r ih =>
        intro hv
        obtain ⟨M, e1, e2⟩ := ih fun u hu => hv u (List.mem_cons_of_mem _ hu)
        obtain ⟨q, hq, e⟩ := List.mem_map.mp (hv v List.mem_cons_self)
        refine ⟨q :: M, by rw [List.map_cons, ← e1, e], fun r hr => ?_⟩
        rcases List.mem_cons.mp hr with z | z
        · exact z ▸ hq
        · exact e2 r z
    obtain ⟨M, eM, sub⟩ := back out fun v hv => pout.mem_iff.mp hv
    have nM : M.Nodup := by
      have := pout.nodup_iff.mpr uref
      rw [eM] at this
      exact nodup_of this
    have pM : M.Perm L := by
      refine (List.perm_ext_iff_of_nodup nM (nodup_of uq)).mpr fun q => ⟨sub q, fun hq => ?_⟩
      have hm : Value.ref q.1 ∈ out := pout.mem_iff.mpr (List.mem_map.mpr ⟨q, hq, rfl⟩)
      rw [eM] at hm
      obtain ⟨r, hr, e⟩ := List.mem_map.mp hm
      injection e with e
      rw [← one r (sub r hr) q hq e]
      exact hr
    have asc : (M.map (·.2)).Pairwise ltC := by
      rw [eM] at srt
      refine List.pairwise_map.mpr (List.Pairwise.imp_of_mem (fun {q r} hq hr h => ?_) (List.Pairwise.and (List.pairwise_map.mp srt) (List.pairwise_map.mp ((pM.map (·.2)).nodup_iff.mpr uq))))
      obtain ⟨h1, h2⟩ := h
      dsimp only at h1
      rw [clOf_at one (sub q hq), clOf_at one (sub r hr)] at h1
      have h1 := of_decide_eq_false h1
      rcases ltC_tri q.2 r.2 with z | z | z
      · exact z
      · exact (h2 z).elim
      · exact (h1 z).elim
    refine wpAny_pure ⟨_, rfl, hQ _ s1.heap.objs.size out.toArray c M (fun b u e => ?_) g1 o1 grow hc eM pM asc⟩
    have q := keep1 b u e
    have lt := Heap.lt_size q
    show (sortedHeap (s1.heap.push (seqObj "list" vs.toArray 0)) s1.heap.objs.size vs out.toArray).get? b = some u
    rw [sortedHeap_old (Nat.ne_of_lt lt) (by rw [size_push']; exact Nat.lt_succ_of_lt lt)]
    exact Heap.get?_push_of_some _ q
end
/-! ### the rules -/
theorem refsC : ∀ {ks : List (Addr × Cl)} {us : List Value}, Vals (ks.map fun q => V.ref q.1) us → us = (asK ks).map fun p => Value.ref p.1
  | [], _, .nil => rfl
  | q :: ks, _, .cons r t => by
    cases r
    rw [refsC t]
    rfl
theorem valsC : ∀ (ks : List (Addr × Cl)), Vals (ks.map fun q => V.ref q.1) (ks.map fun q => Value.ref q.1)
  | [] => .nil
  | q :: ks => .cons rfl (valsC ks)
/-- few of the claims are unlike -/
def FewC (ks : List (Addr × Cl)) : Prop := ∀ M : List (Addr × Cl), (M.map (·.2)).Nodup → (∀ p ∈ M, p ∈ ks) → M.length < 63
theorem FewC.keys {ks : List (Addr × Cl)} (f : FewC ks) : FewK (asK ks) := fun M nd sub => by
  obtain ⟨L, e, hs⟩ := asK_of M sub
  subst e
  rw [asK_keys] at nd
  rw [List.length_map]
  exact f L (nodup_ck nd) hs
theorem fewC_len {ks : List (Addr × Cl)} (h : ks.length < 63) : FewC ks := fun M nd sub => by
  have := sub_len M ks (nodup_of nd) sub
  omega
section
variable {X : Cx}
theorem isC {pins : List (Addr × Obj)} {σ : L2.St} {H : Hp} {s : Shared} {q : Addr × Cl} (I : Inv X pins σ H s) (h : CAt X.K H q) : Tp (mixKind X.prog X.w) s.heap (ck q.2) q.1 := by
  obtain ⟨its, r, ⟨o, ho, hc, n, hd⟩, _⟩ := I.tuple h
  exact ⟨o, its.toArray, n, ho, hc, hd, by simpa using items_are (ks := ck q.2) r⟩
/-- set(xs), xs a list or a tuple of claims -/
def rSetOfC (K : PySem.W.Frag) (P : Program) (w : World) : List V → Hp → VK → Prop := fun xs H Q => ∃ (l : Addr) (ks : List (Addr × Cl)), xs = [V.ref l] ∧ (SqL K H l (ks.map fun q => V.ref q.1) ∨ SqT K H l (ks.map fun q => V.ref q.1)) ∧
  (∀ q ∈ ks, CAt K H q) ∧ FewC ks ∧ ∀ a L, H a = none → (∀ q ∈ L, q ∈ ks) → (∀ q ∈ ks, q.2 ∈ L.map (·.2)) → (L.map (·.2)).Nodup → Q (.ref a) (upd H a (SetCO P w a L))
theorem cr_setOfC (hc : X.calm = true) (hu : X.A.units + 64 < cLine) : CallR X (.type "set") (rSetOfC X.K X.prog X.w) := by
  intro pins s σ H xs us Q I r h
  obtain ⟨l, ks, rfl, hl, hk, few, q⟩ := h
  rw [Vals.ref1 r]
  obtain ⟨its, rv, pl⟩ : ∃ its : List Value, Vals (ks.map fun q => V.ref q.1) its ∧ (s.heap.IsList l its.toArray ∨ s.heap.IsTuple l its.toArray) := by
    rcases hl with hl | hl
    · obtain ⟨its, rv, pl, _⟩ := I.list hl
      exact ⟨its, rv, .inl pl.isList⟩
    · obtain ⟨its, rv, pl, _⟩ := I.tuple hl
      exact ⟨its, rv, .inr pl⟩
  have hks : ∀ p ∈ asK ks, Tp (mixKind X.prog X.w) s.heap p.2 p.1 := fun p hp => by
    obtain ⟨c, hc, e⟩ := List.mem_map.mp hp
    rw [← e]
    exact isC I (hk c hc)
  refine set_ofK (kd := mixKind X.prog X.w) (asK ks) (I.ok.hd hc) pl (by simpa using refsC rv) hks few.keys (by omega) fun h' tk L es ep t R g k => ?_
  obtain ⟨M, e, sub⟩ := asK_of L fun p hp => List.mem_of_mem_take (g.sub p hp)
  subst e
  have all : ∀ c ∈ ks, c.2 ∈ M.map (·.2) := fun c hc => by
    have := g.all (c.1, ck c.2) (by rw [List.length_map, List.take_of_length_le (by rw [List.length_map]; exact Nat.le_refl _)]; exact List.mem_map.mpr ⟨c, hc, rfl⟩)
    rw [asK_keys] at this
    obtain ⟨d, hd, e⟩ := List.mem_map.mp this
    rw [← ck_inj e]
    exact hd
  have nd : (M.map (·.2)).Nodup := by
    have := R.uniq
    rw [asK_keys] at this
    exact nodup_ck this
  exact ⟨.ref s.heap.objs.size, upd H _ (SetCO X.prog X.w _ M), I.laid (t' := tk) k (Nat.le_refl _) (setCO_ok R.claims), rfl, q _ M (I.hok.fresh (Nat.le_refl _)) sub all nd⟩
/-- sorted(set) of claims: a new list, ascending -/
def rSortedC (K : PySem.W.Frag) (P : Program) (w : World) : List V → Hp → VK → Prop := fun vs H Q => ∃ (a : Addr) (L : List (Addr × Cl)), vs = [V.ref a] ∧ H a = some (SetCO P w a L) ∧ (∀ q ∈ L, CAt K H q) ∧
  ∀ (M : List (Addr × Cl)) (p : Addr), M.Perm L → (M.map (·.2)).Pairwise ltC → M.length < 64 → H p = none → Q (.ref p) (upd H p (.lst (M.map fun q => V.ref q.1)))
theorem cr_sortedC (hc : X.calm = true) : CallR X (.builtin "sorted") (rSortedC X.K X.prog X.w) := by
  intro pins s σ H vs us Q I r h
  obtain ⟨a, L, rfl, ha, hk, q⟩ := h
  have R0 : CSet X.prog X.w s.heap a L := (I.hok a _ ha).1
  obtain ⟨es, ep, t, R⟩ := R0.full fun c hc => isC I (hk c hc)
  have few := R.few
  rw [List.length_map] at few
  rw [Vals.ref1 r]
  refine sorted_setC R (I.ok.hd hc) fun s' p out c M k g o hp hg hout pm asc => ?_
  have fewM : M.length < 64 := by rw [pm.length_eq]; exact few
  have hlen : (M.map fun q => V.ref q.1).length ≤ sizeLine := by rw [List.length_map, sizeLine_eq]; omega
  have hn : H p = none := I.hok.fresh hp
  have J : Inv X pins σ (upd H p (.lst (M.map fun q => V.ref q.1))) { s with heap := s'.heap, gens := s'.gens, drawn := s'.drawn, toks := s'.toks } :=
    I.call (ch := []) (Un.laid k hp hn) (I.hok.laid k hp ⟨hlen, out.toList, c, by rw [hout]; exact valsC M, hg⟩) (by rw [g]; exact I.bare) (fun _ z => nomatch z)
  have e : s' = { s with heap := s'.heap, gens := s'.gens, drawn := s'.drawn, toks := s'.toks } := by
    cases s'
    cases s
    cases o
    rfl
  rw [e]
  exact ⟨.ref p, _, J, rfl, q M p pm asc fewM hn⟩
end
end My
set_option Elab.async false
set_option linter.all false
set_option maxRecDepth 100000
/-! Lists and tuples of claims in the heap, and as data. -/
namespace My
open PySem PySem.Spec PyProof.Rows L2
def Cls (H : Hp) (l : Addr) (cs : List (Addr × Cl)) : Prop := H l = some (.lst (cs.map fun q => V.ref q.1)) ∧ ∀ q ∈ cs, H q.1 = some (.tup (clV q.2))
def ClsT (H : Hp) (l : Addr) (cs : List (Addr × Cl)) : Prop := H l = some (.tup (cs.map fun q => V.ref q.1)) ∧ ∀ q ∈ cs, H q.1 = some (.tup (clV q.2))
theorem Cls.same {H H' : Hp} {l : Addr} {cs : List (Addr × Cl)} (h : Cls H l cs) (s : Same H H') : Cls H' l cs := ⟨s _ _ h.1, fun q hq => s _ _ (h.2 q hq)⟩
theorem ClsT.same {H H' : Hp} {l : Addr} {cs : List (Addr × Cl)} (h : ClsT H l cs) (s : Same H H') : ClsT H' l cs := ⟨s _ _ h.1, fun q hq => s _ _ (h.2 q hq)⟩
/-- one more at the end of a list that grows at D: t is its new tuple -/
theorem Cls.more {H H4 : Hp} {D t : Addr} {cs : List (Addr × Cl)} {c : Cl} (nD : H D = none) (s4 : Same H H4) (h : Cls H4 D cs) (nt : H4 t = none) :
    Same H (upd (upd H4 t (.tup (clV c))) D (.lst (cs.map (fun q => V.ref q.1) ++ [.ref t]))) ∧ Cls (upd (upd H4 t (.tup (clV c))) D (.lst (cs.map (fun q => V.ref q.1) ++ [.ref t]))) D (cs ++ [(t, c)]) := by
  have tD : t ≠ D := (ne_of_none h.1 nt).symm
  refine ⟨fun b o e => ?_, ?_, fun z hz => ?_⟩
  · rw [upd_ne (fun h => by rw [h, nD] at e; cases e), upd_ne (ne_of_none (s4 _ _ e) nt)]
    exact s4 _ _ e
  · rw [upd_same, List.map_append]; rfl
  · rcases List.mem_append.mp hz with hz | hz
    · have e6 := h.2 z hz
      rw [upd_ne (fun e => by rw [e, h.1] at e6; cases e6), upd_ne (ne_of_none e6 nt)]
      exact e6
    · cases List.mem_singleton.mp hz
      rw [upd_ne tD, upd_same]
/-! ### as data -/
def clD (c : Cl) : PyData := .tuple [.int c.1, .str (side c.2)]
theorem dp_cl {K : PySem.W.Frag} {H : Hp} {t : Addr} {c : Cl} (h : H t = some (.tup (clV c))) : Dp K H (.ref t) (clD c) := .tup (SqT.of h) (.cons (.int _) (.cons (.str _) .nil))
theorem dp_clAll {K : PySem.W.Frag} {H : Hp} : ∀ {cs : List (Addr × Cl)}, (∀ q ∈ cs, H q.1 = some (.tup (clV q.2))) → DpAll K H (cs.map fun q => V.ref q.1) ((cs.map (·.2)).map clD)
  | [], _ => .nil
  | q :: r, h => .cons (dp_cl (h q List.mem_cons_self)) (dp_clAll fun z hz => h z (List.mem_cons_of_mem _ hz))
theorem dp_cls {K : PySem.W.Frag} {H : Hp} {l : Addr} {cs : List (Addr × Cl)} (h : Cls H l cs) : Dp K H (.ref l) (.list ((cs.map (·.2)).map clD)) := .lst (SqL.of h.1) (dp_clAll h.2)
theorem dp_clsT {K : PySem.W.Frag} {H : Hp} {l : Addr} {cs : List (Addr × Cl)} (h : ClsT H l cs) : Dp K H (.ref l) (.tuple ((cs.map (·.2)).map clD)) := .tup (SqT.of h.1) (dp_clAll h.2)
theorem can_side (b : Bool) : PyData.canLay0 (.str (side b)) = true := by cases b <;> decide +kernel
theorem can_cl (l : List Cl) : PyData.canLayAll0 (l.map clD) = true ∧ PyData.depthAll (l.map clD) ≤ 1 := by
  induction l with
  | nil => exact ⟨rfl, Nat.zero_le _⟩
  | cons c r ih =>
    refine ⟨?_, ?_⟩
    · show ((true && (PyData.canLay0 (.str (side c.2)) && true)) && PyData.canLayAll0 (r.map clD)) = true
      rw [ih.1, can_side]; rfl
    · show max (max 0 (max 0 0) + 1) (PyData.depthAll (r.map clD)) ≤ 1
      have := ih.2
      omega
theorem shaped_cl (l : List Cl) : SeqAt.shaped (.list (l.map clD)) = true := by
  unfold SeqAt.shaped
  rw [Bool.and_eq_true]
  refine ⟨(can_cl l).1, decide_eq_true ?_⟩
  show PyData.depthAll (l.map clD) + 1 ≤ 64
  have := (can_cl l).2
  omega
theorem shaped_clT (l : List Cl) : SeqAt.shaped (.tuple (l.map clD)) = true := by
  unfold SeqAt.shaped
  rw [Bool.and_eq_true]
  refine ⟨(can_cl l).1, decide_eq_true ?_⟩
  show PyData.depthAll (l.map clD) + 1 ≤ 64
  have := (can_cl l).2
  omega
theorem shaped_cl1 (c : Cl) : SeqAt.shaped (clD c) = true := by
  unfold SeqAt.shaped
  rw [Bool.and_eq_true]
  refine ⟨?_, decide_eq_true (show max 0 (max 0 0) + 1 ≤ 64 by decide)⟩
  show (true && (PyData.canLay0 (.str (side c.2)) && true)) = true
  rw [can_side]; rfl
theorem eqv_cl (a b : Cl) : PyData.eqv (clD a) (clD b) = decide (a = b) := by
  show ((a.1 == b.1) && ((side a.2 == side b.2) && true)) = _
  rw [Bool.and_true, side_eq]
  obtain ⟨x, p⟩ := a
  obtain ⟨y, q⟩ := b
  by_cases h : x = y
  · by_cases h2 : p = q
    · simp [h, h2]
    · simp [h2]
  · simp [h]
theorem eqvAll_cl : ∀ a b : List Cl, PyData.eqvAll (a.map clD) (b.map clD) = decide (a = b)
  | [], [] => rfl
  | [], b :: r => rfl
  | a :: r, [] => rfl
  | a :: r, b :: q => by
    show (PyData.eqv (clD a) (clD b) && PyData.eqvAll (r.map clD) (q.map clD)) = _
    rw [eqv_cl, eqvAll_cl]
    by_cases h : a = b
    · by_cases h2 : r = q
      · simp [h, h2]
      · simp [h2]
    · simp [h]
theorem eqv_clT (a b : List Cl) : PyData.eqv (.tuple (a.map clD)) (.tuple (b.map clD)) = decide (a = b) := by
  show PyData.eqvAll (a.map clD) (b.map clD) = _
  exact eqvAll_cl a b
theorem any_cl (l : List Cl) (c : Cl) : ((l.map clD).any fun z => PyData.eqv z (clD c)) = decide (c ∈ l) := by
  rw [List.any_map]
  by_cases h : c ∈ l
  · rw [decide_eq_true h]
    exact List.any_eq_true.mpr ⟨c, h, by show PyData.eqv (clD c) (clD c) = true; rw [eqv_cl, decide_eq_true rfl]⟩
  · rw [decide_eq_false h]
    refine List.any_eq_false.mpr fun q hq e => ?_
    have e : PyData.eqv (clD q) (clD c) = true := e
    rw [eqv_cl] at e
    exact h (of_decide_eq_true e ▸ hq)
/-! ### the claims of conflicts -/
def claimsL (E : List (Int × Int)) : List Cl := E.map (fun e => (e.1, false)) ++ E.map (fun e => (e.2, true))
theorem mem_claims {E : List (Int × Int)} {c : Cl} : c ∈ claimsL E ↔ ∃ e ∈ E, bears e c = true := by
  unfold claimsL
  rw [List.mem_append, List.mem_map, List.mem_map]
  obtain ⟨x, b⟩ := c
  constructor
  · rintro (⟨e, he, h⟩ | ⟨e, he, h⟩)
    · cases h; exact ⟨e, he, bears_own.mpr rfl⟩
    · cases h; exact ⟨e, he, bears_shp.mpr rfl⟩
  · rintro ⟨e, he, h⟩
    cases b with
    | false => exact .inl ⟨e, he, by rw [bears_own.mp h]⟩
    | true => exact .inr ⟨e, he, by rw [bears_shp.mp h]⟩
theorem out_take (E : List (Int × Int)) (c : Cl) {i : Nat} {e : Int × Int} (h : E[i]? = some e) : outOf (E.take (i + 1)) c = outOf (E.take i) c ++ if bears e c = true then [] else [e] := by
  unfold outOf
  rw [List.take_succ, h, Option.toList_some, List.filter_append]
  congr 1
  rw [List.filter_cons]
  cases bears e c <;> rfl
theorem not_bears (x y : Int) (c : Cl) : (!decide ((x, false) = c) && !decide ((y, true) = c)) = !bears (x, y) c := by
  obtain ⟨z, b⟩ := c
  cases b <;> simp [bears]
/-- as many conflicts as match -/
noncomputable def nuE (E : List (Int × Int)) : Nat := by
  classical
  exact if h : ∃ n, Nu E n then Classical.choose h else 0
theorem nuE_of {E : List (Int × Int)} {n : Nat} (h : Nu E n) : nuE E = n := by
  classical
  have g : ∃ n, Nu E n := ⟨n, h⟩
  unfold nuE
  rw [dif_pos g]
  exact nu_one (Classical.choose_spec g) h
end My
set_option Elab.async false
set_option linter.all false
/-! Every list of conflicts has a maximal matching, and so a cover of its size. Pure. -/
namespace My
theorem filt_le {α : Type} {p q : α → Bool} (hs : ∀ x, q x = true → p x = true) : ∀ l : List α, (l.filter q).length ≤ (l.filter p).length
  | [] => Nat.le_refl _
  | a :: r => by
    have ih := filt_le hs r
    rw [List.filter_cons, List.filter_cons]
    cases e : q a with
    | true => rw [hs a e]; simpa using ih
    | false => cases e2 : p a <;> simp <;> omega
theorem filt_less {α : Type} {p q : α → Bool} (hs : ∀ x, q x = true → p x = true) {n : α} (pn : p n = true) (qn : q n = false) : ∀ l : List α, n ∈ l → (l.filter q).length < (l.filter p).length
  | [], h => nomatch h
  | a :: r, h => by
    rw [List.filter_cons, List.filter_cons]
    rcases List.mem_cons.mp h with e | h
    · subst e
      have := filt_le hs r
      rw [pn, qn]
      simp
      omega
    · have ih := filt_less hs pn qn r h
      cases e : q a with
      | true => rw [hs a e]; simpa using ih
      | false => cases e2 : p a <;> simp <;> omega
section
variable {N : Int → List Int} {m : Int → Option Int}
noncomputable def ntB (t : Int → Prop) (y : Int) : Bool := @decide (¬ t y) (Classical.propDecidable _)
theorem ntB_iff {t : Int → Prop} {y : Int} : ntB t y = true ↔ ¬ t y := @decide_eq_true_iff _ (Classical.propDecidable _)
theorem ntB_no {t : Int → Prop} {y : Int} (h : t y) : ntB t y = false := by
  cases e : ntB t y with
  | false => rfl
  | true => exact (ntB_iff.mp e h).elim
noncomputable def untried (U : List Int) (t : Int → Prop) : Nat := (U.filter (ntB t)).length
theorem untried_less {U : List Int} {t t' : Int → Prop} {y : Int} (hy : y ∈ U) (h1 : ¬ t y) (h2 : t' y) (hs : ∀ a, t a → t' a) : untried U t' < untried U t :=
  filt_less (fun x hx => ntB_iff.mpr fun h => ntB_iff.mp hx (hs x h)) (n := y) (ntB_iff.mpr h1) (ntB_no h2) U hy
theorem find_ex {U : List Int} (hU : ∀ x, ∀ y ∈ N x, y ∈ U) : ∀ (d : Nat) (t : Int → Prop) (x : Int), Ready m t x → untried U t ≤ d → (∃ m', Found N m m' t x) ∨ ∃ t', Failed N m t t' x := by
  intro d
  induction d with
  | zero =>
    intro t x R hd
    refine .inr ⟨t, fun _ h => h, fun y hy => ?_, fun _ h => .inl h⟩
    by_cases h : t y
    · exact h
    · have := untried_less (t' := fun a => t a ∨ a = y) (hU x y hy) h (.inr rfl) (fun _ h => .inl h)
      omega
  | succ d ih =>
    intro t x R hd
    have walk : ∀ (rest done : List Int) (t1 : Int → Prop), done ++ rest = N x → Seeks N m t t1 done → (∃ m', Found N m m' t x) ∨ ∃ t', Seeks N m t t' (N x) := by
      intro rest
      induction rest with
      | nil =>
        intro done t1 e S
        rw [List.append_nil] at e
        exact .inr ⟨t1, e ▸ S⟩
      | cons y r ihr =>
        intro done t1 e S
        have e2 : (done ++ [y]) ++ r = N x := by rw [List.append_assoc]; exact e
        have hy : y ∈ N x := by rw [← e]; exact List.mem_append_right _ List.mem_cons_self
        by_cases h1 : t1 y
        · exact ihr _ t1 e2 (seeks_skip S h1)
        · have ht : ¬ t y := fun h => h1 (S.sub y h)
          cases hm : m y with
          | none => exact .inl ⟨_, found_free R hy ht hm⟩
          | some x' =>
            have less := untried_less (t' := fun a => t1 a ∨ a = y) (hU x y hy) h1 (.inr rfl) (fun _ h => .inl h)
            have le1 : untried U t1 ≤ untried U t := filt_le (fun a ha => ntB_iff.mpr fun h => ntB_iff.mp ha (S.sub a h)) U
            rcases ih (fun a => t1 a ∨ a = y) x' (ready_next R hm (.inr rfl)) (by omega) with ⟨m1, F⟩ | ⟨t', F⟩
            · exact .inl ⟨_, found_next R hy ht hm (fun a ha => .inl (S.sub a ha)) (.inr rfl) F⟩
            · exact ihr _ t' e2 (seeks_fail S hm F)
    rcases walk (N x) [] t rfl seeks_nil with h | ⟨t', S⟩
    · exact .inl h
    · exact .inr ⟨t', S.failed⟩
end
theorem mat_ex {N : Int → List Int} {U : List Int} (hU : ∀ x, ∀ y ∈ N x, y ∈ U) : ∀ (rest done : List Int) (m : Int → Option Int), (done ++ rest).Nodup → Mat N m done → ∃ m', Mat N m' (done ++ rest)
  | [], done, m, _, M => ⟨m, by rw [List.append_nil]; exact M⟩
  | x :: r, done, m, nd, M => by
    have e : (done ++ [x]) ++ r = done ++ x :: r := by rw [List.append_assoc]; rfl
    have hx : x ∉ done := fun h => (List.nodup_append.mp nd).2.2 x h x List.mem_cons_self rfl
    rw [← e] at nd ⊢
    rcases find_ex hU (untried U fun _ => False) (fun _ => False) x (M.ready hx) (Nat.le_refl _) with ⟨m', F⟩ | ⟨t', F⟩
    · exact mat_ex hU r _ m' nd (M.found hx F)
    · exact mat_ex hU r _ m nd (M.failed F)
def ded : List Int → List Int
  | [] => []
  | a :: r => if a ∈ ded r then ded r else a :: ded r
theorem mem_ded {x : Int} : ∀ {l : List Int}, x ∈ ded l ↔ x ∈ l
  | [] => Iff.rfl
  | a :: r => by
    unfold ded
    split
    · rename_i h
      rw [mem_ded, List.mem_cons]
      exact ⟨.inr, fun h' => h'.elim (fun e => by rw [e]; exact mem_ded.mp h) id⟩
    · rw [List.mem_cons, List.mem_cons, mem_ded]
theorem nd_ded : ∀ l : List Int, (ded l).Nodup
  | [] => List.nodup_nil
  | a :: r => by
    unfold ded
    split
    · exact nd_ded r
    · rename_i h
      exact List.nodup_cons.mpr ⟨h, nd_ded r⟩
theorem maxi_ex (E : List (Int × Int)) : ∃ F, Maxi E F := by
  let N : Int → List Int := fun x => (E.filter fun e => decide (e.1 = x)).map (·.2)
  have hN : ∀ x y, y ∈ N x ↔ (x, y) ∈ E := fun x y => by
    show y ∈ (E.filter fun e => decide (e.1 = x)).map (·.2) ↔ _
    rw [List.mem_map]
    constructor
    · rintro ⟨e, he, rfl⟩
      obtain ⟨h1, h2⟩ := List.mem_filter.mp he
      rw [← of_decide_eq_true h2]
      exact h1
    · intro h
      exact ⟨(x, y), List.mem_filter.mpr ⟨h, decide_eq_true rfl⟩, rfl⟩
  obtain ⟨m, M⟩ := mat_ex (N := N) (U := E.map (·.2)) (fun x y hy => List.mem_map.mpr ⟨(x, y), (hN x y).mp hy, rfl⟩) (ded (E.map (·.1))) [] (fun _ => none) (nd_ded _) mat_nil
  rw [List.nil_append] at M
  let F := (ded (E.map (·.2))).filterMap fun y => (m y).map fun x => (x, y)
  have mem : ∀ x y, (x, y) ∈ F ↔ m y = some x := fun x y => by
    show (x, y) ∈ (ded (E.map (·.2))).filterMap _ ↔ _
    rw [List.mem_filterMap]
    constructor
    · rintro ⟨z, _, e⟩
      obtain ⟨x', h1, h2⟩ := Option.map_eq_some_iff.mp e
      injection h2 with h2 h3
      rw [← h3, h1, h2]
    · intro h
      refine ⟨y, mem_ded.mpr (List.mem_map.mpr ⟨(x, y), (hN x y).mp (M.ed y x h), rfl⟩), ?_⟩
      rw [h]
      rfl
  have nd2 : ∀ l : List Int, l.Nodup → ((l.filterMap fun y => (m y).map fun x => (x, y)).map (·.2)).Nodup ∧ ∀ y ∈ (l.filterMap fun y => (m y).map fun x => (x, y)).map (·.2), y ∈ l := by
    intro l
    induction l with
    | nil => intro _; exact ⟨List.nodup_nil, fun _ h => nomatch h⟩
    | cons a r ih =>
      intro nd
      obtain ⟨n1, n2⟩ := List.nodup_cons.mp nd
      obtain ⟨i1, i2⟩ := ih n2
      cases hm : m a with
      | none =>
        rw [List.filterMap_cons_none (by rw [hm]; rfl)]
        exact ⟨i1, fun y hy => List.mem_cons_of_mem _ (i2 y hy)⟩
      | some x =>
        rw [List.filterMap_cons_some (b := (x, a)) (by rw [hm]; rfl)]
        refine ⟨List.nodup_cons.mpr ⟨fun h => n1 (i2 a h), i1⟩, fun y hy => ?_⟩
        rcases List.mem_cons.mp hy with e | h
        · rw [e]; exact List.mem_cons_self
        · exact List.mem_cons_of_mem _ (i2 y h)
  have n2 : (F.map (·.2)).Nodup := (nd2 _ (nd_ded _)).1
  refine ⟨F, fun p hp => (hN p.1 p.2).mp (M.ed _ _ ((mem p.1 p.2).mp hp)), ?_, n2, fun x y hxy hx => ?_⟩
  · refine List.pairwise_map.mpr (List.Pairwise.imp_of_mem (fun {a b} ha hb ne e => ?_) (nodup_of n2))
    have h1 := (mem a.1 a.2).mp ha
    have h2 := (mem b.1 b.2).mp hb
    rw [← e] at h2
    exact ne (Prod.ext e (M.inj _ _ _ h1 h2))
  · rcases M.dead x (mem_ded.mpr (List.mem_map.mpr ⟨(x, y), hxy, rfl⟩)) with ⟨a, ha⟩ | ⟨T, hT, hz⟩
    · exact (hx (List.mem_map.mpr ⟨(x, a), (mem x a).mpr ha, rfl⟩)).elim
    · refine ⟨T, fun b hb => ?_, fun z hz' => hz z ((hN x z).mpr hz')⟩
      obtain ⟨x', e, h'⟩ := hT b hb
      exact ⟨x', (mem x' b).mpr e, fun z hz' => h' z ((hN x' z).mpr hz')⟩
theorem nu_ex (E : List (Int × Int)) : Nu E (nuE E) := by
  obtain ⟨F, h⟩ := maxi_ex E
  have := h.nu
  rw [nuE_of this]
  exact this
theorem Maxi.size {E F : List (Int × Int)} (h : Maxi E F) : F.length = nuE E := (nuE_of h.nu).symm
/-- the least cover, claim by claim -/
noncomputable def leastC (cs : List Cl) (E : List (Int × Int)) : List Cl := greedy nuE cs E (nuE E)
theorem leastC_ok {cs : List Cl} {E : List (Int × Int)} (asc : cs.Pairwise ltC) (all : ∀ c, c ∈ cs ↔ ∃ e ∈ E, bears e c = true) : Least E (leastC cs E) :=
  greedy_least (G := fun _ => True) (fun _ _ _ => trivial) (fun E _ => nu_ex E) trivial asc fun e he d hb => (all d).mpr ⟨e, he, hb⟩
end My
set_option Elab.async false
set_option linter.all false
set_option maxRecDepth 100000
/-! Objects of any plain kind in the heap: what they are as data, their types, isinstance, in of a tuple, repr. -/
namespace My
open PySem PySem.Spec PyProof.Rows L2
mutual
inductive DD (H : Hp) : V → PyData → Prop
  | non : DD H .non .none
  | bl (b : Bool) : DD H (.bl b) (.bool b)
  | int (i : Int) : DD H (.int i) (.int i)
  | str (x : Str) : DD H (.str x) (.str x)
  | lst {a : Addr} {xs : List V} {ds : List PyData} : H a = some (.lst xs) → DDs H xs ds → DD H (.ref a) (.list ds)
  | tup {a : Addr} {xs : List V} {ds : List PyData} : H a = some (.tup xs) → DDs H xs ds → DD H (.ref a) (.tuple ds)
inductive DDs (H : Hp) : List V → List PyData → Prop
  | nil : DDs H [] []
  | cons {v : V} {vs : List V} {d : PyData} {ds : List PyData} : DD H v d → DDs H vs ds → DDs H (v :: vs) (d :: ds)
end
mutual
theorem DD.dp {K : PySem.W.Frag} {H : Hp} : ∀ {v : V} {d : PyData}, DD H v d → Dp K H v d
  | _, _, .non => .non
  | _, _, .bl b => .bl b
  | _, _, .int i => .int i
  | _, _, .str x => .str x
  | _, _, .lst h a => .lst (SqL.of h) (DDs.dp a)
  | _, _, .tup h a => .tup (SqT.of h) (DDs.dp a)
theorem DDs.dp {K : PySem.W.Frag} {H : Hp} : ∀ {vs : List V} {ds : List PyData}, DDs H vs ds → DpAll K H vs ds
  | _, _, .nil => .nil
  | _, _, .cons h a => .cons (DD.dp h) (DDs.dp a)
end
mutual
theorem DD.same {H H' : Hp} (s : Same H H') : ∀ {v : V} {d : PyData}, DD H v d → DD H' v d
  | _, _, .non => .non
  | _, _, .bl b => .bl b
  | _, _, .int i => .int i
  | _, _, .str x => .str x
  | _, _, .lst h a => .lst (s _ _ h) (DDs.same s a)
  | _, _, .tup h a => .tup (s _ _ h) (DDs.same s a)
theorem DDs.same {H H' : Hp} (s : Same H H') : ∀ {vs : List V} {ds : List PyData}, DDs H vs ds → DDs H' vs ds
  | _, _, .nil => .nil
  | _, _, .cons h a => .cons (DD.same s h) (DDs.same s a)
end
theorem DDs.len {H : Hp} : ∀ {vs : List V} {ds : List PyData}, DDs H vs ds → vs.length = ds.length
  | _, _, .nil => rfl
  | _, _, .cons _ a => by rw [List.length_cons, List.length_cons, DDs.len a]
theorem DDs.get {H : Hp} : ∀ {vs : List V} {ds : List PyData}, DDs H vs ds → ∀ {i : Nat} {v : V}, vs[i]? = some v → ∃ d, ds[i]? = some d ∧ DD H v d
  | _, _, .nil, i, v, e => by cases e
  | _, _, .cons (d := d) h a, i, v, e => by
    cases i with
    | zero => cases e; exact ⟨d, rfl, h⟩
    | succ i => exact DDs.get a e
theorem DDs.app {H : Hp} : ∀ {vs us : List V} {ds es : List PyData}, DDs H vs ds → DDs H us es → DDs H (vs ++ us) (ds ++ es)
  | _, _, _, _, .nil, b => b
  | _, _, _, _, .cons h a, b => .cons h (DDs.app a b)
theorem DDs.cut {H : Hp} {vs : List V} {ds : List PyData} (a : DDs H vs ds) (lo hi : Option Int) : ∃ es, DDs H (cutV vs lo hi) es ∧ ∀ e ∈ es, e ∈ ds := by
  have tk : ∀ {vs : List V} {ds : List PyData} (n : Nat), DDs H vs ds → DDs H (vs.take n) (ds.take n) := by
    intro vs ds n a
    induction n generalizing vs ds with
    | zero => exact .nil
    | succ n ih =>
      cases a with
      | nil => exact .nil
      | cons h a => exact .cons h (ih a)
  have dr : ∀ {vs : List V} {ds : List PyData} (n : Nat), DDs H vs ds → DDs H (vs.drop n) (ds.drop n) := by
    intro vs ds n a
    induction n generalizing vs ds with
    | zero => exact a
    | succ n ih =>
      cases a with
      | nil => exact .nil
      | cons h a => exact ih a
  exact ⟨_, tk _ (dr _ a), fun e he => List.mem_of_mem_drop (List.mem_of_mem_take he)⟩
/-- and it is so whatever becomes of b -/
def DK (b : Addr) (H : Hp) (v : V) (d : PyData) : Prop := ∀ H', Kept b H H' → DD H' v d
def DKs (b : Addr) (H : Hp) (vs : List V) (ds : List PyData) : Prop := ∀ H', Kept b H H' → DDs H' vs ds
theorem DK.now {b : Addr} {H : Hp} {v : V} {d : PyData} (h : DK b H v d) : DD H v d := h H (Kept.refl _ _)
theorem DKs.now {b : Addr} {H : Hp} {v : List V} {d : List PyData} (h : DKs b H v d) : DDs H v d := h H (Kept.refl _ _)
theorem DK.keep {b : Addr} {H H' : Hp} {v : V} {d : PyData} (h : DK b H v d) (k : Kept b H H') : DK b H' v d := fun H2 k2 => h H2 (k.trans k2)
theorem DKs.keep {b : Addr} {H H' : Hp} {v : List V} {d : List PyData} (h : DKs b H v d) (k : Kept b H H') : DKs b H' v d := fun H2 k2 => h H2 (k.trans k2)
theorem DK.tup {b p : Addr} {H : Hp} {xs : List V} {ds : List PyData} (e : H p = some (.tup xs)) (pb : p ≠ b) (h : DKs b H xs ds) : DK b H (.ref p) (.tuple ds) := fun H' k => .tup (k _ _ pb e) (h H' k)
theorem DK.lst {b p : Addr} {H : Hp} {xs : List V} {ds : List PyData} (e : H p = some (.lst xs)) (pb : p ≠ b) (h : DKs b H xs ds) : DK b H (.ref p) (.list ds) := fun H' k => .lst (k _ _ pb e) (h H' k)
theorem DKs.nil {b : Addr} {H : Hp} : DKs b H [] [] := fun _ _ => .nil
theorem DKs.cons {b : Addr} {H : Hp} {v : V} {vs : List V} {d : PyData} {ds : List PyData} (h : DK b H v d) (t : DKs b H vs ds) : DKs b H (v :: vs) (d :: ds) := fun H' k => .cons (h H' k) (t H' k)
theorem DKs.app {b : Addr} {H : Hp} {vs us : List V} {ds es : List PyData} (h : DKs b H vs ds) (t : DKs b H us es) : DKs b H (vs ++ us) (ds ++ es) := fun H' k => (h H' k).app (t H' k)
theorem DK.int {b : Addr} {H : Hp} (i : Int) : DK b H (.int i) (.int i) := fun _ _ => .int i
theorem DK.str {b : Addr} {H : Hp} (i : Str) : DK b H (.str i) (.str i) := fun _ _ => .str i
theorem DK.bl {b : Addr} {H : Hp} (i : Bool) : DK b H (.bl i) (.bool i) := fun _ _ => .bl i
theorem DK.non {b : Addr} {H : Hp} : DK b H .non .none := fun _ _ => .non
/-! ### types -/
def tyOf : PyData → String
  | .none => "NoneType"
  | .bool _ => "bool"
  | .int _ => "int"
  | .str _ => "str"
  | .list _ => "list"
  | .tuple _ => "tuple"
  | .dict _ => "dict"
theorem DD.ty {K : PySem.W.Frag} {H : Hp} {v : V} {d : PyData} (h : DD H v d) : TyX K H v (.type (tyOf d)) := by
  cases h with
  | non => exact .base .non
  | bl b => exact .base (.bl b)
  | int i => exact .base (.int i)
  | str x => exact .base (.str x)
  | lst e _ => exact .base (.lst e)
  | tup e _ => exact .base (.tup e)
def isTupD : PyData → Bool | .tuple _ => true | _ => false
def isListD : PyData → Bool | .list _ => true | _ => false
def isBoolD : PyData → Bool | .bool _ => true | _ => false
def isIntD : PyData → Bool | .bool _ => true | .int _ => true | _ => false
def isStrD : PyData → Bool | .str _ => true | _ => false
theorem kit_tup : ∀ d : PyData, kitB (tyOf d) "tuple" = some (isTupD d)
  | .none => (by decide +kernel : kitB "NoneType" "tuple" = some false)
  | .bool _ => (by decide +kernel : kitB "bool" "tuple" = some false)
  | .int _ => (by decide +kernel : kitB "int" "tuple" = some false)
  | .str _ => (by decide +kernel : kitB "str" "tuple" = some false)
  | .list _ => (by decide +kernel : kitB "list" "tuple" = some false)
  | .tuple _ => (by decide +kernel : kitB "tuple" "tuple" = some true)
  | .dict _ => (by decide +kernel : kitB "dict" "tuple" = some false)
theorem kit_list : ∀ d : PyData, kitB (tyOf d) "list" = some (isListD d)
  | .none => (by decide +kernel : kitB "NoneType" "list" = some false)
  | .bool _ => (by decide +kernel : kitB "bool" "list" = some false)
  | .int _ => (by decide +kernel : kitB "int" "list" = some false)
  | .str _ => (by decide +kernel : kitB "str" "list" = some false)
  | .list _ => (by decide +kernel : kitB "list" "list" = some true)
  | .tuple _ => (by decide +kernel : kitB "tuple" "list" = some false)
  | .dict _ => (by decide +kernel : kitB "dict" "list" = some false)
theorem kit_bool : ∀ d : PyData, kitB (tyOf d) "bool" = some (isBoolD d)
  | .none => (by decide +kernel : kitB "NoneType" "bool" = some false)
  | .bool _ => (by decide +kernel : kitB "bool" "bool" = some true)
  | .int _ => (by decide +kernel : kitB "int" "bool" = some false)
  | .str _ => (by decide +kernel : kitB "str" "bool" = some false)
  | .list _ => (by decide +kernel : kitB "list" "bool" = some false)
  | .tuple _ => (by decide +kernel : kitB "tuple" "bool" = some false)
  | .dict _ => (by decide +kernel : kitB "dict" "bool" = some false)
theorem kit_int : ∀ d : PyData, kitB (tyOf d) "int" = some (isIntD d)
  | .none => (by decide +kernel : kitB "NoneType" "int" = some false)
  | .bool _ => (by decide +kernel : kitB "bool" "int" = some true)
  | .int _ => (by decide +kernel : kitB "int" "int" = some true)
  | .str _ => (by decide +kernel : kitB "str" "int" = some false)
  | .list _ => (by decide +kernel : kitB "list" "int" = some false)
  | .tuple _ => (by decide +kernel : kitB "tuple" "int" = some false)
  | .dict _ => (by decide +kernel : kitB "dict" "int" = some false)
theorem kit_str : ∀ d : PyData, kitB (tyOf d) "str" = some (isStrD d)
  | .none => (by decide +kernel : kitB "NoneType" "str" = some false)
  | .bool _ => (by decide +kernel : kitB "bool" "str" = some false)
  | .int _ => (by decide +kernel : kitB "int" "str" = some false)
  | .str _ => (by decide +kernel : kitB "str" "str" = some true)
  | .list _ => (by decide +kernel : kitB "list" "str" = some false)
  | .tuple _ => (by decide +kernel : kitB "tuple" "str" = some false)
  | .dict _ => (by decide +kernel : kitB "dict" "str" = some false)
/-! ### in of a tuple -/
section
variable {X : Cx}
def rInT (K : PySem.W.Frag) (neg : Bool) : R2 := fun x y H Q => ∃ d ds, Dp K H x d ∧ Dp K H y (.tuple ds) ∧ SeqAt.shaped d = true ∧ SeqAt.shaped (.tuple ds) = true ∧ Q (.bl (neg ^^ ds.any fun z => PyData.eqv z d)) H
theorem op_inT (hu : X.A.units + 65 < cLine) : OpR X (compareOp .In) (rInT X.K false) := by
  intro pins s σ H x y v u Q I rx ry h
  obtain ⟨d, ds, hd, he, sd, se, q⟩ := h
  obtain ⟨as, r1⟩ := Dp.reads I d x v hd rx
  obtain ⟨bs, r2⟩ := Dp.reads I (.tuple ds) y u he ry
  rw [Bool.false_xor] at q
  exact SeqAt.in_tuple_reads r2 r1 (SeqAt.canLay_of_shaped se) (SeqAt.canLay_of_shaped sd) (room_in_shaped sd hu) ⟨.bl _, H, I, rfl, q⟩
theorem op_notInT (hu : X.A.units + 65 < cLine) : OpR X (compareOp .NotIn) (rInT X.K true) := by
  intro pins s σ H x y v u Q I rx ry h
  obtain ⟨d, ds, hd, he, sd, se, q⟩ := h
  obtain ⟨as, r1⟩ := Dp.reads I d x v hd rx
  obtain ⟨bs, r2⟩ := Dp.reads I (.tuple ds) y u he ry
  rw [Bool.true_xor] at q
  exact SeqAt.notIn_tuple_reads r2 r1 (SeqAt.canLay_of_shaped se) (SeqAt.canLay_of_shaped sd) (room_in_shaped sd hu) ⟨.bl _, H, I, rfl, q⟩
end
/-! ### small data -/
def Leaf : PyData → Prop
  | .none => True
  | .bool _ => True
  | .int n => 0 ≤ n ∧ n ≤ 1000
  | .str s => Plain 20 s
  | _ => False
def Part : PyData → Prop
  | .tuple l => l.length ≤ 3 ∧ ∀ x ∈ l, Leaf x
  | .list l => l.length ≤ 3 ∧ ∀ x ∈ l, Leaf x
  | d => Leaf d
def OkD : PyData → Prop
  | .tuple l => l.length ≤ 60 ∧ ∀ x ∈ l, Part x
  | .list l => l.length ≤ 60 ∧ ∀ x ∈ l, Part x
  | d => Leaf d
structure Fact (n m : Nat) (d : PyData) : Prop where
  sh : d.showable = true
  nd : d.hasDict = false
  dp : d.depth ≤ n
  ls : d.leavesShort 8 = true
  bk : d.bulk ≤ m
  cl : d.canLay0 = true
theorem int_short {n : Int} (h0 : 0 ≤ n) (h1 : n ≤ 1000) : (PyData.int n).showable = true ∧ (PyData.int n).leavesShort 8 = true := by
  obtain ⟨k, rfl⟩ := Int.eq_ofNat_of_zero_le h0
  have hk : k ≤ 1000 := by omega
  have all : ((List.range 1001).all fun k => (PyData.int (k : Int)).showable && (PyData.int (k : Int)).leavesShort 8) = true := by decide +kernel
  have := List.all_eq_true.mp all k (List.mem_range.mpr (by omega))
  rw [Bool.and_eq_true] at this
  exact this
theorem Leaf.fact : ∀ {d : PyData}, Leaf d → Fact 0 20 d
  | .none, _ => ⟨rfl, rfl, Nat.le_refl _, by decide, by decide, rfl⟩
  | .bool b, _ => ⟨rfl, rfl, Nat.le_refl _, by cases b <;> decide, by cases b <;> decide, rfl⟩
  | .int n, h => ⟨(int_short h.1 h.2).1, rfl, Nat.le_refl _, (int_short h.1 h.2).2, by show 0 ≤ 20; decide, rfl⟩
  | .str s, h => by
    have h : Plain 20 s := h
    refine ⟨rfl, rfl, Nat.le_refl _, ?_, ?_, ?_⟩
    · have : ∀ c ∈ s.cps.toList, c < 16 ^ 8 := fun c hc => Nat.lt_trans (h.small c hc) (by decide)
      simpa only [PyData.leavesShort, List.all_eq_true, decide_eq_true_eq] using this
    · show s.cps.size ≤ 20
      have h1 := h.len
      have : s.length = s.cps.size := rfl
      omega
    · have : ∀ c ∈ s.cps.toList, c < 0x110000 := fun c hc => Nat.lt_trans (h.small c hc) (by decide)
      show PyData.strOk s = true
      unfold PyData.strOk
      rw [← Array.all_toList, List.all_eq_true]
      exact fun c hc => decide_eq_true (this c hc)
theorem facts {n m : Nat} : ∀ {l : List PyData}, (∀ x ∈ l, Fact n m x) → PyData.showableAll l = true ∧ PyData.hasDictAll l = false ∧ PyData.depthAll l ≤ n ∧ PyData.leavesShortAll 8 l = true ∧ PyData.bulkAll l ≤ (m + 1) * l.length ∧ PyData.canLayAll0 l = true
  | [], _ => ⟨rfl, rfl, Nat.zero_le _, rfl, Nat.zero_le _, rfl⟩
  | d :: r, h => by
    obtain ⟨h1, h2, h3, h4, h5, h6⟩ := facts (l := r) fun z hz => h z (List.mem_cons_of_mem _ hz)
    have f := h d List.mem_cons_self
    refine ⟨?_, ?_, ?_, ?_, ?_, ?_⟩
    · show (d.showable && PyData.showableAll r) = true
      rw [f.sh, h1]; rfl
    · show (d.hasDict || PyData.hasDictAll r) = false
      rw [f.nd, h2]; rfl
    · show max d.depth (PyData.depthAll r) ≤ n
      have := f.dp
      omega
    · show (d.leavesShort 8 && PyData.leavesShortAll 8 r) = true
      rw [f.ls, h4]; rfl
    · show d.bulk + 1 + PyData.bulkAll r ≤ (m + 1) * (r.length + 1)
      have := f.bk
      rw [Nat.mul_succ]
      omega
    · show (d.canLay0 && PyData.canLayAll0 r) = true
      rw [f.cl, h6]; rfl
theorem fact_seq {n m k : Nat} {l : List PyData} (h : ∀ x ∈ l, Fact n m x) (hl : l.length ≤ k) : Fact (n + 1) ((m + 1) * k) (.tuple l) ∧ Fact (n + 1) ((m + 1) * k) (.list l) := by
  obtain ⟨h1, h2, h3, h4, h5, h6⟩ := facts h
  have b : PyData.bulkAll l ≤ (m + 1) * k := Nat.le_trans h5 (Nat.mul_le_mul_left _ hl)
  exact ⟨⟨h1, h2, by show PyData.depthAll l + 1 ≤ n + 1; omega, h4, b, h6⟩, ⟨h1, h2, by show PyData.depthAll l + 1 ≤ n + 1; omega, h4, b, h6⟩⟩
theorem Fact.mono {n m n' m' : Nat} {d : PyData} (f : Fact n m d) (h : n ≤ n') (g : m ≤ m') : Fact n' m' d := ⟨f.sh, f.nd, Nat.le_trans f.dp h, f.ls, Nat.le_trans f.bk g, f.cl⟩
theorem Part.fact : ∀ {d : PyData}, Part d → Fact 1 63 d
  | .tuple l, h => ((fact_seq (fun x hx => Leaf.fact (h.2 x hx)) h.1).1)
  | .list l, h => ((fact_seq (fun x hx => Leaf.fact (h.2 x hx)) h.1).2)
  | .none, h => (Leaf.fact (d := .none) h).mono (by decide) (by decide)
  | .bool b, h => (Leaf.fact (d := .bool b) h).mono (by decide) (by decide)
  | .int n, h => (Leaf.fact (d := .int n) h).mono (by decide) (by decide)
  | .str s, h => (Leaf.fact (d := .str s) h).mono (by decide) (by decide)
  | .dict kvs, h => h.elim
theorem OkD.fact : ∀ {d : PyData}, OkD d → Fact 2 3840 d
  | .tuple l, h => ((fact_seq (fun x hx => Part.fact (h.2 x hx)) h.1).1)
  | .list l, h => ((fact_seq (fun x hx => Part.fact (h.2 x hx)) h.1).2)
  | .none, h => (Leaf.fact (d := .none) h).mono (by decide) (by decide)
  | .bool b, h => (Leaf.fact (d := .bool b) h).mono (by decide) (by decide)
  | .int n, h => (Leaf.fact (d := .int n) h).mono (by decide) (by decide)
  | .str s, h => (Leaf.fact (d := .str s) h).mono (by decide) (by decide)
  | .dict kvs, h => h.elim
theorem Fact.shaped {n m : Nat} {d : PyData} (f : Fact n m d) (h : n ≤ 60) : SeqAt.shaped d = true := by
  unfold SeqAt.shaped
  rw [Bool.and_eq_true]
  exact ⟨f.cl, decide_eq_true (by have := f.dp; omega)⟩
theorem Fact.shows {n m : Nat} {d : PyData} (f : Fact n m d) (h : n ≤ 8) (g : m ≤ 100000) : Shows d := by
  refine ⟨f.sh, f.nd, Nat.le_trans f.dp h, ?_⟩
  have b := PyData.shown_le_bulk 8 (by decide) d f.ls
  have h6 : (1100000 : Nat) ≤ sizeLine := by decide
  have := f.bk
  omega
end My
set_option Elab.async false
set_option linter.all false
set_option maxRecDepth 100000
/-! The turns of a walk, whatever is done in each (for comprehensions of two clauses). -/
namespace My
open PySem PySem.Spec PyProof.Rows L2
theorem it_turns {J : It} {n : Nat} {G : Hp → Prop} {Y : Nat → Hp → V → Hp → Prop} (w : Walk J n G Y) {B : V → Hp → (Hp → Prop) → Prop} {H0 : Hp} {Qd : Hp → Prop} (Pv : Nat → Hp → Prop) (h0 : Pv 0 H0) (hG : ∀ i H, i ≤ n → Pv i H → G H)
    (hs : ∀ i x H H', i < n → Pv i H → Y i H x H' → B x H' (Pv (i + 1))) (hd : ∀ H, Pv n H → Qd H) :
    ∃ W : Nat → Nat → Hp → Prop, (∃ m, W 0 m H0) ∧ ∀ i m H, W i m H → (J.stop i H ∧ Qd H) ∨ (J.go i H ∧ ∃ Nx : Hp → Prop, (∀ H', Nx H' → ∃ m', m' < m ∧ W (i + 1) m' H') ∧ ∀ x H', J.yld i H x H' → B x H' Nx) := by
  refine ⟨fun i m H => m = n - i ∧ i ≤ n ∧ Pv i H, ⟨n, by simp, Nat.zero_le _, h0⟩, ?_⟩
  rintro i m H ⟨rfl, hi, p⟩
  have q := hG i H hi p
  by_cases lt : i < n
  · exact .inr ⟨w.goes i H lt q, Pv (i + 1), fun H' p' => ⟨n - (i + 1), by omega, rfl, lt, p'⟩, fun x H' y => hs i x H H' lt p (w.yields i H x H' lt q y)⟩
  · have e : i = n := by omega
    subst e
    exact .inl ⟨w.stops H q, hd H p⟩
end My
set_option Elab.async false
set_option linter.all false
set_option maxRecDepth 100000
/-! Which data are an ascending tuple of some of these claims. Pure. -/
namespace My
open PySem PySem.Spec PyProof.Rows L2
def itemsD : PyData → List PyData
  | .tuple l => l
  | _ => []
def SelC (cs : List Cl) (d : PyData) : Prop := ∃ L : List Cl, d = .tuple (L.map clD) ∧ (∀ c ∈ L, c ∈ cs) ∧ L.Pairwise ltC
theorem eqv_tup_of {z : PyData} {ys : List PyData} (h : PyData.eqv z (.tuple ys) = true) : ∃ xs, z = .tuple xs ∧ PyData.eqvAll xs ys = true := by
  cases z with
  | tuple xs => exact ⟨xs, rfl, h⟩
  | _ => cases h
theorem eqvAll_two {xs : List PyData} {a b : PyData} (h : PyData.eqvAll xs [a, b] = true) : ∃ x y, xs = [x, y] ∧ PyData.eqv x a = true ∧ PyData.eqv y b = true := by
  match xs, h with
  | [x, y], h =>
    have h : (PyData.eqv x a && (PyData.eqv y b && true)) = true := h
    rw [Bool.and_true, Bool.and_eq_true] at h
    exact ⟨x, y, rfl, h.1, h.2⟩
  | [x], h =>
    have h : (PyData.eqv x a && false) = true := h
    rw [Bool.and_false] at h
    cases h
  | x :: y :: w :: r, h =>
    have h : (PyData.eqv x a && (PyData.eqv y b && false)) = true := h
    rw [Bool.and_false, Bool.and_false] at h
    cases h
theorem eqv_int_of {z : PyData} {n : Int} (h : PyData.eqv z (.int n) = true) (nb : isBoolD z = false) : z = .int n := by
  cases z with
  | int m =>
    have h : (m == n) = true := h
    rw [beq_iff_eq.mp h]
  | bool b => cases nb
  | _ => cases h
theorem eqv_str_of {z : PyData} {s : Str} (h : PyData.eqv z (.str s) = true) : z = .str s := by
  cases z with
  | str t =>
    have h : (t == s) = true := h
    rw [beq_iff_eq.mp h]
  | _ => cases h
theorem eqv_cl_of {z : PyData} {c : Cl} (h : PyData.eqv z (clD c) = true) (nb : (itemsD z).any isBoolD = false) : z = clD c := by
  obtain ⟨xs, rfl, h⟩ := eqv_tup_of h
  obtain ⟨x, y, rfl, h1, h2⟩ := eqvAll_two h
  have nb : (isBoolD x || (isBoolD y || false)) = false := nb
  rw [Bool.or_eq_false_iff] at nb
  rw [eqv_int_of h1 nb.1, eqv_str_of h2]
  rfl
theorem all_cl_of : ∀ {ds : List PyData} {L : List Cl}, PyData.eqvAll ds (L.map clD) = true → (ds.flatMap itemsD).any isBoolD = false → ds = L.map clD
  | [], [], _, _ => rfl
  | [], c :: r, h, _ => by cases h
  | z :: q, [], h, _ => by cases h
  | z :: q, c :: r, h, nb => by
    have h : (PyData.eqv z (clD c) && PyData.eqvAll q (r.map clD)) = true := h
    rw [Bool.and_eq_true] at h
    rw [List.flatMap_cons, List.any_append, Bool.or_eq_false_iff] at nb
    rw [eqv_cl_of h.1 nb.1, all_cl_of h.2 nb.2]
    rfl
theorem no_bools (L : List Cl) : ((L.map clD).flatMap itemsD).any isBoolD = false := by
  induction L with
  | nil => rfl
  | cons c r ih =>
    rw [List.map_cons, List.flatMap_cons, List.any_append, ih]
    rfl
theorem ltC_asym (a b : Cl) (h : ltC a b) : ¬ ltC b a := fun g => ltC_irr (ltC_trans h g)
/-- those of the choices that are in it -/
def pickC (cs : List Cl) (ds : List PyData) : List Cl := cs.filter fun c => ds.any fun z => PyData.eqv z (clD c)
theorem pick_of {cs L : List Cl} (asc : cs.Pairwise ltC) (sub : ∀ c ∈ L, c ∈ cs) (aL : L.Pairwise ltC) : pickC cs (L.map clD) = L := by
  refine sorted_eq ltC_asym _ _ (asc.filter _) aL fun c => ?_
  unfold pickC
  rw [List.mem_filter, any_cl, decide_eq_true_eq]
  exact ⟨fun h => h.2, fun h => ⟨sub c h, h⟩⟩
theorem sel_no {cs : List Cl} {ds : List PyData} (asc : cs.Pairwise ltC) (h : PyData.eqvAll ds ((pickC cs ds).map clD) = false) : ¬ SelC cs (.tuple ds) := by
  rintro ⟨L, e, sub, aL⟩
  injection e with e
  subst e
  rw [pick_of asc sub aL, eqvAll_cl, decide_eq_true rfl] at h
  cases h
theorem sel_yes {cs : List Cl} {ds : List PyData} (asc : cs.Pairwise ltC) (h : PyData.eqvAll ds ((pickC cs ds).map clD) = true) : (!(ds.flatMap itemsD).any isBoolD) = true ↔ SelC cs (.tuple ds) := by
  rw [Bool.not_eq_true']
  constructor
  · intro nb
    exact ⟨pickC cs ds, by rw [← all_cl_of h nb], fun c hc => (List.mem_filter.mp hc).1, asc.filter _⟩
  · rintro ⟨L, e, _, _⟩
    injection e with e
    rw [e]
    exact no_bools L
def CovC (E : List (Int × Int)) (cs : List Cl) (d : PyData) : Prop := ∃ L : List Cl, d = .tuple (L.map clD) ∧ (∀ c ∈ L, c ∈ cs) ∧ L.Pairwise ltC ∧ Cov E L
theorem clD_inj {a b : Cl} (h : clD a = clD b) : a = b := by
  have := eqv_cl a b
  rw [h, eqv_cl, decide_eq_true rfl] at this
  exact of_decide_eq_true this.symm
theorem map_clD_inj {a b : List Cl} (h : a.map clD = b.map clD) : a = b := by
  have := eqvAll_cl a b
  rw [h, eqvAll_cl, decide_eq_true rfl] at this
  exact of_decide_eq_true this.symm
end My
set_option Elab.async false
set_option linter.all false
/-! The place of a claim in an ascending list. Pure. -/
namespace My
def posC : List Cl → Cl → Nat
  | [], _ => 0
  | a :: r, c => if a = c then 0 else posC r c + 1
theorem pos_at : ∀ {cs : List Cl} {c : Cl}, c ∈ cs → cs[posC cs c]? = some c
  | a :: r, c, h => by
    unfold posC
    by_cases e : a = c
    · rw [if_pos e, e]; rfl
    · rw [if_neg e, List.getElem?_cons_succ]
      exact pos_at ((List.mem_cons.mp h).elim (fun z => (e z.symm).elim) id)
theorem pos_no : ∀ {cs : List Cl} {c : Cl} {m : Nat} {x : Cl}, m < posC cs c → cs[m]? = some x → x ≠ c
  | a :: r, c, m, x, h, hx => by
    unfold posC at h
    by_cases e : a = c
    · rw [if_pos e] at h; exact absurd h (Nat.not_lt_zero _)
    · rw [if_neg e] at h
      cases m with
      | zero => cases hx; exact e
      | succ m => exact pos_no (Nat.lt_of_succ_lt_succ h) hx
theorem pos_lt {cs : List Cl} (asc : cs.Pairwise ltC) {a b : Cl} (ha : a ∈ cs) (hb : b ∈ cs) : posC cs a < posC cs b ↔ ltC a b := by
  have ga := pos_at ha
  have gb := pos_at hb
  have key : ∀ {a b : Cl}, cs[posC cs a]? = some a → cs[posC cs b]? = some b → posC cs a < posC cs b → ltC a b := fun {a b} ga gb h => by
    obtain ⟨la, ea⟩ := List.getElem?_eq_some_iff.mp ga
    obtain ⟨lb, eb⟩ := List.getElem?_eq_some_iff.mp gb
    have := List.pairwise_iff_getElem.mp asc _ _ la lb h
    rw [ea, eb] at this
    exact this
  constructor
  · exact key ga gb
  · intro h
    rcases Nat.lt_trichotomy (posC cs a) (posC cs b) with z | z | z
    · exact z
    · rw [z, gb] at ga
      rw [Option.some.inj ga] at h
      exact (ltC_irr h).elim
    · exact (ltC_irr (ltC_trans h (key gb ga z))).elim
theorem adj_asc {α : Type} {R : α → α → Prop} (tr : ∀ a b c, R a b → R b c → R a c) : ∀ {l : List α}, (∀ (k : Nat) (a b : α), l[k]? = some a → l[k + 1]? = some b → R a b) → l.Pairwise R
  | [], _ => List.Pairwise.nil
  | [a], _ => List.pairwise_singleton _ _
  | a :: b :: r, h => by
    have ih := adj_asc tr (l := b :: r) fun k x y hx hy => h (k + 1) x y hx hy
    refine List.pairwise_cons.mpr ⟨fun x hx => ?_, ih⟩
    have ab := h 0 a b rfl rfl
    rcases List.mem_cons.mp hx with e | hx
    · rw [e]; exact ab
    · exact tr _ _ _ ab ((List.pairwise_cons.mp ih).1 x hx)
theorem asc_adj {α : Type} {R : α → α → Prop} {l : List α} (h : l.Pairwise R) {k : Nat} {a b : α} (ha : l[k]? = some a) (hb : l[k + 1]? = some b) : R a b := by
  obtain ⟨la, ea⟩ := List.getElem?_eq_some_iff.mp ha
  obtain ⟨lb, eb⟩ := List.getElem?_eq_some_iff.mp hb
  have := List.pairwise_iff_getElem.mp h _ _ la lb (Nat.lt_succ_self _)
  rw [ea, eb] at this
  exact this
end My
set_option Elab.async false
set_option linter.all false
set_option maxRecDepth 100000
/-! Parts whose ints are at most m. -/
namespace My
open PySem PySem.Spec PyProof.Rows L2
def LeafB (m : Int) : PyData → Prop
  | .none => True
  | .bool _ => True
  | .int n => 0 ≤ n ∧ n ≤ m
  | .str s => Plain 20 s
  | _ => False
def PartB (m : Int) : PyData → Prop
  | .tuple l => l.length ≤ 3 ∧ ∀ x ∈ l, LeafB m x
  | .list l => l.length ≤ 3 ∧ ∀ x ∈ l, LeafB m x
  | d => LeafB m d
theorem LeafB.mono {m n : Int} (h : m ≤ n) : ∀ {d : PyData}, LeafB m d → LeafB n d
  | .none, _ => trivial
  | .bool _, _ => trivial
  | .int k, g => ⟨g.1, Int.le_trans g.2 h⟩
  | .str s, g => g
theorem PartB.mono {m n : Int} (h : m ≤ n) : ∀ {d : PyData}, PartB m d → PartB n d
  | .tuple l, g => ⟨g.1, fun x hx => (g.2 x hx).mono h⟩
  | .list l, g => ⟨g.1, fun x hx => (g.2 x hx).mono h⟩
  | .none, _ => trivial
  | .bool _, _ => trivial
  | .int k, g => ⟨g.1, Int.le_trans g.2 h⟩
  | .str s, g => g
theorem LeafB.leaf {m : Int} (h : m ≤ 1000) : ∀ {d : PyData}, LeafB m d → Leaf d
  | .none, _ => trivial
  | .bool _, _ => trivial
  | .int k, g => ⟨g.1, Int.le_trans g.2 h⟩
  | .str s, g => g
theorem PartB.part {m : Int} (h : m ≤ 1000) : ∀ {d : PyData}, PartB m d → Part d
  | .tuple l, g => ⟨g.1, fun x hx => (g.2 x hx).leaf h⟩
  | .list l, g => ⟨g.1, fun x hx => (g.2 x hx).leaf h⟩
  | .none, _ => trivial
  | .bool _, _ => trivial
  | .int k, g => ⟨g.1, Int.le_trans g.2 h⟩
  | .str s, g => g
theorem plain_side (b : Bool) : Plain 20 (side b) := by
  cases b
  · exact plain_all (cs := [side false]) (by decide +kernel) _ List.mem_cons_self
  · exact plain_all (cs := [side true]) (by decide +kernel) _ List.mem_cons_self
theorem part_cl {m : Int} {c : Cl} (h0 : 0 ≤ c.1) (h1 : c.1 ≤ m) : PartB m (clD c) := by
  refine ⟨by show 2 ≤ 3; decide, fun x hx => ?_⟩
  rcases List.mem_cons.mp hx with e | hx
  · subst e; exact ⟨h0, h1⟩
  · rw [List.mem_singleton.mp hx]; exact plain_side _
theorem part_clI {m : Int} {c : Cl} (h : PartB m (clD c)) : 0 ≤ c.1 ∧ c.1 ≤ m := h.2 _ List.mem_cons_self
/-- the text of a small number -/
theorem plain_num {n : Int} (h0 : 0 ≤ n) (h1 : n ≤ 1000) : Plain 20 (toString n : String) := by
  obtain ⟨k, rfl⟩ := Int.eq_ofNat_of_zero_le h0
  have hk : k ≤ 1000 := by omega
  have all : ((List.range 1001).all fun k => decide ((Str.ofString (toString (k : Int))).length ≤ 20) && (Str.ofString (toString (k : Int))).cps.toList.all fun c => decide (c < 128)) = true := by decide +kernel
  have := List.all_eq_true.mp all k (List.mem_range.mpr (by omega))
  rw [Bool.and_eq_true] at this
  exact ⟨of_decide_eq_true this.1, fun c hc => of_decide_eq_true (List.all_eq_true.mp this.2 c hc)⟩
theorem DKs.len {b : Addr} {H : Hp} {vs : List V} {ds : List PyData} (h : DKs b H vs ds) : vs.length = ds.length := h.now.len
theorem DKs.get {b : Addr} {H : Hp} {vs : List V} {ds : List PyData} (h : DKs b H vs ds) {i : Nat} {v : V} (e : vs[i]? = some v) : ∃ d, ds[i]? = some d ∧ DK b H v d := by
  obtain ⟨d, hd, _⟩ := h.now.get e
  refine ⟨d, hd, fun H' k => ?_⟩
  obtain ⟨d', hd', g⟩ := (h H' k).get e
  rw [hd] at hd'
  cases hd'
  exact g
theorem DKs.sub {b : Addr} {H : Hp} : ∀ {us : List V}, (∀ v ∈ us, ∃ d, DK b H v d ∧ True) → ∃ es, DKs b H us es ∧ es.length = us.length
  | [], _ => ⟨[], .nil, rfl⟩
  | v :: r, h => by
    obtain ⟨d, hd, _⟩ := h v List.mem_cons_self
    obtain ⟨es, he, hl⟩ := DKs.sub (us := r) fun u hu => h u (List.mem_cons_of_mem _ hu)
    exact ⟨d :: es, .cons hd he, by rw [List.length_cons, List.length_cons, hl]⟩
/-- values that are parts -/
def PV (b : Addr) (H : Hp) (m : Int) (v : V) : Prop := ∃ d, DK b H v d ∧ PartB m d
theorem PV.keep {b : Addr} {H H' : Hp} {m : Int} {v : V} (h : PV b H m v) (k : Kept b H H') : PV b H' m v := by
  obtain ⟨d, hd, p⟩ := h
  exact ⟨d, hd.keep k, p⟩
theorem PV.all {b : Addr} {H : Hp} {m : Int} : ∀ {us : List V}, (∀ v ∈ us, PV b H m v) → ∃ es, DKs b H us es ∧ es.length = us.length ∧ ∀ z ∈ es, PartB m z
  | [], _ => ⟨[], .nil, rfl, fun _ h => nomatch h⟩
  | v :: r, h => by
    obtain ⟨d, hd, p⟩ := h v List.mem_cons_self
    obtain ⟨es, he, hl, hp⟩ := PV.all (us := r) fun u hu => h u (List.mem_cons_of_mem _ hu)
    refine ⟨d :: es, .cons hd he, by rw [List.length_cons, List.length_cons, hl], fun z hz => ?_⟩
    rcases List.mem_cons.mp hz with e | hz
    · rw [e]; exact p
    · exact hp z hz
theorem mem_cut {xs : List V} {lo hi : Option Int} {v : V} (h : v ∈ cutV xs lo hi) : v ∈ xs := by
  unfold cutV at h
  exact List.mem_of_mem_drop (List.mem_of_mem_take h)
end My
set_option Elab.async false
set_option linter.all false
set_option maxRecDepth 100000
/-! Which data are an ascending tuple of some of these pairs of ints; which are a matching of them. Pure. -/
namespace My
open PySem PySem.Spec PyProof.Rows L2
def SelP (E : List (Int × Int)) (d : PyData) : Prop := ∃ L : List (Int × Int), d = .tuple (L.map pd) ∧ (∀ c ∈ L, c ∈ E) ∧ L.Pairwise ltP
theorem eqv_pd_of {z : PyData} {c : Int × Int} (h : PyData.eqv z (pd c) = true) (nb : (itemsD z).any isBoolD = false) : z = pd c := by
  obtain ⟨xs, rfl, h⟩ := eqv_tup_of h
  obtain ⟨x, y, rfl, h1, h2⟩ := eqvAll_two h
  have nb : (isBoolD x || (isBoolD y || false)) = false := nb
  rw [Bool.or_eq_false_iff, Bool.or_false] at nb
  rw [eqv_int_of h1 nb.1, eqv_int_of h2 nb.2]
  rfl
theorem all_pd_of : ∀ {ds : List PyData} {L : List (Int × Int)}, PyData.eqvAll ds (L.map pd) = true → (ds.flatMap itemsD).any isBoolD = false → ds = L.map pd
  | [], [], _, _ => rfl
  | [], c :: r, h, _ => by cases h
  | z :: q, [], h, _ => by cases h
  | z :: q, c :: r, h, nb => by
    have h : (PyData.eqv z (pd c) && PyData.eqvAll q (r.map pd)) = true := h
    rw [Bool.and_eq_true] at h
    rw [List.flatMap_cons, List.any_append, Bool.or_eq_false_iff] at nb
    rw [eqv_pd_of h.1 nb.1, all_pd_of h.2 nb.2]
    rfl
theorem eqvAll_pd : ∀ a b : List (Int × Int), PyData.eqvAll (a.map pd) (b.map pd) = decide (a = b)
  | [], [] => rfl
  | [], y :: r => rfl
  | x :: q, [] => rfl
  | x :: q, y :: r => by
    show (PyData.eqv (pd x) (pd y) && PyData.eqvAll (q.map pd) (r.map pd)) = _
    rw [eqv_pd, eqvAll_pd q r]
    by_cases h1 : x = y <;> by_cases h2 : q = r <;> simp [h1, h2]
theorem no_boolsP (L : List (Int × Int)) : ((L.map pd).flatMap itemsD).any isBoolD = false := by
  induction L with
  | nil => rfl
  | cons c r ih =>
    rw [List.map_cons, List.flatMap_cons, List.any_append, ih]
    rfl
def pickP (cs : List (Int × Int)) (ds : List PyData) : List (Int × Int) := cs.filter fun c => ds.any fun z => PyData.eqv z (pd c)
theorem pickP_of {cs L : List (Int × Int)} (asc : cs.Pairwise ltP) (sub : ∀ c ∈ L, c ∈ cs) (aL : L.Pairwise ltP) : pickP cs (L.map pd) = L := by
  refine sorted_eq ltP_asym _ _ (asc.filter _) aL fun c => ?_
  unfold pickP
  rw [List.mem_filter, any_pd, decide_eq_true_eq]
  exact ⟨fun h => h.2, fun h => ⟨sub c h, h⟩⟩
theorem selP_no {cs : List (Int × Int)} {ds : List PyData} (asc : cs.Pairwise ltP) (h : PyData.eqvAll ds ((pickP cs ds).map pd) = false) : ¬ SelP cs (.tuple ds) := by
  rintro ⟨L, e, sub, aL⟩
  injection e with e
  subst e
  rw [pickP_of asc sub aL, eqvAll_pd, decide_eq_true rfl] at h
  cases h
theorem selP_yes {cs : List (Int × Int)} {ds : List PyData} (asc : cs.Pairwise ltP) (h : PyData.eqvAll ds ((pickP cs ds).map pd) = true) : (!(ds.flatMap itemsD).any isBoolD) = true ↔ SelP cs (.tuple ds) := by
  rw [Bool.not_eq_true']
  constructor
  · intro nb
    exact ⟨pickP cs ds, by rw [← all_pd_of h nb], fun c hc => (List.mem_filter.mp hc).1, asc.filter _⟩
  · rintro ⟨L, e, _, _⟩
    injection e with e
    rw [e]
    exact no_boolsP L
theorem pd_inj {a b : Int × Int} (h : pd a = pd b) : a = b := by
  have := eqv_pd a b
  rw [h, eqv_pd, decide_eq_true rfl] at this
  exact of_decide_eq_true this.symm
theorem map_pd_inj {a b : List (Int × Int)} (h : a.map pd = b.map pd) : a = b := by
  have := eqvAll_pd a b
  rw [h, eqvAll_pd, decide_eq_true rfl] at this
  exact of_decide_eq_true this.symm
/-- a matching of pairs of E, as data: ascending, no slot twice on its side -/
def MatP (E : List (Int × Int)) (d : PyData) : Prop := ∃ L : List (Int × Int), d = .tuple (L.map pd) ∧ (∀ c ∈ L, c ∈ E) ∧ L.Pairwise ltP ∧ (L.map (·.1)).Nodup ∧ (L.map (·.2)).Nodup
/-- two pairs in this order may stand in it -/
def okP (a b : Int × Int) : Prop := a.1 ≠ b.1 ∧ a.2 ≠ b.2 ∧ ¬ ltP b a
theorem okP_of {L : List (Int × Int)} : L.Pairwise okP ↔ L.Pairwise ltP ∧ (L.map (·.1)).Nodup ∧ (L.map (·.2)).Nodup := by
  unfold List.Nodup
  rw [List.pairwise_map, List.pairwise_map]
  constructor
  · intro h
    refine ⟨h.imp fun {a b} h => ?_, h.imp fun {a b} h => h.1, h.imp fun {a b} h => h.2.1⟩
    unfold okP ltP at h
    unfold ltP
    omega
  · rintro ⟨h1, h2, h3⟩
    refine (h1.and (h2.and h3)).imp fun {a b} h => ⟨h.2.1, h.2.2, fun g => ?_⟩
    exact ltP_asym _ _ h.1 g
end My
set_option Elab.async false
set_option linter.all false
set_option maxRecDepth 100000
set_option maxHeartbeats 2000000
/-! {e for t in xs if ..} whose elements are ints; len of a set of ints; > of tuples of ints; a walk over a list or a tuple. -/
namespace My
open PySem PySem.Spec PyProof.Rows L2
open PpSet (newSet_ok compLoopS_any codeAny_compStart_set eval_SetComp)
section
variable {X : Cx}
/-- what a turn of the set comprehension does with the element -/
def putI (w : World) (D : Addr) (Nx : Hp → Prop) : VK := fun y H => ∃ (k : Int) (S : Int → Bool) (n : Nat), y = .int k ∧ H D = some (SetO w D S n) ∧ n + 1 < scanBound ∧ Nx (upd H D (SetO w D (fun j => S j || decide (j = k)) (if S k = true then n else n + 1)))
def tScI (w : World) (wi : TI) (g : TG) (tt : TT) (te : TE) (vs : List Nat) : TE := fun σ H Q => wi σ H fun J H1 => ∀ D, H1 D = none →
  ∃ W : Nat → Nat → Hp → Prop, (∃ m, W 0 m (upd H1 D (SetO w D (fun _ => false) 0))) ∧
    ∀ i m H, W i m H → (J.stop i H ∧ Q (.ref D) H) ∨ (J.go i H ∧ ∃ Nx : Hp → Prop, (∀ H', Nx H' → ∃ m', m' < m ∧ W (i + 1) m' H') ∧
      ∀ x H', J.yld i H x H' → g x (wipe σ vs) H' fun σ2 H2 => wipe σ2 vs = wipe σ vs ∧ tt σ2 H2 fun b H3 => if b = true then te σ2 H3 (putI w D Nx) else Nx H3)
theorem addI_ok {pins : List (Addr × Obj)} {σ : L2.St} {H : Hp} {s : Shared} {E : Value → Shared → Prop} {D : Addr} {S : Int → Bool} {n : Nat} {k : Int} {tk : Tok} {Q : Value → Shared → Prop}
    (I : Inv X pins σ H s) (hD : H D = some (SetO X.w D S n)) (room : n + 1 < scanBound)
    (h : ∀ s', Inv X pins σ (upd H D (SetO X.w D (fun j => S j || decide (j = k)) (if S k = true then n else n + 1))) s' → Q .none s') :
    wpAny (model X.prog X.w) X.A (call (.builtin "set.add") [.ref D, .int k tk]) Q E s := by
  refine setR_add (setO_get I hD) room fun h1 sb new => h _ ?_
  have ⟨o, _, _, _, ho, _⟩ := new
  exact I.write (e := D) (t' := s.toks + 1) (by rw [hD]; trivial) (.inl rfl) (fun b u hb hu => (sb.2 b hb).trans hu) ⟨o, ho⟩ (setO_new new)
abbrev BlkPG (X : Cx) (scope : Scope) (tg : Expr) (g : TG) : Prop := ∀ (s : Shared) (H : Hp) (C : Addr) (cl : List (PySem.Str × Addr)) (fp : List Addr), PG (X.blk s H scope (compEnvC scope cl C X.env) fp) tg g
abbrev BlkPT (X : Cx) (scope : Scope) (ifs : List Expr) (tt : TT) : Prop := ∀ (s : Shared) (H : Hp) (C : Addr) (cl : List (PySem.Str × Addr)) (fp : List Addr), PTs (X.blk s H scope (compEnvC scope cl C X.env) fp) ifs tt
abbrev BlkPE (X : Cx) (scope : Scope) (e : Expr) (t : TE) : Prop := ∀ (s : Shared) (H : Hp) (C : Addr) (cl : List (PySem.Str × Addr)) (fp : List Addr), PE (X.blk s H scope (compEnvC scope cl C X.env) fp) e t
theorem pe_scI {elt tg iter : Expr} {ifs : List Expr} {scope : Scope} {own : List (PySem.Str × Nat)} {pos : Pos} {wi : TI} {g : TG} {tt : TT} {te : TE} (hc : X.calm = true) (hN : X.N.Nodup) (hi : PI X tg iter wi)
    (ok : BlkOk X.N X.env.scope scope own) (hg : BlkPG X scope tg g) (ht : BlkPT X scope ifs tt) (he : BlkPE X scope elt te) (hs : ∀ x, foldedSetIterable iter X.env x = pure x := by intro _; rfl) :
    PE X (.SetComp elt [⟨tg, iter, ifs, 0⟩] scope pos) (tScI X.w wi g tt te (own.map (·.2))) := by
  refine ⟨fun pins s σ H Q I h => ?_⟩
  rw [eval_SetComp]
  have fr : ∀ y ∈ scope.names, y.2 = .free → ∃ c, X.env.cells.lookup y.1 = some c := fun y hy e => (ok.free y hy e).elim (fun k => I.ok.has _ (.inl k)) (fun k => I.ok.has _ (.inr k))
  refine wpAny_comprehension_free rfl hs (closure_ok fr) ok.kind (fun y hy e => by rw [ok.uniq y hy, e]) (thn (hi.run pins s σ H _ I h) fun xv s1 hx => thn hx fun itv s2 h2 => ?_)
  obtain ⟨it, fp, tn, J, H2, rfl, I2, T, st2, f2, q⟩ := h2
  refine newSet_ok (newEnv_comp ?_)
  have dNew : H2 s2.heap.objs.size = none := I2.hok.fresh (Nat.le_refl _)
  obtain ⟨W, ⟨m0, w0⟩, turn⟩ := q _ dNew
  generalize hO : ({ cls := .type "set", dict := none, data := .set #[] 0 (.fresh 0 0 (!X.w.params.followText "set-order")) } : Obj) = O
  have new0 : SetR X.w (s2.heap.push O) s2.heap.objs.size (fun _ => false) 0 := hO ▸ setR_fresh X.w
  generalize hd0 : s2.heap.objs.size = D at dNew w0 turn new0
  have I3 : Inv X pins σ (upd H2 D (SetO X.w D (fun _ => false) 0)) { s2 with heap := s2.heap.push O } := I2.laid (t' := s2.toks) (fun b o e => Heap.get?_push_of_some _ e) (Nat.le_of_eq hd0) (setO_new new0)
  have fpLt : ∀ b ∈ fp, b < s2.heap.objs.size := fun b hb => let ⟨o, e, _⟩ := T.obj _ _ st2 b hb; Heap.lt_size e
  have sz3 : (s2.heap.push O).objs.size = s2.heap.objs.size + 1 := Heap.size_push ..
  have f3 : ∀ b ∈ fp, FpOk X pins (upd H2 D (SetO X.w D (fun _ => false) 0)) b ∧ b < (s2.heap.push O).objs.size := fun b hb => by
    have lt := fpLt b hb
    refine ⟨⟨?_, (f2 b hb).2⟩, by rw [sz3]; exact Nat.lt_succ_of_lt lt⟩
    rw [upd_ne (by rw [← hd0]; exact Nat.ne_of_lt lt)]
    exact (f2 b hb).1
  have st3 : tn 0 (s2.heap.push O) := T.keep _ _ _ st2 fun b _ o e => Heap.get?_push_of_some _ e
  generalize hS3 : ({ s2 with heap := s2.heap.push O } : Shared) = s3 at I3
  have hh3 : s3.heap = s2.heap.push O := by rw [← hS3]
  rw [← hh3] at f3 st3
  have I4 := block_start I3 ok hN f3
  have noneFp : ∀ b ∈ fp, (upd H2 D (SetO X.w D (fun _ => false) 0)) b = none := fun b hb => (f3 b hb).1.1
  generalize hH3 : upd H2 D (SetO X.w D (fun _ => false) 0) = H3 at I3 I4 w0 noneFp f3
  generalize hC : s3.heap.objs.size = C at I4 f3
  have pg := hg s3 H3 C (cellsFrom (C + 1) scope.names (cloFrom X.env.cells scope.names [])) fp
  have pt := ht s3 H3 C (cellsFrom (C + 1) scope.names (cloFrom X.env.cells scope.names [])) fp
  have pe := he s3 H3 C (cellsFrom (C + 1) scope.names (cloFrom X.env.cells scope.names [])) fp
  generalize hs4 : ({ s3 with heap := pushCells (s3.heap.push { cls := .type "dict", data := .dict #[] }) scope.names } : Shared) = s4 at I4
  show codeAny _ _ (.compStart _ 0 (.ref it) (.ref D) (compEnvC scope (cellsFrom (C + 1) scope.names (cloFrom X.env.cells scope.names [])) C X.env)) (compPost (model X.prog X.w) X.A X.xe none (EP X pins σ Q) (.ref D) C) s4
  have st4 : tn 0 s4.heap := by
    rw [← hs4]
    exact T.keep _ _ _ st3 fun b _ o e => pushCells_keeps _ _ _ _ (Heap.get?_push_of_some _ e)
  have cL : (compEnvC scope (cellsFrom (C + 1) scope.names (cloFrom X.env.cells scope.names [])) C X.env).locals = C := rfl
  generalize compEnvC scope (cellsFrom (C + 1) scope.names (cloFrom X.env.cells scope.names [])) C X.env = ce at I4 pg pt pe cL
  have at0 : ∀ {σ' : L2.St} {H' : Hp} {s' : Shared}, Inv (X.blk s3 H3 scope ce fp) [] σ' H' s' → (∀ b ∈ fp, H' b = none) → ∀ b ∈ fp, FpOk (X.blk s3 H3 scope ce fp) [] H' b := by
    intro σ' H' s' I' hn b hb
    refine ⟨hn b hb, (I'.ok.exf b hb).1, I'.ok.exfs b hb, .inl hb, fun x c e => (I'.ok.exf b hb).2 x c e, fun p hp => ?_⟩
    have hp : p ∈ ([] : List (Addr × Obj)) ++ [] := hp
    cases hp
  have walk : codeAny (model X.prog X.w) X.A (.compLoop (.SetComp elt [⟨tg, iter, ifs, 0⟩] scope pos) 0 (.ref it) (.ref D) ce) (compPost (model X.prog X.w) X.A X.xe none (EP X pins σ Q) (.ref D) C) s4 := by
    refine compLoopS_any (fun n u => ∃ i G, Inv (X.blk s3 H3 scope ce fp) [] (wipe σ (own.map (·.2))) G u ∧ tn i u.heap ∧ (∀ b ∈ fp, G b = none) ∧ W i n G) ?_ m0 ⟨0, H3, I4, st4, noneFp, w0⟩
    rintro n s5 ⟨i, G, J5, t5, n5, w5⟩
    rcases turn i n G w5 with ⟨stop, qq⟩ | ⟨go, Nx, less, step⟩
    · refine thnF (T.done (X.blk s3 H3 scope ce fp) rfl rfl rfl hc i [] s5 _ G (fun _ _ => False) J5 (at0 J5 n5) t5 stop) fun r s6 ⟨hr, I6⟩ => ?_
      rw [hr]
      have out : Inv X pins σ G s6 := I3.call' (ch := fp) I6.os I6.base I6.hok I6.bare fun b hb => by
        obtain ⟨_, a1, _, a3, a4, a5⟩ := (f3 b hb).1
        exact ⟨a3, a1, a4, a5⟩
      have lf : G ce.locals = none := I6.free
      obtain ⟨m, hm, _⟩ := I6.loc
      have hm : s6.heap.Ns ce.locals m := hm
      rw [cL] at lf hm
      refine ⟨m, hm, fun h2 sb => ?_⟩
      obtain ⟨g0, g1, _, g3, g4, g5⟩ := I3.fpOk (Nat.le_of_eq hC) lf
      exact ⟨.ref D, G, out.turned (t' := s6.toks) (fun b o hb e => (sb.2 b hb).trans e) g0 g1 g3 g4 g5, rfl, qq⟩
    · refine thnF (T.item (X.blk s3 H3 scope ce fp) rfl rfl rfl hc i [] s5 _ G (fun _ _ => False) J5 (at0 J5 n5) t5 go) fun r s6 ⟨u, hr, h6⟩ => ?_
      rw [hr]
      refine thnF h6 fun _ s7 ⟨x, G7, I7, r7, y7, t7, n7⟩ => ?_
      refine thnF (pg.run _ s7 _ G7 x u _ (I7.pinned (at0 I7 n7) (T.obj _ _ t7)) r7 (step x G7 y7)) fun _ s8 ⟨σ8, G8, I8, hw8, q8⟩ => ?_
      refine thnF (pt.run _ s8 σ8 G8 _ I8 q8) fun b s9 ⟨G9, I9, q9⟩ => ?_
      have fin : ∀ {u : Shared} {G' : Hp}, Inv (X.blk s3 H3 scope ce fp) ([] ++ pinsAt fp s7.heap) σ8 G' u → Nx G' → ∃ m, m < n ∧ ∃ i G', Inv (X.blk s3 H3 scope ce fp) [] (wipe σ (own.map (·.2))) G' u ∧ tn i u.heap ∧ (∀ b ∈ fp, G' b = none) ∧ W i m G' := by
        intro u G' Iu nx
        obtain ⟨m1, lt, w1⟩ := less G' nx
        have held : ∀ b ∈ fp, ∀ o, s7.heap.get? b = some o → u.heap.get? b = some o ∧ G' b = none := fun b hb o e => by
          have z := Iu.pin (b, o) (List.mem_append_right _ (List.mem_append_right _ (mem_pinsAt hb e)))
          exact ⟨z.1, z.2.1⟩
        refine ⟨m1, lt, i + 1, G', (Iu.unpinned (pins := [])).weak (by rw [← hw8, wipe_length]) (fun j v e => ?_), T.keep _ _ _ t7 fun b hb o e => (held b hb o e).1, fun b hb => ?_, w1⟩
        · rw [← hw8] at e
          exact (wipe_some e).1
        · obtain ⟨o, e, _⟩ := T.obj _ _ t7 b hb
          exact (held b hb o e).2
      cases b with
      | false =>
        simp only [Bool.false_eq_true, if_false] at q9 ⊢
        exact fin I9 q9
      | true =>
        simp only [if_true] at q9 ⊢
        refine thnF (pe.run _ s9 σ8 G9 _ I9 q9) fun z s10 ⟨yv, G10, I10, r10, k0, S0, n0, ey, hD10, room, nx⟩ => ?_
        subst ey
        obtain ⟨tk, rfl⟩ := r10
        exact addI_ok (X := X.blk s3 H3 scope ce fp) I10 hD10 room fun s11 I11 => fin I11 nx
  exact codeAny_compStart_set walk (T.self X.A 0 _ _ _ st4 walk)
/-- len of a set of ints -/
def rLenS (w : World) : List V → Hp → VK → Prop := fun xs H Q => ∃ (a : Addr) (S : Int → Bool) (n : Nat), xs = [V.ref a] ∧ H a = some (SetO w a S n) ∧ n < 1000 ∧ Q (.int n) H
theorem cr_lenS : CallR X (.builtin "len") (rLenS X.w) := by
  intro pins s σ H xs us Q I r h
  obtain ⟨a, S, n, rfl, ha, few, q⟩ := h
  rw [Vals.ref1 r]
  obtain ⟨o, es, ep, t, ho, hex, hd, g, nd, hm, hb, hf, hn, _⟩ := setO_get I ha
  subst hn
  refine PySem.call_len_set ho hex hd hf (by omega) ?_
  exact ⟨.int es.size, H, (I.tok _).tok _, ⟨_, rfl⟩, q⟩
/-- x > y, two pairs of ints -/
def rGtP (K : PySem.W.Frag) : R2 := fun x y H Q => ∃ (a b : Addr) (p q : Int × Int), x = .ref a ∧ y = .ref b ∧ SqT K H a [.int p.1, .int p.2] ∧ SqT K H b [.int q.1, .int q.2] ∧ Q (.bl (decide (q.1 < p.1 ∨ q.1 = p.1 ∧ q.2 < p.2))) H
theorem op_gtP (hu : X.A.units < cLine) : OpR X (compareOp .Gt) (rGtP X.K) := by
  intro pins s σ H x y v u Q I rx ry h
  obtain ⟨a, b, ⟨p1, p2⟩, ⟨q1, q2⟩, rfl, rfl, ha, hb, q⟩ := h
  cases rx
  cases ry
  obtain ⟨as, r1, t1, _⟩ := I.tuple ha
  obtain ⟨bs, r2, t2, _⟩ := I.tuple hb
  cases r1 with
  | cons ra ra' =>
  cases ra' with
  | cons rb rb' =>
  cases rb'
  cases r2 with
  | cons rc rc' =>
  cases rc' with
  | cons rd rd' =>
  cases rd'
  obtain ⟨k1, rfl⟩ := ra
  obtain ⟨k2, rfl⟩ := rb
  obtain ⟨k3, rfl⟩ := rc
  obtain ⟨k4, rfl⟩ := rd
  have R := Ob.RcOp.tuples_gt (A := X.A) (s := s) (e := fun j => if j = 0 then p1 == q1 else p2 == q2) (r := fun j => if j = 0 then decide (q1 < p1) else decide (q2 < p2)) t1 t2 hu (fun j h1 h2 => by
    match j, h1, h2 with
    | 0, _, _ => exact SeqAt.EqAt.int_int p1 k1 q1 k3
    | 1, _, _ => exact SeqAt.EqAt.int_int p2 k2 q2 k4) (fun j h1 h2 _ => by
    match j, h1, h2 with
    | 0, _, _ => exact Ob.RcOp.gt_int p1 q1 k1 k3
    | 1, _, _ => exact Ob.RcOp.gt_int p2 q2 k2 k4)
  refine R X.prog X.w X.xe (EP X pins σ Q) ⟨.bl _, H, I, rfl, ?_⟩
  have e : Ob.lexAt (fun j => if j = 0 then p1 == q1 else p2 == q2) (fun j => if j = 0 then decide (q1 < p1) else decide (q2 < p2)) (decide (2 > 2)) 0 2 = decide (q1 < p1 ∨ q1 = p1 ∧ q2 < p2) := by
    unfold Ob.lexAt Ob.lexAt Ob.lexAt
    by_cases h1 : p1 = q1 <;> by_cases h2 : p2 = q2 <;> simp [h1, h2] <;> omega
  exact e ▸ q
/-- a walk over a list or a tuple -/
def iSeq (K : PySem.W.Frag) (tl : TE) : TI := fun σ H R => tl σ H fun x H1 => ∃ a, x = .ref a ∧ ((∃ xs, SqL K H1 a xs) ∧ R (Itl K a) H1 ∨ (∃ xs, SqT K H1 a xs) ∧ R (Itt K a) H1)
theorem pi_seq {tg l : Expr} {tl : TE} (hl : PE X l tl) : PI X tg l (iSeq X.K tl) := by
  refine ⟨fun pins s σ H R I h => thn (hl.run pins s σ H _ I h) ?_⟩
  rintro v s1 ⟨x, H1, I1, r1, a, rfl, q1⟩
  cases r1
  have kp : ∀ o, Inv X pins σ H1 { s1 with heap := s1.heap.push o } := fun o => I1.kept (t' := s1.toks) fun b u e => Heap.get?_push_of_some _ e
  have fo : ∀ b ∈ [s1.heap.objs.size], FpOk X pins H1 b := fun b hb => by
    rw [List.mem_singleton.mp hb]
    exact I1.fpOk (Nat.le_refl _) (I1.hok.fresh (Nat.le_refl _))
  rcases q1 with ⟨⟨xs, hq⟩, q⟩ | ⟨⟨xs, hq⟩, q⟩
  · obtain ⟨its, rv, pl, hz⟩ := I1.list hq
    exact wpAny_pyIter_list pl.isList ⟨s1.heap.objs.size, [s1.heap.objs.size], _, _, H1, rfl, kp _, turn_list a _, ⟨_, Heap.get?_push_size _ rfl, rfl, rfl⟩, fo, q⟩
  · obtain ⟨its, rv, pl, hz⟩ := I1.tuple hq
    exact wpAny_pyIter_tuple (show s1.heap.IsTuple a its.toArray from pl) ⟨s1.heap.objs.size, [s1.heap.objs.size], _, _, H1, rfl, kp _, turn_tuple a _, ⟨_, Heap.get?_push_size _ rfl, rfl, rfl⟩, fo, q⟩
end
end My
set_option Elab.async false
set_option linter.all false
set_option maxRecDepth 100000
namespace K44
open PySem PySem.Spec PyProof.Rows L2 My
/-! ### the text -/
def topS (i : Nat) : Stmt := PySem.Challenge.pw_settingsmerge_k44_matchings_told_from_ot.main.body.getD i (.Pass ⟨0, 0, 0, 0⟩)
abbrev s_is_selection : Stmt := topS 1
abbrev N_is_selection : List Str := ["thing", "choices", "choice", "part", "item"]
theorem scis_selection : FnScope N_is_selection ["thing", "choices"] (defScope s_is_selection) := ⟨rfl, rfl, rfl, by decide +kernel, rfl, by decide +kernel, by decide +kernel⟩
abbrev s_is_matching : Stmt := topS 2
abbrev N_is_matching : List Str := ["conflicts", "thing", "x", "y"]
theorem scis_matching : FnScope N_is_matching ["conflicts", "thing"] (defScope s_is_matching) := ⟨rfl, rfl, rfl, by decide +kernel, rfl, by decide +kernel, by decide +kernel⟩
abbrev s_L_bag : Stmt := topS 4
abbrev N_L_bag : List Str := ["_law_script", "_law_at", "_law_number", "_law_mixed", "_law_spot", "_law_each"]
theorem scL_bag : FnScope N_L_bag ["_law_script", "_law_at"] (defScope s_L_bag) := ⟨rfl, rfl, rfl, by decide +kernel, rfl, by decide +kernel, by decide +kernel⟩
abbrev s_L_take : Stmt := topS 5
abbrev N_L_take : List Str := ["_law_bag_here", "_law_many", "_law_digit"]
theorem scL_take : FnScope N_L_take ["_law_bag_here", "_law_many"] (defScope s_L_take) := ⟨rfl, rfl, rfl, by decide +kernel, rfl, by decide +kernel, by decide +kernel⟩
abbrev s_L_drawn : Stmt := topS 6
abbrev N_L_drawn : List Str := ["_law_bag_here", "_law_most", "_law_wide", "_law_shift", "_law_turn"]
theorem scL_drawn : FnScope N_L_drawn ["_law_bag_here", "_law_most"] (defScope s_L_drawn) := ⟨rfl, rfl, rfl, by decide +kernel, rfl, by decide +kernel, by decide +kernel⟩
abbrev s_L_spoiled : Stmt := topS 7
abbrev N_L_spoiled : List Str := ["_law_bag_here", "_law_thing", "_law_way", "_law_row", "_law_spot", "_law_one", "_law_others", "_law_more", "_law_some", "_law_k"]
theorem scL_spoiled : FnScope N_L_spoiled ["_law_bag_here", "_law_thing"] (defScope s_L_spoiled) := ⟨rfl, rfl, rfl, by decide +kernel, rfl, by decide +kernel, by decide +kernel⟩
abbrev s_L_is_matching : Stmt := topS 8
abbrev N_L_is_matching : List Str := ["_law_conflicts", "_law_thing", "_law_before", "_law_one", "_law_odd", "_law_part", "_law_other"]
theorem scL_is_matching : FnScope N_L_is_matching ["_law_conflicts", "_law_thing"] (defScope s_L_is_matching) := ⟨rfl, rfl, rfl, by decide +kernel, rfl, by decide +kernel, by decide +kernel⟩
abbrev s_law : Stmt := topS 9
abbrev N_law : List Str := ["_law_script", "_law_at", "_law_bag_here", "_law_conflicts", "_law_turn", "_law_some", "_law_strict", "_law_pair", "_law_met", "_law_thing", "_law_change", "_law_wrong", "_law_kept", "_law_found", "_law_one"]
theorem sclaw : FnScope N_law ["_law_script"] (defScope s_law) := ⟨rfl, rfl, rfl, by decide +kernel, rfl, by decide +kernel, by decide +kernel⟩
/-! ### what the top has written -/
structure Top (K : PySem.W.Frag) (mg : Str → Option Value) where
  f_is_selection : Addr
  d_is_selection : FuncData
  F_is_selection : Fun K "is_selection" "is_selection" s_is_selection f_is_selection d_is_selection
  b_is_selection : Binds K d_is_selection ["thing", "choices"] []
  g_is_selection : mg "is_selection" = some (.ref f_is_selection)
  f_is_matching : Addr
  d_is_matching : FuncData
  F_is_matching : Fun K "is_matching" "is_matching" s_is_matching f_is_matching d_is_matching
  b_is_matching : Binds K d_is_matching ["conflicts", "thing"] []
  g_is_matching : mg "is_matching" = some (.ref f_is_matching)
  f__law_bag : Addr
  d__law_bag : FuncData
  F__law_bag : Fun K "_law_bag" "_law_bag" s_L_bag f__law_bag d__law_bag
  b__law_bag : Binds K d__law_bag ["_law_script", "_law_at"] []
  g__law_bag : mg "_law_bag" = some (.ref f__law_bag)
  f__law_take : Addr
  d__law_take : FuncData
  F__law_take : Fun K "_law_take" "_law_take" s_L_take f__law_take d__law_take
  b__law_take : Binds K d__law_take ["_law_bag_here", "_law_many"] []
  g__law_take : mg "_law_take" = some (.ref f__law_take)
  f__law_drawn : Addr
  d__law_drawn : FuncData
  F__law_drawn : Fun K "_law_drawn" "_law_drawn" s_L_drawn f__law_drawn d__law_drawn
  b__law_drawn : Binds K d__law_drawn ["_law_bag_here", "_law_most"] []
  g__law_drawn : mg "_law_drawn" = some (.ref f__law_drawn)
  f__law_spoiled : Addr
  d__law_spoiled : FuncData
  F__law_spoiled : Fun K "_law_spoiled" "_law_spoiled" s_L_spoiled f__law_spoiled d__law_spoiled
  b__law_spoiled : Binds K d__law_spoiled ["_law_bag_here", "_law_thing"] []
  g__law_spoiled : mg "_law_spoiled" = some (.ref f__law_spoiled)
  f__law_is_matching : Addr
  d__law_is_matching : FuncData
  F__law_is_matching : Fun K "_law_is_matching" "_law_is_matching" s_L_is_matching f__law_is_matching d__law_is_matching
  b__law_is_matching : Binds K d__law_is_matching ["_law_conflicts", "_law_thing"] []
  g__law_is_matching : mg "_law_is_matching" = some (.ref f__law_is_matching)
  f_law : Addr
  d_law : FuncData
  F_law : Fun K "law" "law" s_law f_law d_law
  b_law : Binds K d_law ["_law_script"] []
  g_law : mg "law" = some (.ref f_law)
  m_tuple : mg "tuple" = none
  m_isinstance : mg "isinstance" = none
  m_any : mg "any" = none
  m_bool : mg "bool" = none
  m_sorted : mg "sorted" = none
  m_set : mg "set" = none
  m_len : mg "len" = none
  m_enumerate : mg "enumerate" = none
  m_int : mg "int" = none
  m_abs : mg "abs" = none
  m_min : mg "min" = none
  m_range : mg "range" = none
  m_list : mg "list" = none
  m_str : mg "str" = none
  m_max : mg "max" = none
  m_repr : mg "repr" = none
end K44

set_option Elab.async false
set_option linter.all false
set_option maxRecDepth 100000
namespace K44
open PySem PySem.Spec PyProof.Rows L2 My
section
variable {P : Program} {w : World} {K : PySem.W.Frag} {mg : Str → Option Value} {base : Heap}
def sp_L_take (K : PySem.W.Frag) : Sp := fun vs H Q _ => ∃ (b : Addr) (many : Int), vs = [.ref b, .int many] ∧ Bag H b ∧ 0 < many ∧ many ≤ 1000 ∧
  ∀ (d n m : Int), 0 ≤ d → d < many → 0 ≤ n → 0 ≤ m → m < 2147483648 → Q (.int d) (upd H b (.lst [.int n, .int m]))
theorem ok_L_take (T : Top K mg) : FnOk P w K mg base CX0 1 T.f__law_take T.d__law_take ["_law_bag_here", "_law_many"] (sp_L_take K) := by
  refine T.F__law_take.ok scL_take (fun vs H Q E h => ?_) (fun cdv A outer s H vs Q E hr h => ?_)
  · obtain ⟨b, many, rfl, _⟩ := h
    rfl
  · obtain ⟨b, many, rfl, ⟨n, m, hb, n0, m0, m1⟩, p0, p1, q⟩ := h
    refine ⟨_, (pss_cons (ps_if (pt_cmpR op_gt (pe_ix ix_list (pv 0) pe_int (fun _ _ => rfl)) pe_int (nomark _)) (pss_cons (ps_set (i := 2) scL_take.nd rfl (.inl rfl) (pe_op op_mod (pe_callTy call_int1 (by rfl) T.m_int (by decide +kernel) (pa_cons (pe_ix ix_list (pv 0) pe_int (fun _ _ => rfl)) pa_nil)) (pv 1)))
      (pss_cons (ps_asg (pe_op op_fdiv (pe_ix ix_list (pv 0) pe_int (fun _ _ => rfl)) (pv 1)) (pg_sub (pv 0) pe_int set_list))
      (pss_one (ps_ret (pv 2))))) pss_nil)
      (pss_cons (ps_asg (pe_op op_mod (pe_callTy call_int1 (by rfl) T.m_int (by decide +kernel) (pa_cons (pe_op op_add (pe_op op_mul (pe_ix ix_list (pv 0) pe_int (fun _ _ => rfl)) pe_int) pe_int) pa_nil)) pe_int) (pg_sub (pv 0) pe_int set_list))
      (pss_one (ps_ret (pe_op op_mod (pe_op op_fdiv (pe_op op_mod (pe_callTy call_int1 (by rfl) T.m_int (by decide +kernel) (pa_cons (pe_op op_mul (pe_op op_fdiv (pe_ix ix_list (pv 0) pe_int (fun _ _ => rfl)) pe_int) pe_int) pa_nil)) pe_int) pe_int) (pv 1)))))), ?_⟩
    refine ⟨.ref b, rfl, b, _, 0, .int n, rfl, rfl, SqL.of hb, atI_nat (j := 0) rfl, n, 0, rfl, rfl, _, rfl, ite2 (fun e => ?_) (fun e => ?_)⟩
    · refine ⟨.ref b, rfl, b, _, 0, .int n, rfl, rfl, SqL.of hb, atI_nat (j := 0) rfl, .inl ⟨n, rfl, .int many, rfl, n, many, rfl, rfl, p0, ?_⟩⟩
      refine ⟨.ref b, rfl, b, _, 0, .int n, rfl, rfl, SqL.of hb, atI_nat (j := 0) rfl, .int many, rfl, n, many, rfl, rfl, ⟨p0, by omega⟩, ?_⟩
      refine ⟨.ref b, rfl, b, _, 0, 0, rfl, rfl, hb, rfl, ?_⟩
      refine ⟨.int (n % many), rfl, ?_⟩
      exact q _ _ _ (Int.emod_nonneg _ (by omega)) (Int.emod_lt_of_pos _ p0) (Int.ediv_nonneg n0 (by omega)) m0 m1
    · refine ⟨.ref b, rfl, b, _, 1, .int m, rfl, rfl, SqL.of hb, atI_nat (j := 1) rfl, m, 39373, rfl, rfl, .inl ⟨by omega, by omega⟩, _, 8199, rfl, rfl, .inl ⟨_, rfl, _, 2147483579, rfl, rfl, (show (0 : Int) < 2147483579 by decide), ?_⟩⟩
      refine ⟨.ref b, rfl, b, _, 1, 1, rfl, rfl, hb, rfl, ?_⟩
      obtain ⟨m2, hm⟩ : ∃ m2, m2 = (m * 39373 + 8199) % 2147483579 := ⟨_, rfl⟩
      have a0 : 0 ≤ m2 := by rw [hm]; exact Int.emod_nonneg _ (by decide)
      have a1 : m2 < 2147483579 := by rw [hm]; exact Int.emod_lt_of_pos _ (by decide)
      refine ⟨.ref b, rfl, b, _, 1, .int m2, rfl, rfl, SqL.of upd_same, atI_nat (j := 1) (by rw [hm]; rfl), m2, 13, rfl, rfl, ⟨by decide, by decide⟩, _, 43781, rfl, rfl, .inl ⟨by omega, by omega⟩,
        .inl ⟨_, rfl, _, 2147483543, rfl, rfl, (show (0 : Int) < 2147483543 by decide), _, 64, rfl, rfl, ⟨by decide, by decide⟩, .int many, rfl, _, many, rfl, rfl, p0, ?_⟩⟩
      have z := q (m2 / 13 * 43781 % 2147483543 / 64 % many) n m2 (Int.emod_nonneg _ (by omega)) (Int.emod_lt_of_pos _ p0) n0 a0 (by omega)
      rw [hm] at z ⊢
      exact z
/-! ### the bag -/
def sp_L_bag (K : PySem.W.Frag) : Sp := fun vs H Q _ => ∃ (a : Addr) (i : Int) (ns : List Int), vs = [.ref a, .int i] ∧ SqL K H a (ns.map V.int) ∧ ns.length ≤ 63 ∧ 0 ≤ i ∧ i ≤ 1000 ∧
  ∀ H' p, Same H H' → H p = none → Bag H' p → Q (.ref p) H'
theorem ok_L_bag (T : Top K mg) : FnOk P w K mg base CX0 1 T.f__law_bag T.d__law_bag ["_law_script", "_law_at"] (sp_L_bag K) := by
  refine T.F__law_bag.ok scL_bag (fun vs H Q E h => ?_) (fun cdv A outer s H vs Q E hr h => ?_)
  · obtain ⟨b, l, xs, rfl, _⟩ := h
    rfl
  · obtain ⟨a, i, ns, rfl, hS, hl, i0, i1, q⟩ := h
    refine ⟨_, (pss_cons (ps_set (i := 2) scL_bag.nd rfl (.inl rfl) (pe_ifExp (pt_cmpR op_lt (pv 1) (pe_callB call_len_seq (by rfl) T.m_len (by decide +kernel) (pa_cons (pv 0) pa_nil)) (nomark _)) (pe_ix ix_list (pv 0) (pv 1) (fun _ _ => rfl)) pe_int))
      (pss_cons (ps_set (i := 3) scL_bag.nd rfl (.inl rfl) (pe_op op_add (pe_op op_mul pe_int (pv 1)) pe_int))
      (pss_cons (ps_for PassesOwn.never rfl (pi_enum (by rfl) T.m_enumerate (pa_cons (pe_slice sl_list (pv 0) po_none (po_some pe_int)) pa_nil)) (pg_tup rfl (pgs_cons (pg_name (i := 4) scL_bag.nd rfl (.inl rfl)) (pgs_cons (pg_name (i := 5) scL_bag.nd rfl (.inl rfl)) pgs_nil))) (pss_one (ps_set (i := 3) scL_bag.nd rfl (.inl rfl) (pe_op op_mod (pe_callTy call_int1 (by rfl) T.m_int (by decide +kernel) (pa_cons (pe_op op_add (pe_op op_add (pe_op op_add (pe_op op_mul (pv 3) pe_int) (pe_op op_mod (pe_callTy call_int1 (by rfl) T.m_int (by decide +kernel) (pa_cons (pv 5) pa_nil)) pe_int)) (pe_op op_mul pe_int (pv 4))) pe_int) pa_nil)) pe_int))))
      (pss_one (ps_ret (pe_lst (pa_cons (pe_ifExp (pt_cmpR op_ge (pe_callB call_abs (by rfl) T.m_abs (by decide +kernel) (pa_cons (pv 2) pa_nil)) (pe_op op_pow pe_int pe_int) (nomark _)) (pe_callB call_abs (by rfl) T.m_abs (by decide +kernel) (pa_cons (pv 2) pa_nil)) pe_int) (pa_cons (pv 3) pa_nil)))))))), ?_⟩
    obtain ⟨z, hz1, hz2⟩ : ∃ z : Int, (i < (((ns.map V.int).length : Nat) : Int) → atI (ns.map V.int) i = some (.int z)) ∧ (¬ i < (((ns.map V.int).length : Nat) : Int) → z = 0) := by
      by_cases h : i < (((ns.map V.int).length : Nat) : Int)
      · have hn : i.toNat < ns.length := by rw [List.length_map] at h; omega
        refine ⟨ns[i.toNat], fun _ => at_of (j := i.toNat) (by omega) ?_, fun h2 => absurd h h2⟩
        rw [List.getElem?_map, List.getElem?_eq_getElem hn]
        rfl
      · exact ⟨0, fun h2 => absurd h2 h, fun _ => rfl⟩
    refine ⟨.int i, rfl, .ref a, rfl, a, _, rfl, .inl hS, i, _, rfl, rfl, _, rfl, ite_via (fun e r => ⟨.ref a, rfl, .int i, rfl, a, _, i, .int z, rfl, rfl, hS, hz1 (of_decide_eq_true e), r⟩) (fun e r => by
      have e2 := hz2 (fun x => e (decide_eq_true x))
      rw [e2] at r
      exact r) ?_⟩
    refine ⟨.int i, rfl, 408, i, rfl, rfl, .inl ⟨by decide, by decide⟩, _, 75, rfl, rfl, ?_⟩
    refine ⟨.ref a, rfl, 63, rfl, a, _, rfl, hS, fun c nc => ?_⟩
    obtain ⟨ms, ems, lms⟩ := cut_ints ns none (some 63)
    have sc0 : Same H (upd H c (.lst (cutV (ns.map V.int) none (some 63)))) := same_new nc
    refine ⟨c, _, rfl, SqL.of upd_same, for_it (walk_enum (xs := cutV (ns.map V.int) none (some 63))) (fun _ σ H3 => ∃ (bl : Int) (y4 y5 : Option V), σ = [some (.ref a), some (.int i), some (.int z), some (.int bl), y4, y5] ∧ 0 ≤ bl ∧ bl < 2147483648 ∧ Same H H3 ∧ H3 c = some (.lst (cutV (ns.map V.int) none (some 63)))) ?_ ?_ ?_ ?_⟩
    · exact ⟨408 * i + 75, none, none, rfl, by omega, by omega, sc0, upd_same⟩
    · rintro j σ H3 _ ⟨bl, y4, y5, _, _, _, _, h5⟩
      exact SqL.of h5
    · rintro j x σ H3 H4 hj ⟨bl, y4, y5, rfl, b0, b1, hs, hc⟩ ⟨t, x1, x2, rfl, nt, rfl, e1, e2⟩
      cases e1
      obtain ⟨v, rfl⟩ : ∃ v : Int, x2 = .int v := by
        have e2 : (ms.map V.int)[j]? = some x2 := by rw [← ems]; exact e2
        rw [List.getElem?_map] at e2
        cases e3 : ms[j]? with
        | none => rw [e3] at e2; cases e2
        | some v => rw [e3] at e2; cases e2; exact ⟨v, rfl⟩
      refine ⟨t, _, rfl, SqT.of upd_same, rfl, .int (j : Nat), [.int v], rfl, .int v, [], rfl, rfl, ?_⟩
      refine ⟨.int bl, rfl, bl, 41131, rfl, rfl, .inl ⟨by omega, by omega⟩, .int v, rfl, .inl ⟨v, rfl, v, 2147483549, rfl, rfl, (show (0 : Int) < 2147483549 by decide), _, _, rfl, rfl, .int (j : Nat), rfl, 85, _, rfl, rfl, .inl ⟨by decide, by decide⟩, _, _, rfl, rfl, _, 5, rfl, rfl, .inl ⟨_, rfl, _, 2147483629, rfl, rfl, (show (0 : Int) < 2147483629 by decide), ?_⟩⟩⟩
      refine ⟨_, _, _, rfl, Int.emod_nonneg _ (by decide), Int.lt_trans (Int.emod_lt_of_pos _ (by decide)) (by decide), hs.trans (same_new nt), ?_⟩
      rw [upd_ne (ne_of_none hc nt)]
      exact hc
    · rintro σ H3 ⟨bl, y4, y5, rfl, b0, b1, hs, hc⟩
      have rest : ∀ n : Int, 0 ≤ n → ∀ p, H3 p = none → Q (.ref p) (upd H3 p (.lst [.int n, .int bl])) := fun n n0 p np => q _ p (hs.trans (same_new np)) (hs.free np) ⟨n, bl, upd_same, n0, b0, b1⟩
      refine ⟨.int z, rfl, z, rfl, 10, 18, rfl, rfl, ⟨by decide, by decide, by decide⟩, _, _, rfl, rfl, _, rfl, ite2 (fun e => ?_) (fun e => ?_)⟩
      · refine ⟨.int z, rfl, z, rfl, .int bl, rfl, (by show 2 ≤ sizeLine; decide), fun p np => rest _ ?_ p np⟩
        split <;> omega
      · exact ⟨.int bl, rfl, (by show 2 ≤ sizeLine; decide), fun p np => rest 0 (by decide) p np⟩
end
end K44

set_option Elab.async false
set_option linter.all false
set_option maxRecDepth 100000
namespace K44
open PySem PySem.Spec PyProof.Rows L2 My
section
variable {P : Program} {w : World} {K : PySem.W.Frag} {mg : Str → Option Value} {base : Heap}
def sp_L_drawn (K : PySem.W.Frag) : Sp := fun vs H Q _ => ∃ (b : Addr) (most : Int), vs = [.ref b, .int most] ∧ Bag H b ∧ 2 ≤ most ∧ most ≤ 12 ∧
  ∀ (p : Addr) (H' : Hp) (ps : List (Addr × Int × Int)), Kept b H H' → Bag H' b → H p = none → Prs H' p ps → Sm12 ps → ps.length ≤ 15 → (∀ q ∈ ps, H q.1 = none) → Q (.ref p) H'
theorem ok_L_drawn (T : Top K mg) : FnOk P w K mg base CX0 2 T.f__law_drawn T.d__law_drawn ["_law_bag_here", "_law_most"] (sp_L_drawn K) := by
  have G__law_take : FnOk P w K mg base CX0 1 T.f__law_take T.d__law_take ["_law_bag_here", "_law_many"] (sp_L_take K) := ok_L_take T
  refine T.F__law_drawn.ok scL_drawn (fun vs H Q E h => ?_) (fun cdv A outer s H vs Q E hr h => ?_)
  · obtain ⟨b, most, rfl, _⟩ := h
    rfl
  · obtain ⟨b, most, rfl, hb, m0, m1, q⟩ := h
    refine ⟨_, (pss_cons (ps_set (i := 2) scL_drawn.nd rfl (.inr rfl) (pe_ix ix_list (pe_lst (pa_cons pe_int (pa_cons pe_int (pa_cons pe_int (pa_cons pe_int pa_nil))))) (pe_call G__law_take (hr.mono (by decide)) (by rfl) T.g__law_take T.F__law_take.kp T.b__law_take .nil pass0 (pa_cons (pv 0) (pa_cons pe_int pa_nil))) (fun _ _ => rfl)))
      (pss_cons (ps_set (i := 2) scL_drawn.nd rfl (.inr rfl) (pe_callB (call_min2 rfl) (by rfl) T.m_min (by decide +kernel) (pa_cons (pv 2) (pa_cons (pv 1) pa_nil))))
      (pss_cons (ps_set (i := 3) scL_drawn.nd rfl (.inr rfl) (pe_call G__law_take (hr.mono (by decide)) (by rfl) T.g__law_take T.F__law_take.kp T.b__law_take .nil pass0 (pa_cons (pv 0) (pa_cons (pe_op op_sub pe_int (pv 2)) pa_nil))))
      (pss_one (ps_ret (pe_lc (own := [("_law_turn", 4)]) rfl scL_drawn.nd (pi_range1 (by rfl) T.m_range (pa_cons (pe_call G__law_take (hr.mono (by decide)) (by rfl) T.g__law_take T.F__law_take.kp T.b__law_take .nil pass0 (pa_cons (pv 0) (pa_cons pe_int pa_nil))) pa_nil)) (blkOk_by (N := N_L_drawn) (sc := defScope s_L_drawn) (by decide +kernel)) (fun _ _ _ _ _ => (pg_name (i := 4) scL_drawn.nd rfl (.inl rfl))) (fun _ _ _ _ _ => pts_nil) (fun _ _ _ _ _ => (pe_tup (pa_cons (pe_op op_add (pv 3) (pe_call G__law_take (hr.mono (by decide)) (by rfl) T.g__law_take T.F__law_take.kp T.b__law_take .nil pass0 (pa_cons (pv 0) (pa_cons (pv 2) pa_nil)))) (pa_cons (pe_op op_add (pv 3) (pe_call G__law_take (hr.mono (by decide)) (by rfl) T.g__law_take T.F__law_take.kp T.b__law_take .nil pass0 (pa_cons (pv 0) (pa_cons (pv 2) pa_nil)))) pa_nil)))))))))), ?_⟩
    refine ⟨(by show 4 ≤ sizeLine; decide), fun l nl => ?_⟩
    refine ⟨.ref b, rfl, b, 4, rfl, hb.new nl, by decide, by decide, fun d n m d0 d1 n0 mm0 mm1 => ?_⟩
    obtain ⟨wd, hw, w0, w1⟩ : ∃ wd : Int, ([.int 2, .int 3, .int 5, .int 12] : List V)[d.toNat]? = some (.int wd) ∧ 2 ≤ wd ∧ wd ≤ 12 := by
      rcases (by omega : d.toNat = 0 ∨ d.toNat = 1 ∨ d.toNat = 2 ∨ d.toNat = 3) with e | e | e | e <;> rw [e]
      · exact ⟨2, rfl, by decide, by decide⟩
      · exact ⟨3, rfl, by decide, by decide⟩
      · exact ⟨5, rfl, by decide, by decide⟩
      · exact ⟨12, rfl, by decide, by decide⟩
    have lb : l ≠ b := hb.ne nl
    refine ⟨l, _, d, .int wd, rfl, rfl, SqL.of (by rw [upd_ne lb]; exact upd_same), at_of (j := d.toNat) (by omega) hw, ?_⟩
    refine ⟨.int wd, rfl, .int most, rfl, wd, most, rfl, ?_⟩
    obtain ⟨w2, hw2⟩ : ∃ w2 : Int, w2 = if most < wd then most else wd := ⟨_, rfl⟩
    rw [← hw2]
    have a0 : 2 ≤ w2 := by rw [hw2]; split <;> omega
    have a1 : w2 ≤ 12 := by rw [hw2]; split <;> omega
    have k1 : Kept b H (upd (upd H l (.lst [.int 2, .int 3, .int 5, .int 12])) b (.lst [.int n, .int m])) := (Kept.new nl).trans Kept.at
    refine ⟨.ref b, rfl, .int w2, rfl, 13, w2, rfl, rfl, b, 13 - w2, rfl, Bag.at n0 mm0 mm1, by omega, by omega, fun sh n1 m1 s0 s1 n10 m10 m11 => ?_⟩
    have k2 := k1.trans (Kept.at (b := b) (o := .lst [.int n1, .int m1]))
    have b2 : Bag (upd (upd (upd H l (.lst [.int 2, .int 3, .int 5, .int 12])) b (.lst [.int n, .int m])) b (.lst [.int n1, .int m1])) b := Bag.at n10 m10 m11
    generalize upd (upd (upd H l (.lst [.int 2, .int 3, .int 5, .int 12])) b (.lst [.int n, .int m])) b (.lst [.int n1, .int m1]) = H2 at k2 b2
    refine ⟨.ref b, rfl, b, 16, rfl, b2, by decide, by decide, fun c n2 m2 c0 c1 n20 m20 m21 => ?_⟩
    have k3 := k2.trans (Kept.at (b := b) (o := .lst [.int n2, .int m2]))
    have b3 : Bag (upd H2 b (.lst [.int n2, .int m2])) b := Bag.at n20 m20 m21
    generalize upd H2 b (.lst [.int n2, .int m2]) = H3 at k3 b3
    refine ⟨c, rfl, by omega, by omega, fun D nD => lc_it walk_range (fun j H4 => ∃ ps : List (Addr × Int × Int), ps.length = j ∧ Sm12 ps ∧ Kept b H H4 ∧ Bag H4 b ∧ Prs H4 D ps ∧ ∀ q ∈ ps, H q.1 = none) ?_ (fun _ _ _ _ => trivial) ?_ ?_⟩
    · exact ⟨[], rfl, (fun _ h => nomatch h), k3.trans (Kept.new nD), b3.new nD, ⟨upd_same, fun _ h => nomatch h⟩, fun _ h => nomatch h⟩
    · rintro j x H5 H4 hj ⟨ps, le, sm, k4, b4, pr, fr⟩ ⟨rfl, rfl⟩
      have nDb : D ≠ b := b3.ne nD
      refine ⟨rfl, ?_⟩
      simp only [tYes, if_true]
      refine ⟨.int sh, rfl, .ref b, rfl, .int w2, rfl, b, w2, rfl, b4, by omega, by omega, fun u n5 m5 u0 u1 n50 m50 m51 => ?_⟩
      refine ⟨sh, u, rfl, rfl, .int sh, rfl, .ref b, rfl, .int w2, rfl, b, w2, rfl, Bag.at n50 m50 m51, by omega, by omega, fun v n6 m6 v0 v1 n60 m60 m61 => ?_⟩
      refine ⟨sh, v, rfl, rfl, (by show 2 ≤ sizeLine; decide), fun t nt => ?_⟩
      have k6 : Kept b H4 (upd (upd H4 b (.lst [.int n5, .int m5])) b (.lst [.int n6, .int m6])) := Kept.at.trans Kept.at
      have b6 : Bag (upd (upd H4 b (.lst [.int n5, .int m5])) b (.lst [.int n6, .int m6])) b := Bag.at n60 m60 m61
      generalize upd (upd H4 b (.lst [.int n5, .int m5])) b (.lst [.int n6, .int m6]) = H6 at k6 b6 nt
      have tb : t ≠ b := b6.ne nt
      have D6 : H6 D = some (.lst (ps.map fun q => V.ref q.1)) := k6 D _ nDb pr.1
      have tD : t ≠ D := (ne_of_none D6 nt).symm
      have qn : ∀ q ∈ ps, q.1 ≠ b := fun q hq e => by
        have := pr.2 q hq
        obtain ⟨x1, x2, hx, _⟩ := b4
        unfold Pr at this
        rw [e, hx] at this
        cases this
      refine ⟨_, by rw [upd_ne tD.symm]; exact D6, ?_, ps ++ [(t, sh + u, sh + v)], ?_, ?_, ?_, ?_, ⟨?_, ?_⟩, ?_⟩
      · rw [List.length_map]; exact small1000 (by omega)
      · rw [List.length_append, le]; rfl
      · intro z hz
        rcases List.mem_append.mp hz with h | h
        · exact sm z h
        · cases List.mem_singleton.mp h
          exact ⟨⟨by show 0 ≤ sh + u; omega, by show sh + u < 12; omega⟩, ⟨by show 0 ≤ sh + v; omega, by show sh + v < 12; omega⟩⟩
      · intro z o hz e
        have e6 := (k4.trans k6) z o hz e
        have zt : z ≠ t := ne_of_none e6 nt
        have zD : z ≠ D := fun h => by
          have := k3 z o hz e
          rw [h, nD] at this
          cases this
        rw [upd_ne zD, upd_ne zt]
        exact e6
      · obtain ⟨x1, x2, hx, r⟩ := b6
        exact ⟨x1, x2, by rw [upd_ne nDb.symm, upd_ne tb.symm]; exact hx, r⟩
      · rw [upd_same, List.map_append]; rfl
      · intro z hz
        unfold Pr
        rcases List.mem_append.mp hz with h | h
        · have e6 := k6 _ _ (qn z h) (pr.2 z h)
          rw [upd_ne (fun e => by rw [e, D6] at e6; cases e6), upd_ne (ne_of_none e6 nt)]
          exact e6
        · cases List.mem_singleton.mp h
          rw [upd_ne tD, upd_same]
      · intro z hz
        rcases List.mem_append.mp hz with h | h
        · exact fr z h
        · cases List.mem_singleton.mp h
          exact (k4.trans k6).free b6 nt
    · rintro H4 ⟨ps, le, sm, k4, b4, pr, fr⟩
      exact q D H4 ps k4 b4 (k3.free b3 nD) pr sm (by omega) fr
end
end K44

set_option Elab.async false
set_option linter.all false
set_option maxRecDepth 100000
set_option maxHeartbeats 2000000
namespace K44
open PySem PySem.Spec PyProof.Rows L2 My
theorem same_off {H H3 : Hp} {D : Addr} {o : HO} (nD : H D = none) (s3 : Same H H3) : Same H (upd H3 D o) := fun b u e => by
  rw [upd_ne (fun h => by rw [h, nD] at e; cases e)]
  exact s3 _ _ e
theorem eqvAll_get : ∀ {ds es : List PyData}, PyData.eqvAll ds (es) = true → ∀ {i : Nat} {z : PyData}, ds[i]? = some z → ∃ e, es[i]? = some e ∧ PyData.eqv z e = true
  | [], _, _, i, z, h => by cases h
  | y :: q, [], h, _, _, _ => by cases h
  | y :: q, e :: r, h, i, z, hz => by
    have h : (PyData.eqv y e && PyData.eqvAll q r) = true := h
    rw [Bool.and_eq_true] at h
    cases i with
    | zero => cases hz; exact ⟨e, rfl, h.1⟩
    | succ i => exact eqvAll_get h.2 hz
section
variable {P : Program} {w : World} {K : PySem.W.Frag} {mg : Str → Option Value} {base : Heap}
def sp_is_selection (K : PySem.W.Frag) : Sp := fun vs H Q _ => ∃ (v : V) (c : Addr) (d : PyData) (cs : List (Addr × Int × Int)), vs = [v, .ref c] ∧ DD H v d ∧ SeqAt.shaped d = true ∧ Prs H c cs ∧ (cs.map (·.2)).Pairwise ltP ∧ cs.length < 64 ∧ (∀ ds, d = .tuple ds → ds.length ≤ 100 ∧ ∀ z ∈ ds, (itemsD z).length ≤ 3) ∧
  ∀ (H' : Hp) (b : Bool), Same H H' → (b = true ↔ SelP (cs.map (·.2)) d) → Q (.bl b) H'
theorem ok_is_selection (T : Top K mg) : FnOk P w K mg base CX0 1 T.f_is_selection T.d_is_selection ["thing", "choices"] (sp_is_selection K) := by
  refine T.F_is_selection.ok scis_selection (fun vs H Q E h => ?_) (fun cdv A outer s H vs Q E hr h => ?_)
  · obtain ⟨v, c, d, cs, rfl, _⟩ := h
    rfl
  · obtain ⟨v, c, d, cs, rfl, dd, sh, cl, asc, few, small, q⟩ := h
    refine ⟨_, (pss_cons (ps_if (PW.pt (pw_or (pt_not (pt_val (pe_callB call_isi (by rfl) T.m_isinstance (by decide +kernel) (pa_cons (pv 0) (pa_cons (pe_bltn (v := .ty "tuple") (by rfl) T.m_tuple (by decide +kernel) rfl) pa_nil))))) (pw_or1 (pt_cmpR (op_neD hr.units) (pv 0) (pe_callTy call_tuple_of (by rfl) T.m_tuple (by decide +kernel) (pa_cons (pe_lc (own := [("choice", 2)]) rfl scis_selection.nd (pi_list (pv 1)) (blkOk_by (N := N_is_selection) (sc := defScope s_is_selection) (by decide +kernel)) (fun _ _ _ _ _ => (pg_name (i := 2) scis_selection.nd rfl (.inl rfl))) (fun _ _ _ _ _ => pts_one (pt_cmpR (r := rInT K false) (op_inT (My.Room.u65 hr)) (pv 2) (pv 0) (by rfl))) (fun _ _ _ _ _ => (pv 2))) pa_nil)) (nomark _))))) (pss_one (ps_ret pe_bl)) pss_nil)
      (pss_one (ps_ret (pe_not (pe_callB (cr_any rfl) (by rfl) T.m_any (by decide +kernel) (pa_cons (pe_lc2 (own := [("part", 3), ("item", 4)]) (vs1 := [4]) (wi1 := iTup K (tVar 3)) rfl scis_selection.nd (pi_tup (pv 0)) (blkOk_by (N := N_is_selection) (sc := defScope s_is_selection) (by decide +kernel)) (by decide) (fun _ _ _ _ _ => (pg_name (i := 3) scis_selection.nd rfl (.inl rfl))) (fun _ _ _ _ _ => pts_nil) (fun _ _ _ _ _ => (pi_tup (pv 3))) (fun _ _ _ _ _ => (pg_name (i := 4) scis_selection.nd rfl (.inl rfl))) (fun _ _ _ _ _ => pts_nil) (fun _ _ _ _ _ => (pe_callB (r := rIsi K) call_isi (by rfl) T.m_isinstance (by decide +kernel) (pa_cons (pv 4) (pa_cons (pe_bltn (v := .ty "bool") (by rfl) T.m_bool (by decide +kernel) rfl) pa_nil))))) pa_nil)))))), ?_⟩
    refine ⟨v, rfl, _, _, _, _, isTupD d, rfl, ClsV.ty "tuple", dd.ty, kit_ty (kit_tup d), isTupD d, rfl, ?_⟩
    cases dd with
    | tup ha hs =>
      rename_i a xs ds
      refine iteF ?_
      obtain ⟨l100, l3⟩ := small ds rfl
      refine ⟨.ref a, rfl, .ref c, rfl, c, rfl, ⟨_, SqL.of cl.1⟩, fun D nD => lc_it (walk_list (xs := cs.map fun q => V.ref q.1)) (fun i H4 => ∃ fs : List (Addr × Int × Int), fs.length ≤ i ∧ (∀ q ∈ fs, q ∈ cs) ∧ Same H H4 ∧ H4 D = some (.lst (fs.map fun q => V.ref q.1)) ∧ fs.map (·.2) = pickP ((cs.map (·.2)).take i) ds) ?_ ?_ ?_ ?_⟩
      · exact ⟨[], Nat.le_refl _, (fun _ h => nomatch h), same_new nD, upd_same, rfl⟩
      · rintro i H4 _ ⟨fs, _, _, s4, _⟩
        exact SqL.of (s4 _ _ cl.1)
      · rintro i v H5 H4 hi ⟨fs, lf, sub4, s4, d4, e4⟩ ⟨rfl, hv⟩
        rw [List.getElem?_map] at hv
        rw [List.length_map] at hi
        rw [List.getElem?_eq_getElem hi] at hv
        cases hv
        have hz := List.getElem_mem hi
        have et := s4 _ _ (cl.2 _ hz)
        have tk : (cs.map (·.2)).take (i + 1) = (cs.map (·.2)).take i ++ [cs[i].2] := by rw [List.take_succ, List.getElem?_map, List.getElem?_eq_getElem hi]; rfl
        generalize cs[i] = z at et tk hz
        refine ⟨rfl, ?_⟩
        refine ⟨.ref z.1, rfl, .ref a, rfl, pd z.2, ds, dp_pr et, ((DD.tup ha hs).same s4).dp, shaped_pd1 _, sh, _, rfl, ?_⟩
        rw [Bool.false_xor]
        cases hin : ds.any fun y => PyData.eqv y (pd z.2) with
        | true =>
          refine iteT ⟨.ref z.1, rfl, _, d4, ?_, fs ++ [z], ?_, ?_, same_off nD s4, ?_, ?_⟩
          · rw [List.length_map]; exact small1000 (by omega)
          · rw [List.length_append]; simp only [List.length_cons, List.length_nil]; omega
          · intro u hu
            rcases List.mem_append.mp hu with h | h
            · exact sub4 u h
            · rw [List.mem_singleton.mp h]; exact hz
          · rw [upd_same, List.map_append]; rfl
          · unfold pickP at e4 ⊢
            rw [tk, List.filter_append, List.map_append, e4, List.filter_cons, hin]
            rfl
        | false =>
          refine iteF ⟨fs, by omega, sub4, s4, d4, ?_⟩
          unfold pickP at e4 ⊢
          rw [tk, List.filter_append, e4, List.filter_cons, hin]
          simp
      rintro H1 ⟨fs, lf, sub1, s1, d1, e1⟩
      rw [List.length_map, List.take_of_length_le (by rw [List.length_map]; exact Nat.le_refl _)] at e1
      refine ⟨D, _, rfl, .inl ⟨SqL.of d1, fun t nt => ?_⟩⟩
      have s2 := s1.trans (same_new (o := .tup (fs.map fun q => V.ref q.1)) nt)
      have ct : PrsT (upd H1 t (.tup (fs.map fun q => V.ref q.1))) t fs := ⟨upd_same, fun z hz => s2 _ _ (cl.2 z (sub1 z hz))⟩
      generalize upd H1 t (.tup (fs.map fun q => V.ref q.1)) = H2 at s2 ct
      refine ⟨_, _, ((DD.tup ha hs).same s2).dp, dp_prsT ct, sh, shaped_pdT _, _, rfl, ?_⟩
      have eq2 : PyData.eqv (.tuple ds) (.tuple ((fs.map (·.2)).map pd)) = PyData.eqvAll ds ((pickP (cs.map (·.2)) ds).map pd) := by rw [e1]; rfl
      rw [eq2]
      cases he : PyData.eqvAll ds ((pickP (cs.map (·.2)) ds).map pd) with
      | false => exact iteT (q _ false s2 ⟨(fun h => nomatch h), fun h => (selP_no asc he h).elim⟩)
      | true =>
        refine iteF ?_
        have ha2 := s2 _ _ ha
        have hs2 := hs.same s2
        refine ⟨.ref a, rfl, a, rfl, ⟨_, SqT.of ha2⟩, fun D2 nD2 => it_turns (walk_tup (xs := xs)) (fun i H4 => Same H2 H4 ∧ H4 D2 = some (.lst ((((ds.take i).flatMap itemsD).map isBoolD).map V.bl))) ?_ ?_ ?_ ?_⟩
        · exact ⟨same_new nD2, upd_same⟩
        · rintro i H4 _ ⟨s4, _⟩
          exact SqT.of (s4 _ _ ha2)
        · rintro i v H5 H4 hi ⟨s4, d4⟩ ⟨rfl, hv⟩
          obtain ⟨z, hz, dz⟩ := hs2.get hv
          obtain ⟨e0, he0, ez⟩ := eqvAll_get he hz
          rw [List.getElem?_map] at he0
          obtain ⟨c0, _, rfl⟩ := Option.map_eq_some_iff.mp he0
          obtain ⟨zs, ezs, _⟩ := eqv_tup_of (show PyData.eqv z (.tuple [.int c0.1, .int c0.2]) = true from ez)
          clear ez
          subst ezs
          have l3z := l3 _ (List.mem_of_getElem? hz)
          have tk : (ds.take (i + 1)).flatMap itemsD = (ds.take i).flatMap itemsD ++ zs := by
            rw [List.take_succ, hz, Option.toList_some, List.flatMap_append, List.flatMap_cons, List.flatMap_nil, List.append_nil]
            rfl
          have lenf : ((ds.take i).flatMap itemsD).length ≤ 3 * i := by
            have : ∀ l : List PyData, (∀ z ∈ l, (itemsD z).length ≤ 3) → (l.flatMap itemsD).length ≤ 3 * l.length := by
              intro l
              induction l with
              | nil => intro _; exact Nat.le_refl _
              | cons y r ih =>
                intro h
                rw [List.flatMap_cons, List.length_append, List.length_cons]
                have h1 := h y List.mem_cons_self
                have h2 := ih fun z hz => h z (List.mem_cons_of_mem _ hz)
                omega
            have h1 := this (ds.take i) fun z hz => l3 z (List.mem_of_mem_take hz)
            rw [List.length_take] at h1
            omega
          cases dz with
          | tup hza hzs =>
            rename_i za zx
            refine ⟨rfl, ?_⟩
            simp only [tYes, if_true]
            refine ⟨.ref za, rfl, za, rfl, ⟨_, SqT.of (s4 _ _ hza)⟩, it_turns (walk_tup (xs := zx)) (fun j H6 => Same H2 H6 ∧ H6 D2 = some (.lst (((((ds.take i).flatMap itemsD) ++ zs.take j).map isBoolD).map V.bl))) ?_ ?_ ?_ ?_⟩
            · exact ⟨s4, by rw [List.take_zero, List.append_nil]; exact d4⟩
            · rintro j H6 _ ⟨s6, _⟩
              exact SqT.of (s6 _ _ hza)
            · rintro j v H7 H6 hj ⟨s6, d6⟩ ⟨rfl, hv2⟩
              obtain ⟨y, hy, dy⟩ := hzs.get hv2
              refine ⟨rfl, ?_⟩
              simp only [tYes, if_true]
              refine ⟨v, rfl, _, _, _, _, isBoolD y, rfl, ClsV.ty "bool", (dy.same s6).ty, kit_ty (kit_bool y), ?_⟩
              refine ⟨_, d6, ?_, same_off nD2 s6, ?_⟩
              · rw [List.length_map, List.length_map, List.length_append, List.length_take]
                have : (itemsD (.tuple zs)).length = zs.length := rfl
                have li : i < ds.length := (List.getElem?_eq_some_iff.mp hz).1
                exact small1000 (by omega)
              · rw [upd_same, List.take_succ, hy, Option.toList_some]
                simp
            · rintro H6 ⟨s6, d6⟩
              rw [hzs.len, List.take_length, ← tk] at d6
              exact ⟨s6, d6⟩
        · rintro H4 ⟨s4, d4⟩
          rw [hs2.len, List.take_length] at d4
          refine ⟨D2, _, rfl, SqL.of d4, _, rfl, ?_⟩
          refine q _ _ (s2.trans s4) ?_
          rw [List.any_map]
          exact selP_yes asc he
    | non => exact iteT (q _ false (fun _ _ e => e) ⟨(fun h => nomatch h), fun ⟨L, e, _⟩ => (by cases e)⟩)
    | bl b => exact iteT (q _ false (fun _ _ e => e) ⟨(fun h => nomatch h), fun ⟨L, e, _⟩ => (by cases e)⟩)
    | int b => exact iteT (q _ false (fun _ _ e => e) ⟨(fun h => nomatch h), fun ⟨L, e, _⟩ => (by cases e)⟩)
    | str b => exact iteT (q _ false (fun _ _ e => e) ⟨(fun h => nomatch h), fun ⟨L, e, _⟩ => (by cases e)⟩)
    | lst h1 h2 => exact iteT (q _ false (fun _ _ e => e) ⟨(fun h => nomatch h), fun ⟨L, e, _⟩ => (by cases e)⟩)
end
end K44

set_option Elab.async false
set_option linter.all false
set_option maxRecDepth 100000
set_option maxHeartbeats 2000000
namespace K44
open PySem PySem.Spec PyProof.Rows L2 My
/-- sorted(set(ps)), in three steps -/
theorem ss1 {K : PySem.W.Frag} {H : Hp} {l : Addr} {ps : List (Addr × Int × Int)} (pr : Prs H l ps) (few : ps.length < 64) :
    SqL K H l ((asInts ps).map fun p => V.ref p.1) ∧ (∀ p ∈ asInts ps, SqT K H p.1 (p.2.map V.int)) ∧ (asInts ps).length < 64 := by
  refine ⟨SqL.of (by rw [pr.1, asInts_refs]), fun p hp => ?_, by unfold asInts; rw [List.length_map]; exact few⟩
  obtain ⟨x, y, hq, e⟩ := asInts_mem hp
  rw [e]
  exact SqT.of (pr.2 _ hq)
theorem ss2 {P : Program} {w : World} {K : PySem.W.Frag} {H : Hp} {l a : Addr} {ps : List (Addr × Int × Int)} {L : List (Addr × List Int)} (pr : Prs H l ps) (sm : Sm12 ps) (na : H a = none) (sub : ∀ p ∈ L, p ∈ asInts ps) :
    upd H a (SetTO P w a L) a = some (SetTO P w a L) ∧ (∀ p ∈ L, SqT K (upd H a (SetTO P w a L)) p.1 (p.2.map V.int)) ∧ ∀ p ∈ L, p.2.length = 2 ∧ TS.Bd 64 p.2 := by
  refine ⟨upd_same, fun p hp => ?_, fun p hp => ?_⟩
  · obtain ⟨x, y, hq, e⟩ := asInts_mem (sub p hp)
    rw [e]
    exact SqT.of (same_new na _ _ (pr.2 _ hq))
  · obtain ⟨x, y, hq, e⟩ := asInts_mem (sub p hp)
    obtain ⟨⟨x0, x1⟩, y0, y1⟩ := sm _ hq
    simp only at x0 x1 y0 y1
    rw [e]
    refine ⟨rfl, fun z hz => ?_⟩
    rcases List.mem_cons.mp hz with h | h
    · subst h; exact ⟨x0, by omega⟩
    · cases List.mem_singleton.mp h
      exact ⟨y0, by omega⟩
theorem ss3 {P : Program} {w : World} {H : Hp} {l a p : Addr} {ps : List (Addr × Int × Int)} {L L' : List (Addr × List Int)} (pr : Prs H l ps) (sm : Sm12 ps) (na : H a = none) (sub : ∀ p ∈ L, p ∈ asInts ps) (all : ∀ p ∈ asInts ps, p.2 ∈ L.map (·.2))
    (perm : L'.Perm L) (nd : (L'.map (·.2)).Nodup) (len : L'.length < 64) (pw : L'.Pairwise (fun q r => TS.code 64 q.2 ≤ TS.code 64 r.2)) (np : upd H a (SetTO P w a L) p = none) :
    ∃ qs, Same H (upd (upd H a (SetTO P w a L)) p (.lst (L'.map fun q => V.ref q.1))) ∧ H p = none ∧ Prs (upd (upd H a (SetTO P w a L)) p (.lst (L'.map fun q => V.ref q.1))) p qs ∧ (∀ z ∈ qs, z ∈ ps) ∧ (qs.map (·.2)).Pairwise ltP ∧ (∀ x, x ∈ qs.map (·.2) ↔ x ∈ ps.map (·.2)) ∧ qs.length < 64 := by
  obtain ⟨qs, rfl, subq⟩ := asInts_of (ps := ps) L' fun g hg => sub g (perm.mem_iff.mp hg)
  obtain ⟨asc, mem⟩ := sorted_pairs sm subq perm all nd pw
  have s1 : Same H (upd H a (SetTO P w a L)) := same_new na
  have s2 := s1.trans (same_new (o := .lst ((asInts qs).map fun q => V.ref q.1)) np)
  refine ⟨qs, s2, s1.free np, ⟨by rw [upd_same, asInts_refs], fun z hz => s2 _ _ (pr.2 z (subq z hz))⟩, subq, asc, mem, ?_⟩
  unfold asInts at len
  rwa [List.length_map] at len
theorem dds_pd {H : Hp} : ∀ {xs : List V} {L : List (Int × Int)}, DDs H xs (L.map pd) → ∀ {i : Nat} {v : V}, xs[i]? = some v → ∃ a p, v = .ref a ∧ L[i]? = some p ∧ H a = some (.tup [.int p.1, .int p.2]) := by
  intro xs L h i v hv
  obtain ⟨d, hd, dd⟩ := h.get hv
  rw [List.getElem?_map] at hd
  obtain ⟨p, hp, rfl⟩ := Option.map_eq_some_iff.mp hd
  cases dd with
  | tup ha hs =>
    rename_i a vs
    cases hs with
    | cons h1 h2 =>
    cases h2 with
    | cons h3 h4 =>
    cases h4
    cases h1
    cases h3
    exact ⟨a, p, rfl, hp, ha⟩
/-- the set of the first i of ks, in number n -/
def Cnt (ks : List Int) (i : Nat) (S : Int → Bool) (n : Nat) : Prop := (∀ k, S k = true ↔ k ∈ ks.take i) ∧ n ≤ i ∧ (n = i ↔ (ks.take i).Nodup)
theorem Cnt.zero (ks : List Int) : Cnt ks 0 (fun _ => false) 0 := ⟨fun k => ⟨(fun h => nomatch h), (fun h => by rw [List.take_zero] at h; cases h)⟩, Nat.le_refl _, ⟨fun _ => by rw [List.take_zero]; exact List.nodup_nil, fun _ => rfl⟩⟩
theorem Cnt.step {ks : List Int} {i n : Nat} {S : Int → Bool} {k : Int} (h : Cnt ks i S n) (hk : ks[i]? = some k) : Cnt ks (i + 1) (fun j => S j || decide (j = k)) (if S k = true then n else n + 1) := by
  obtain ⟨h1, h2, h3⟩ := h
  have tk : ks.take (i + 1) = ks.take i ++ [k] := by rw [List.take_succ, hk]; rfl
  have nd : (ks.take (i + 1)).Nodup ↔ (ks.take i).Nodup ∧ k ∉ ks.take i := by
    rw [tk, List.nodup_append]
    constructor
    · rintro ⟨a, _, c⟩
      exact ⟨a, fun g => c k g k List.mem_cons_self rfl⟩
    · rintro ⟨a, b⟩
      refine ⟨a, by simp, fun x hx y hy e => b ?_⟩
      rw [List.mem_singleton.mp hy] at e
      rw [← e]; exact hx
  refine ⟨fun j => ?_, ?_, ?_⟩
  · rw [Bool.or_eq_true, h1 j, decide_eq_true_eq, tk, List.mem_append, List.mem_singleton]
  · split <;> omega
  · rw [nd]
    by_cases e : S k = true
    · rw [if_pos e]
      exact ⟨fun g => by omega, fun g => (g.2 ((h1 k).mp e)).elim⟩
    · rw [if_neg e]
      constructor
      · intro g
        exact ⟨h3.mp (by omega), fun z => e ((h1 k).mpr z)⟩
      · intro g
        rw [h3.mpr g.1]
theorem Cnt.full {ks : List Int} {n : Nat} {S : Int → Bool} (h : Cnt ks ks.length S n) : n = ks.length ↔ ks.Nodup := by
  have := h.2.2
  rwa [List.take_length] at this
section
variable {P : Program} {w : World} {K : PySem.W.Frag} {mg : Str → Option Value} {base : Heap}
def sp_is_matching (K : PySem.W.Frag) : Sp := fun vs H Q _ => ∃ (l : Addr) (v : V) (d : PyData) (ps : List (Addr × Int × Int)), vs = [.ref l, v] ∧ Prs H l ps ∧ Sm12 ps ∧ ps.length < 31 ∧ DD H v d ∧ SeqAt.shaped d = true ∧ (∀ ds, d = .tuple ds → ds.length ≤ 100 ∧ ∀ z ∈ ds, (itemsD z).length ≤ 3) ∧
  ∀ (H' : Hp) (b : Bool), Same H H' → (b = true ↔ MatP (ps.map (·.2)) d) → Q (.bl b) H'
theorem ok_is_matching (T : Top K mg) : FnOk P w K mg base CX0 2 T.f_is_matching T.d_is_matching ["conflicts", "thing"] (sp_is_matching K) := by
  have G_is_selection : FnOk P w K mg base CX0 1 T.f_is_selection T.d_is_selection ["thing", "choices"] (sp_is_selection K) := ok_is_selection T
  refine T.F_is_matching.ok scis_matching (fun vs H Q E h => ?_) (fun cdv A outer s H vs Q E hr h => ?_)
  · obtain ⟨l, v, d, ps, rfl, _⟩ := h
    rfl
  · obtain ⟨l, v, d, ps, rfl, pr, sm, few, dd, sh, small, q⟩ := h
    refine ⟨_, (pss_cons (ps_if (pt_not (pt_val (pe_call G_is_selection (hr.mono (by decide)) (by rfl) T.g_is_selection T.F_is_selection.kp T.b_is_selection .nil pass0 (pa_cons (pv 1) (pa_cons (pe_callB (show CallR _ _ (rSortedT K P w) from cr_sortedT rfl) (by rfl) T.m_sorted (by decide +kernel) (pa_cons (pe_callTy (show CallR _ _ (rSetOfT K P w) from cr_setOfT rfl hr.units) (by rfl) T.m_set (by decide +kernel) (pa_cons (pv 0) pa_nil)) pa_nil)) pa_nil))))) (pss_one (ps_ret pe_bl)) pss_nil)
      (pss_one (ps_ret (pe_and (pe_cmpR op_eq (pe_callB (show CallR _ _ (rLenS w) from cr_lenS) (by rfl) T.m_len (by decide +kernel) (pa_cons (pe_scI (own := [("x", 2), ("y", 3)]) (g := gTup K 2 (gCons (gName 2) (gCons (gName 3) gNil))) rfl scis_matching.nd (pi_tup (pv 1)) (blkOk_by (N := N_is_matching) (sc := defScope s_is_matching) (by decide +kernel)) (fun _ _ _ _ _ => (pg_tup rfl (pgs_cons (pg_name (i := 2) scis_matching.nd rfl (.inl rfl)) (pgs_cons (pg_name (i := 3) scis_matching.nd rfl (.inl rfl)) pgs_nil)))) (fun _ _ _ _ _ => pts_nil) (fun _ _ _ _ _ => (pv 2))) pa_nil)) (pe_callB call_len_seq (by rfl) T.m_len (by decide +kernel) (pa_cons (pv 1) pa_nil)) (nomark _)) (pe_one (pe_cmpR op_eq (pe_callB (show CallR _ _ (rLenS w) from cr_lenS) (by rfl) T.m_len (by decide +kernel) (pa_cons (pe_scI (own := [("x", 2), ("y", 3)]) (g := gTup K 2 (gCons (gName 2) (gCons (gName 3) gNil))) rfl scis_matching.nd (pi_tup (pv 1)) (blkOk_by (N := N_is_matching) (sc := defScope s_is_matching) (by decide +kernel)) (fun _ _ _ _ _ => (pg_tup rfl (pgs_cons (pg_name (i := 2) scis_matching.nd rfl (.inl rfl)) (pgs_cons (pg_name (i := 3) scis_matching.nd rfl (.inl rfl)) pgs_nil)))) (fun _ _ _ _ _ => pts_nil) (fun _ _ _ _ _ => (pv 3))) pa_nil)) (pe_callB call_len_seq (by rfl) T.m_len (by decide +kernel) (pa_cons (pv 1) pa_nil)) (nomark _))))))), ?_⟩
    refine ⟨v, rfl, .ref l, rfl, ?_⟩
    obtain ⟨x1, x2, x3⟩ := ss1 (K := K) pr (by omega)
    refine ⟨l, asInts ps, rfl, x1, x2, x3, fun ad Ls na sub0 all0 => ?_⟩
    obtain ⟨y1, y2, y3⟩ := ss2 (P := P) (w := w) (K := K) pr sm na sub0
    refine ⟨ad, Ls, 2, 64, rfl, y1, y2, by decide, y3, fun L' p perm ndL lenL pw np => ?_⟩
    obtain ⟨qs, s1, np, prq, sub, asc, mem, l64⟩ := ss3 pr sm na sub0 all0 perm ndL lenL pw np
    generalize upd (upd H ad (SetTO P w ad Ls)) p (.lst (L'.map fun q => V.ref q.1)) = H1 at s1 prq
    refine ⟨v, p, d, qs, rfl, dd.same s1, sh, prq, asc, l64, small, fun H2 b s2 hb => ⟨b, rfl, ?_⟩⟩
    cases b with
    | false =>
      refine iteT (q _ false (s1.trans s2) ⟨(fun h => nomatch h), fun ⟨L, e, hin, hasc, _⟩ => ?_⟩)
      exact (nomatch hb.mpr ⟨L, e, fun c hc => (mem c).mpr (hin c hc), hasc⟩)
    | true =>
      refine iteF ?_
      obtain ⟨L, rfl, hin, hasc⟩ := hb.mp rfl
      have s12 := s1.trans s2
      have dd2 := dd.same s12
      obtain ⟨l100, l3⟩ := small _ rfl
      rw [List.length_map] at l100
      cases dd2 with
      | tup ha hs =>
        rename_i a xs
        have lx : xs.length = L.length := by rw [hs.len, List.length_map]
        have hs0 := fun {i : Nat} {v : V} => @dds_pd _ _ _ hs i v
        refine ⟨.ref a, rfl, a, rfl, ⟨_, SqT.of ha⟩, fun D nD => it_turns (walk_tup (xs := xs)) (fun i H4 => ∃ S n, Same H2 H4 ∧ H4 D = some (SetO w D S n) ∧ Cnt (L.map (·.1)) i S n) ?_ ?_ ?_ ?_⟩
        · exact ⟨_, _, same_new nD, upd_same, Cnt.zero _⟩
        · rintro i H4 _ ⟨S, n, s4, _⟩
          exact SqT.of (s4 _ _ ha)
        · rintro i v H5 H4 hi ⟨S, n, s4, d4, c4⟩ ⟨rfl, hv⟩
          obtain ⟨t, pp, rfl, hp, ht⟩ := hs0 hv
          refine ⟨t, _, rfl, SqT.of (s4 _ _ ht), rfl, .int pp.1, [.int pp.2], rfl, .int pp.2, [], rfl, rfl, rfl, ?_⟩
          simp only [tYes, if_true]
          refine ⟨.int pp.1, rfl, pp.1, S, n, rfl, d4, ?_, _, _, same_off nD s4, upd_same, c4.step (by rw [List.getElem?_map, hp]; rfl)⟩
          have := c4.2.1
          unfold scanBound
          omega
        rintro H3 ⟨S, n, s4, d4, c4⟩
        rw [lx, show L.length = (L.map (·.1)).length from (List.length_map ..).symm] at c4
        have f4 := c4.full
        rw [List.length_map] at f4
        have n4 := c4.2.1
        rw [List.length_map] at n4
        refine ⟨D, S, n, rfl, d4, by omega, .ref a, rfl, a, xs, rfl, .inr (SqT.of (s4 _ _ ha)), rfl, ?_⟩
        refine ⟨_, rfl, ?_⟩
        split
        · rename_i h1
          have e1 : n = L.length := by simp [lx] at h1; omega
          have ha3 := s4 _ _ ha
          have hs3 := fun {i : Nat} {v : V} => @dds_pd _ _ _ (hs.same s4) i v
          refine ⟨.ref a, rfl, a, rfl, ⟨_, SqT.of ha3⟩, fun D2 nD2 => it_turns (walk_tup (xs := xs)) (fun i H4 => ∃ S n, Same H3 H4 ∧ H4 D2 = some (SetO w D2 S n) ∧ Cnt (L.map (·.2)) i S n) ?_ ?_ ?_ ?_⟩
          · exact ⟨_, _, same_new nD2, upd_same, Cnt.zero _⟩
          · rintro i H4 _ ⟨S, n, s4, _⟩
            exact SqT.of (s4 _ _ ha3)
          · rintro i v H5 H4 hi ⟨S, n, s4, d4, c4⟩ ⟨rfl, hv⟩
            obtain ⟨t, pp, rfl, hp, ht⟩ := hs3 hv
            refine ⟨t, _, rfl, SqT.of (s4 _ _ ht), rfl, .int pp.1, [.int pp.2], rfl, .int pp.2, [], rfl, rfl, rfl, ?_⟩
            simp only [tYes, if_true]
            refine ⟨.int pp.2, rfl, pp.2, S, n, rfl, d4, ?_, _, _, same_off nD2 s4, upd_same, c4.step (by rw [List.getElem?_map, hp]; rfl)⟩
            have := c4.2.1
            unfold scanBound
            omega
          rintro H4 ⟨S2, n2, s5, d5, c5⟩
          rw [lx, show L.length = (L.map (·.2)).length from (List.length_map ..).symm] at c5
          have f5 := c5.full
          rw [List.length_map] at f5
          have n5 := c5.2.1
          rw [List.length_map] at n5
          refine ⟨D2, S2, n2, rfl, d5, by omega, .ref a, rfl, a, xs, rfl, .inr (SqT.of (s5 _ _ ha3)), rfl, ?_⟩
          refine q _ _ (s12.trans (s4.trans s5)) ?_
          have e2 : (n2 = L.length) ↔ (L.map (·.2)).Nodup := f5
          constructor
          · intro h2
            have e3 : n2 = L.length := by simp [lx] at h2; omega
            exact ⟨L, rfl, fun c hc => (mem c).mp (hin c hc), hasc, f4.mp e1, e2.mp e3⟩
          · rintro ⟨L2, eL, _, _, _, nd2⟩
            injection eL with eL
            rw [← map_pd_inj eL] at nd2
            have e3 := e2.mpr nd2
            simp [lx, e3]
        · rename_i h1
          refine q _ false (s12.trans s4) ⟨(fun h => nomatch h), fun ⟨L2, eL, _, _, nd1, _⟩ => ?_⟩
          injection eL with eL
          rw [← map_pd_inj eL] at nd1
          have e1 := f4.mpr nd1
          exact (h1 (by simp [lx, e1])).elim
end
end K44

set_option Elab.async false
set_option linter.all false
set_option maxRecDepth 100000
set_option maxHeartbeats 2000000
namespace K44
open PySem PySem.Spec PyProof.Rows L2 My
/-- is this thing a plain number -/
def numD (z : PyData) : Bool := !isBoolD z && isIntD z
theorem num_of {z : PyData} (h : numD z = true) : ∃ n, z = .int n := by
  cases z with
  | int n => exact ⟨n, rfl⟩
  | _ => cases h
theorem pd_shape {x y : PyData} : (∃ c, (.tuple [x, y] : PyData) = pd c) ↔ ∃ n m, x = .int n ∧ y = .int m := by
  constructor
  · rintro ⟨c, e⟩
    injection e with e
    injection e with e1 e2
    injection e2 with e2 _
    exact ⟨c.1, c.2, e1, e2⟩
  · rintro ⟨n, m, rfl, rfl⟩
    exact ⟨(n, m), rfl⟩
def MatQ (es : List PyData) (d : PyData) : Prop := ∃ L : List (Int × Int), d = .tuple (L.map pd) ∧ (∀ c ∈ L, (es.any fun z => PyData.eqv z (pd c)) = true) ∧ L.Pairwise okP
theorem matQ_P {E : List (Int × Int)} {d : PyData} : MatQ (E.map pd) d ↔ MatP E d := by
  unfold MatQ MatP
  constructor
  · rintro ⟨L, e, h1, h2⟩
    exact ⟨L, e, fun c hc => by have := h1 c hc; rw [any_pd] at this; exact of_decide_eq_true this, okP_of.mp h2⟩
  · rintro ⟨L, e, h1, h2⟩
    exact ⟨L, e, fun c hc => by rw [any_pd]; exact decide_eq_true (h1 c hc), okP_of.mpr h2⟩
section
variable {P : Program} {w : World} {K : PySem.W.Frag} {mg : Str → Option Value} {base : Heap}
def sp_L_is_matching (K : PySem.W.Frag) : Sp := fun vs H Q _ => ∃ (l : Addr) (v : V) (d : PyData) (cx : List V) (es : List PyData), vs = [.ref l, v] ∧ H l = some (.lst cx) ∧ DDs H cx es ∧ OkD (.list es) ∧ DD H v d ∧ OkD d ∧
  ∀ (H' : Hp) (b : Bool), Same H H' → (b = true ↔ MatQ es d) → Q (.bl b) H'
theorem ok_L_is_matching (T : Top K mg) : FnOk P w K mg base CX0 1 T.f__law_is_matching T.d__law_is_matching ["_law_conflicts", "_law_thing"] (sp_L_is_matching K) := by
  refine T.F__law_is_matching.ok scL_is_matching (fun vs H Q E h => ?_) (fun cdv A outer s H vs Q E hr h => ?_)
  · obtain ⟨l, v, d, cx, es, rfl, _⟩ := h
    rfl
  · obtain ⟨l, v, d, cx, es, rfl, hl0, hes, okE, dd, okd, q⟩ := h
    refine ⟨_, (pss_cons (ps_if (pt_not (pt_val (pe_callB call_isi (by rfl) T.m_isinstance (by decide +kernel) (pa_cons (pv 1) (pa_cons (pe_bltn (v := .ty "tuple") (by rfl) T.m_tuple (by decide +kernel) rfl) pa_nil))))) (pss_one (ps_ret pe_bl)) pss_nil)
      (pss_cons (ps_set (i := 2) scL_is_matching.nd rfl (.inl rfl) (pe_lst pa_nil))
      (pss_cons (ps_for PassesOwn.never rfl (pi_tup (pv 1)) (pg_name (i := 3) scL_is_matching.nd rfl (.inr rfl)) (pss_cons (ps_if (PW.pt (pw_or (pt_not (pt_val (pe_callB call_isi (by rfl) T.m_isinstance (by decide +kernel) (pa_cons (pv 3) (pa_cons (pe_bltn (v := .ty "tuple") (by rfl) T.m_tuple (by decide +kernel) rfl) pa_nil))))) (pw_or1 (pt_cmpR op_ne (pe_callB call_len_seq (by rfl) T.m_len (by decide +kernel) (pa_cons (pv 3) pa_nil)) pe_int (nomark _))))) (pss_one (ps_ret pe_bl)) pss_nil)
      (pss_cons (ps_setLc (own := [("_law_part", 5)]) (i := 4) rfl scL_is_matching.nd rfl rfl (sw_true rfl rfl rfl (by decide +kernel)) (pi_tup (pv 3)) (blkOk_by (N := N_L_is_matching) (sc := defScope s_L_is_matching) (by decide +kernel)) (fun _ _ _ _ _ => (pg_name (i := 5) scL_is_matching.nd rfl (.inl rfl))) (fun _ _ _ _ _ => pts_one (PW.pt (pw_or (pt_val (pe_callB (r := rIsi K) call_isi (by rfl) T.m_isinstance (by decide +kernel) (pa_cons (pv 5) (pa_cons (pe_bltn (v := .ty "bool") (by rfl) T.m_bool (by decide +kernel) rfl) pa_nil)))) (pw_or1 (pt_not (pt_val (pe_callB (r := rIsi K) call_isi (by rfl) T.m_isinstance (by decide +kernel) (pa_cons (pv 5) (pa_cons (pe_bltn (v := .ty "int") (by rfl) T.m_int (by decide +kernel) rfl) pa_nil))))))))) (fun _ _ _ _ _ => (pv 5)))
      (pss_cons (ps_if (PW.pt (pw_or (pt_cmpR (op_neD hr.units) (pv 4) (pe_lst pa_nil) (nomark _)) (pw_or1 (pt_cmpR (op_notInD (My.Room.u65 hr)) (pv 3) (pv 0) (by rfl))))) (pss_one (ps_ret pe_bl)) pss_nil)
      (pss_cons (ps_if (pt_cmpR (op_neD hr.units) (pe_lc (own := [("_law_other", 6)]) rfl scL_is_matching.nd (pi_list (pv 2)) (blkOk_by (N := N_L_is_matching) (sc := defScope s_L_is_matching) (by decide +kernel)) (fun _ _ _ _ _ => (pg_name (i := 6) scL_is_matching.nd rfl (.inl rfl))) (fun _ _ _ _ _ => pts_one (PW.pt (pw_or (pt_cmpR op_eq (pe_ix (r := rIxT K) ix_tup (pv 6) pe_int (fun _ _ => rfl)) (pe_ix (r := rIxT K) ix_tup (pv 3) pe_int (fun _ _ => rfl)) (nomark _)) (pw_or (pt_cmpR op_eq (pe_ix (r := rIxT K) ix_tup (pv 6) pe_int (fun _ _ => rfl)) (pe_ix (r := rIxT K) ix_tup (pv 3) pe_int (fun _ _ => rfl)) (nomark _)) (pw_or1 (pt_cmpR (r := rGtP K) (op_gtP hr.units0) (pv 6) (pv 3) (nomark _))))))) (fun _ _ _ _ _ => (pv 6))) (pe_lst pa_nil) (nomark _)) (pss_one (ps_ret pe_bl)) pss_nil)
      (pss_one (ps_expr (pe_bm PySem.F.plainAttrs_list PySem.F.slot_list_append PySem.F.type_list_append mt_append (pv 2) (pa_cons (pv 3) pa_nil)))))))))
      (pss_one (ps_ret pe_bl))))), ?_⟩
    have shE : SeqAt.shaped (.list es) = true := (OkD.fact okE).shaped (by decide)
    refine ⟨v, rfl, _, _, _, _, isTupD d, rfl, ClsV.ty "tuple", dd.ty, kit_ty (kit_tup d), isTupD d, rfl, ?_⟩
    have rf0 : Same H H := fun _ _ e => e
    cases dd with
    | tup ha hs =>
      rename_i ta xs ds
      refine iteF ?_
      refine ⟨Nat.zero_le _, fun pa npa => ?_⟩
      have s6 := same_new (o := .lst []) npa
      have pa6 : upd H pa (.lst []) pa = some (.lst []) := upd_same
      generalize upd H pa (.lst []) = H6 at s6 pa6
      have off : ∀ {b : Addr} {o : HO}, H b = some o → b ≠ pa := fun {b o} e h => by rw [h, npa] at e; cases e
      refine ⟨.ref ta, rfl, ta, rfl, ⟨_, SqT.of (s6 _ _ ha)⟩, for_it (walk_tup (xs := xs)) (fun i σ H7 => ∃ (bs : List (Addr × Int × Int)) (y3 y4 y5 y6 : Option V), σ = [some (.ref l), some (.ref ta), some (.ref pa), y3, y4, y5, y6] ∧ Same H H7 ∧ H7 pa = some (.lst (bs.map fun q => V.ref q.1)) ∧ (∀ q ∈ bs, Pr H q) ∧
        ds.take i = (bs.map (·.2)).map pd ∧ (∀ c ∈ bs.map (·.2), (es.any fun z => PyData.eqv z (pd c)) = true) ∧ (bs.map (·.2)).Pairwise okP) ?_ ?_ ?_ ?_⟩
      · exact ⟨[], none, none, none, none, rfl, s6, pa6, (fun _ h => nomatch h), rfl, (fun _ h => nomatch h), .nil⟩
      · rintro i σ H7 _ ⟨bs, y3, y4, y5, y6, _, s7, _⟩
        exact SqT.of (s7 _ _ ha)
      · rintro i v σ H8 H7 hi ⟨bs, y3, y4, y5, y6, rfl, s7, pa7, pb, eL, inL, okL⟩ ⟨rfl, hv⟩
        obtain ⟨z, hz, dz0⟩ := hs.get hv
        have dz := dz0.same s7
        have prt : Part z := okd.2 z (List.mem_of_getElem? hz)
        have tkz : ds.take (i + 1) = (bs.map (·.2)).map pd ++ [z] := by rw [List.take_succ, hz, Option.toList_some, eL]
        have lds : ds.length ≤ 60 := okd.1
        have lbs : bs.length ≤ 60 := by
          have : (ds.take i).length = bs.length := by rw [eL, List.length_map, List.length_map]
          rw [List.length_take] at this
          omega
        have refl : Same H7 H7 := fun _ _ e => e
        have out : (¬ ∃ c, z = pd c ∧ (es.any fun z => PyData.eqv z (pd c)) = true ∧ ∀ q ∈ bs.map (·.2), okP q c) → ∀ {H9 : Hp}, Same H7 H9 → Q (.bl false) H9 := fun h {H9} s9 => by
          refine q _ false (s7.trans s9) ⟨(fun h => nomatch h), fun ⟨L, e, h1, h2⟩ => (h ?_).elim⟩
          injection e with e
          have hz' := hz
          rw [e, List.getElem?_map] at hz'
          obtain ⟨c, hc, ec⟩ := Option.map_eq_some_iff.mp hz'
          refine ⟨c, ec.symm, h1 c (List.mem_of_getElem? hc), fun x hx => ?_⟩
          have eT : L.take i = bs.map (·.2) := by
            rw [e, ← List.map_take] at eL
            exact map_pd_inj eL
          rw [← eT] at hx
          obtain ⟨j, hj, ej⟩ := List.getElem_of_mem hx
          rw [List.length_take] at hj
          rw [List.getElem_take] at ej
          obtain ⟨hi', ec'⟩ := List.getElem?_eq_some_iff.mp hc
          have := (List.pairwise_iff_getElem.mp h2) j i (by omega) hi' (by omega)
          rw [ej, ec'] at this
          exact this
        refine ⟨v, rfl, _, _, _, _, isTupD z, rfl, ClsV.ty "tuple", dz.ty, kit_ty (kit_tup z), isTupD z, rfl, ?_⟩
        cases dz with
        | tup hza hzs =>
          rename_i za zx zs
          refine iteF ?_
          refine ⟨.ref za, rfl, za, _, rfl, .inr (SqT.of hza), rfl, _, rfl, ?_⟩
          have hl := hzs.len
          by_cases l2 : zs.length = 2
          · rw [l2] at hl
            rw [hl]
            refine iteF ?_
            refine ⟨.ref za, rfl, za, rfl, ⟨_, SqT.of hza⟩, fun D nD => lc_it (walk_tup (xs := zx)) (fun j H9 => ∃ (ws : List V) (fs : List PyData), ws.length ≤ j ∧ Same H7 H9 ∧ H9 D = some (.lst ws) ∧ DDs H7 ws fs ∧ (∀ y ∈ fs, y ∈ zs) ∧ (fs = [] ↔ ∀ y ∈ zs.take j, numD y = true)) ?_ ?_ ?_ ?_⟩
            · exact ⟨[], [], Nat.le_refl _, same_new nD, upd_same, .nil, (fun _ h => nomatch h), ⟨(fun _ _ h => by rw [List.take_zero] at h; cases h), fun _ => rfl⟩⟩
            · rintro j H9 _ ⟨ws, fs, _, s9, _⟩
              exact SqT.of (s9 _ _ hza)
            · rintro j v' H10 H9 hj ⟨ws, fs, lw, s9, d9, dw, sub9, e9⟩ ⟨rfl, hv'⟩
              obtain ⟨y, hy, dy⟩ := hzs.get hv'
              have tk : zs.take (j + 1) = zs.take j ++ [y] := by rw [List.take_succ, hy]; rfl
              have ymem := List.mem_of_getElem? hy
              have put : numD y = false → ∃ acc, H9 D = some (.lst acc) ∧ acc.length < sizeLine ∧ ∃ (ws : List V) (fs : List PyData), ws.length ≤ j + 1 ∧ Same H7 (upd H9 D (.lst (acc ++ [v']))) ∧ upd H9 D (.lst (acc ++ [v'])) D = some (.lst ws) ∧ DDs H7 ws fs ∧ (∀ y ∈ fs, y ∈ zs) ∧ (fs = [] ↔ ∀ y ∈ zs.take (j + 1), numD y = true) := by
                intro nn
                refine ⟨ws, d9, small1000 (by rw [hl] at hj; omega), ws ++ [v'], fs ++ [y], ?_, same_off nD s9, upd_same, dw.app (.cons dy .nil), fun x hx => ?_, ⟨fun h => by simp at h, fun h => ?_⟩⟩
                · rw [List.length_append]; simp only [List.length_cons, List.length_nil]; omega
                · rcases List.mem_append.mp hx with h' | h'
                  · exact sub9 x h'
                  · rw [List.mem_singleton.mp h']; exact ymem
                · have := h y (by rw [tk]; exact List.mem_append_right _ (List.mem_singleton.mpr rfl))
                  rw [nn] at this
                  cases this
              have skip : numD y = true → ∃ (ws : List V) (fs : List PyData), ws.length ≤ j + 1 ∧ Same H7 H9 ∧ H9 D = some (.lst ws) ∧ DDs H7 ws fs ∧ (∀ y ∈ fs, y ∈ zs) ∧ (fs = [] ↔ ∀ y ∈ zs.take (j + 1), numD y = true) := by
                intro yn
                refine ⟨ws, fs, by omega, s9, d9, dw, sub9, e9.trans ⟨fun h x hx => ?_, fun h x hx => h x (by rw [tk]; exact List.mem_append_left _ hx)⟩⟩
                rw [tk] at hx
                rcases List.mem_append.mp hx with h' | h'
                · exact h x h'
                · rw [List.mem_singleton.mp h']; exact yn
              refine ⟨rfl, ?_⟩
              refine ⟨v', rfl, _, _, _, _, isBoolD y, rfl, ClsV.ty "bool", (dy.same s9).ty, kit_ty (kit_bool y), isBoolD y, rfl, ?_⟩
              cases h1 : isBoolD y with
              | true => exact iteT (iteT ⟨v', rfl, put (by unfold numD; rw [h1]; rfl)⟩)
              | false =>
                refine iteF ⟨v', rfl, _, _, _, _, isIntD y, rfl, ClsV.ty "int", (dy.same s9).ty, kit_ty (kit_int y), isIntD y, rfl, ?_⟩
                cases h2 : isIntD y with
                | false => exact iteT ⟨v', rfl, put (by unfold numD; rw [h1, h2]; rfl)⟩
                | true => exact iteF (skip (by unfold numD; rw [h1, h2]; rfl))
            rintro H9 ⟨ws, fs, lw, s9, d9, dw, sub9, e9⟩
            rw [hzs.len, List.take_length] at e9
            have lfs : fs.length ≤ 3 := by
              rw [← dw.len]
              omega
            have shF : SeqAt.shaped (.list fs) = true := (Part.fact (show Part (.list fs) from ⟨lfs, fun y hy => prt.2 y (sub9 y hy)⟩)).shaped (by decide)
            refine ⟨.ref D, rfl, Nat.zero_le _, fun e ne => ?_⟩
            have s10 := s9.trans (same_new (o := .lst []) ne)
            have D10 := same_new (o := .lst []) ne _ _ d9
            have e10 : upd H9 e (.lst []) e = some (.lst []) := upd_same
            generalize upd H9 e (.lst []) = H10 at s10 D10 e10
            refine ⟨.list fs, .list [], (DD.lst D10 (dw.same s10)).dp, .lst (SqL.of e10) .nil, shF, by decide, _, rfl, ?_⟩
            have ef : PyData.eqv (.list fs) (.list []) = fs.isEmpty := by cases fs <;> rfl
            rw [ef]
            cases fs with
            | cons f0 fr =>
              refine iteT (out (fun ⟨c, e', _⟩ => ?_) s10)
              have := e9.mpr (fun y hy => by
                injection e' with e'
                rw [e'] at hy
                rcases List.mem_cons.mp hy with h | h
                · rw [h]; rfl
                · rw [List.mem_singleton.mp h]; rfl)
              cases this
            | nil =>
              have nums := e9.mp rfl
              refine iteF ?_
              obtain ⟨c, ec⟩ : ∃ c, (.tuple zs : PyData) = pd c := by
                match zs, l2, nums with
                | [z1, z2], _, nums =>
                  exact pd_shape.mpr ⟨_, _, (num_of (nums z1 (by simp))).choose_spec, (num_of (nums z2 (by simp))).choose_spec⟩
              have dzz := (DD.tup hza hzs).same s10
              rw [ec] at dzz tkz
              have hzc : H7 za = some (.tup [.int c.1, .int c.2]) := by
                injection ec with ec
                subst ec
                cases hzs with
                | cons a1 a2 =>
                cases a2 with
                | cons a3 a4 =>
                cases a4
                cases a1
                cases a3
                exact hza
              have hzH : H za = some (.tup [.int c.1, .int c.2]) := by
                cases dz0 with
                | tup h1 h2 =>
                  have := s7 _ _ h1
                  rw [hzc] at this
                  cases this
                  exact h1
              refine ⟨.ref za, rfl, .ref l, rfl, pd c, es, dzz.dp, ?_, shaped_pd1 c, shE, _, rfl, ?_⟩
              · exact (DD.lst (s10 _ _ (s7 _ _ hl0)) (hes.same (s7.trans s10))).dp
              cases hin : es.any fun y => PyData.eqv y (pd c) with
              | false =>
                refine iteT (out (fun ⟨c', e', h', _⟩ => ?_) s10)
                rw [ec] at e'
                rw [pd_inj e', h'] at hin
                cases hin
              | true =>
                refine iteF ?_
                have pa10 := s10 _ _ pa7
                refine ⟨.ref pa, rfl, pa, rfl, ⟨_, SqL.of pa10⟩, fun D2 nD2 => lc_it (walk_list (xs := bs.map fun q => V.ref q.1)) (fun j H11 => ∃ fs : List (Addr × Int × Int), fs.length ≤ j ∧ (∀ q ∈ fs, q ∈ bs) ∧ Same H10 H11 ∧ H11 D2 = some (.lst (fs.map fun q => V.ref q.1)) ∧ (fs = [] ↔ ∀ q ∈ (bs.map (·.2)).take j, okP q c)) ?_ ?_ ?_ ?_⟩
                · exact ⟨[], Nat.le_refl _, (fun _ h => nomatch h), same_new nD2, upd_same, ⟨(fun _ _ h => by rw [List.take_zero] at h; cases h), fun _ => rfl⟩⟩
                · rintro j H11 _ ⟨fs, _, _, s11, _⟩
                  exact SqL.of (s11 _ _ pa10)
                · rintro j v' H12 H11 hj ⟨fs, lf, sub11, s11, d11, e11⟩ ⟨rfl, hv'⟩
                  rw [List.getElem?_map] at hv'
                  rw [List.length_map] at hj
                  rw [List.getElem?_eq_getElem hj] at hv'
                  cases hv'
                  have hq := List.getElem_mem hj
                  have tk : (bs.map (·.2)).take (j + 1) = (bs.map (·.2)).take j ++ [bs[j].2] := by rw [List.take_succ, List.getElem?_map, List.getElem?_eq_getElem hj]; rfl
                  generalize bs[j] = g at hq tk
                  have gt : H11 g.1 = some (.tup [.int g.2.1, .int g.2.2]) := s11 _ _ (s10 _ _ (s7 _ _ (pb g hq)))
                  have zt : H11 za = some (.tup [.int c.1, .int c.2]) := s11 _ _ (s10 _ _ hzc)
                  have put : ¬ okP g.2 c → ∃ acc, H11 D2 = some (.lst acc) ∧ acc.length < sizeLine ∧ ∃ fs : List (Addr × Int × Int), fs.length ≤ j + 1 ∧ (∀ q ∈ fs, q ∈ bs) ∧ Same H10 (upd H11 D2 (.lst (acc ++ [V.ref g.1]))) ∧ upd H11 D2 (.lst (acc ++ [V.ref g.1])) D2 = some (.lst (fs.map fun q => V.ref q.1)) ∧ (fs = [] ↔ ∀ q ∈ (bs.map (·.2)).take (j + 1), okP q c) := by
                    intro no
                    refine ⟨_, d11, by rw [List.length_map]; exact small1000 (by omega), fs ++ [g], ?_, fun x hx => ?_, same_off nD2 s11, by rw [upd_same, List.map_append]; rfl, ⟨fun h => by simp at h, fun h => ?_⟩⟩
                    · rw [List.length_append]; simp only [List.length_cons, List.length_nil]; omega
                    · rcases List.mem_append.mp hx with h' | h'
                      · exact sub11 x h'
                      · rw [List.mem_singleton.mp h']; exact hq
                    · exact (no (h g.2 (by rw [tk]; exact List.mem_append_right _ (List.mem_singleton.mpr rfl)))).elim
                  have skip : okP g.2 c → ∃ fs : List (Addr × Int × Int), fs.length ≤ j + 1 ∧ (∀ q ∈ fs, q ∈ bs) ∧ Same H10 H11 ∧ H11 D2 = some (.lst (fs.map fun q => V.ref q.1)) ∧ (fs = [] ↔ ∀ q ∈ (bs.map (·.2)).take (j + 1), okP q c) := by
                    intro yes
                    refine ⟨fs, by omega, sub11, s11, d11, e11.trans ⟨fun h x hx => ?_, fun h x hx => h x (by rw [tk]; exact List.mem_append_left _ hx)⟩⟩
                    rw [tk] at hx
                    rcases List.mem_append.mp hx with h' | h'
                    · exact h x h'
                    · rw [List.mem_singleton.mp h']; exact yes
                  refine ⟨rfl, ?_⟩
                  refine ⟨.ref g.1, rfl, g.1, _, 0, .int g.2.1, rfl, rfl, SqT.of gt, atI_nat (j := 0) rfl, .ref za, rfl, za, _, 0, .int c.1, rfl, rfl, SqT.of zt, atI_nat (j := 0) rfl, rfl, _, rfl, ?_⟩
                  refine ite2 (fun h => iteT ⟨.ref g.1, rfl, put fun ok => ok.1 (V.int.inj (of_decide_eq_true h))⟩) (fun h1 => ?_)
                  refine ⟨.ref g.1, rfl, g.1, _, 1, .int g.2.2, rfl, rfl, SqT.of gt, atI_nat (j := 1) rfl, .ref za, rfl, za, _, 1, .int c.2, rfl, rfl, SqT.of zt, atI_nat (j := 1) rfl, rfl, _, rfl, ?_⟩
                  refine ite2 (fun h => iteT ⟨.ref g.1, rfl, put fun ok => ok.2.1 (V.int.inj (of_decide_eq_true h))⟩) (fun h2 => ?_)
                  refine ⟨.ref g.1, rfl, .ref za, rfl, g.1, za, g.2, c, rfl, rfl, SqT.of gt, SqT.of zt, _, rfl, ?_⟩
                  refine ite2 (fun h => ⟨.ref g.1, rfl, put fun ok => ok.2.2 (of_decide_eq_true (p := c.1 < g.2.1 ∨ c.1 = g.2.1 ∧ c.2 < g.2.2) h)⟩) (fun h3 => skip ⟨fun e => h1 (decide_eq_true (by rw [e])), fun e => h2 (decide_eq_true (by rw [e])), fun e => h3 (decide_eq_true (p := c.1 < g.2.1 ∨ c.1 = g.2.1 ∧ c.2 < g.2.2) e)⟩)
                rintro H11 ⟨fs, lf, sub11, s11, d11, e11⟩
                rw [List.length_map, List.take_of_length_le (by rw [List.length_map]; exact Nat.le_refl _)] at e11
                refine ⟨Nat.zero_le _, fun e3 ne3 => ?_⟩
                have s12 := s11.trans (same_new (o := .lst []) ne3)
                have D12 := same_new (o := .lst []) ne3 _ _ d11
                have e12 : upd H11 e3 (.lst []) e3 = some (.lst []) := upd_same
                generalize upd H11 e3 (.lst []) = H12 at s12 D12 e12
                have s712 := s10.trans s12
                have prF : Prs H12 D2 fs := ⟨D12, fun z hz => s712 _ _ (s7 _ _ (pb z (sub11 z hz)))⟩
                refine ⟨_, .list [], dp_prs prF, .lst (SqL.of e12) .nil, shaped_pd _, by decide, _, rfl, ?_⟩
                rw [eqv_nilI]
                cases fs with
                | cons f0 fr =>
                  refine iteT (out (fun ⟨c', e', _, ok'⟩ => ?_) s712)
                  rw [ec] at e'
                  rw [← pd_inj e'] at ok'
                  cases e11.mpr ok'
                | nil =>
                  have okc := e11.mp rfl
                  refine iteF ?_
                  have pa12 := s12 _ _ pa10
                  refine ⟨.ref pa, rfl, .inl ⟨rfl, _, SqL.of pa12⟩, .ref za, rfl, pa, _, .ref za, rfl, rfl, pa12, by rw [List.length_map]; exact small1000 (by omega), ?_⟩
                  refine ⟨bs ++ [(za, c)], _, _, _, _, rfl, fun b o e => by rw [upd_ne (off e)]; exact (s7.trans s712) _ _ e, by rw [upd_same, List.map_append]; rfl, fun x hx => ?_, by rw [tkz, List.map_append, List.map_append]; rfl, fun x hx => ?_, ?_⟩
                  · rcases List.mem_append.mp hx with h | h
                    · exact pb x h
                    · rw [List.mem_singleton.mp h]; exact hzH
                  · rw [List.map_append] at hx
                    rcases List.mem_append.mp hx with h | h
                    · exact inL x h
                    · rw [List.mem_singleton.mp h]; exact hin
                  · rw [List.map_append, List.pairwise_append]
                    exact ⟨okL, List.pairwise_singleton .., fun x hx y hy => by rw [List.mem_singleton.mp hy]; exact okc x hx⟩
          · refine ite2 (fun _ => out (fun ⟨c, e, _⟩ => ?_) refl) (fun e => ?_)
            · injection e with e
              rw [e] at l2
              exact (l2 rfl).elim
            · exact absurd (by
                rw [hl]
                have : ¬ ((zs.length : Nat) : Int) = 2 := by omega
                simpa using this) e
        | non => exact iteT (out (fun ⟨c, e, _⟩ => by cases e) refl)
        | bl b => exact iteT (out (fun ⟨c, e, _⟩ => by cases e) refl)
        | int b => exact iteT (out (fun ⟨c, e, _⟩ => by cases e) refl)
        | str b => exact iteT (out (fun ⟨c, e, _⟩ => by cases e) refl)
        | lst _ _ => exact iteT (out (fun ⟨c, e, _⟩ => by cases e) refl)
      · rintro σ H7 ⟨bs, y3, y4, y5, y6, rfl, s7, pa7, pb, eL, inL, okL⟩
        rw [hs.len, List.take_length] at eL
        exact q _ true s7 ⟨fun _ => ⟨bs.map (·.2), by rw [eL], inL, okL⟩, fun _ => rfl⟩
    | non => exact iteT (q _ false rf0 ⟨(fun h => nomatch h), fun ⟨L, e, _⟩ => (by cases e)⟩)
    | bl b => exact iteT (q _ false rf0 ⟨(fun h => nomatch h), fun ⟨L, e, _⟩ => (by cases e)⟩)
    | int b => exact iteT (q _ false rf0 ⟨(fun h => nomatch h), fun ⟨L, e, _⟩ => (by cases e)⟩)
    | str b => exact iteT (q _ false rf0 ⟨(fun h => nomatch h), fun ⟨L, e, _⟩ => (by cases e)⟩)
    | lst h1 h2 => exact iteT (q _ false rf0 ⟨(fun h => nomatch h), fun ⟨L, e, _⟩ => (by cases e)⟩)
end
end K44

set_option Elab.async false
set_option linter.all false
set_option maxRecDepth 100000
set_option maxHeartbeats 4000000
namespace K44
open PySem PySem.Spec PyProof.Rows L2 My
theorem at_neg {xs : List V} {i : Int} {v : V} (h0 : i < 0) (h1 : -(xs.length : Int) ≤ i) (h : xs[(i + xs.length).toNat]? = some v) : atI xs i = some v := by
  unfold atI ixN
  rw [if_neg (by omega), if_pos h1]
  exact h
theorem dd_pd {H : Hp} {v : V} {c : Int × Int} (h : DD H v (pd c)) : ∃ a, v = .ref a ∧ H a = some (.tup [.int c.1, .int c.2]) := by
  cases h with
  | tup ha hs =>
    cases hs with
    | cons h1 hs =>
      cases hs with
      | cons h2 hs =>
        cases hs
        cases h1
        cases h2
        exact ⟨_, rfl, ha⟩
theorem part_pdB {m : Int} {c : Int × Int} (h : (0 ≤ c.1 ∧ c.1 ≤ m) ∧ 0 ≤ c.2 ∧ c.2 ≤ m) : PartB m (pd c) := by
  refine ⟨by show 2 ≤ 3; decide, fun x hx => ?_⟩
  rcases List.mem_cons.mp hx with e | hx
  · subst e; exact h.1
  · rw [List.mem_singleton.mp hx]; exact h.2
theorem part_pdI {m : Int} {c : Int × Int} (h : PartB m (pd c)) : (0 ≤ c.1 ∧ c.1 ≤ m) ∧ 0 ≤ c.2 ∧ c.2 ≤ m := ⟨h.2 _ List.mem_cons_self, h.2 _ (List.mem_cons_of_mem _ List.mem_cons_self)⟩
theorem pv_tup {b p : Addr} {H : Hp} {m : Int} {xs : List V} {ds : List PyData} (hb : Bag H b) (np : H p = none) (h : DKs b H xs ds) (hl : ds.length ≤ 3) (hd : ∀ x ∈ ds, LeafB m x) : PV b (upd H p (.tup xs)) m (.ref p) :=
  ⟨.tuple ds, DK.tup upd_same (hb.ne np) (h.keep (Kept.new np)), hl, hd⟩
theorem pv_lst {b p : Addr} {H : Hp} {m : Int} {xs : List V} {ds : List PyData} (hb : Bag H b) (np : H p = none) (h : DKs b H xs ds) (hl : ds.length ≤ 3) (hd : ∀ x ∈ ds, LeafB m x) : PV b (upd H p (.lst xs)) m (.ref p) :=
  ⟨.list ds, DK.lst upd_same (hb.ne np) (h.keep (Kept.new np)), hl, hd⟩
section
variable {P : Program} {w : World} {K : PySem.W.Frag} {mg : Str → Option Value} {base : Heap}
def sp_L_spoiled (K : PySem.W.Frag) : Sp := fun vs H Q _ => ∃ (b t : Addr) (xs : List V) (L : List (Int × Int)) (m : Int), vs = [.ref b, .ref t] ∧ Bag H b ∧ H t = some (.tup xs) ∧ DKs b H xs (L.map pd) ∧ 12 ≤ m ∧ m ≤ 900 ∧ (∀ c ∈ L, (0 ≤ c.1 ∧ c.1 ≤ m) ∧ 0 ≤ c.2 ∧ c.2 ≤ m) ∧ L.length ≤ 50 ∧
  ∀ (H' : Hp) (v : V) (d : PyData) (ds : List PyData), Kept b H H' → Bag H' b → DK b H' v d → (d = .tuple ds ∨ d = .list ds) → ds.length ≤ L.length + 1 → (∀ z ∈ ds, PartB (m + 1) z) → Q v H'
theorem ok_L_spoiled (T : Top K mg) : FnOk P w K mg base CX0 2 T.f__law_spoiled T.d__law_spoiled ["_law_bag_here", "_law_thing"] (sp_L_spoiled K) := by
  have G__law_take : FnOk P w K mg base CX0 1 T.f__law_take T.d__law_take ["_law_bag_here", "_law_many"] (sp_L_take K) := ok_L_take T
  refine T.F__law_spoiled.ok scL_spoiled (fun vs H Q E h => ?_) (fun cdv A outer s H vs Q E hr h => ?_)
  · obtain ⟨b, t, xs, L, m, rfl, _⟩ := h
    rfl
  · obtain ⟨b, t, xs, L, m, rfl, hb, ht, hx, m0, m1, hL, lL, q⟩ := h
    refine ⟨_, (pss_cons (ps_asg (pe_tup (pa_cons (pe_call G__law_take (hr.mono (by decide)) (by rfl) T.g__law_take T.F__law_take.kp T.b__law_take .nil pass0 (pa_cons (pv 0) (pa_cons pe_int pa_nil))) (pa_cons (pe_callTy call_list_of (by rfl) T.m_list (by decide +kernel) (pa_cons (pv 1) pa_nil)) pa_nil))) (pg_tup rfl (pgs_cons (pg_name (i := 2) scL_spoiled.nd rfl (.inl rfl)) (pgs_cons (pg_name (i := 3) scL_spoiled.nd rfl (.inr rfl)) pgs_nil))))
      (pss_cons (ps_if (pt_cmpR op_eq (pv 2) pe_int (nomark _)) (pss_one (ps_ret (pv 3))) pss_nil)
      (pss_cons (ps_if (PW.pt (pw_or (pt_cmpR (op_eqNil hr.units0) (pv 3) (pe_lst pa_nil) (nomark _)) (pw_or1 (pt_cmpR op_eq (pv 2) pe_int (nomark _))))) (pss_one (ps_ret (pe_callTy call_tuple_of (by rfl) T.m_tuple (by decide +kernel) (pa_cons (pe_op op_cat (pv 3) (pe_lst (pa_cons (pe_tup (pa_cons (pe_call G__law_take (hr.mono (by decide)) (by rfl) T.g__law_take T.F__law_take.kp T.b__law_take .nil pass0 (pa_cons (pv 0) (pa_cons pe_int pa_nil))) (pa_cons (pe_call G__law_take (hr.mono (by decide)) (by rfl) T.g__law_take T.F__law_take.kp T.b__law_take .nil pass0 (pa_cons (pv 0) (pa_cons pe_int pa_nil))) pa_nil))) pa_nil))) pa_nil)))) pss_nil)
      (pss_cons (ps_set (i := 4) scL_spoiled.nd rfl (.inl rfl) (pe_call G__law_take (hr.mono (by decide)) (by rfl) T.g__law_take T.F__law_take.kp T.b__law_take .nil pass0 (pa_cons (pv 0) (pa_cons (pe_callB call_len_seq (by rfl) T.m_len (by decide +kernel) (pa_cons (pv 3) pa_nil)) pa_nil))))
      (pss_cons (ps_set (i := 5) scL_spoiled.nd rfl (.inl rfl) (pe_ix ix_list (pv 3) (pv 4) (fun _ _ => rfl)))
      (pss_cons (ps_if (pt_cmpR op_eq (pv 2) pe_int (nomark _)) (pss_one (ps_set (i := 3) scL_spoiled.nd rfl (.inr rfl) (pe_op op_cat (pe_slice sl_list (pv 3) po_none (po_some (pv 4))) (pe_slice sl_list (pv 3) (po_some (pe_op op_add (pv 4) pe_int)) po_none)))) (pss_one (ps_if (pt_cmpR op_eq (pv 2) pe_int (nomark _)) (pss_one (ps_set (i := 3) scL_spoiled.nd rfl (.inr rfl) (pe_op op_cat (pe_op op_cat (pe_slice sl_list (pv 3) po_none (po_some (pv 4))) (pe_lst (pa_cons (pv 5) pa_nil))) (pe_slice sl_list (pv 3) (po_some (pv 4)) po_none)))) (pss_one (ps_if (pt_cmpR op_eq (pv 2) pe_int (nomark _)) (pss_one (ps_set (i := 3) scL_spoiled.nd rfl (.inr rfl) (pe_lc (own := [("_law_k", 9)]) rfl scL_spoiled.nd (pi_range1 (by rfl) T.m_range (pa_cons (pe_callB call_len_seq (by rfl) T.m_len (by decide +kernel) (pa_cons (pv 3) pa_nil)) pa_nil)) (blkOk_by (N := N_L_spoiled) (sc := defScope s_L_spoiled) (by decide +kernel)) (fun _ _ _ _ _ => (pg_name (i := 9) scL_spoiled.nd rfl (.inl rfl))) (fun _ _ _ _ _ => pts_nil) (fun _ _ _ _ _ => (pe_ix (r := rIxL K) ix_list (pv 3) (pe_op op_sub (pe_un un_neg pe_int) (pv 9)) (fun _ _ => rfl)))))) (pss_cons (ps_set (i := 6) scL_spoiled.nd rfl (.inl rfl) (pe_lst (pa_cons (pe_tup (pa_cons pe_bl (pa_cons (pe_ix ix_tup (pv 5) pe_int (fun _ _ => rfl)) pa_nil))) (pa_cons (pe_tup (pa_cons (pe_ix ix_tup (pv 5) pe_int (fun _ _ => rfl)) (pa_cons pe_bl pa_nil))) (pa_cons (pe_lst (pa_cons (pe_ix ix_tup (pv 5) pe_int (fun _ _ => rfl)) (pa_cons (pe_ix ix_tup (pv 5) pe_int (fun _ _ => rfl)) pa_nil))) (pa_cons (pe_tup (pa_cons (pe_callTy call_str_int (by rfl) T.m_str (by decide +kernel) (pa_cons (pe_ix ix_tup (pv 5) pe_int (fun _ _ => rfl)) pa_nil)) (pa_cons (pe_ix ix_tup (pv 5) pe_int (fun _ _ => rfl)) pa_nil))) (pa_cons (pe_op op_catT (pv 5) (pe_tup (pa_cons pe_non pa_nil))) (pa_cons (pe_tup (pa_cons (pe_ix ix_tup (pv 5) pe_int (fun _ _ => rfl)) pa_nil)) pa_nil))))))))
      (pss_cons (ps_set (i := 7) scL_spoiled.nd rfl (.inl rfl) (pe_lst (pa_cons pe_non (pa_cons (pe_ix ix_tup (pv 5) pe_int (fun _ _ => rfl)) (pa_cons (pe_tup (pa_cons pe_non (pa_cons (pe_ix ix_tup (pv 5) pe_int (fun _ _ => rfl)) pa_nil))) (pa_cons (pe_tup (pa_cons (pe_ix ix_tup (pv 5) pe_int (fun _ _ => rfl)) (pa_cons pe_non pa_nil))) (pa_cons (pe_tup (pa_cons (pe_ix ix_tup (pv 5) pe_int (fun _ _ => rfl)) (pa_cons (pe_ix ix_tup (pv 5) pe_int (fun _ _ => rfl)) pa_nil))) (pa_cons (pe_tup (pa_cons (pe_ix ix_tup (pv 5) pe_int (fun _ _ => rfl)) (pa_cons (pe_op op_add (pe_ix ix_tup (pv 5) pe_int (fun _ _ => rfl)) pe_int) pa_nil))) (pa_cons (pe_tup pa_nil) pa_nil)))))))))
      (pss_cons (ps_set (i := 8) scL_spoiled.nd rfl (.inl rfl) (pe_op op_cat (pv 6) (pv 7)))
      (pss_one (ps_set (i := 3) scL_spoiled.nd rfl (.inr rfl) (pe_op op_cat (pe_op op_cat (pe_slice sl_list (pv 3) po_none (po_some (pv 4))) (pe_lst (pa_cons (pe_ix ix_list (pv 8) (pe_call G__law_take (hr.mono (by decide)) (by rfl) T.g__law_take T.F__law_take.kp T.b__law_take .nil pass0 (pa_cons (pv 0) (pa_cons (pe_callB call_len_seq (by rfl) T.m_len (by decide +kernel) (pa_cons (pv 8) pa_nil)) pa_nil))) (fun _ _ => rfl)) pa_nil))) (pe_slice sl_list (pv 3) (po_some (pe_op op_add (pv 4) pe_int)) po_none))))))))))))
      (pss_one (ps_ret (pe_callTy call_tuple_of (by rfl) T.m_tuple (by decide +kernel) (pa_cons (pv 3) pa_nil)))))))))), ?_⟩
    have lx : xs.length = L.length := by rw [hx.len, List.length_map]
    refine ⟨.ref b, rfl, b, 10, rfl, hb, by decide, by decide, fun d n1 n2 d0 d1 n10 n20 n21 => ?_⟩
    have tb : t ≠ b := fun e => by obtain ⟨n, m, h, _⟩ := hb; rw [e, h] at ht; cases ht
    have k1 : Kept b H (upd H b (.lst [.int n1, .int n2])) := Kept.at
    have b1 : Bag (upd H b (.lst [.int n1, .int n2])) b := Bag.at n10 n20 n21
    generalize upd H b (.lst [.int n1, .int n2]) = H1 at k1 b1
    have ht1 := k1 _ _ tb ht
    refine ⟨.ref t, rfl, t, _, rfl, .inr (SqT.of ht1), fun r nr => ?_⟩
    have k2 := k1.trans (Kept.new (b := b) (o := .lst xs) nr)
    have b2 := b1.new (o := .lst xs) nr
    have r2 : upd H1 r (.lst xs) r = some (.lst xs) := upd_same
    have rb : r ≠ b := b1.ne nr
    generalize upd H1 r (.lst xs) = H2 at k2 b2 r2
    refine ⟨(by show 2 ≤ sizeLine; decide), fun tp ntp => ?_⟩
    refine ⟨tp, _, rfl, SqT.of upd_same, rfl, .int d, [.ref r], rfl, .ref r, [], rfl, rfl, ?_⟩
    have k3 := k2.trans (Kept.new (b := b) (o := .tup [.int d, .ref r]) ntp)
    have b3 := b2.new (o := .tup [.int d, .ref r]) ntp
    have r3 := same_new (o := .tup [.int d, .ref r]) ntp _ _ r2
    generalize upd H2 tp (.tup [.int d, .ref r]) = H3 at k3 b3 r3
    have hx3 := hx.keep k3
    have pv3 : ∀ v ∈ xs, PV b H3 m v := fun v hv => by
      obtain ⟨i, hi, e⟩ := List.getElem_of_mem hv
      obtain ⟨z, hz, dz⟩ := hx3.get (i := i) (v := v) (by rw [List.getElem?_eq_getElem hi, e])
      rw [List.getElem?_map] at hz
      obtain ⟨c, hc, rfl⟩ := Option.map_eq_some_iff.mp hz
      have := hL c (List.mem_of_getElem? hc)
      exact ⟨_, dz, part_pdB this⟩
    -- the end: a tuple of such values
    have fin : ∀ {H9 : Hp} (r9 : Addr) (ys : List V), Kept b H H9 → Bag H9 b → H9 r9 = some (.lst ys) → ys.length ≤ L.length + 1 → (∀ v ∈ ys, PV b H9 (m + 1) v) → ∀ t9, H9 t9 = none → Q (.ref t9) (upd H9 t9 (.tup ys)) := fun {H9} r9 ys k9 b9 h9 l9 p9 t9 n9 => by
      obtain ⟨es, he, hle, hp⟩ := PV.all p9
      exact q _ _ (.tuple es) es (k9.trans (Kept.new n9)) (b9.new n9) (DK.tup upd_same (b9.ne n9) (he.keep (Kept.new n9))) (.inl rfl) (by omega) hp
    have up : ∀ {H9 : Hp} {v : V}, PV b H9 m v → PV b H9 (m + 1) v := fun {H9 v} ⟨z, hz, p⟩ => ⟨z, hz, p.mono (by omega)⟩
    refine ⟨.int d, rfl, rfl, _, rfl, ite2 (fun _ => ?_) (fun _ => ?_)⟩
    · obtain ⟨es, he, hle, hp⟩ := PV.all fun v hv => up (pv3 v hv)
      exact ⟨.ref r, rfl, q _ _ (.list es) es k3 b3 (DK.lst r3 rb he) (.inr rfl) (by omega) hp⟩
    refine ⟨.ref r, rfl, Nat.zero_le _, fun e ne => ⟨r, e, _, rfl, rfl, SqL.of (same_new ne _ _ r3), SqL.of upd_same, _, rfl, ?_⟩⟩
    have k4 := k3.trans (Kept.new (b := b) (o := .lst []) ne)
    have b4 := b3.new (o := .lst []) ne
    have r4 := same_new (o := .lst []) ne _ _ r3
    have pv4 : ∀ v ∈ xs, PV b (upd H3 e (.lst [])) m v := fun v hv => (pv3 v hv).keep (Kept.new ne)
    generalize upd H3 e (.lst []) = H4 at k4 b4 r4 pv4
    cases hemp : xs.isEmpty with
    | true =>
      refine iteT (iteT ?_)
      refine ⟨.ref r, rfl, .ref b, rfl, b, 12, rfl, b4, by decide, by decide, fun x m3 m4 x0 x1 m30 m40 m41 => ?_⟩
      have k5 := k4.trans (Kept.at (b := b) (o := .lst [.int m3, .int m4]))
      have b5 : Bag (upd H4 b (.lst [.int m3, .int m4])) b := Bag.at m30 m40 m41
      have r5 : upd H4 b (.lst [.int m3, .int m4]) r = some (.lst xs) := by rw [upd_ne rb]; exact r4
      have pv5 : ∀ v ∈ xs, PV b (upd H4 b (.lst [.int m3, .int m4])) m v := fun v hv => (pv4 v hv).keep Kept.at
      generalize upd H4 b (.lst [.int m3, .int m4]) = H5 at k5 b5 r5 pv5
      refine ⟨.ref b, rfl, b, 12, rfl, b5, by decide, by decide, fun y m5 m6 y0 y1 m50 m60 m61 => ?_⟩
      have k7 := k5.trans (Kept.at (b := b) (o := .lst [.int m5, .int m6]))
      have b7 : Bag (upd H5 b (.lst [.int m5, .int m6])) b := Bag.at m50 m60 m61
      have r7 : upd H5 b (.lst [.int m5, .int m6]) r = some (.lst xs) := by rw [upd_ne rb]; exact r5
      have pv7 : ∀ v ∈ xs, PV b (upd H5 b (.lst [.int m5, .int m6])) m v := fun v hv => (pv5 v hv).keep Kept.at
      generalize upd H5 b (.lst [.int m5, .int m6]) = H7 at k7 b7 r7 pv7
      refine ⟨(by show 2 ≤ sizeLine; decide), fun tt ntt => ?_⟩
      have new8 : PV b (upd H7 tt (.tup [.int x, .int y])) (m + 1) (.ref tt) := pv_tup b7 ntt (ds := [.int x, .int y]) (.cons (.int _) (.cons (.int _) .nil)) (by show 2 ≤ 3; decide) (fun z hz => by
        rcases List.mem_cons.mp hz with e | hz
        · subst e; exact ⟨x0, by omega⟩
        · rw [List.mem_singleton.mp hz]; exact ⟨y0, by omega⟩)
      have k8 := k7.trans (Kept.new (b := b) (o := .tup [.int x, .int y]) ntt)
      have b8 := b7.new (o := .tup [.int x, .int y]) ntt
      have r8 := same_new (o := .tup [.int x, .int y]) ntt _ _ r7
      have pv8 : ∀ v ∈ xs, PV b (upd H7 tt (.tup [.int x, .int y])) m v := fun v hv => (pv7 v hv).keep (Kept.new ntt)
      generalize upd H7 tt (.tup [.int x, .int y]) = H8 at new8 k8 b8 r8 pv8
      refine ⟨(by show 1 ≤ sizeLine; decide), fun l1 nl1 => ⟨r, l1, _, _, rfl, rfl, same_new nl1 _ _ r8, upd_same, ?_, fun l2 nl2 => ?_⟩⟩
      · show xs.length + 1 ≤ sizeLine; exact Nat.le_of_lt (small1000 (by omega))
      have kk := (Kept.new (b := b) (o := .lst [.ref tt]) nl1).trans (Kept.new (b := b) (o := .lst (xs ++ [.ref tt])) nl2)
      refine ⟨l2, _, rfl, .inl ⟨SqL.of upd_same, fun t9 n9 => fin l2 (xs ++ [.ref tt]) (k8.trans kk) ((b8.new nl1).new nl2) upd_same (by rw [List.length_append, lx]; exact Nat.le_refl _) (fun v hv => ?_) t9 n9⟩⟩
      rcases List.mem_append.mp hv with h | h
      · exact (up (pv8 v h)).keep kk
      · rw [List.mem_singleton.mp h]; exact new8.keep kk
    | false =>
      have pos : 0 < xs.length := by
        cases xs with
        | nil => cases hemp
        | cons x0 xr => exact Nat.succ_pos _
      refine iteF ⟨.int d, rfl, rfl, _, rfl, ite2 (fun _ => ?_) (fun _ => ?_)⟩
      · refine ⟨.ref r, rfl, .ref b, rfl, b, 12, rfl, b4, by decide, by decide, fun x m3 m4 x0 x1 m30 m40 m41 => ?_⟩
        have k5 := k4.trans (Kept.at (b := b) (o := .lst [.int m3, .int m4]))
        have b5 : Bag (upd H4 b (.lst [.int m3, .int m4])) b := Bag.at m30 m40 m41
        have r5 : upd H4 b (.lst [.int m3, .int m4]) r = some (.lst xs) := by rw [upd_ne rb]; exact r4
        have pv5 : ∀ v ∈ xs, PV b (upd H4 b (.lst [.int m3, .int m4])) m v := fun v hv => (pv4 v hv).keep Kept.at
        generalize upd H4 b (.lst [.int m3, .int m4]) = H5 at k5 b5 r5 pv5
        refine ⟨.ref b, rfl, b, 12, rfl, b5, by decide, by decide, fun y m5 m6 y0 y1 m50 m60 m61 => ?_⟩
        have k7 := k5.trans (Kept.at (b := b) (o := .lst [.int m5, .int m6]))
        have b7 : Bag (upd H5 b (.lst [.int m5, .int m6])) b := Bag.at m50 m60 m61
        have r7 : upd H5 b (.lst [.int m5, .int m6]) r = some (.lst xs) := by rw [upd_ne rb]; exact r5
        have pv7 : ∀ v ∈ xs, PV b (upd H5 b (.lst [.int m5, .int m6])) m v := fun v hv => (pv5 v hv).keep Kept.at
        generalize upd H5 b (.lst [.int m5, .int m6]) = H7 at k7 b7 r7 pv7
        refine ⟨(by show 2 ≤ sizeLine; decide), fun tt ntt => ?_⟩
        have new8 : PV b (upd H7 tt (.tup [.int x, .int y])) (m + 1) (.ref tt) := pv_tup b7 ntt (ds := [.int x, .int y]) (.cons (.int _) (.cons (.int _) .nil)) (by show 2 ≤ 3; decide) (fun z hz => by
          rcases List.mem_cons.mp hz with e | hz
          · subst e; exact ⟨x0, by omega⟩
          · rw [List.mem_singleton.mp hz]; exact ⟨y0, by omega⟩)
        have k8 := k7.trans (Kept.new (b := b) (o := .tup [.int x, .int y]) ntt)
        have b8 := b7.new (o := .tup [.int x, .int y]) ntt
        have r8 := same_new (o := .tup [.int x, .int y]) ntt _ _ r7
        have pv8 : ∀ v ∈ xs, PV b (upd H7 tt (.tup [.int x, .int y])) m v := fun v hv => (pv7 v hv).keep (Kept.new ntt)
        generalize upd H7 tt (.tup [.int x, .int y]) = H8 at new8 k8 b8 r8 pv8
        refine ⟨(by show 1 ≤ sizeLine; decide), fun l1 nl1 => ⟨r, l1, _, _, rfl, rfl, same_new nl1 _ _ r8, upd_same, ?_, fun l2 nl2 => ?_⟩⟩
        · show xs.length + 1 ≤ sizeLine; exact Nat.le_of_lt (small1000 (by omega))
        have kk := (Kept.new (b := b) (o := .lst [.ref tt]) nl1).trans (Kept.new (b := b) (o := .lst (xs ++ [.ref tt])) nl2)
        refine ⟨l2, _, rfl, .inl ⟨SqL.of upd_same, fun t9 n9 => fin l2 (xs ++ [.ref tt]) (k8.trans kk) ((b8.new nl1).new nl2) upd_same (by rw [List.length_append, lx]; exact Nat.le_refl _) (fun v hv => ?_) t9 n9⟩⟩
        rcases List.mem_append.mp hv with h | h
        · exact (up (pv8 v h)).keep kk
        · rw [List.mem_singleton.mp h]; exact new8.keep kk

      refine ⟨.ref b, rfl, .ref r, rfl, r, _, rfl, .inl (SqL.of r4), b, _, rfl, b4, by omega, by omega, fun sp m3 m4 p0 p1 m30 m40 m41 => ?_⟩
      have k5 := k4.trans (Kept.at (b := b) (o := .lst [.int m3, .int m4]))
      have b5 : Bag (upd H4 b (.lst [.int m3, .int m4])) b := Bag.at m30 m40 m41
      have r5 : upd H4 b (.lst [.int m3, .int m4]) r = some (.lst xs) := by rw [upd_ne rb]; exact r4
      have pv5 : ∀ v ∈ xs, PV b (upd H4 b (.lst [.int m3, .int m4])) m v := fun v hv => (pv4 v hv).keep Kept.at
      generalize upd H4 b (.lst [.int m3, .int m4]) = H5 at k5 b5 r5 pv5
      have lsp : sp.toNat < xs.length := by omega
      have gone : xs[sp.toNat]? = some xs[sp.toNat] := List.getElem?_eq_getElem lsp
      obtain ⟨oz, hoz, dko⟩ := (hx.keep k5).get gone
      rw [List.getElem?_map] at hoz
      obtain ⟨c, hc, rfl⟩ := Option.map_eq_some_iff.mp hoz
      have hcL := hL c (List.mem_of_getElem? hc)
      obtain ⟨oa, eoa, hoa⟩ := dd_pd dko.now
      rw [eoa] at gone dko
      refine ⟨.ref r, rfl, .int sp, rfl, r, _, sp, .ref oa, rfl, rfl, SqL.of r5, at_of (j := sp.toNat) (by omega) gone, ?_⟩
      have pvo : PV b H5 m (.ref oa) := ⟨_, dko, part_pdB hcL⟩
      have oab : oa ≠ b := fun h => by obtain ⟨n, m, hb, _⟩ := b5; rw [h, hb] at hoa; cases hoa
      -- a piece of the row and what stands behind it
      have cutP : ∀ {H9 : Hp} (lo hi : Option Int), Kept b H5 H9 → ∀ v ∈ cutV xs lo hi, PV b H9 (m + 1) v := fun {H9} lo hi k v hv => up ((pv5 v (mem_cut hv)).keep k)
      have len2 : (cutV xs none (some sp)).length = sp.toNat := by
        unfold cutV
        have e1 : HT.sIx xs.length xs.length (some sp) = min sp.toNat xs.length := by
          have := HT.sIx_nat xs.length xs.length sp.toNat
          rw [Int.toNat_of_nonneg p0] at this
          exact this
        rw [e1, HT.sIx_none, List.length_take, List.length_drop]
        omega
      have len3 : (cutV xs (some (sp + 1)) none).length = xs.length - (sp.toNat + 1) := by
        unfold cutV
        have e1 : HT.sIx xs.length 0 (some (sp + 1)) = min (sp.toNat + 1) xs.length := by
          have := HT.sIx_nat xs.length 0 (sp.toNat + 1)
          have e : ((sp.toNat + 1 : Nat) : Int) = sp + 1 := by omega
          rw [e] at this
          exact this
        rw [e1, HT.sIx_none, List.length_take, List.length_drop]
        omega
      have len4 : (cutV xs (some sp) none).length = xs.length - sp.toNat := by
        unfold cutV
        have e1 : HT.sIx xs.length 0 (some sp) = min sp.toNat xs.length := by
          have := HT.sIx_nat xs.length 0 sp.toNat
          rw [Int.toNat_of_nonneg p0] at this
          exact this
        rw [e1, HT.sIx_none, List.length_take, List.length_drop]
        omega
      refine ⟨.int d, rfl, rfl, _, rfl, ite2 (fun _ => ?_) (fun _ => ?_)⟩
      · -- one out
        refine ⟨.ref r, rfl, .int sp, rfl, sp, rfl, r, _, rfl, SqL.of r5, fun g1 ng1 => ?_⟩
        have s6 := same_new (o := .lst (cutV xs none (some sp))) ng1
        refine ⟨.ref r, rfl, .int sp, rfl, _, 1, rfl, rfl, _, rfl, r, _, rfl, SqL.of (s6 _ _ r5), fun g2 ng2 => ?_⟩
        have s7 := same_new (o := .lst (cutV xs (some (sp + 1)) none)) ng2
        refine ⟨g1, g2, _, _, rfl, rfl, s7 _ _ upd_same, upd_same, ?_, fun g3 ng3 => ?_⟩
        · rw [len2, len3]; exact Nat.le_of_lt (small1000 (by omega))
        have s8 := (s6.trans s7).trans (same_new (o := .lst (cutV xs none (some sp) ++ cutV xs (some (sp + 1)) none)) ng3)
        refine ⟨.ref g3, rfl, g3, _, rfl, .inl ⟨SqL.of upd_same, fun t9 n9 => fin g3 _ (k5.trans (Kept.same s8)) (b5.same s8) upd_same (by rw [List.length_append, len2, len3]; omega) (fun v hv => ?_) t9 n9⟩⟩
        rcases List.mem_append.mp hv with h | h
        · exact cutP _ _ (Kept.same s8) v h
        · exact cutP _ _ (Kept.same s8) v h
      refine ⟨.int d, rfl, rfl, _, rfl, ite2 (fun _ => ?_) (fun _ => ?_)⟩
      · -- one twice
        refine ⟨.ref r, rfl, .int sp, rfl, sp, rfl, r, _, rfl, SqL.of r5, fun g1 ng1 => ?_⟩
        have s6 := same_new (o := .lst (cutV xs none (some sp))) ng1
        refine ⟨.ref oa, rfl, (by show 1 ≤ sizeLine; decide), fun g2 ng2 => ?_⟩
        have s7 := same_new (o := .lst [.ref oa]) ng2
        refine ⟨g1, g2, _, _, rfl, rfl, s7 _ _ upd_same, upd_same, ?_, fun g3 ng3 => ?_⟩
        · rw [len2]; exact Nat.le_of_lt (small1000 (by simp; omega))
        have s8 := same_new (o := .lst (cutV xs none (some sp) ++ [.ref oa])) ng3
        refine ⟨.ref r, rfl, .int sp, rfl, sp, rfl, r, _, rfl, SqL.of (s8 _ _ (s7 _ _ (s6 _ _ r5))), fun g4 ng4 => ?_⟩
        have s9 := same_new (o := .lst (cutV xs (some sp) none)) ng4
        refine ⟨g3, g4, _, _, rfl, rfl, s9 _ _ upd_same, upd_same, ?_, fun g5 ng5 => ?_⟩
        · rw [List.length_append, len2, len4]; exact Nat.le_of_lt (small1000 (by simp; omega))
        have s10 := (((s6.trans s7).trans s8).trans s9).trans (same_new (o := .lst (cutV xs none (some sp) ++ [.ref oa] ++ cutV xs (some sp) none)) ng5)
        refine ⟨.ref g5, rfl, g5, _, rfl, .inl ⟨SqL.of upd_same, fun t9 n9 => fin g5 _ (k5.trans (Kept.same s10)) (b5.same s10) upd_same (by rw [List.length_append, List.length_append, len2, len4]; simp; omega) (fun v hv => ?_) t9 n9⟩⟩
        rcases List.mem_append.mp hv with h | h
        · rcases List.mem_append.mp h with h | h
          · exact cutP _ _ (Kept.same s10) v h
          · rw [List.mem_singleton.mp h]; exact (up pvo).keep (Kept.same s10)
        · exact cutP _ _ (Kept.same s10) v h
      refine ⟨.int d, rfl, rfl, _, rfl, ite2 (fun _ => ?_) (fun _ => ?_)⟩
      · -- all turned about
        refine ⟨.ref r, rfl, r, _, rfl, .inl (SqL.of r5), _, rfl, by omega, by omega, fun D nD => lc_it walk_range (fun i H6 => ∃ ys : List V, ys.length = i ∧ Same H5 H6 ∧ H6 D = some (.lst ys) ∧ ∀ v ∈ ys, v ∈ xs) ?_ (fun _ _ _ _ => trivial) ?_ ?_⟩
        · exact ⟨[], rfl, same_new nD, upd_same, fun _ h => nomatch h⟩
        · rintro i v H7 H6 hi ⟨ys, ly, s6, d6, hy⟩ ⟨rfl, rfl⟩
          refine ⟨rfl, ?_⟩
          simp only [tYes, if_true]
          have li : xs.length - 1 - i < xs.length := by omega
          refine ⟨.ref r, rfl, 1, rfl, .int (0 + (i : Int)), rfl, _, _, rfl, rfl, r, _, -1 - (0 + (i : Int)), xs[xs.length - 1 - i], rfl, rfl, SqL.of (s6 _ _ r5), ?_, _, d6, ?_, ys ++ [xs[xs.length - 1 - i]], ?_, same_off nD s6, upd_same, fun z hz => ?_⟩
          · exact at_neg (by omega) (by omega) (by rw [show (-1 - (0 + (i : Int)) + (xs.length : Int)).toNat = xs.length - 1 - i by omega]; exact List.getElem?_eq_getElem li)
          · exact small1000 (by omega)
          · rw [List.length_append, ly]; rfl
          · rcases List.mem_append.mp hz with h | h
            · exact hy z h
            · rw [List.mem_singleton.mp h]; exact List.getElem_mem li
        · rintro H6 ⟨ys, ly, s6, d6, hy⟩
          refine ⟨.ref D, rfl, D, _, rfl, .inl ⟨SqL.of d6, fun t9 n9 => fin D ys (k5.trans (Kept.same s6)) (b5.same s6) d6 (by omega) (fun v hv => (up (pv5 v (hy v hv))).keep (Kept.same s6)) t9 n9⟩⟩
      have log2 : c.1.natAbs.log2 < 1920 := by
        by_cases h : c.1.natAbs = 0
        · rw [h]; decide
        · have h10 : c.1.natAbs < 2 ^ 10 := by
            have : (2 : Nat) ^ 10 = 1024 := by decide
            omega
          exact Nat.lt_of_lt_of_le ((Nat.log2_lt h).mpr h10) (by decide)
      have leaf : ∀ z : PyData, (z = .none ∨ z = .bool true ∨ z = .bool false ∨ z = .int c.1 ∨ z = .int c.2 ∨ z = .int (c.2 + 1) ∨ z = .str (toString c.1)) → LeafB (m + 1) z := fun z hz => by
        rcases hz with rfl | rfl | rfl | rfl | rfl | rfl | rfl
        · trivial
        · trivial
        · trivial
        · exact ⟨hcL.1.1, by omega⟩
        · exact ⟨hcL.2.1, by omega⟩
        · exact ⟨by omega, by omega⟩
        · exact plain_num hcL.1.1 (by omega)
      refine ⟨.ref oa, rfl, oa, _, 1, .int c.2, rfl, rfl, SqT.of hoa, atI_nat (j := 1) rfl, (by show 2 ≤ sizeLine; decide), fun o1 no1 => ?_⟩
      have so1 := same_new (o := .tup [.bl true, .int c.2]) no1
      have pvo1 : PV b (upd H5 o1 (.tup [.bl true, .int c.2])) (m + 1) (.ref o1) := pv_tup b5 no1 (ds := [.bool true, .int c.2]) (.cons (.bl _) (.cons (.int _) .nil)) (by show 2 ≤ 3; decide) (fun z hz => leaf z (by simp only [List.mem_cons, List.not_mem_nil, or_false] at hz; rcases hz with h | h <;> simp [h]))
      have bo1 := b5.new (o := .tup [.bl true, .int c.2]) no1
      have ho1 := so1 _ _ hoa
      generalize upd H5 o1 (.tup [.bl true, .int c.2]) = Ho1 at so1 bo1 ho1 pvo1 
      refine ⟨.ref oa, rfl, oa, _, 0, .int c.1, rfl, rfl, SqT.of ho1, atI_nat (j := 0) rfl, (by show 2 ≤ sizeLine; decide), fun o2 no2 => ?_⟩
      have so2 := same_new (o := .tup [.int c.1, .bl false]) no2
      have pvo2 : PV b (upd Ho1 o2 (.tup [.int c.1, .bl false])) (m + 1) (.ref o2) := pv_tup bo1 no2 (ds := [.int c.1, .bool false]) (.cons (.int _) (.cons (.bl _) .nil)) (by show 2 ≤ 3; decide) (fun z hz => leaf z (by simp only [List.mem_cons, List.not_mem_nil, or_false] at hz; rcases hz with h | h <;> simp [h]))
      have bo2 := bo1.new (o := .tup [.int c.1, .bl false]) no2
      have ho2 := so2 _ _ ho1
      have pvo1_o2 := pvo1.keep (Kept.same so2)
      generalize upd Ho1 o2 (.tup [.int c.1, .bl false]) = Ho2 at so2 bo2 ho2 pvo2 pvo1_o2
      refine ⟨.ref oa, rfl, oa, _, 0, .int c.1, rfl, rfl, SqT.of ho2, atI_nat (j := 0) rfl, .ref oa, rfl, oa, _, 1, .int c.2, rfl, rfl, SqT.of ho2, atI_nat (j := 1) rfl, (by show 2 ≤ sizeLine; decide), fun o3 no3 => ?_⟩
      have so3 := same_new (o := .lst [.int c.1, .int c.2]) no3
      have pvo3 : PV b (upd Ho2 o3 (.lst [.int c.1, .int c.2])) (m + 1) (.ref o3) := pv_lst bo2 no3 (ds := [.int c.1, .int c.2]) (.cons (.int _) (.cons (.int _) .nil)) (by show 2 ≤ 3; decide) (fun z hz => leaf z (by simp only [List.mem_cons, List.not_mem_nil, or_false] at hz; rcases hz with h | h <;> simp [h]))
      have bo3 := bo2.new (o := .lst [.int c.1, .int c.2]) no3
      have ho3 := so3 _ _ ho2
      have pvo1_o2_o3 := pvo1_o2.keep (Kept.same so3)
      have pvo2_o3 := pvo2.keep (Kept.same so3)
      generalize upd Ho2 o3 (.lst [.int c.1, .int c.2]) = Ho3 at so3 bo3 ho3 pvo3 pvo1_o2_o3 pvo2_o3
      refine ⟨.ref oa, rfl, oa, _, 0, .int c.1, rfl, rfl, SqT.of ho3, atI_nat (j := 0) rfl, c.1, rfl, log2, .ref oa, rfl, oa, _, 1, .int c.2, rfl, rfl, SqT.of ho3, atI_nat (j := 1) rfl, (by show 2 ≤ sizeLine; decide), fun o4 no4 => ?_⟩
      have so4 := same_new (o := .tup [.str (toString c.1), .int c.2]) no4
      have pvo4 : PV b (upd Ho3 o4 (.tup [.str (toString c.1), .int c.2])) (m + 1) (.ref o4) := pv_tup bo3 no4 (ds := [.str (toString c.1), .int c.2]) (.cons (.str _) (.cons (.int _) .nil)) (by show 2 ≤ 3; decide) (fun z hz => leaf z (by simp only [List.mem_cons, List.not_mem_nil, or_false] at hz; rcases hz with h | h <;> simp [h]))
      have bo4 := bo3.new (o := .tup [.str (toString c.1), .int c.2]) no4
      have ho4 := so4 _ _ ho3
      have pvo1_o2_o3_o4 := pvo1_o2_o3.keep (Kept.same so4)
      have pvo2_o3_o4 := pvo2_o3.keep (Kept.same so4)
      have pvo3_o4 := pvo3.keep (Kept.same so4)
      generalize upd Ho3 o4 (.tup [.str (toString c.1), .int c.2]) = Ho4 at so4 bo4 ho4 pvo4 pvo1_o2_o3_o4 pvo2_o3_o4 pvo3_o4
      refine ⟨.ref oa, rfl, (by show 1 ≤ sizeLine; decide), fun o5 no5 => ?_⟩
      have so5 := same_new (o := .tup [.non]) no5
      have do5 : upd Ho4 o5 (.tup [.non]) o5 = some (.tup [.non]) := upd_same
      have bo5 := bo4.new (o := .tup [.non]) no5
      have ho5 := so5 _ _ ho4
      have pvo1_o2_o3_o4_o5 := pvo1_o2_o3_o4.keep (Kept.same so5)
      have pvo2_o3_o4_o5 := pvo2_o3_o4.keep (Kept.same so5)
      have pvo3_o4_o5 := pvo3_o4.keep (Kept.same so5)
      have pvo4_o5 := pvo4.keep (Kept.same so5)
      generalize upd Ho4 o5 (.tup [.non]) = Ho5 at so5 bo5 ho5 do5 pvo1_o2_o3_o4_o5 pvo2_o3_o4_o5 pvo3_o4_o5 pvo4_o5
      refine ⟨oa, o5, _, _, rfl, rfl, SqT.of ho5, SqT.of do5, (fun h => nomatch h), (by show 2 + 1 ≤ sizeLine; decide), (fun h => nomatch h), fun _ o6 no6 => ?_⟩
      rw [show HO.tup ([.int c.1, .int c.2] ++ [V.non]) = HO.tup [.int c.1, .int c.2, .non] from rfl]
      have so6 := same_new (o := .tup [.int c.1, .int c.2, .non]) no6
      have pvo6 : PV b (upd Ho5 o6 (.tup [.int c.1, .int c.2, .non])) (m + 1) (.ref o6) := pv_tup bo5 no6 (ds := [.int c.1, .int c.2, .none]) (.cons (.int _) (.cons (.int _) (.cons .non .nil))) (by show 3 ≤ 3; decide) (fun z hz => leaf z (by simp only [List.mem_cons, List.not_mem_nil, or_false] at hz ⊢; rcases hz with h | h | h <;> simp [h]))
      have bo6 := bo5.new (o := .tup [.int c.1, .int c.2, .non]) no6
      have ho6 := so6 _ _ ho5
      have pvo1_o2_o3_o4_o5_o6 := pvo1_o2_o3_o4_o5.keep (Kept.same so6)
      have pvo2_o3_o4_o5_o6 := pvo2_o3_o4_o5.keep (Kept.same so6)
      have pvo3_o4_o5_o6 := pvo3_o4_o5.keep (Kept.same so6)
      have pvo4_o5_o6 := pvo4_o5.keep (Kept.same so6)
      generalize upd Ho5 o6 (.tup [.int c.1, .int c.2, .non]) = Ho6 at so6 pvo6 bo6 ho6 pvo1_o2_o3_o4_o5_o6 pvo2_o3_o4_o5_o6 pvo3_o4_o5_o6 pvo4_o5_o6
      refine ⟨.ref oa, rfl, oa, _, 0, .int c.1, rfl, rfl, SqT.of ho6, atI_nat (j := 0) rfl, (by show 1 ≤ sizeLine; decide), fun o7 no7 => ?_⟩
      have so7 := same_new (o := .tup [.int c.1]) no7
      have pvo7 : PV b (upd Ho6 o7 (.tup [.int c.1])) (m + 1) (.ref o7) := pv_tup bo6 no7 (ds := [.int c.1]) (.cons (.int _) .nil) (by show 1 ≤ 3; decide) (fun z hz => leaf z (by rw [List.mem_singleton.mp hz]; simp))
      have bo7 := bo6.new (o := .tup [.int c.1]) no7
      have ho7 := so7 _ _ ho6
      have pvo1_o2_o3_o4_o5_o6_o7 := pvo1_o2_o3_o4_o5_o6.keep (Kept.same so7)
      have pvo2_o3_o4_o5_o6_o7 := pvo2_o3_o4_o5_o6.keep (Kept.same so7)
      have pvo3_o4_o5_o6_o7 := pvo3_o4_o5_o6.keep (Kept.same so7)
      have pvo4_o5_o6_o7 := pvo4_o5_o6.keep (Kept.same so7)
      have pvo6_o7 := pvo6.keep (Kept.same so7)
      generalize upd Ho6 o7 (.tup [.int c.1]) = Ho7 at so7 bo7 ho7 pvo7 pvo1_o2_o3_o4_o5_o6_o7 pvo2_o3_o4_o5_o6_o7 pvo3_o4_o5_o6_o7 pvo4_o5_o6_o7 pvo6_o7
      refine ⟨(by show 6 ≤ sizeLine; decide), fun lo nlo => ?_⟩
      have slo := same_new (o := .lst [.ref o1, .ref o2, .ref o3, .ref o4, .ref o6, .ref o7]) nlo
      have dlo : upd Ho7 lo (.lst [.ref o1, .ref o2, .ref o3, .ref o4, .ref o6, .ref o7]) lo = some (.lst [.ref o1, .ref o2, .ref o3, .ref o4, .ref o6, .ref o7]) := upd_same
      have blo := bo7.new (o := .lst [.ref o1, .ref o2, .ref o3, .ref o4, .ref o6, .ref o7]) nlo
      have hlo := slo _ _ ho7
      have pvo1_o2_o3_o4_o5_o6_o7_lo := pvo1_o2_o3_o4_o5_o6_o7.keep (Kept.same slo)
      have pvo2_o3_o4_o5_o6_o7_lo := pvo2_o3_o4_o5_o6_o7.keep (Kept.same slo)
      have pvo3_o4_o5_o6_o7_lo := pvo3_o4_o5_o6_o7.keep (Kept.same slo)
      have pvo4_o5_o6_o7_lo := pvo4_o5_o6_o7.keep (Kept.same slo)
      have pvo6_o7_lo := pvo6_o7.keep (Kept.same slo)
      have pvo7_lo := pvo7.keep (Kept.same slo)
      generalize upd Ho7 lo (.lst [.ref o1, .ref o2, .ref o3, .ref o4, .ref o6, .ref o7]) = Hlo at slo blo hlo dlo pvo1_o2_o3_o4_o5_o6_o7_lo pvo2_o3_o4_o5_o6_o7_lo pvo3_o4_o5_o6_o7_lo pvo4_o5_o6_o7_lo pvo6_o7_lo pvo7_lo
      refine ⟨.ref oa, rfl, oa, _, 0, .int c.1, rfl, rfl, SqT.of hlo, atI_nat (j := 0) rfl, .ref oa, rfl, oa, _, 1, .int c.2, rfl, rfl, SqT.of hlo, atI_nat (j := 1) rfl, (by show 2 ≤ sizeLine; decide), fun p1 np1 => ?_⟩
      have sp1 := same_new (o := .tup [.non, .int c.2]) np1
      have pvp1 : PV b (upd Hlo p1 (.tup [.non, .int c.2])) (m + 1) (.ref p1) := pv_tup blo np1 (ds := [.none, .int c.2]) (.cons .non (.cons (.int _) .nil)) (by show 2 ≤ 3; decide) (fun z hz => leaf z (by simp only [List.mem_cons, List.not_mem_nil, or_false] at hz; rcases hz with h | h <;> simp [h]))
      have bp1 := blo.new (o := .tup [.non, .int c.2]) np1
      have hp1 := sp1 _ _ hlo
      have pvo1_o2_o3_o4_o5_o6_o7_lo_p1 := pvo1_o2_o3_o4_o5_o6_o7_lo.keep (Kept.same sp1)
      have pvo2_o3_o4_o5_o6_o7_lo_p1 := pvo2_o3_o4_o5_o6_o7_lo.keep (Kept.same sp1)
      have pvo3_o4_o5_o6_o7_lo_p1 := pvo3_o4_o5_o6_o7_lo.keep (Kept.same sp1)
      have pvo4_o5_o6_o7_lo_p1 := pvo4_o5_o6_o7_lo.keep (Kept.same sp1)
      have pvo6_o7_lo_p1 := pvo6_o7_lo.keep (Kept.same sp1)
      have pvo7_lo_p1 := pvo7_lo.keep (Kept.same sp1)
      generalize upd Hlo p1 (.tup [.non, .int c.2]) = Hp1 at sp1 bp1 hp1 pvp1 pvo1_o2_o3_o4_o5_o6_o7_lo_p1 pvo2_o3_o4_o5_o6_o7_lo_p1 pvo3_o4_o5_o6_o7_lo_p1 pvo4_o5_o6_o7_lo_p1 pvo6_o7_lo_p1 pvo7_lo_p1
      refine ⟨.ref oa, rfl, oa, _, 0, .int c.1, rfl, rfl, SqT.of hp1, atI_nat (j := 0) rfl, (by show 2 ≤ sizeLine; decide), fun p2 np2 => ?_⟩
      have sp2 := same_new (o := .tup [.int c.1, .non]) np2
      have pvp2 : PV b (upd Hp1 p2 (.tup [.int c.1, .non])) (m + 1) (.ref p2) := pv_tup bp1 np2 (ds := [.int c.1, .none]) (.cons (.int _) (.cons .non .nil)) (by show 2 ≤ 3; decide) (fun z hz => leaf z (by simp only [List.mem_cons, List.not_mem_nil, or_false] at hz; rcases hz with h | h <;> simp [h]))
      have bp2 := bp1.new (o := .tup [.int c.1, .non]) np2
      have hp2 := sp2 _ _ hp1
      have pvo1_o2_o3_o4_o5_o6_o7_lo_p1_p2 := pvo1_o2_o3_o4_o5_o6_o7_lo_p1.keep (Kept.same sp2)
      have pvo2_o3_o4_o5_o6_o7_lo_p1_p2 := pvo2_o3_o4_o5_o6_o7_lo_p1.keep (Kept.same sp2)
      have pvo3_o4_o5_o6_o7_lo_p1_p2 := pvo3_o4_o5_o6_o7_lo_p1.keep (Kept.same sp2)
      have pvo4_o5_o6_o7_lo_p1_p2 := pvo4_o5_o6_o7_lo_p1.keep (Kept.same sp2)
      have pvo6_o7_lo_p1_p2 := pvo6_o7_lo_p1.keep (Kept.same sp2)
      have pvo7_lo_p1_p2 := pvo7_lo_p1.keep (Kept.same sp2)
      have pvp1_p2 := pvp1.keep (Kept.same sp2)
      generalize upd Hp1 p2 (.tup [.int c.1, .non]) = Hp2 at sp2 bp2 hp2 pvp2 pvo1_o2_o3_o4_o5_o6_o7_lo_p1_p2 pvo2_o3_o4_o5_o6_o7_lo_p1_p2 pvo3_o4_o5_o6_o7_lo_p1_p2 pvo4_o5_o6_o7_lo_p1_p2 pvo6_o7_lo_p1_p2 pvo7_lo_p1_p2 pvp1_p2
      refine ⟨.ref oa, rfl, oa, _, 1, .int c.2, rfl, rfl, SqT.of hp2, atI_nat (j := 1) rfl, .ref oa, rfl, oa, _, 0, .int c.1, rfl, rfl, SqT.of hp2, atI_nat (j := 0) rfl, (by show 2 ≤ sizeLine; decide), fun p3 np3 => ?_⟩
      have sp3 := same_new (o := .tup [.int c.2, .int c.1]) np3
      have pvp3 : PV b (upd Hp2 p3 (.tup [.int c.2, .int c.1])) (m + 1) (.ref p3) := pv_tup bp2 np3 (ds := [.int c.2, .int c.1]) (.cons (.int _) (.cons (.int _) .nil)) (by show 2 ≤ 3; decide) (fun z hz => leaf z (by simp only [List.mem_cons, List.not_mem_nil, or_false] at hz; rcases hz with h | h <;> simp [h]))
      have bp3 := bp2.new (o := .tup [.int c.2, .int c.1]) np3
      have hp3 := sp3 _ _ hp2
      have pvo1_o2_o3_o4_o5_o6_o7_lo_p1_p2_p3 := pvo1_o2_o3_o4_o5_o6_o7_lo_p1_p2.keep (Kept.same sp3)
      have pvo2_o3_o4_o5_o6_o7_lo_p1_p2_p3 := pvo2_o3_o4_o5_o6_o7_lo_p1_p2.keep (Kept.same sp3)
      have pvo3_o4_o5_o6_o7_lo_p1_p2_p3 := pvo3_o4_o5_o6_o7_lo_p1_p2.keep (Kept.same sp3)
      have pvo4_o5_o6_o7_lo_p1_p2_p3 := pvo4_o5_o6_o7_lo_p1_p2.keep (Kept.same sp3)
      have pvo6_o7_lo_p1_p2_p3 := pvo6_o7_lo_p1_p2.keep (Kept.same sp3)
      have pvo7_lo_p1_p2_p3 := pvo7_lo_p1_p2.keep (Kept.same sp3)
      have pvp1_p2_p3 := pvp1_p2.keep (Kept.same sp3)
      have pvp2_p3 := pvp2.keep (Kept.same sp3)
      generalize upd Hp2 p3 (.tup [.int c.2, .int c.1]) = Hp3 at sp3 bp3 hp3 pvp3 pvo1_o2_o3_o4_o5_o6_o7_lo_p1_p2_p3 pvo2_o3_o4_o5_o6_o7_lo_p1_p2_p3 pvo3_o4_o5_o6_o7_lo_p1_p2_p3 pvo4_o5_o6_o7_lo_p1_p2_p3 pvo6_o7_lo_p1_p2_p3 pvo7_lo_p1_p2_p3 pvp1_p2_p3 pvp2_p3
      refine ⟨.ref oa, rfl, oa, _, 0, .int c.1, rfl, rfl, SqT.of hp3, atI_nat (j := 0) rfl, .ref oa, rfl, oa, _, 1, .int c.2, rfl, rfl, SqT.of hp3, atI_nat (j := 1) rfl, _, _, rfl, rfl, (by show 2 ≤ sizeLine; decide), fun p4 np4 => ?_⟩
      have sp4 := same_new (o := .tup [.int c.1, .int (c.2 + 1)]) np4
      have pvp4 : PV b (upd Hp3 p4 (.tup [.int c.1, .int (c.2 + 1)])) (m + 1) (.ref p4) := pv_tup bp3 np4 (ds := [.int c.1, .int (c.2 + 1)]) (.cons (.int _) (.cons (.int _) .nil)) (by show 2 ≤ 3; decide) (fun z hz => leaf z (by simp only [List.mem_cons, List.not_mem_nil, or_false] at hz; rcases hz with h | h <;> simp [h]))
      have bp4 := bp3.new (o := .tup [.int c.1, .int (c.2 + 1)]) np4
      have hp4 := sp4 _ _ hp3
      have pvo1_o2_o3_o4_o5_o6_o7_lo_p1_p2_p3_p4 := pvo1_o2_o3_o4_o5_o6_o7_lo_p1_p2_p3.keep (Kept.same sp4)
      have pvo2_o3_o4_o5_o6_o7_lo_p1_p2_p3_p4 := pvo2_o3_o4_o5_o6_o7_lo_p1_p2_p3.keep (Kept.same sp4)
      have pvo3_o4_o5_o6_o7_lo_p1_p2_p3_p4 := pvo3_o4_o5_o6_o7_lo_p1_p2_p3.keep (Kept.same sp4)
      have pvo4_o5_o6_o7_lo_p1_p2_p3_p4 := pvo4_o5_o6_o7_lo_p1_p2_p3.keep (Kept.same sp4)
      have pvo6_o7_lo_p1_p2_p3_p4 := pvo6_o7_lo_p1_p2_p3.keep (Kept.same sp4)
      have pvo7_lo_p1_p2_p3_p4 := pvo7_lo_p1_p2_p3.keep (Kept.same sp4)
      have pvp1_p2_p3_p4 := pvp1_p2_p3.keep (Kept.same sp4)
      have pvp2_p3_p4 := pvp2_p3.keep (Kept.same sp4)
      have pvp3_p4 := pvp3.keep (Kept.same sp4)
      generalize upd Hp3 p4 (.tup [.int c.1, .int (c.2 + 1)]) = Hp4 at sp4 bp4 hp4 pvp4 pvo1_o2_o3_o4_o5_o6_o7_lo_p1_p2_p3_p4 pvo2_o3_o4_o5_o6_o7_lo_p1_p2_p3_p4 pvo3_o4_o5_o6_o7_lo_p1_p2_p3_p4 pvo4_o5_o6_o7_lo_p1_p2_p3_p4 pvo6_o7_lo_p1_p2_p3_p4 pvo7_lo_p1_p2_p3_p4 pvp1_p2_p3_p4 pvp2_p3_p4 pvp3_p4
      refine ⟨(by show 0 ≤ sizeLine; decide), fun p5 np5 => ?_⟩
      have sp5 := same_new (o := .tup []) np5
      have pvp5 : PV b (upd Hp4 p5 (.tup [])) (m + 1) (.ref p5) := pv_tup bp4 np5 (ds := []) .nil (by show 0 ≤ 3; decide) (fun z hz => nomatch hz)
      have bp5 := bp4.new (o := .tup []) np5
      have hp5 := sp5 _ _ hp4
      have pvo1_o2_o3_o4_o5_o6_o7_lo_p1_p2_p3_p4_p5 := pvo1_o2_o3_o4_o5_o6_o7_lo_p1_p2_p3_p4.keep (Kept.same sp5)
      have pvo2_o3_o4_o5_o6_o7_lo_p1_p2_p3_p4_p5 := pvo2_o3_o4_o5_o6_o7_lo_p1_p2_p3_p4.keep (Kept.same sp5)
      have pvo3_o4_o5_o6_o7_lo_p1_p2_p3_p4_p5 := pvo3_o4_o5_o6_o7_lo_p1_p2_p3_p4.keep (Kept.same sp5)
      have pvo4_o5_o6_o7_lo_p1_p2_p3_p4_p5 := pvo4_o5_o6_o7_lo_p1_p2_p3_p4.keep (Kept.same sp5)
      have pvo6_o7_lo_p1_p2_p3_p4_p5 := pvo6_o7_lo_p1_p2_p3_p4.keep (Kept.same sp5)
      have pvo7_lo_p1_p2_p3_p4_p5 := pvo7_lo_p1_p2_p3_p4.keep (Kept.same sp5)
      have pvp1_p2_p3_p4_p5 := pvp1_p2_p3_p4.keep (Kept.same sp5)
      have pvp2_p3_p4_p5 := pvp2_p3_p4.keep (Kept.same sp5)
      have pvp3_p4_p5 := pvp3_p4.keep (Kept.same sp5)
      have pvp4_p5 := pvp4.keep (Kept.same sp5)
      generalize upd Hp4 p5 (.tup []) = Hp5 at sp5 bp5 hp5 pvp5 pvo1_o2_o3_o4_o5_o6_o7_lo_p1_p2_p3_p4_p5 pvo2_o3_o4_o5_o6_o7_lo_p1_p2_p3_p4_p5 pvo3_o4_o5_o6_o7_lo_p1_p2_p3_p4_p5 pvo4_o5_o6_o7_lo_p1_p2_p3_p4_p5 pvo6_o7_lo_p1_p2_p3_p4_p5 pvo7_lo_p1_p2_p3_p4_p5 pvp1_p2_p3_p4_p5 pvp2_p3_p4_p5 pvp3_p4_p5 pvp4_p5
      refine ⟨(by show 7 ≤ sizeLine; decide), fun lm nlm => ?_⟩
      have slm := same_new (o := .lst [.non, .int c.1, .ref p1, .ref p2, .ref p3, .ref p4, .ref p5]) nlm
      have dlm : upd Hp5 lm (.lst [.non, .int c.1, .ref p1, .ref p2, .ref p3, .ref p4, .ref p5]) lm = some (.lst [.non, .int c.1, .ref p1, .ref p2, .ref p3, .ref p4, .ref p5]) := upd_same
      have blm := bp5.new (o := .lst [.non, .int c.1, .ref p1, .ref p2, .ref p3, .ref p4, .ref p5]) nlm
      have hlm := slm _ _ hp5
      have pvo1_o2_o3_o4_o5_o6_o7_lo_p1_p2_p3_p4_p5_lm := pvo1_o2_o3_o4_o5_o6_o7_lo_p1_p2_p3_p4_p5.keep (Kept.same slm)
      have pvo2_o3_o4_o5_o6_o7_lo_p1_p2_p3_p4_p5_lm := pvo2_o3_o4_o5_o6_o7_lo_p1_p2_p3_p4_p5.keep (Kept.same slm)
      have pvo3_o4_o5_o6_o7_lo_p1_p2_p3_p4_p5_lm := pvo3_o4_o5_o6_o7_lo_p1_p2_p3_p4_p5.keep (Kept.same slm)
      have pvo4_o5_o6_o7_lo_p1_p2_p3_p4_p5_lm := pvo4_o5_o6_o7_lo_p1_p2_p3_p4_p5.keep (Kept.same slm)
      have pvo6_o7_lo_p1_p2_p3_p4_p5_lm := pvo6_o7_lo_p1_p2_p3_p4_p5.keep (Kept.same slm)
      have pvo7_lo_p1_p2_p3_p4_p5_lm := pvo7_lo_p1_p2_p3_p4_p5.keep (Kept.same slm)
      have pvp1_p2_p3_p4_p5_lm := pvp1_p2_p3_p4_p5.keep (Kept.same slm)
      have pvp2_p3_p4_p5_lm := pvp2_p3_p4_p5.keep (Kept.same slm)
      have pvp3_p4_p5_lm := pvp3_p4_p5.keep (Kept.same slm)
      have pvp4_p5_lm := pvp4_p5.keep (Kept.same slm)
      have pvp5_lm := pvp5.keep (Kept.same slm)
      generalize upd Hp5 lm (.lst [.non, .int c.1, .ref p1, .ref p2, .ref p3, .ref p4, .ref p5]) = Hlm at slm blm hlm dlm pvo1_o2_o3_o4_o5_o6_o7_lo_p1_p2_p3_p4_p5_lm pvo2_o3_o4_o5_o6_o7_lo_p1_p2_p3_p4_p5_lm pvo3_o4_o5_o6_o7_lo_p1_p2_p3_p4_p5_lm pvo4_o5_o6_o7_lo_p1_p2_p3_p4_p5_lm pvo6_o7_lo_p1_p2_p3_p4_p5_lm pvo7_lo_p1_p2_p3_p4_p5_lm pvp1_p2_p3_p4_p5_lm pvp2_p3_p4_p5_lm pvp3_p4_p5_lm pvp4_p5_lm pvp5_lm
      have sA : Same H5 Hlm := (((((((((((((so1.trans so2).trans so3).trans so4).trans so5).trans so6).trans so7).trans slo).trans sp1).trans sp2).trans sp3).trans sp4).trans sp5).trans slm)
      have lo1 := (((((sp1.trans sp2).trans sp3).trans sp4).trans sp5).trans slm) _ _ dlo
      refine ⟨.ref lo, rfl, .ref lm, rfl, lo, lm, _, _, rfl, rfl, lo1, dlm, (by show 6 + 7 ≤ sizeLine; decide), fun ls nls => ?_⟩
      have all13 : ∀ v ∈ ([.ref o1, .ref o2, .ref o3, .ref o4, .ref o6, .ref o7, .non, .int c.1, .ref p1, .ref p2, .ref p3, .ref p4, .ref p5] : List V), PV b Hlm (m + 1) v := fun v hv => by
        simp only [List.mem_cons, List.not_mem_nil, or_false] at hv
        rcases hv with rfl | rfl | rfl | rfl | rfl | rfl | rfl | rfl | rfl | rfl | rfl | rfl | rfl
        · exact pvo1_o2_o3_o4_o5_o6_o7_lo_p1_p2_p3_p4_p5_lm
        · exact pvo2_o3_o4_o5_o6_o7_lo_p1_p2_p3_p4_p5_lm
        · exact pvo3_o4_o5_o6_o7_lo_p1_p2_p3_p4_p5_lm
        · exact pvo4_o5_o6_o7_lo_p1_p2_p3_p4_p5_lm
        · exact pvo6_o7_lo_p1_p2_p3_p4_p5_lm
        · exact pvo7_lo_p1_p2_p3_p4_p5_lm
        · exact ⟨.none, .non, trivial⟩
        · exact ⟨.int c.1, .int _, ⟨hcL.1.1, by omega⟩⟩
        · exact pvp1_p2_p3_p4_p5_lm
        · exact pvp2_p3_p4_p5_lm
        · exact pvp3_p4_p5_lm
        · exact pvp4_p5_lm
        · exact pvp5_lm
      have sls := same_new (o := .lst ([.ref o1, .ref o2, .ref o3, .ref o4, .ref o6, .ref o7, .non, .int c.1, .ref p1, .ref p2, .ref p3, .ref p4, .ref p5] : List V)) nls
      have dls : upd Hlm ls (.lst ([.ref o1, .ref o2, .ref o3, .ref o4, .ref o6, .ref o7, .non, .int c.1, .ref p1, .ref p2, .ref p3, .ref p4, .ref p5] : List V)) ls = some (.lst ([.ref o1, .ref o2, .ref o3, .ref o4, .ref o6, .ref o7, .non, .int c.1, .ref p1, .ref p2, .ref p3, .ref p4, .ref p5] : List V)) := upd_same
      have bls := blm.new (o := .lst ([.ref o1, .ref o2, .ref o3, .ref o4, .ref o6, .ref o7, .non, .int c.1, .ref p1, .ref p2, .ref p3, .ref p4, .ref p5] : List V)) nls
      have all14 : ∀ v ∈ ([.ref o1, .ref o2, .ref o3, .ref o4, .ref o6, .ref o7, .non, .int c.1, .ref p1, .ref p2, .ref p3, .ref p4, .ref p5] : List V), PV b (upd Hlm ls (.lst ([.ref o1, .ref o2, .ref o3, .ref o4, .ref o6, .ref o7, .non, .int c.1, .ref p1, .ref p2, .ref p3, .ref p4, .ref p5] : List V))) (m + 1) v := fun v hv => (all13 v hv).keep (Kept.same sls)
      have len13 : ([.ref o1, .ref o2, .ref o3, .ref o4, .ref o6, .ref o7, .non, .int c.1, .ref p1, .ref p2, .ref p3, .ref p4, .ref p5] : List V).length = 13 := rfl
      have eapp : ([.ref o1, .ref o2, .ref o3, .ref o4, .ref o6, .ref o7] ++ [.non, .int c.1, .ref p1, .ref p2, .ref p3, .ref p4, .ref p5] : List V) = [.ref o1, .ref o2, .ref o3, .ref o4, .ref o6, .ref o7, .non, .int c.1, .ref p1, .ref p2, .ref p3, .ref p4, .ref p5] := rfl
      rw [eapp]
      generalize ([.ref o1, .ref o2, .ref o3, .ref o4, .ref o6, .ref o7, .non, .int c.1, .ref p1, .ref p2, .ref p3, .ref p4, .ref p5] : List V) = v13 at len13 sls dls bls all14
      generalize upd Hlm ls (.lst v13) = H6 at sls dls bls all14
      have sB := sA.trans sls
      have r6 := sB _ _ r5
      refine ⟨.ref r, rfl, .int sp, rfl, sp, rfl, r, _, rfl, SqL.of r6, fun g1 ng1 => ?_⟩
      have k7 : Kept b H5 (upd H6 g1 (.lst (cutV xs none (some sp)))) := (Kept.same sB).trans (Kept.new ng1)
      have b7 := bls.new (o := .lst (cutV xs none (some sp))) ng1
      have r7 := same_new (o := .lst (cutV xs none (some sp))) ng1 _ _ r6
      have d7 := same_new (o := .lst (cutV xs none (some sp))) ng1 _ _ dls
      have g7 : upd H6 g1 (.lst (cutV xs none (some sp))) g1 = some (.lst (cutV xs none (some sp))) := upd_same
      have all7 : ∀ v ∈ v13, PV b (upd H6 g1 (.lst (cutV xs none (some sp)))) (m + 1) v := fun v hv => (all14 v hv).keep (Kept.new ng1)
      have g1b : g1 ≠ b := bls.ne ng1
      have lsb : ls ≠ b := fun h => by obtain ⟨n, m, hb, _⟩ := blm; rw [h, hb] at nls; cases nls
      generalize upd H6 g1 (.lst (cutV xs none (some sp))) = H7 at k7 b7 r7 d7 g7 all7
      refine ⟨.ref ls, rfl, .ref b, rfl, .ref ls, rfl, ls, _, rfl, .inl (SqL.of d7), b, _, rfl, b7, by omega, by omega, fun j m5 m6 j0 j1 m50 m60 m61 => ?_⟩
      have k8 := k7.trans (Kept.at (b := b) (o := .lst [.int m5, .int m6]))
      have b8 : Bag (upd H7 b (.lst [.int m5, .int m6])) b := Bag.at m50 m60 m61
      have r8 : upd H7 b (.lst [.int m5, .int m6]) r = some (.lst xs) := by rw [upd_ne rb]; exact r7
      have d8 : upd H7 b (.lst [.int m5, .int m6]) ls = some (.lst v13) := by rw [upd_ne lsb]; exact d7
      have g8 : upd H7 b (.lst [.int m5, .int m6]) g1 = some (.lst (cutV xs none (some sp))) := by rw [upd_ne g1b]; exact g7
      have all8 : ∀ v ∈ v13, PV b (upd H7 b (.lst [.int m5, .int m6])) (m + 1) v := fun v hv => (all7 v hv).keep Kept.at
      generalize upd H7 b (.lst [.int m5, .int m6]) = H8 at k8 b8 r8 d8 g8 all8
      have lj : j.toNat < v13.length := by omega
      have gj : v13[j.toNat]? = some v13[j.toNat] := List.getElem?_eq_getElem lj
      have pj := all8 _ (List.getElem_mem lj)
      generalize v13[j.toNat] = vj at gj pj
      refine ⟨ls, _, j, vj, rfl, rfl, SqL.of d8, at_of (j := j.toNat) (by omega) gj, (by show 1 ≤ sizeLine; decide), fun g2 ng2 => ?_⟩
      have s9 := same_new (o := .lst [vj]) ng2
      refine ⟨g1, g2, _, _, rfl, rfl, s9 _ _ g8, upd_same, ?_, fun g3 ng3 => ?_⟩
      · rw [len2]; exact Nat.le_of_lt (small1000 (by simp; omega))
      have s10 := same_new (o := .lst (cutV xs none (some sp) ++ [vj])) ng3
      refine ⟨.ref r, rfl, .int sp, rfl, _, 1, rfl, rfl, _, rfl, r, _, rfl, SqL.of (s10 _ _ (s9 _ _ r8)), fun g4 ng4 => ?_⟩
      have s11 := same_new (o := .lst (cutV xs (some (sp + 1)) none)) ng4
      refine ⟨g3, g4, _, _, rfl, rfl, s11 _ _ upd_same, upd_same, ?_, fun g5 ng5 => ?_⟩
      · rw [List.length_append, len2, len3]; exact Nat.le_of_lt (small1000 (by simp; omega))
      have s12 := ((s9.trans s10).trans s11).trans (same_new (o := .lst (cutV xs none (some sp) ++ [vj] ++ cutV xs (some (sp + 1)) none)) ng5)
      refine ⟨.ref g5, rfl, g5, _, rfl, .inl ⟨SqL.of upd_same, fun t9 n9 => fin g5 _ ((k5.trans k8).trans (Kept.same s12)) (b8.same s12) upd_same (by rw [List.length_append, List.length_append, len2, len3]; simp; omega) (fun v hv => ?_) t9 n9⟩⟩
      rcases List.mem_append.mp hv with h | h
      · rcases List.mem_append.mp h with h | h
        · exact cutP _ _ (k8.trans (Kept.same s12)) v h
        · rw [List.mem_singleton.mp h]; exact pj.keep (Kept.same s12)
      · exact cutP _ _ (k8.trans (Kept.same s12)) v h
end
end K44

set_option Elab.async false
set_option linter.all false
set_option maxRecDepth 100000
set_option maxHeartbeats 4000000
namespace K44
open PySem PySem.Spec PyProof.Rows L2 My
theorem okd_small {d : PyData} (h : OkD d) : SeqAt.shaped d = true ∧ (∀ ds, d = .tuple ds → ds.length ≤ 100 ∧ ∀ z ∈ ds, (itemsD z).length ≤ 3) ∧ ∀ ds, d = .tuple ds → ds.length ≤ 100 ∧ ∀ z ∈ ds, SeqAt.shaped z = true := by
  refine ⟨(OkD.fact h).shaped (by decide), fun ds e => ?_, fun ds e => ?_⟩
  · subst e
    refine ⟨Nat.le_trans h.1 (by decide), fun z hz => ?_⟩
    have := h.2 z hz
    cases z with
    | tuple l => exact this.1
    | _ => exact Nat.zero_le _
  · subst e
    exact ⟨Nat.le_trans h.1 (by decide), fun z hz => (Part.fact (h.2 z hz)).shaped (by decide)⟩
theorem okd_of {m : Int} (hm : m ≤ 1000) {d : PyData} {ds : List PyData} (e : d = .tuple ds ∨ d = .list ds) (hl : ds.length ≤ 60) (hp : ∀ z ∈ ds, PartB m z) : OkD d := by
  rcases e with e | e <;> subst e <;> exact ⟨hl, fun z hz => (hp z hz).part hm⟩
theorem part_pd {x : Int × Int} (h : In12 x.1 ∧ In12 x.2) : Part (pd x) := by
  refine ⟨by show 2 ≤ 3; decide, fun z hz => ?_⟩
  obtain ⟨⟨a, b⟩, c, d⟩ := h
  rcases List.mem_cons.mp hz with e | hz
  · subst e; exact ⟨a, by omega⟩
  · rw [List.mem_singleton.mp hz]; exact ⟨c, by omega⟩
theorem shows_both {ps : List (Addr × Int × Int)} (sm : Sm12 ps) (few : ps.length ≤ 15) {d : PyData} (h : OkD d) : Shows (.tuple [.list ((ps.map (·.2)).map pd), d]) := by
  have h1 : OkD (.list ((ps.map (·.2)).map pd)) := ⟨by rw [List.length_map, List.length_map]; omega, fun z hz => by
    obtain ⟨x, hx, rfl⟩ := List.mem_map.mp hz
    obtain ⟨q, hq, rfl⟩ := List.mem_map.mp hx
    exact part_pd (sm q hq)⟩
  have f := (fact_seq (n := 2) (m := 3840) (k := 2) (l := [.list ((ps.map (·.2)).map pd), d]) (fun x hx => by
    rcases List.mem_cons.mp hx with e | hx
    · rw [e]; exact OkD.fact h1
    · rw [List.mem_singleton.mp hx]; exact OkD.fact h) (by show 2 ≤ 2; decide)).1
  exact f.shows (by decide) (by decide)
theorem all_pairs : ∀ {ds : List PyData}, (∀ z ∈ ds, ∃ c, z = pd c) → ∃ L : List (Int × Int), ds = L.map pd
  | [], _ => ⟨[], rfl⟩
  | z :: r, h => by
    obtain ⟨c, rfl⟩ := h z List.mem_cons_self
    obtain ⟨L, rfl⟩ := all_pairs (ds := r) fun y hy => h y (List.mem_cons_of_mem _ hy)
    exact ⟨c :: L, rfl⟩
theorem matQ_one {z : PyData} : MatQ [z] (.tuple [z]) ↔ ∃ c, z = pd c := by
  constructor
  · rintro ⟨L, e, _, _⟩
    injection e with e
    cases L with
    | nil => cases e
    | cons c r =>
      injection e with e _
      exact ⟨c, e⟩
  · rintro ⟨c, rfl⟩
    refine ⟨[c], rfl, fun x hx => ?_, List.pairwise_singleton ..⟩
    rw [List.mem_singleton.mp hx]
    show (PyData.eqv (pd c) (pd c) || false) = true
    rw [eqv_pd, decide_eq_true rfl]
    rfl
theorem dds_prs {H : Hp} {ps : List (Addr × Int × Int)} (h : ∀ q ∈ ps, Pr H q) : ∀ L : List (Addr × Int × Int), (∀ q ∈ L, q ∈ ps) → DDs H (L.map fun q => V.ref q.1) ((L.map (·.2)).map pd)
  | [], _ => .nil
  | z :: r, g => .cons (.tup (h z (g z List.mem_cons_self)) (.cons (.int _) (.cons (.int _) .nil))) (dds_prs h r fun y hy => g y (List.mem_cons_of_mem _ hy))
theorem okE {ps : List (Addr × Int × Int)} (sm : Sm12 ps) (few : ps.length ≤ 15) : OkD (.list ((ps.map (·.2)).map pd)) := ⟨by rw [List.length_map, List.length_map]; omega, fun z hz => by
    obtain ⟨x, hx, rfl⟩ := List.mem_map.mp hz
    obtain ⟨q, hq, rfl⟩ := List.mem_map.mp hx
    exact part_pd (sm q hq)⟩
theorem okds {d0 : PyData} (h : OkD d0) : ∀ d ∈ ([.none, .int 0, .bool true, .str "", d0, .str "own", .tuple [.none], .tuple [.tuple [.int 0, .str "own"]]] : List PyData), OkD d := by
  intro d hd
  simp only [List.mem_cons, List.not_mem_nil, or_false] at hd
  rcases hd with e | e | e | e | e | e | e | e <;> subst e
  · trivial
  · exact ⟨by decide, by decide⟩
  · trivial
  · exact plain_all (cs := [Str.ofString ""]) (by decide +kernel) _ List.mem_cons_self
  · exact h
  · exact plain_side false
  · exact ⟨by decide, fun z hz => by rw [List.mem_singleton.mp hz]; trivial⟩
  · refine ⟨by decide, fun z hz => ?_⟩
    rw [List.mem_singleton.mp hz]
    refine ⟨by decide, fun y hy => ?_⟩
    rcases List.mem_cons.mp hy with e | hy
    · subst e; exact ⟨by decide, by decide⟩
    · rw [List.mem_singleton.mp hy]; exact plain_side false
section
variable {P : Program} {w : World} {K : PySem.W.Frag} {mg : Str → Option Value} {base : Heap}
def sp_law (K : PySem.W.Frag) : Sp := fun vs H Q _ => ∃ (a : Addr) (ns : List Int), vs = [.ref a] ∧ SqL K H a (ns.map V.int) ∧ ns.length ≤ 63 ∧ ∀ H', Q (.bl true) H'
theorem ok_law (T : Top K mg) : FnG P w K mg base 3 T.f_law T.d_law ["_law_script"] (sp_law K) := by
  have G__law_bag : FnOk P w K mg base CX0 1 T.f__law_bag T.d__law_bag ["_law_script", "_law_at"] (sp_L_bag K) := ok_L_bag T
  have G__law_drawn : FnOk P w K mg base CX0 2 T.f__law_drawn T.d__law_drawn ["_law_bag_here", "_law_most"] (sp_L_drawn K) := ok_L_drawn T
  have G__law_take : FnOk P w K mg base CX0 1 T.f__law_take T.d__law_take ["_law_bag_here", "_law_many"] (sp_L_take K) := ok_L_take T
  have G__law_is_matching : FnOk P w K mg base CX0 1 T.f__law_is_matching T.d__law_is_matching ["_law_conflicts", "_law_thing"] (sp_L_is_matching K) := ok_L_is_matching T
  have G__law_spoiled : FnOk P w K mg base CX0 2 T.f__law_spoiled T.d__law_spoiled ["_law_bag_here", "_law_thing"] (sp_L_spoiled K) := ok_L_spoiled T
  have G_is_matching : FnOk P w K mg base CX0 2 T.f_is_matching T.d_is_matching ["conflicts", "thing"] (sp_is_matching K) := ok_is_matching T
  refine My.Fun.okG T.F_law sclaw (fun vs H Q E h => ?_) (fun cdv A outer s H vs Q E hr hgd h => ?_)
  · obtain ⟨a, ns, rfl, _⟩ := h
    rfl
  · obtain ⟨sa, ns, rfl, hS, hl, q⟩ := h
    refine ⟨_, (pss_cons (ps_for PassesOwn.never rfl (pi_range1 (by rfl) T.m_range (pa_cons (pe_callB (call_max2 rfl) (by rfl) T.m_max (by decide +kernel) (pa_cons pe_int (pa_cons (pe_callB (call_min2 rfl) (by rfl) T.m_min (by decide +kernel) (pa_cons pe_int (pa_cons (pe_callB call_len_seq (by rfl) T.m_len (by decide +kernel) (pa_cons (pv 0) pa_nil)) pa_nil))) pa_nil))) pa_nil)) (pg_name (i := 1) sclaw.nd rfl (.inl rfl)) (pss_cons (ps_set (i := 2) sclaw.nd rfl (.inl rfl) (pe_call G__law_bag (hr.mono (by decide)) (by rfl) T.g__law_bag T.F__law_bag.kp T.b__law_bag .nil pass0 (pa_cons (pv 0) (pa_cons (pv 1) pa_nil))))
      (pss_cons (ps_set (i := 3) sclaw.nd rfl (.inl rfl) (pe_call G__law_drawn (hr.mono (by decide)) (by rfl) T.g__law_drawn T.F__law_drawn.kp T.b__law_drawn .nil pass0 (pa_cons (pv 2) (pa_cons pe_int pa_nil))))
      (pss_cons (ps_for PassesOwn.never rfl (pi_range1 (by rfl) T.m_range (pa_cons pe_int pa_nil)) (pg_name (i := 4) sclaw.nd rfl (.inl rfl)) (pss_cons (ps_par (i := 5) (j := 6) (by rfl) sclaw.nd rfl rfl (by decide) rfl rfl (pa_cons (pe_lst pa_nil) (pa_cons (pe_call G__law_take (hr.mono (by decide)) (by rfl) T.g__law_take T.F__law_take.kp T.b__law_take .nil pass0 (pa_cons (pv 2) (pa_cons pe_int pa_nil))) pa_nil)) (by rfl))
      (pss_cons (ps_for PassesOwn.never rfl (pi_list (pe_callB (show CallR _ _ (rSortedT K P w) from cr_sortedT rfl) (by rfl) T.m_sorted (by decide +kernel) (pa_cons (pe_callTy (show CallR _ _ (rSetOfT K P w) from cr_setOfT rfl hr.units) (by rfl) T.m_set (by decide +kernel) (pa_cons (pv 3) pa_nil)) pa_nil))) (pg_name (i := 7) sclaw.nd rfl (.inr rfl)) (pss_cons (ps_setLc (own := [("_law_one", 14)]) (i := 8) rfl sclaw.nd rfl rfl (sw_true rfl rfl rfl (by decide +kernel)) (pi_list (pv 5)) (blkOk_by (N := N_law) (sc := defScope s_law) (by decide +kernel)) (fun _ _ _ _ _ => (pg_name (i := 14) sclaw.nd rfl (.inl rfl))) (fun _ _ _ _ _ => pts_one (PW.pt (pw_or (pt_cmpR op_eq (pe_ix (r := rIxT K) ix_tup (pv 14) pe_int (fun _ _ => rfl)) (pe_ix (r := rIxT K) ix_tup (pv 7) pe_int (fun _ _ => rfl)) (nomark _)) (pw_or1 (pt_cmpR op_eq (pe_ix (r := rIxT K) ix_tup (pv 14) pe_int (fun _ _ => rfl)) (pe_ix (r := rIxT K) ix_tup (pv 7) pe_int (fun _ _ => rfl)) (nomark _)))))) (fun _ _ _ _ _ => (pv 14)))
      (pss_one (ps_if (PW.pt (pw_and (pt_cmpR op_gt (pe_call G__law_take (hr.mono (by decide)) (by rfl) T.g__law_take T.F__law_take.kp T.b__law_take .nil pass0 (pa_cons (pv 2) (pa_cons pe_int pa_nil))) pe_int (nomark _)) (pw_and1 (PW.pt (pw_or (pt_cmpR (op_eqNil hr.units0) (pv 8) (pe_lst pa_nil) (nomark _)) (pw_or1 (pt_cmpR op_eq (pv 6) pe_int (nomark _)))))))) (pss_one (ps_expr (pe_bm PySem.F.plainAttrs_list PySem.F.slot_list_append PySem.F.type_list_append mt_append (pv 5) (pa_cons (pv 7) pa_nil)))) pss_nil))))
      (pss_cons (ps_set (i := 9) sclaw.nd rfl (.inl rfl) (pe_callTy call_tuple_of (by rfl) T.m_tuple (by decide +kernel) (pa_cons (pv 5) pa_nil)))
      (pss_cons (ps_for PassesOwn.never rfl (pi_range1 (by rfl) T.m_range (pa_cons (pe_call G__law_take (hr.mono (by decide)) (by rfl) T.g__law_take T.F__law_take.kp T.b__law_take .nil pass0 (pa_cons (pv 2) (pa_cons pe_int pa_nil))) pa_nil)) (pg_name (i := 10) sclaw.nd rfl (.inl rfl)) (pss_cons (ps_setLc (own := [("_law_one", 14)]) (i := 11) rfl sclaw.nd rfl rfl (sw_true rfl rfl rfl (by decide +kernel)) (pi_seq (pv 9)) (blkOk_by (N := N_law) (sc := defScope s_law) (by decide +kernel)) (fun _ _ _ _ _ => (pg_name (i := 14) sclaw.nd rfl (.inl rfl))) (fun _ _ _ _ _ => pts_one (pt_not (pt_val (pe_call G__law_is_matching (hr.mono (by decide)) (by rfl) T.g__law_is_matching T.F__law_is_matching.kp T.b__law_is_matching .nil pass0 (pa_cons (pe_lst (pa_cons (pv 14) pa_nil)) (pa_cons (pe_tup (pa_cons (pv 14) pa_nil)) pa_nil)))))) (fun _ _ _ _ _ => (pv 14)))
      (pss_one (ps_if (PW.pt (pw_and (pt_val (pe_callB call_isi (by rfl) T.m_isinstance (by decide +kernel) (pa_cons (pv 9) (pa_cons (pe_bltn (v := .ty "tuple") (by rfl) T.m_tuple (by decide +kernel) rfl) pa_nil)))) (pw_and1 (pt_cmpR (op_eqNil hr.units0) (pv 11) (pe_lst pa_nil) (nomark _))))) (pss_one (ps_set (i := 9) sclaw.nd rfl (.inl rfl) (pe_call G__law_spoiled (hr.mono (by decide)) (by rfl) T.g__law_spoiled T.F__law_spoiled.kp T.b__law_spoiled .nil pass0 (pa_cons (pv 2) (pa_cons (pv 9) pa_nil))))) pss_nil))))
      (pss_cons (ps_set (i := 12) sclaw.nd rfl (.inl rfl) (pe_callB (call_repr hgd hr.units) (by rfl) T.m_repr (by decide +kernel) (pa_cons (pe_tup (pa_cons (pv 3) (pa_cons (pv 9) pa_nil))) pa_nil)))
      (pss_cons (ps_set (i := 13) sclaw.nd rfl (.inl rfl) (pe_call G_is_matching (hr.mono (by decide)) (by rfl) T.g_is_matching T.F_is_matching.kp T.b_is_matching .nil pass0 (pa_cons (pv 3) (pa_cons (pv 9) pa_nil))))
      (pss_cons (ps_if (PW.pt (pw_or (pt_not (pt_val (pe_callB call_isi (by rfl) T.m_isinstance (by decide +kernel) (pa_cons (pv 13) (pa_cons (pe_bltn (v := .ty "bool") (by rfl) T.m_bool (by decide +kernel) rfl) pa_nil))))) (pw_or1 (pt_cmpR op_ne (pv 13) (pe_call G__law_is_matching (hr.mono (by decide)) (by rfl) T.g__law_is_matching T.F__law_is_matching.kp T.b__law_is_matching .nil pass0 (pa_cons (pv 3) (pa_cons (pv 9) pa_nil))) (nomark _))))) (pss_one (ps_ret pe_bl)) pss_nil)
      (pss_one (ps_if (pt_cmpR op_ne (pe_callB (call_repr hgd hr.units) (by rfl) T.m_repr (by decide +kernel) (pa_cons (pe_tup (pa_cons (pv 3) (pa_cons (pv 9) pa_nil))) pa_nil)) (pv 12) (nomark _)) (pss_one (ps_ret pe_bl)) pss_nil))))))))))
      (pss_one (ps_for PassesOwn.never rfl (pi_list (pe_lst (pa_cons pe_non (pa_cons pe_int (pa_cons pe_bl (pa_cons pe_str (pa_cons (pv 3) (pa_cons pe_str (pa_cons (pe_tup (pa_cons pe_non pa_nil)) (pa_cons (pe_tup (pa_cons (pe_tup (pa_cons pe_int (pa_cons pe_str pa_nil))) pa_nil)) pa_nil)))))))))) (pg_name (i := 9) sclaw.nd rfl (.inl rfl)) (pss_one (ps_if (pt_cmpR op_ne (pe_call G_is_matching (hr.mono (by decide)) (by rfl) T.g_is_matching T.F_is_matching.kp T.b_is_matching .nil pass0 (pa_cons (pv 3) (pa_cons (pv 9) pa_nil))) (pe_call G__law_is_matching (hr.mono (by decide)) (by rfl) T.g__law_is_matching T.F__law_is_matching.kp T.b__law_is_matching .nil pass0 (pa_cons (pv 3) (pa_cons (pv 9) pa_nil))) (nomark _)) (pss_one (ps_ret pe_bl)) pss_nil))))))))
      (pss_one (ps_ret (pe_and (pe_call G_is_matching (hr.mono (by decide)) (by rfl) T.g_is_matching T.F_is_matching.kp T.b_is_matching .nil pass0 (pa_cons (pe_lst pa_nil) (pa_cons (pe_tup pa_nil) pa_nil))) (pe_and (pe_not (pe_call G_is_matching (hr.mono (by decide)) (by rfl) T.g_is_matching T.F_is_matching.kp T.b_is_matching .nil pass0 (pa_cons (pe_lst pa_nil) (pa_cons (pe_lst pa_nil) pa_nil)))) (pe_one (pe_call G_is_matching (hr.mono (by decide)) (by rfl) T.g_is_matching T.F_is_matching.kp T.b_is_matching .nil pass0 (pa_cons (pe_lst (pa_cons (pe_tup (pa_cons pe_int (pa_cons pe_int pa_nil))) pa_nil)) (pa_cons (pe_tup (pa_cons (pe_tup (pa_cons pe_int (pa_cons pe_int pa_nil))) pa_nil)) pa_nil))))))))), ?_⟩
    refine ⟨.ref sa, rfl, sa, _, rfl, .inl hS, _, _, rfl, _, _, rfl, ?_⟩
    obtain ⟨N, hN, N1, N4⟩ : ∃ M : Int, (if (if (((ns.map V.int).length : Nat) : Int) < 4 then (((ns.map V.int).length : Nat) : Int) else 4) > 2 then (if (((ns.map V.int).length : Nat) : Int) < 4 then (((ns.map V.int).length : Nat) : Int) else 4) else 2) = M ∧ 0 ≤ M ∧ M ≤ 4 := by
      refine ⟨_, rfl, ?_, ?_⟩
      · split <;> split <;> omega
      · split <;> split <;> omega
    refine ⟨N, congrArg (fun z => [V.int z]) hN, by omega, by omega, for_it walk_range (fun _ σ H3 => ∃ y1 y2 y3 y4 y5 y6 y7 y8 y9 y10 y11 y12 y13 y14, σ = [some (.ref sa), y1, y2, y3, y4, y5, y6, y7, y8, y9, y10, y11, y12, y13, y14] ∧ SqL K H3 sa (ns.map V.int)) ?_ (fun _ _ _ _ _ => trivial) ?_ ?_⟩
    · exact ⟨none, none, none, none, none, none, none, none, none, none, none, none, none, none, rfl, hS⟩
    · rintro i x σ Ha' Ha hi ⟨y1, y2, y3, y4, y5, y6, y7, y8, y9, y10, y11, y12, y13, y14, rfl, hS1⟩ ⟨rfl, rfl⟩
      refine ⟨.ref sa, rfl, .int (0 + (i : Int)), rfl, sa, _, ns, rfl, hS1, hl, by omega, by omega, fun Hb b sb nb bb => ?_⟩
      have hold := held_of hS1 sb nb
      refine ⟨.ref b, rfl, b, 12, rfl, bb, by decide, by decide, fun l H ps kd b4 npl pr sm len fr => ?_⟩
      have few : ps.length < 31 := by omega
      have lb : l ≠ b := bb.ne npl
      have okL := okE sm len
      have notB : ∀ z ∈ ps, z.1 ≠ b := fun z hz e => by obtain ⟨n, m, hb, _⟩ := b4; have e6 : H z.1 = _ := pr.2 z hz; rw [e, hb] at e6; cases e6
      have prK : ∀ {H' : Hp}, Kept b H H' → Prs H' l ps := fun {H'} k => ⟨k _ _ lb pr.1, fun z hz => k _ _ (notB z hz) (pr.2 z hz)⟩
      have ddsK : ∀ {H' : Hp}, Kept b H H' → ∀ L : List (Addr × Int × Int), (∀ q ∈ L, q ∈ ps) → DDs H' (L.map fun q => V.ref q.1) ((L.map (·.2)).map pd) := fun {H'} k L h => dds_prs (prK k).2 L h
      refine ⟨8, rfl, by omega, by omega, for_it walk_range (fun _ σ H6 => ∃ y1 y4 y5 y6 y7 y8 y9 y10 y11 y12 y13 y14, σ = [some (.ref sa), y1, some (.ref b), some (.ref l), y4, y5, y6, y7, y8, y9, y10, y11, y12, y13, y14] ∧ Bag H6 b ∧ Kept b H H6) ?_ (fun _ _ _ _ _ => trivial) ?_ ?_⟩
      · exact ⟨_, _, _, _, _, _, _, _, _, _, _, _, rfl, b4, Kept.refl _ _⟩
      · rintro j x σ H6' H6 hj ⟨y1, y4, y5, y6, y7, y8, y9, y10, y11, y12, y13, y14, rfl, b6, k6⟩ ⟨rfl, rfl⟩
        refine ⟨Nat.zero_le _, fun so nso => ?_⟩
        have k7 := k6.trans (Kept.new (b := b) (o := .lst []) nso)
        have b7 := b6.new (o := .lst []) nso
        have sob : so ≠ b := b6.ne nso
        have soH : H so = none := by
          cases e : H so with
          | none => rfl
          | some u =>
            have := k6 _ _ sob e
            rw [nso] at this
            cases this
        have l7 : upd H6 so (.lst []) so = some (.lst []) := upd_same
        generalize upd H6 so (.lst []) = H7 at k7 b7 l7
        refine ⟨.ref b, rfl, b, 4, rfl, b7, by decide, by decide, fun st m3 m4 d0 d1 m30 m40 m41 => ?_⟩
        have k8 := k7.trans (Kept.at (b := b) (o := .lst [.int m3, .int m4]))
        have b8 : Bag (upd H7 b (.lst [.int m3, .int m4])) b := Bag.at m30 m40 m41
        have l8 : upd H7 b (.lst [.int m3, .int m4]) so = some (.lst []) := by rw [upd_ne sob]; exact l7
        generalize upd H7 b (.lst [.int m3, .int m4]) = H8 at k8 b8 l8
        refine ⟨.ref so, .int st, rfl, .ref l, rfl, ?_⟩
        have pr8 := prK k8
        obtain ⟨x1, x2, x3⟩ := ss1 (K := K) pr8 (by omega)
        refine ⟨l, asInts ps, rfl, x1, x2, x3, fun ad Ls na sub0 all0 => ?_⟩
        obtain ⟨z1, z2, z3⟩ := ss2 (P := P) (w := w) (K := K) pr8 sm na sub0
        refine ⟨ad, Ls, 2, 64, rfl, z1, z2, by decide, z3, fun L' p perm ndL lenL pw np => ?_⟩
        obtain ⟨qs, s9, np, prq, subq, asc, mem, l64⟩ := ss3 pr8 sm na sub0 all0 perm ndL lenL pw np
        generalize upd (upd H8 ad (SetTO P w ad Ls)) p (.lst (L'.map fun q => V.ref q.1)) = H9 at s9 prq
        have k9 := k8.trans (Kept.same s9)
        have b9 := b8.same s9
        have l9 := s9 _ _ l8
        have pb : p ≠ b := b8.ne np
        have pso : p ≠ so := fun e => by rw [e, l8] at np; cases np
        have lqs : qs.length ≤ 15 := by
          have : (qs.map (·.2)).length ≤ (ps.map (·.2)).length := sub_len _ _ (List.Pairwise.imp (fun {a b} h e => by rw [e] at h; exact ltP_asym _ _ h h) asc) fun c hc => (mem c).mp hc
          rw [List.length_map, List.length_map] at this
          omega
        refine ⟨p, rfl, ⟨_, SqL.of prq.1⟩, for_it (walk_list (xs := qs.map fun q => V.ref q.1)) (fun i σ H10 => ∃ (fs : List (Addr × Int × Int)) (y1 y4 y7 y8 y9 y10 y11 y12 y13 y14 : Option V), σ = [some (.ref sa), y1, some (.ref b), some (.ref l), y4, some (.ref so), some (.int st), y7, y8, y9, y10, y11, y12, y13, y14] ∧ Bag H10 b ∧ Kept b H H10 ∧
          H10 p = some (.lst (qs.map fun q => V.ref q.1)) ∧ H10 so = some (.lst (fs.map fun q => V.ref q.1)) ∧ (∀ q ∈ fs, q ∈ ps) ∧ fs.length ≤ i) ?_ ?_ ?_ ?_⟩
        · exact ⟨[], _, _, _, _, _, _, _, _, _, _, rfl, b9, k9, prq.1, l9, (fun _ h => nomatch h), Nat.le_refl _⟩
        · rintro i σ H10 _ ⟨fs, y1, y4, y7, y8, y9, y10, y11, y12, y13, y14, _, _, _, h10, _⟩
          exact SqL.of h10
        · rintro i v σ H11' H10 hi ⟨fs, y1, y4, y7, y8, y9, y10, y11, y12, y13, y14, rfl, b10, k10, p10, so10, sub10, lf⟩ ⟨rfl, hv⟩
          rw [List.getElem?_map] at hv
          rw [List.length_map] at hi
          rw [List.getElem?_eq_getElem hi] at hv
          cases hv
          have hg := subq _ (List.getElem_mem hi)
          generalize qs[i] = g at hg
          have gt := (prK k10).2 g hg
          refine ⟨.ref so, rfl, so, rfl, ⟨_, SqL.of so10⟩, fun D nD => lc_it (walk_list (xs := fs.map fun q => V.ref q.1)) (fun j H11 => ∃ ws : List V, ws.length ≤ j ∧ Same H10 H11 ∧ H11 D = some (.lst ws)) ?_ ?_ ?_ ?_⟩
          · exact ⟨[], Nat.le_refl _, same_new nD, upd_same⟩
          · rintro j H11 _ ⟨ws, _, s11, _⟩
            exact SqL.of (s11 _ _ so10)
          · rintro j v' H12 H11 hj ⟨ws, lw, s11, d11⟩ ⟨rfl, hv'⟩
            rw [List.getElem?_map] at hv'
            rw [List.length_map] at hj
            rw [List.getElem?_eq_getElem hj] at hv'
            cases hv'
            have hf := sub10 _ (List.getElem_mem hj)
            generalize fs[j] = f at hf
            have ft : H11 f.1 = some (.tup [.int f.2.1, .int f.2.2]) := s11 _ _ ((prK k10).2 f hf)
            have gt1 : H11 g.1 = some (.tup [.int g.2.1, .int g.2.2]) := s11 _ _ gt
            have put : ∃ acc, H11 D = some (.lst acc) ∧ acc.length < sizeLine ∧ ∃ ws : List V, ws.length ≤ j + 1 ∧ Same H10 (upd H11 D (.lst (acc ++ [V.ref f.1]))) ∧ upd H11 D (.lst (acc ++ [V.ref f.1])) D = some (.lst ws) :=
              ⟨ws, d11, small1000 (by omega), _, by rw [List.length_append]; simp only [List.length_cons, List.length_nil]; omega, same_off nD s11, upd_same⟩
            refine ⟨rfl, ?_⟩
            refine ⟨.ref f.1, rfl, f.1, _, 0, .int f.2.1, rfl, rfl, SqT.of ft, atI_nat (j := 0) rfl, .ref g.1, rfl, g.1, _, 0, .int g.2.1, rfl, rfl, SqT.of gt1, atI_nat (j := 0) rfl, rfl, _, rfl, ?_⟩
            refine ite2 (fun h => iteT ⟨.ref f.1, rfl, put⟩) (fun _ => ?_)
            refine ⟨.ref f.1, rfl, f.1, _, 1, .int f.2.2, rfl, rfl, SqT.of ft, atI_nat (j := 1) rfl, .ref g.1, rfl, g.1, _, 1, .int g.2.2, rfl, rfl, SqT.of gt1, atI_nat (j := 1) rfl, rfl, _, rfl, ?_⟩
            exact ite2 (fun h => ⟨.ref f.1, rfl, put⟩) (fun _ => ⟨ws, by omega, s11, d11⟩)
          rintro H11 ⟨ws, lw, s11, d11⟩
          have k11 := k10.trans (Kept.same s11)
          have b11 := b10.same s11
          have p11 := s11 _ _ p10
          have so11 := s11 _ _ so10
          have Db : D ≠ b := b10.ne nD
          refine ⟨.ref b, rfl, b, 3, rfl, b11, by decide, by decide, fun dr m5 m6 e0 e1 m50 m60 m61 => ?_⟩
          have k12 := k11.trans (Kept.at (b := b) (o := .lst [.int m5, .int m6]))
          have b12 : Bag (upd H11 b (.lst [.int m5, .int m6])) b := Bag.at m50 m60 m61
          have p12 : upd H11 b (.lst [.int m5, .int m6]) p = some (.lst (qs.map fun q => V.ref q.1)) := by rw [upd_ne pb]; exact p11
          have so12 : upd H11 b (.lst [.int m5, .int m6]) so = some (.lst (fs.map fun q => V.ref q.1)) := by rw [upd_ne sob]; exact so11
          have d12 : upd H11 b (.lst [.int m5, .int m6]) D = some (.lst ws) := by rw [upd_ne Db]; exact d11
          generalize upd H11 b (.lst [.int m5, .int m6]) = H12 at k12 b12 p12 so12 d12
          have stay : ∀ {H13 : Hp} {σ' : L2.St}, Same H12 H13 → (∃ y1 y4 y7 y8 y9 y10 y11 y12 y13 y14 : Option V, σ' = [some (.ref sa), y1, some (.ref b), some (.ref l), y4, some (.ref so), some (.int st), y7, y8, y9, y10, y11, y12, y13, y14]) → ∃ (fs : List (Addr × Int × Int)) (y1 y4 y7 y8 y9 y10 y11 y12 y13 y14 : Option V), σ' = [some (.ref sa), y1, some (.ref b), some (.ref l), y4, some (.ref so), some (.int st), y7, y8, y9, y10, y11, y12, y13, y14] ∧ Bag H13 b ∧ Kept b H H13 ∧
            H13 p = some (.lst (qs.map fun q => V.ref q.1)) ∧ H13 so = some (.lst (fs.map fun q => V.ref q.1)) ∧ (∀ q ∈ fs, q ∈ ps) ∧ fs.length ≤ i + 1 := fun {H13 σ'} s13 ⟨y1, y4, y7, y8, y9, y10, y11, y12, y13, y14, e⟩ =>
            ⟨fs, y1, y4, y7, y8, y9, y10, y11, y12, y13, y14, e, b12.same s13, k12.trans (Kept.same s13), s13 _ _ p12, s13 _ _ so12, sub10, by omega⟩
          have more : ∀ {H13 : Hp} {σ' : L2.St}, Same H12 H13 → (∃ y1 y4 y7 y8 y9 y10 y11 y12 y13 y14 : Option V, σ' = [some (.ref sa), y1, some (.ref b), some (.ref l), y4, some (.ref so), some (.int st), y7, y8, y9, y10, y11, y12, y13, y14]) → ∃ (gs : List (Addr × Int × Int)) (y1 y4 y7 y8 y9 y10 y11 y12 y13 y14 : Option V), σ' = [some (.ref sa), y1, some (.ref b), some (.ref l), y4, some (.ref so), some (.int st), y7, y8, y9, y10, y11, y12, y13, y14] ∧ Bag (upd H13 so (.lst ((fs.map fun q => V.ref q.1) ++ [.ref g.1]))) b ∧ Kept b H (upd H13 so (.lst ((fs.map fun q => V.ref q.1) ++ [.ref g.1]))) ∧
            (upd H13 so (.lst ((fs.map fun q => V.ref q.1) ++ [.ref g.1]))) p = some (.lst (qs.map fun q => V.ref q.1)) ∧ (upd H13 so (.lst ((fs.map fun q => V.ref q.1) ++ [.ref g.1]))) so = some (.lst (gs.map fun q => V.ref q.1)) ∧ (∀ q ∈ gs, q ∈ ps) ∧ gs.length ≤ i + 1 := fun {H13 σ'} s13 ⟨y1, y4, y7, y8, y9, y10, y11, y12, y13, y14, e⟩ => by
            refine ⟨fs ++ [g], y1, y4, y7, y8, y9, y10, y11, y12, y13, y14, e, ?_, fun x u hx e => ?_, ?_, ?_, fun x hx => ?_, ?_⟩
            · obtain ⟨n, m, hb, r⟩ := b12.same s13
              exact ⟨n, m, by rw [upd_ne sob.symm]; exact hb, r⟩
            · rw [upd_ne (fun h => by rw [h, soH] at e; cases e)]
              exact s13 _ _ (k12 x u hx e)
            · rw [upd_ne pso]; exact s13 _ _ p12
            · rw [upd_same, List.map_append]; rfl
            · rcases List.mem_append.mp hx with h | h
              · exact sub10 x h
              · rw [List.mem_singleton.mp h]; exact hg
            · rw [List.length_append]; simp only [List.length_cons, List.length_nil]; omega
          refine ⟨_, _, rfl, rfl, _, rfl, ite2 (fun _ => ?_) (fun _ => iteF (stay (fun _ _ e => e) ⟨_, _, _, _, _, _, _, _, _, _, rfl⟩))⟩
          refine ⟨.ref D, rfl, Nat.zero_le _, fun e ne => ⟨D, e, _, rfl, rfl, SqL.of (same_new ne _ _ d12), SqL.of upd_same, _, rfl, ?_⟩⟩
          have s13 := same_new (o := .lst []) ne
          have so13 := s13 _ _ so12
          generalize upd H12 e (.lst []) = H13 at s13 so13
          have lfs : fs.length ≤ 1000 := by omega
          cases ws with
          | nil => exact iteT (iteT ⟨.ref so, rfl, .inl ⟨rfl, _, SqL.of so13⟩, .ref g.1, rfl, so, _, .ref g.1, rfl, rfl, so13, by rw [List.length_map]; exact small1000 lfs, more s13 ⟨_, _, _, _, _, _, _, _, _, _, rfl⟩⟩)
          | cons w0 wr =>
            refine iteF ⟨.int st, rfl, rfl, _, rfl, ite2 (fun _ => ?_) (fun _ => stay s13 ⟨_, _, _, _, _, _, _, _, _, _, rfl⟩)⟩
            exact ⟨.ref so, rfl, .inl ⟨rfl, _, SqL.of so13⟩, .ref g.1, rfl, so, _, .ref g.1, rfl, rfl, so13, by rw [List.length_map]; exact small1000 lfs, more s13 ⟨_, _, _, _, _, _, _, _, _, _, rfl⟩⟩
        rintro σ H10 ⟨fs, y1, y4, y7, y8, y9, y10, y11, y12, y13, y14, rfl, b10, k10, p10, so10, sub10, lf⟩
        rw [List.length_map] at lf
        refine ⟨.ref so, rfl, so, _, rfl, .inl ⟨SqL.of so10, fun t nt => ?_⟩⟩
        have tb : t ≠ b := b10.ne nt
        have k11 := k10.trans (Kept.new (b := b) (o := .tup (fs.map fun q => V.ref q.1)) nt)
        have b11 := b10.new (o := .tup (fs.map fun q => V.ref q.1)) nt
        have t11 : upd H10 t (.tup (fs.map fun q => V.ref q.1)) t = some (.tup (fs.map fun q => V.ref q.1)) := upd_same
        generalize upd H10 t (.tup (fs.map fun q => V.ref q.1)) = H11 at k11 b11 t11
        have dk11 : DK b H11 (.ref t) (.tuple ((fs.map (·.2)).map pd)) := DK.tup t11 tb (fun H' k' => ddsK (k11.trans k') fs sub10)
        refine ⟨.ref b, rfl, b, 4, rfl, b11, by decide, by decide, fun n m7 m8 n0 n1 m70 m80 m81 => ?_⟩
        have k12 := k11.trans (Kept.at (b := b) (o := .lst [.int m7, .int m8]))
        have b12 : Bag (upd H11 b (.lst [.int m7, .int m8])) b := Bag.at m70 m80 m81
        have dk12 := dk11.keep (Kept.at (b := b) (o := .lst [.int m7, .int m8]))
        generalize upd H11 b (.lst [.int m7, .int m8]) = H12 at k12 b12 dk12
        refine ⟨n, rfl, by omega, by omega, for_it walk_range (fun i σ H13 => ∃ (v : V) (d : PyData) (ds : List PyData) (y1 y4 y7 y8 y10 y11 y12 y13 y14 : Option V), σ = [some (.ref sa), y1, some (.ref b), some (.ref l), y4, some (.ref so), some (.int st), y7, y8, some v, y10, y11, y12, y13, y14] ∧ Bag H13 b ∧ Kept b H H13 ∧ DK b H13 v d ∧ (d = .tuple ds ∨ d = .list ds) ∧ ds.length ≤ 30 + i ∧ ∀ z ∈ ds, PartB (12 + ((i : Nat) : Int)) z) ?_ (fun _ _ _ _ _ => trivial) ?_ ?_⟩
        · refine ⟨.ref t, _, _, _, _, _, _, _, _, _, _, _, rfl, b12, k12, dk12, .inl rfl, by rw [List.length_map, List.length_map]; omega, fun z hz => ?_⟩
          obtain ⟨c, hc, rfl⟩ := List.mem_map.mp hz
          obtain ⟨g, hg, rfl⟩ := List.mem_map.mp hc
          obtain ⟨⟨u0, u1⟩, u2, u3⟩ := sm g (sub10 g hg)
          exact part_pdB ⟨⟨u0, by omega⟩, u2, by omega⟩
        · rintro i x σ H13' H13 hi ⟨v, d, ds, y1, y4, y7, y8, y10, y11, y12, y13, y14, rfl, b13, k13, dk13, ed, lds, hp⟩ ⟨rfl, rfl⟩
          have stay : ∀ {H14 : Hp} {σ' : L2.St}, Same H13 H14 → (∃ y1 y4 y7 y8 y10 y11 y12 y13 y14 : Option V, σ' = [some (.ref sa), y1, some (.ref b), some (.ref l), y4, some (.ref so), some (.int st), y7, y8, some v, y10, y11, y12, y13, y14]) → ∃ (v : V) (d : PyData) (ds : List PyData) (y1 y4 y7 y8 y10 y11 y12 y13 y14 : Option V), σ' = [some (.ref sa), y1, some (.ref b), some (.ref l), y4, some (.ref so), some (.int st), y7, y8, some v, y10, y11, y12, y13, y14] ∧ Bag H14 b ∧ Kept b H H14 ∧ DK b H14 v d ∧ (d = .tuple ds ∨ d = .list ds) ∧ ds.length ≤ 30 + (i + 1) ∧ ∀ z ∈ ds, PartB (12 + (((i + 1) : Nat) : Int)) z := fun {H14 σ'} s14 ⟨y1, y4, y7, y8, y10, y11, y12, y13, y14, e⟩ =>
            ⟨v, d, ds, y1, y4, y7, y8, y10, y11, y12, y13, y14, e, b13.same s14, k13.trans (Kept.same s14), dk13.keep (Kept.same s14), ed, by omega, fun z hz => (hp z hz).mono (by omega)⟩
          rcases ed with ed | ed
          · subst ed
            have dd13 := dk13.now
            cases dd13 with
            | tup hta hts =>
              rename_i ta txs
              have tab : ta ≠ b := fun e => by obtain ⟨n, m, hb, _⟩ := b13; rw [e, hb] at hta; cases hta
              refine ⟨.ref ta, rfl, ta, rfl, .inr ⟨⟨_, SqT.of hta⟩, fun D3 nD3 => lc_it (walk_tup (xs := txs)) (fun j H14 => ∃ ws : List V, ws.length ≤ j ∧ Same H13 H14 ∧ H14 D3 = some (.lst ws) ∧ (ws = [] ↔ ∀ z ∈ ds.take j, ∃ c, z = pd c)) ?_ ?_ ?_ ?_⟩⟩
              · exact ⟨[], Nat.le_refl _, same_new nD3, upd_same, ⟨(fun _ _ h => by rw [List.take_zero] at h; cases h), fun _ => rfl⟩⟩
              · rintro j H14 _ ⟨ws, _, s14, _⟩
                exact SqT.of (s14 _ _ hta)
              · rintro j v' H15 H14 hj ⟨ws, lw, s14, d14, hw⟩ ⟨rfl, hv⟩
                obtain ⟨z, hz, dz⟩ := hts.get hv
                have dz14 := dz.same s14
                have prt : Part z := (hp z (List.mem_of_getElem? hz)).part (by omega)
                have tk : ds.take (j + 1) = ds.take j ++ [z] := by rw [List.take_succ, hz]; rfl
                refine ⟨rfl, ?_⟩
                refine ⟨v', rfl, (by show 1 ≤ sizeLine; decide), fun e1 ne1 => ⟨v', rfl, (by show 1 ≤ sizeLine; decide), fun e2 ne2 => ?_⟩⟩
                have s15 := (same_new (o := .lst [v']) ne1).trans (same_new (o := .tup [v']) ne2)
                have h1 : upd (upd H14 e1 (.lst [v'])) e2 (.tup [v']) e1 = some (.lst [v']) := same_new ne2 _ _ upd_same
                have h2 : upd (upd H14 e1 (.lst [v'])) e2 (.tup [v']) e2 = some (.tup [v']) := upd_same
                generalize upd (upd H14 e1 (.lst [v'])) e2 (.tup [v']) = H15 at s15 h1 h2
                have dz15 := dz14.same s15
                have okz : ∀ x ∈ [z], Part x := fun x hx => by rw [List.mem_singleton.mp hx]; exact prt
                refine ⟨e1, .ref e2, .tuple [z], [v'], [z], rfl, h1, .cons dz15 .nil, ⟨by show 1 ≤ 60; decide, okz⟩, .tup h2 (.cons dz15 .nil), ⟨by show 1 ≤ 60; decide, okz⟩, fun H16 bb s16 hbb => ⟨bb, rfl, ?_⟩⟩
                rw [matQ_one] at hbb
                have s1416 := s15.trans s16
                cases bb with
                | true =>
                  refine iteF ⟨ws, by omega, s14.trans s1416, s1416 _ _ d14, ?_⟩
                  rw [tk, hw]
                  exact ⟨fun h y hy => (List.mem_append.mp hy).elim (fun g => h y g) (fun g => by rw [List.mem_singleton.mp g]; exact hbb.mp rfl), fun h y hy => h y (List.mem_append_left _ hy)⟩
                | false =>
                  refine iteT ⟨v', rfl, _, s1416 _ _ d14, small1000 (by rw [hts.len] at hj; omega), ws ++ [v'], ?_, same_off nD3 (s14.trans s1416), upd_same, ?_⟩
                  · rw [List.length_append]; simp only [List.length_cons, List.length_nil]; omega
                  · refine ⟨fun h => by simp at h, fun h => ?_⟩
                    have := hbb.mpr (h z (by rw [tk]; exact List.mem_append_right _ (List.mem_singleton.mpr rfl)))
                    cases this
              · rintro H14 ⟨ws, lw, s14, d14, hw⟩
                rw [hts.len, List.take_length] at hw
                refine ⟨.ref ta, rfl, _, _, _, _, isTupD (.tuple ds), rfl, ClsV.ty "tuple", (dk13.now.same s14).ty, kit_ty (kit_tup _), isTupD (.tuple ds), rfl, iteT ?_⟩
                refine ⟨.ref D3, rfl, Nat.zero_le _, fun e ne => ⟨D3, e, _, rfl, rfl, SqL.of (same_new ne _ _ d14), SqL.of upd_same, _, rfl, ?_⟩⟩
                have s15 := s14.trans (same_new (o := .lst []) ne)
                generalize upd H14 e (.lst []) = H15 at s15
                cases ws with
                | cons w0 wr => exact iteF (stay s15 ⟨_, _, _, _, _, _, _, _, _, rfl⟩)
                | nil =>
                  obtain ⟨L', rfl⟩ := all_pairs (hw.mp rfl)
                  rw [List.length_map] at lds
                  have dks : DKs b H15 txs (L'.map pd) := fun H' k' => by
                    have := (dk13.keep (Kept.same s15)) H' k'
                    cases this with
                    | tup h1 h2 =>
                      have h3 := k' _ _ tab (s15 _ _ hta)
                      rw [h1] at h3
                      cases h3
                      exact h2
                  refine iteT ⟨.ref b, rfl, .ref ta, rfl, b, ta, txs, L', 12 + (i : Int), rfl, b13.same s15, s15 _ _ hta, dks, by omega, by omega, fun c hc => part_pdI (hp _ (List.mem_map.mpr ⟨c, hc, rfl⟩)), by omega, fun H16 v' d' ds' k16 b16 dk16 ed' ld' hp' => ?_⟩
                  exact ⟨v', d', ds', _, _, _, _, _, _, _, _, _, rfl, b16, (k13.trans (Kept.same s15)).trans k16, dk16, ed', by omega, fun z hz => (hp' z hz).mono (by omega)⟩
          · subst ed
            have dd13 := dk13.now
            cases dd13 with
            | lst hta hts =>
              rename_i ta txs
              refine ⟨.ref ta, rfl, ta, rfl, .inl ⟨⟨_, SqL.of hta⟩, fun D3 nD3 => lc_it (walk_list (xs := txs)) (fun j H14 => ∃ ws : List V, ws.length ≤ j ∧ Same H13 H14 ∧ H14 D3 = some (.lst ws) ∧ (ws = [] ↔ ∀ z ∈ ds.take j, ∃ c, z = pd c)) ?_ ?_ ?_ ?_⟩⟩
              · exact ⟨[], Nat.le_refl _, same_new nD3, upd_same, ⟨(fun _ _ h => by rw [List.take_zero] at h; cases h), fun _ => rfl⟩⟩
              · rintro j H14 _ ⟨ws, _, s14, _⟩
                exact SqL.of (s14 _ _ hta)
              · rintro j v' H15 H14 hj ⟨ws, lw, s14, d14, hw⟩ ⟨rfl, hv⟩
                obtain ⟨z, hz, dz⟩ := hts.get hv
                have dz14 := dz.same s14
                have prt : Part z := (hp z (List.mem_of_getElem? hz)).part (by omega)
                have tk : ds.take (j + 1) = ds.take j ++ [z] := by rw [List.take_succ, hz]; rfl
                refine ⟨rfl, ?_⟩
                refine ⟨v', rfl, (by show 1 ≤ sizeLine; decide), fun e1 ne1 => ⟨v', rfl, (by show 1 ≤ sizeLine; decide), fun e2 ne2 => ?_⟩⟩
                have s15 := (same_new (o := .lst [v']) ne1).trans (same_new (o := .tup [v']) ne2)
                have h1 : upd (upd H14 e1 (.lst [v'])) e2 (.tup [v']) e1 = some (.lst [v']) := same_new ne2 _ _ upd_same
                have h2 : upd (upd H14 e1 (.lst [v'])) e2 (.tup [v']) e2 = some (.tup [v']) := upd_same
                generalize upd (upd H14 e1 (.lst [v'])) e2 (.tup [v']) = H15 at s15 h1 h2
                have dz15 := dz14.same s15
                have okz : ∀ x ∈ [z], Part x := fun x hx => by rw [List.mem_singleton.mp hx]; exact prt
                refine ⟨e1, .ref e2, .tuple [z], [v'], [z], rfl, h1, .cons dz15 .nil, ⟨by show 1 ≤ 60; decide, okz⟩, .tup h2 (.cons dz15 .nil), ⟨by show 1 ≤ 60; decide, okz⟩, fun H16 bb s16 hbb => ⟨bb, rfl, ?_⟩⟩
                rw [matQ_one] at hbb
                have s1416 := s15.trans s16
                cases bb with
                | true =>
                  refine iteF ⟨ws, by omega, s14.trans s1416, s1416 _ _ d14, ?_⟩
                  rw [tk, hw]
                  exact ⟨fun h y hy => (List.mem_append.mp hy).elim (fun g => h y g) (fun g => by rw [List.mem_singleton.mp g]; exact hbb.mp rfl), fun h y hy => h y (List.mem_append_left _ hy)⟩
                | false =>
                  refine iteT ⟨v', rfl, _, s1416 _ _ d14, small1000 (by rw [hts.len] at hj; omega), ws ++ [v'], ?_, same_off nD3 (s14.trans s1416), upd_same, ?_⟩
                  · rw [List.length_append]; simp only [List.length_cons, List.length_nil]; omega
                  · refine ⟨fun h => by simp at h, fun h => ?_⟩
                    have := hbb.mpr (h z (by rw [tk]; exact List.mem_append_right _ (List.mem_singleton.mpr rfl)))
                    cases this
              · rintro H14 ⟨ws, lw, s14, d14, hw⟩
                exact ⟨.ref ta, rfl, _, _, _, _, isTupD (.list ds), rfl, ClsV.ty "tuple", (dk13.now.same s14).ty, kit_ty (kit_tup _), isTupD (.list ds), rfl, iteF (iteF (stay s14 ⟨_, _, _, _, _, _, _, _, _, rfl⟩))⟩
        rintro σ H13 ⟨v, d, ds, y1, y4, y7, y8, y10, y11, y12, y13, y14, rfl, b13, k13, dk13, ed, lds, hp⟩
        have okd : OkD d := okd_of (m := 12 + (n.toNat : Int)) (by omega) ed (by omega) hp
        obtain ⟨shD, sm1, sm2⟩ := okd_small okd
        have pr13 := prK k13
        have dd13 := dk13.now
        have shw := shows_both sm len okd
        refine ⟨.ref l, rfl, v, rfl, (by show 2 ≤ sizeLine; decide), fun tr ntr => ?_⟩
        have s14 := same_new (o := .tup [.ref l, v]) ntr
        have tr14 : upd H13 tr (.tup [.ref l, v]) tr = some (.tup [.ref l, v]) := upd_same
        generalize upd H13 tr (.tup [.ref l, v]) = H14 at s14 tr14
        have pr14 := pr13.same s14
        have dd14 := dd13.same s14
        refine ⟨.ref tr, _, rfl, .tup (SqT.of tr14) (.cons (dp_prs pr14) (.cons dd14.dp .nil)), shw.s, shw.n, shw.p, shw.z, ?_⟩
        refine ⟨.ref l, rfl, v, rfl, l, v, d, ps, rfl, pr14, sm, few, dd14, shD, sm1, fun H15 r1 s15 hr1 => ?_⟩
        refine ⟨.bl r1, rfl, _, _, _, _, true, rfl, ClsV.ty "bool", .base (.bl r1), kit_ty (by decide +kernel), true, rfl, iteF ?_⟩
        have pr15 := pr14.same s15
        refine ⟨.bl r1, rfl, .ref l, rfl, v, rfl, l, v, d, _, (ps.map (·.2)).map pd, rfl, pr15.1, dds_prs pr15.2 ps (fun _ h => h), okL, dd14.same s15, okd, fun H16 r2 s16 hr2 => ⟨rfl, _, rfl, ?_⟩⟩
        rw [matQ_P] at hr2
        have e12 : r1 = r2 := by
          cases r1 <;> cases r2
          · rfl
          · exact (nomatch hr1.mpr (hr2.mp rfl))
          · exact (nomatch hr2.mpr (hr1.mp rfl))
          · rfl
        subst e12
        refine ite2 (fun e => absurd e (by simp)) (fun _ => ?_)
        have pr16 := pr15.same s16
        have dd16 := (dd14.same s15).same s16
        refine ⟨.ref l, rfl, v, rfl, (by show 2 ≤ sizeLine; decide), fun tr2 ntr2 => ?_⟩
        have s17 := same_new (o := .tup [.ref l, v]) ntr2
        refine ⟨.ref tr2, _, rfl, .tup (SqT.of upd_same) (.cons (dp_prs (pr16.same s17)) (.cons (dd16.same s17).dp .nil)), shw.s, shw.n, shw.p, shw.z, ?_⟩
        refine ⟨_, rfl, rfl, _, rfl, ite2 (fun e => absurd e (by simp)) (fun _ => ?_)⟩
        have sE := ((s14.trans s15).trans s16).trans s17
        exact ⟨_, _, _, _, _, _, _, _, _, _, _, _, rfl, b13.same sE, k13.trans (Kept.same sE)⟩
      · rintro σ H6 ⟨y1, y4, y5, y6, y7, y8, y9, y10, y11, y12, y13, y14, rfl, b6, k6⟩
        have pr6 := prK k6
        have kS : ∀ {H' : Hp}, Same H6 H' → SqL K H' sa (ns.map V.int) := fun {H'} s => hold H' (kd.trans (k6.trans (Kept.same s)))
        refine ⟨.ref l, rfl, (by show 1 ≤ sizeLine; decide), fun q1 nq1 => ?_⟩
        have s7 := same_new (o := .tup [.non]) nq1
        have t7 : upd H6 q1 (.tup [.non]) q1 = some (.tup [.non]) := upd_same
        generalize upd H6 q1 (.tup [.non]) = H7 at s7 t7
        refine ⟨(by show 2 ≤ sizeLine; decide), fun q2 nq2 => ?_⟩
        have s8 := same_new (o := .tup [.int 0, .str "own"]) nq2
        have t8 : upd H7 q2 (.tup [.int 0, .str "own"]) q2 = some (.tup [.int 0, .str "own"]) := upd_same
        generalize upd H7 q2 (.tup [.int 0, .str "own"]) = H8 at s8 t8
        refine ⟨(by show 1 ≤ sizeLine; decide), fun q3 nq3 => ?_⟩
        have s9 := same_new (o := .tup [.ref q2]) nq3
        have t9 : upd H8 q3 (.tup [.ref q2]) q3 = some (.tup [.ref q2]) := upd_same
        generalize upd H8 q3 (.tup [.ref q2]) = H9 at s9 t9
        have s69 := (s7.trans s8).trans s9
        have pr9 := pr6.same s69
        have dds : DDs H9 [.non, .int 0, .bl true, .str "", .ref l, .str "own", .ref q1, .ref q3] [.none, .int 0, .bool true, .str "", .list ((ps.map (·.2)).map pd), .str "own", .tuple [.none], .tuple [.tuple [.int 0, .str "own"]]] :=
          .cons .non (.cons (.int _) (.cons (.bl _) (.cons (.str _) (.cons (.lst pr9.1 (dds_prs pr9.2 ps fun _ h => h)) (.cons (.str _) (.cons (.tup ((s8.trans s9) _ _ t7) (.cons .non .nil)) (.cons (.tup t9 (.cons (.tup (s9 _ _ t8) (.cons (.int _) (.cons (.str _) .nil))) .nil)) .nil)))))))
        have oks := okds okL
        refine ⟨(by show 8 ≤ sizeLine; decide), fun ls nls => ?_⟩
        refine ⟨ls, rfl, ⟨_, SqL.of upd_same⟩, for_it (walk_list (xs := [.non, .int 0, .bl true, .str "", .ref l, .str "own", .ref q1, .ref q3])) (fun _ σ H10 => ∃ y1 y4 y5 y6 y7 y8 y9 y10 y11 y12 y13 y14, σ = [some (.ref sa), y1, some (.ref b), some (.ref l), y4, y5, y6, y7, y8, y9, y10, y11, y12, y13, y14] ∧ Same (upd H9 ls (.lst [.non, .int 0, .bl true, .str "", .ref l, .str "own", .ref q1, .ref q3])) H10) ?_ ?_ ?_ ?_⟩
        · exact ⟨_, _, _, _, _, _, _, _, _, _, _, _, rfl, fun _ _ e => e⟩
        · rintro i σ H10 _ ⟨_, _, _, _, _, _, _, _, _, _, _, _, _, s10⟩
          exact SqL.of (s10 _ _ upd_same)
        · rintro i v σ H10' H10 hi ⟨y1, y4, y5, y6, y7, y8, y9, y10, y11, y12, y13, y14, rfl, s10⟩ ⟨rfl, hv⟩
          have s910 := (same_new (o := .lst [.non, .int 0, .bl true, .str "", .ref l, .str "own", .ref q1, .ref q3]) nls).trans s10
          obtain ⟨d, hd, dv⟩ := dds.get hv
          have okd := oks d (List.mem_of_getElem? hd)
          obtain ⟨shD, sm1, sm2⟩ := okd_small okd
          have pr10 := pr9.same s910
          have dd10 := dv.same s910
          refine ⟨.ref l, rfl, v, rfl, l, v, d, ps, rfl, pr10, sm, few, dd10, shD, sm1, fun H11 r1 s11 hr1 => ?_⟩
          have pr11 := pr10.same s11
          refine ⟨.ref l, rfl, v, rfl, l, v, d, _, (ps.map (·.2)).map pd, rfl, pr11.1, dds_prs pr11.2 ps (fun _ h => h), okL, dd10.same s11, okd, fun H12 r2 s12 hr2 => ⟨rfl, _, rfl, ?_⟩⟩
          rw [matQ_P] at hr2
          have e12 : r1 = r2 := by
            cases r1 <;> cases r2
            · rfl
            · exact (nomatch hr1.mpr (hr2.mp rfl))
            · exact (nomatch hr2.mpr (hr1.mp rfl))
            · rfl
          subst e12
          refine ite2 (fun e => absurd e (by simp)) (fun _ => ?_)
          exact ⟨_, _, _, _, _, _, _, _, _, _, _, _, rfl, (s10.trans s11).trans s12⟩
        · rintro σ H10 ⟨y1, y4, y5, y6, y7, y8, y9, y10, y11, y12, y13, y14, rfl, s10⟩
          exact ⟨_, _, _, _, _, _, _, _, _, _, _, _, _, _, rfl, kS (s69.trans ((same_new (o := .lst [.non, .int 0, .bl true, .str "", .ref l, .str "own", .ref q1, .ref q3]) nls).trans s10))⟩
    · rintro σ H3 ⟨y1, y2, y3, y4, y5, y6, y7, y8, y9, y10, y11, y12, y13, y14, rfl, hS3⟩
      have mat0 : MatP [] (.tuple []) := ⟨[], rfl, (fun _ h => nomatch h), .nil, .nil, .nil⟩
      have matL : ¬ MatP [] (.list []) := fun ⟨L, e, _⟩ => nomatch e
      have mat1 : MatP [(1, 0)] (.tuple [.tuple [.int 1, .int 0]]) := ⟨[(1, 0)], rfl, (fun _ h => h), List.pairwise_singleton .., List.pairwise_singleton .., List.pairwise_singleton ..⟩
      refine ⟨Nat.zero_le _, fun l nl => ⟨Nat.zero_le _, fun t nt => ?_⟩⟩
      have pr0 : Prs (upd H3 l (.lst [])) l [] := ⟨upd_same, fun _ h => nomatch h⟩
      refine ⟨l, .ref t, .tuple [], [], rfl, pr0.same (same_new nt), (fun _ h => nomatch h), by decide, .tup upd_same .nil, by decide, (fun ds e => by cases e; exact ⟨by decide, fun _ h => nomatch h⟩), fun H4 r1 s4 h1 => ?_⟩
      refine ⟨r1, rfl, ?_⟩
      rw [h1.mpr mat0]
      refine iteT ⟨Nat.zero_le _, fun l2 nl2 => ⟨Nat.zero_le _, fun t2 nt2 => ?_⟩⟩
      have pr2 : Prs (upd H4 l2 (.lst [])) l2 [] := ⟨upd_same, fun _ h => nomatch h⟩
      refine ⟨l2, .ref t2, .list [], [], rfl, pr2.same (same_new nt2), (fun _ h => nomatch h), by decide, .lst upd_same .nil, by decide, (fun ds e => by cases e), fun H5 r2 s5 h2 => ⟨r2, rfl, _, rfl, ?_⟩⟩
      have e2 : r2 = false := by
        cases r2
        · rfl
        · exact absurd (h2.mp rfl) matL
      rw [e2]
      refine iteT ⟨(by show 2 ≤ sizeLine; decide), fun g1 ng1 => ⟨(by show 1 ≤ sizeLine; decide), fun l3 nl3 => ⟨(by show 2 ≤ sizeLine; decide), fun t3 nt3 => ⟨(by show 1 ≤ sizeLine; decide), fun t4 nt4 => ?_⟩⟩⟩⟩
      have g3 : upd H5 g1 (.tup [.int 1, .int 0]) g1 = some (.tup [.int 1, .int 0]) := upd_same
      have pr3 : Prs (upd (upd H5 g1 (.tup [.int 1, .int 0])) l3 (.lst [.ref g1])) l3 [(g1, 1, 0)] := ⟨upd_same, fun z hz => by rw [List.mem_singleton.mp hz]; exact same_new nl3 _ _ g3⟩
      refine ⟨l3, .ref t4, .tuple [.tuple [.int 1, .int 0]], [(g1, 1, 0)], rfl, (pr3.same (same_new nt3)).same (same_new nt4), (fun z hz => by rw [List.mem_singleton.mp hz]; exact (show In12 1 ∧ In12 0 from ⟨⟨by decide, by decide⟩, by decide, by decide⟩)), (show 1 < 31 by decide), .tup upd_same (.cons (.tup (same_new nt4 _ _ upd_same) (.cons (.int _) (.cons (.int _) .nil))) .nil), by decide +kernel, (fun ds e => by
        cases e
        exact ⟨by decide, fun z hz => by rw [List.mem_singleton.mp hz]; decide⟩), fun H6 r3 s6 h3 => ?_⟩
      rw [h3.mpr mat1]
      exact q _
end
end K44

set_option Elab.async false
set_option linter.all false
set_option maxRecDepth 100000
namespace K44
open PySem PySem.Spec PyProof.Rows L2 My
/-! ### the end -/
def top_mk {h : Heap} {K : PySem.W.Frag} {mg : Str → Option Value} (X : K.In h) (G : h.Ns mainGlobals mg)
    {f0 : Addr} {od0 an0 : Option Addr} {sl0 : Array (Option Value)} {oc0 kV0 dc0 pm0 cd0 ct0 : Value} (a0 : PySem.W.nsIn K mainGlobals "is_selection" = some (some (.ref f0))) (l0 : K.lookup f0 = some ⟨oc0, od0, .func (PySem.W.fnOf "is_selection" "is_selection" (defArgs s_is_selection) (defBody s_is_selection) (defScope s_is_selection) .none kV0 dc0 pm0 an0 cd0 ct0), sl0⟩) (c0 : PySem.W.codeIn K cd0 "is_selection" = true) (k0 : PySem.W.keepIn K (.ref f0) = true)
    {f1 : Addr} {od1 an1 : Option Addr} {sl1 : Array (Option Value)} {oc1 kV1 dc1 pm1 cd1 ct1 : Value} (a1 : PySem.W.nsIn K mainGlobals "is_matching" = some (some (.ref f1))) (l1 : K.lookup f1 = some ⟨oc1, od1, .func (PySem.W.fnOf "is_matching" "is_matching" (defArgs s_is_matching) (defBody s_is_matching) (defScope s_is_matching) .none kV1 dc1 pm1 an1 cd1 ct1), sl1⟩) (c1 : PySem.W.codeIn K cd1 "is_matching" = true) (k1 : PySem.W.keepIn K (.ref f1) = true)
    {f2 : Addr} {od2 an2 : Option Addr} {sl2 : Array (Option Value)} {oc2 kV2 dc2 pm2 cd2 ct2 : Value} (a2 : PySem.W.nsIn K mainGlobals "_law_bag" = some (some (.ref f2))) (l2 : K.lookup f2 = some ⟨oc2, od2, .func (PySem.W.fnOf "_law_bag" "_law_bag" (defArgs s_L_bag) (defBody s_L_bag) (defScope s_L_bag) .none kV2 dc2 pm2 an2 cd2 ct2), sl2⟩) (c2 : PySem.W.codeIn K cd2 "_law_bag" = true) (k2 : PySem.W.keepIn K (.ref f2) = true)
    {f3 : Addr} {od3 an3 : Option Addr} {sl3 : Array (Option Value)} {oc3 kV3 dc3 pm3 cd3 ct3 : Value} (a3 : PySem.W.nsIn K mainGlobals "_law_take" = some (some (.ref f3))) (l3 : K.lookup f3 = some ⟨oc3, od3, .func (PySem.W.fnOf "_law_take" "_law_take" (defArgs s_L_take) (defBody s_L_take) (defScope s_L_take) .none kV3 dc3 pm3 an3 cd3 ct3), sl3⟩) (c3 : PySem.W.codeIn K cd3 "_law_take" = true) (k3 : PySem.W.keepIn K (.ref f3) = true)
    {f4 : Addr} {od4 an4 : Option Addr} {sl4 : Array (Option Value)} {oc4 kV4 dc4 pm4 cd4 ct4 : Value} (a4 : PySem.W.nsIn K mainGlobals "_law_drawn" = some (some (.ref f4))) (l4 : K.lookup f4 = some ⟨oc4, od4, .func (PySem.W.fnOf "_law_drawn" "_law_drawn" (defArgs s_L_drawn) (defBody s_L_drawn) (defScope s_L_drawn) .none kV4 dc4 pm4 an4 cd4 ct4), sl4⟩) (c4 : PySem.W.codeIn K cd4 "_law_drawn" = true) (k4 : PySem.W.keepIn K (.ref f4) = true)
    {f5 : Addr} {od5 an5 : Option Addr} {sl5 : Array (Option Value)} {oc5 kV5 dc5 pm5 cd5 ct5 : Value} (a5 : PySem.W.nsIn K mainGlobals "_law_spoiled" = some (some (.ref f5))) (l5 : K.lookup f5 = some ⟨oc5, od5, .func (PySem.W.fnOf "_law_spoiled" "_law_spoiled" (defArgs s_L_spoiled) (defBody s_L_spoiled) (defScope s_L_spoiled) .none kV5 dc5 pm5 an5 cd5 ct5), sl5⟩) (c5 : PySem.W.codeIn K cd5 "_law_spoiled" = true) (k5 : PySem.W.keepIn K (.ref f5) = true)
    {f6 : Addr} {od6 an6 : Option Addr} {sl6 : Array (Option Value)} {oc6 kV6 dc6 pm6 cd6 ct6 : Value} (a6 : PySem.W.nsIn K mainGlobals "_law_is_matching" = some (some (.ref f6))) (l6 : K.lookup f6 = some ⟨oc6, od6, .func (PySem.W.fnOf "_law_is_matching" "_law_is_matching" (defArgs s_L_is_matching) (defBody s_L_is_matching) (defScope s_L_is_matching) .none kV6 dc6 pm6 an6 cd6 ct6), sl6⟩) (c6 : PySem.W.codeIn K cd6 "_law_is_matching" = true) (k6 : PySem.W.keepIn K (.ref f6) = true)
    {f7 : Addr} {od7 an7 : Option Addr} {sl7 : Array (Option Value)} {oc7 kV7 dc7 pm7 cd7 ct7 : Value} (a7 : PySem.W.nsIn K mainGlobals "law" = some (some (.ref f7))) (l7 : K.lookup f7 = some ⟨oc7, od7, .func (PySem.W.fnOf "law" "law" (defArgs s_law) (defBody s_law) (defScope s_law) .none kV7 dc7 pm7 an7 cd7 ct7), sl7⟩) (c7 : PySem.W.codeIn K cd7 "law" = true) (k7 : PySem.W.keepIn K (.ref f7) = true)
    (z0 : PySem.W.nsIn K mainGlobals "tuple" = some none)
    (z1 : PySem.W.nsIn K mainGlobals "isinstance" = some none)
    (z2 : PySem.W.nsIn K mainGlobals "any" = some none)
    (z3 : PySem.W.nsIn K mainGlobals "bool" = some none)
    (z4 : PySem.W.nsIn K mainGlobals "sorted" = some none)
    (z5 : PySem.W.nsIn K mainGlobals "set" = some none)
    (z6 : PySem.W.nsIn K mainGlobals "len" = some none)
    (z7 : PySem.W.nsIn K mainGlobals "enumerate" = some none)
    (z8 : PySem.W.nsIn K mainGlobals "int" = some none)
    (z9 : PySem.W.nsIn K mainGlobals "abs" = some none)
    (z10 : PySem.W.nsIn K mainGlobals "min" = some none)
    (z11 : PySem.W.nsIn K mainGlobals "range" = some none)
    (z12 : PySem.W.nsIn K mainGlobals "list" = some none)
    (z13 : PySem.W.nsIn K mainGlobals "str" = some none)
    (z14 : PySem.W.nsIn K mainGlobals "max" = some none)
    (z15 : PySem.W.nsIn K mainGlobals "repr" = some none) : Top K mg := {
    f_is_selection := f0, d_is_selection := _, F_is_selection := fun_mk (st := s_is_selection) l0 c0 k0, b_is_selection := (fun_mk (st := s_is_selection) l0 c0 k0).binds (ps := ["thing", "choices"]) (fun _ _ _ _ _ _ us hl => match us, hl with | [_, _], _ => rfl), g_is_selection := PySem.W.mg_of X G a0,
    f_is_matching := f1, d_is_matching := _, F_is_matching := fun_mk (st := s_is_matching) l1 c1 k1, b_is_matching := (fun_mk (st := s_is_matching) l1 c1 k1).binds (ps := ["conflicts", "thing"]) (fun _ _ _ _ _ _ us hl => match us, hl with | [_, _], _ => rfl), g_is_matching := PySem.W.mg_of X G a1,
    f__law_bag := f2, d__law_bag := _, F__law_bag := fun_mk (st := s_L_bag) l2 c2 k2, b__law_bag := (fun_mk (st := s_L_bag) l2 c2 k2).binds (ps := ["_law_script", "_law_at"]) (fun _ _ _ _ _ _ us hl => match us, hl with | [_, _], _ => rfl), g__law_bag := PySem.W.mg_of X G a2,
    f__law_take := f3, d__law_take := _, F__law_take := fun_mk (st := s_L_take) l3 c3 k3, b__law_take := (fun_mk (st := s_L_take) l3 c3 k3).binds (ps := ["_law_bag_here", "_law_many"]) (fun _ _ _ _ _ _ us hl => match us, hl with | [_, _], _ => rfl), g__law_take := PySem.W.mg_of X G a3,
    f__law_drawn := f4, d__law_drawn := _, F__law_drawn := fun_mk (st := s_L_drawn) l4 c4 k4, b__law_drawn := (fun_mk (st := s_L_drawn) l4 c4 k4).binds (ps := ["_law_bag_here", "_law_most"]) (fun _ _ _ _ _ _ us hl => match us, hl with | [_, _], _ => rfl), g__law_drawn := PySem.W.mg_of X G a4,
    f__law_spoiled := f5, d__law_spoiled := _, F__law_spoiled := fun_mk (st := s_L_spoiled) l5 c5 k5, b__law_spoiled := (fun_mk (st := s_L_spoiled) l5 c5 k5).binds (ps := ["_law_bag_here", "_law_thing"]) (fun _ _ _ _ _ _ us hl => match us, hl with | [_, _], _ => rfl), g__law_spoiled := PySem.W.mg_of X G a5,
    f__law_is_matching := f6, d__law_is_matching := _, F__law_is_matching := fun_mk (st := s_L_is_matching) l6 c6 k6, b__law_is_matching := (fun_mk (st := s_L_is_matching) l6 c6 k6).binds (ps := ["_law_conflicts", "_law_thing"]) (fun _ _ _ _ _ _ us hl => match us, hl with | [_, _], _ => rfl), g__law_is_matching := PySem.W.mg_of X G a6,
    f_law := f7, d_law := _, F_law := fun_mk (st := s_law) l7 c7 k7, b_law := (fun_mk (st := s_law) l7 c7 k7).binds (ps := ["_law_script"]) (fun _ _ _ _ _ _ us hl => match us, hl with | [_], _ => rfl), g_law := PySem.W.mg_of X G a7,
    m_tuple := PySem.W.mg_none_of X G z0,
    m_isinstance := PySem.W.mg_none_of X G z1,
    m_any := PySem.W.mg_none_of X G z2,
    m_bool := PySem.W.mg_none_of X G z3,
    m_sorted := PySem.W.mg_none_of X G z4,
    m_set := PySem.W.mg_none_of X G z5,
    m_len := PySem.W.mg_none_of X G z6,
    m_enumerate := PySem.W.mg_none_of X G z7,
    m_int := PySem.W.mg_none_of X G z8,
    m_abs := PySem.W.mg_none_of X G z9,
    m_min := PySem.W.mg_none_of X G z10,
    m_range := PySem.W.mg_none_of X G z11,
    m_list := PySem.W.mg_none_of X G z12,
    m_str := PySem.W.mg_none_of X G z13,
    m_max := PySem.W.mg_none_of X G z14,
    m_repr := PySem.W.mg_none_of X G z15 }
theorem all_mk {l : PySem.W.OpenLaw} {w : World} {K : PySem.W.Frag} {h : Heap} {mg : Str → Option Value} {fa : Addr} (X : K.In h) (G : h.Ns mainGlobals mg) (hfa : mg "law" = some (.ref fa))
    {f0 : Addr} {od0 an0 : Option Addr} {sl0 : Array (Option Value)} {oc0 kV0 dc0 pm0 cd0 ct0 : Value} (a0 : PySem.W.nsIn K mainGlobals "is_selection" = some (some (.ref f0))) (l0 : K.lookup f0 = some ⟨oc0, od0, .func (PySem.W.fnOf "is_selection" "is_selection" (defArgs s_is_selection) (defBody s_is_selection) (defScope s_is_selection) .none kV0 dc0 pm0 an0 cd0 ct0), sl0⟩) (c0 : PySem.W.codeIn K cd0 "is_selection" = true) (k0 : PySem.W.keepIn K (.ref f0) = true)
    {f1 : Addr} {od1 an1 : Option Addr} {sl1 : Array (Option Value)} {oc1 kV1 dc1 pm1 cd1 ct1 : Value} (a1 : PySem.W.nsIn K mainGlobals "is_matching" = some (some (.ref f1))) (l1 : K.lookup f1 = some ⟨oc1, od1, .func (PySem.W.fnOf "is_matching" "is_matching" (defArgs s_is_matching) (defBody s_is_matching) (defScope s_is_matching) .none kV1 dc1 pm1 an1 cd1 ct1), sl1⟩) (c1 : PySem.W.codeIn K cd1 "is_matching" = true) (k1 : PySem.W.keepIn K (.ref f1) = true)
    {f2 : Addr} {od2 an2 : Option Addr} {sl2 : Array (Option Value)} {oc2 kV2 dc2 pm2 cd2 ct2 : Value} (a2 : PySem.W.nsIn K mainGlobals "_law_bag" = some (some (.ref f2))) (l2 : K.lookup f2 = some ⟨oc2, od2, .func (PySem.W.fnOf "_law_bag" "_law_bag" (defArgs s_L_bag) (defBody s_L_bag) (defScope s_L_bag) .none kV2 dc2 pm2 an2 cd2 ct2), sl2⟩) (c2 : PySem.W.codeIn K cd2 "_law_bag" = true) (k2 : PySem.W.keepIn K (.ref f2) = true)
    {f3 : Addr} {od3 an3 : Option Addr} {sl3 : Array (Option Value)} {oc3 kV3 dc3 pm3 cd3 ct3 : Value} (a3 : PySem.W.nsIn K mainGlobals "_law_take" = some (some (.ref f3))) (l3 : K.lookup f3 = some ⟨oc3, od3, .func (PySem.W.fnOf "_law_take" "_law_take" (defArgs s_L_take) (defBody s_L_take) (defScope s_L_take) .none kV3 dc3 pm3 an3 cd3 ct3), sl3⟩) (c3 : PySem.W.codeIn K cd3 "_law_take" = true) (k3 : PySem.W.keepIn K (.ref f3) = true)
    {f4 : Addr} {od4 an4 : Option Addr} {sl4 : Array (Option Value)} {oc4 kV4 dc4 pm4 cd4 ct4 : Value} (a4 : PySem.W.nsIn K mainGlobals "_law_drawn" = some (some (.ref f4))) (l4 : K.lookup f4 = some ⟨oc4, od4, .func (PySem.W.fnOf "_law_drawn" "_law_drawn" (defArgs s_L_drawn) (defBody s_L_drawn) (defScope s_L_drawn) .none kV4 dc4 pm4 an4 cd4 ct4), sl4⟩) (c4 : PySem.W.codeIn K cd4 "_law_drawn" = true) (k4 : PySem.W.keepIn K (.ref f4) = true)
    {f5 : Addr} {od5 an5 : Option Addr} {sl5 : Array (Option Value)} {oc5 kV5 dc5 pm5 cd5 ct5 : Value} (a5 : PySem.W.nsIn K mainGlobals "_law_spoiled" = some (some (.ref f5))) (l5 : K.lookup f5 = some ⟨oc5, od5, .func (PySem.W.fnOf "_law_spoiled" "_law_spoiled" (defArgs s_L_spoiled) (defBody s_L_spoiled) (defScope s_L_spoiled) .none kV5 dc5 pm5 an5 cd5 ct5), sl5⟩) (c5 : PySem.W.codeIn K cd5 "_law_spoiled" = true) (k5 : PySem.W.keepIn K (.ref f5) = true)
    {f6 : Addr} {od6 an6 : Option Addr} {sl6 : Array (Option Value)} {oc6 kV6 dc6 pm6 cd6 ct6 : Value} (a6 : PySem.W.nsIn K mainGlobals "_law_is_matching" = some (some (.ref f6))) (l6 : K.lookup f6 = some ⟨oc6, od6, .func (PySem.W.fnOf "_law_is_matching" "_law_is_matching" (defArgs s_L_is_matching) (defBody s_L_is_matching) (defScope s_L_is_matching) .none kV6 dc6 pm6 an6 cd6 ct6), sl6⟩) (c6 : PySem.W.codeIn K cd6 "_law_is_matching" = true) (k6 : PySem.W.keepIn K (.ref f6) = true)
    {f7 : Addr} {od7 an7 : Option Addr} {sl7 : Array (Option Value)} {oc7 kV7 dc7 pm7 cd7 ct7 : Value} (a7 : PySem.W.nsIn K mainGlobals "law" = some (some (.ref f7))) (l7 : K.lookup f7 = some ⟨oc7, od7, .func (PySem.W.fnOf "law" "law" (defArgs s_law) (defBody s_law) (defScope s_law) .none kV7 dc7 pm7 an7 cd7 ct7), sl7⟩) (c7 : PySem.W.codeIn K cd7 "law" = true) (k7 : PySem.W.keepIn K (.ref f7) = true)
    (z0 : PySem.W.nsIn K mainGlobals "tuple" = some none)
    (z1 : PySem.W.nsIn K mainGlobals "isinstance" = some none)
    (z2 : PySem.W.nsIn K mainGlobals "any" = some none)
    (z3 : PySem.W.nsIn K mainGlobals "bool" = some none)
    (z4 : PySem.W.nsIn K mainGlobals "sorted" = some none)
    (z5 : PySem.W.nsIn K mainGlobals "set" = some none)
    (z6 : PySem.W.nsIn K mainGlobals "len" = some none)
    (z7 : PySem.W.nsIn K mainGlobals "enumerate" = some none)
    (z8 : PySem.W.nsIn K mainGlobals "int" = some none)
    (z9 : PySem.W.nsIn K mainGlobals "abs" = some none)
    (z10 : PySem.W.nsIn K mainGlobals "min" = some none)
    (z11 : PySem.W.nsIn K mainGlobals "range" = some none)
    (z12 : PySem.W.nsIn K mainGlobals "list" = some none)
    (z13 : PySem.W.nsIn K mainGlobals "str" = some none)
    (z14 : PySem.W.nsIn K mainGlobals "max" = some none)
    (z15 : PySem.W.nsIn K mainGlobals "repr" = some none) :
    ∃ fd : FuncData, (∀ (s : Shared) (v : Value), BindsTo s fd ⟨[v], []⟩ [("_law_script", v)]) ∧ ∀ base : Heap, K.In base → base.Ns mainGlobals mg → FnG l.prog w K mg base 3 fa fd ["_law_script"] (sp_law K) := by
  have e := hfa.symm.trans (PySem.W.mg_of X G a7)
  cases e
  exact ⟨_, fun s v => .of_eq rfl, fun base _ _ => ok_law (top_mk X G a0 l0 c0 k0 a1 l1 c1 k1 a2 l2 c2 k2 a3 l3 c3 k3 a4 l4 c4 k4 a5 l5 c5 k5 a6 l6 c6 k6 a7 l7 c7 k7 z0 z1 z2 z3 z4 z5 z6 z7 z8 z9 z10 z11 z12 z13 z14 z15)⟩
end K44
open PySem PySem.W PyProof.Rows
set_option maxHeartbeats 0 in
theorem PySem.Challenge.cw_settingsmerge_k44_matchings_told_from_ot_holds : PySem.Challenge.rw_settingsmerge_k44_matchings_told_from_ot.Holds := by
  w_on; o_law; k_head; (case hw => w_witness2)
  k_fill
  refine My.walk_ofG (l := PySem.Challenge.rw_settingsmerge_k44_matchings_told_from_ot) (n := 63) (k := 3) (x := "_law_script") (sp := fun w => K44.sp_law _) rfl (by decide) rfl ⟨rfl, by decide, by decide⟩ (fun w h Y => PySem.W.kIn_of Y) ?F (fun _ _ a ns hl _ hS => ⟨a, ns, rfl, hS, hl, fun _ => rfl⟩)
  case F =>
    intro w mg fa h KX G hmg
    refine' K44.all_mk KX G hmg ?a0 ?l0 ?c0 ?k0 ?a1 ?l1 ?c1 ?k1 ?a2 ?l2 ?c2 ?k2 ?a3 ?l3 ?c3 ?k3 ?a4 ?l4 ?c4 ?k4 ?a5 ?l5 ?c5 ?k5 ?a6 ?l6 ?c6 ?k6 ?a7 ?l7 ?c7 ?k7 ?z0 ?z1 ?z2 ?z3 ?z4 ?z5 ?z6 ?z7 ?z8 ?z9 ?z10 ?z11 ?z12 ?z13 ?z14 ?z15
    (case a0 => k_is); (case l0 => k_is); (case c0 => k_is); (case k0 => k_is); (case a1 => k_is); (case l1 => k_is); (case c1 => k_is); (case k1 => k_is); (case a2 => k_is); (case l2 => k_is); (case c2 => k_is); (case k2 => k_is); (case a3 => k_is); (case l3 => k_is); (case c3 => k_is); (case k3 => k_is); (case a4 => k_is); (case l4 => k_is); (case c4 => k_is); (case k4 => k_is); (case a5 => k_is); (case l5 => k_is); (case c5 => k_is); (case k5 => k_is); (case a6 => k_is); (case l6 => k_is); (case c6 => k_is); (case k6 => k_is); (case a7 => k_is); (case l7 => k_is); (case c7 => k_is); (case k7 => k_is); (case z0 => k_is); (case z1 => k_is); (case z2 => k_is); (case z3 => k_is); (case z4 => k_is); (case z5 => k_is); (case z6 => k_is); (case z7 => k_is); (case z8 => k_is); (case z9 => k_is); (case z10 => k_is); (case z11 => k_is); (case z12 => k_is); (case z13 => k_is); (case z14 => k_is); (case z15 => k_is)


