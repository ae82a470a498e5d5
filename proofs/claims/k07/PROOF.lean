import PyProof.Rows.All
import Wide.All
import OpenK.AllK
import Wide.FinOn
import HandS.ForMost
import HandS.Walk
import HandS.IsInst
import HandS.Style
import KE.KCallOwn
import HandS.GenBody
import HandS.GenYield
import HandS.GenList
import PyProof.GenComp
import HandS.DictSub
import HandS.Small
import HandS.Property
import HandS.More
import HandS.WordsDict
import HandS.Comp
import HandS.Replace
import HandS.ReplaceLit
import PyProof.ToksMono
import HandS.MakeKwOnly
import HandS.RaiseMore
import PySem.Challenge.RW_settingsmerge_k07_equal_files
set_option Elab.async false
set_option linter.all false
set_option maxRecDepth 100000
/-! words of my own over the hand layer: repr of data, a text times a number, calls by keywords alone, defs that may ask for a repr -/
namespace My
open PySem PySem.Spec PyProof.Rows L2
section
variable {X : Cx}
/-- repr(x), x any data, where no other repr is under way -/
theorem call_repr (hg : X.A.guards = some []) (hu : X.A.units + 64 < cLine) : CallR X (.builtin "repr") (fun xs H Q => ∃ x d, xs = [x] ∧ Dp X.K H x d ∧ d.showable = true ∧ d.hasDict = false ∧ d.depth ≤ 8 ∧ d.shown.length ≤ sizeLine ∧ Q (.str d.shown) H) := by
  intro pins s σ H xs us Q I rr h
  obtain ⟨x, d, rfl, hd, hs, hn, hp, hz, q⟩ := h
  obtain ⟨u, rfl, ru⟩ := vals1 rr
  obtain ⟨as, rd⟩ := Dp.reads I d x u hd ru
  cases hd with
  | non =>
    cases (show u = Value.none from ru)
    exact PySem.P.repr_of_none ⟨.str _, H, I.tok _, ⟨_, rfl⟩, q⟩
  | bl b =>
    cases (show u = Value.bool b from ru)
    refine PySem.P.repr_of_bool ⟨.str _, H, I.tok _, ⟨_, rfl⟩, ?_⟩
    have e : (PyData.bool b).shown = (if b then ("True" : Str) else "False") := by cases b <;> rfl
    rw [e] at q
    cases b <;> exact q
  | int i =>
    obtain ⟨t, rfl⟩ := (show ∃ t, u = Value.int i t from ru)
    exact PySem.P.repr_of_int (of_decide_eq_true (by simpa [PyData.showable] using hs)) ⟨.str _, H, I.tok _, ⟨_, rfl⟩, q⟩
  | str z =>
    obtain ⟨t, rfl⟩ := (show ∃ t, u = Value.str z t from ru)
    exact PySem.P.repr_of_str ⟨.str _, H, I.tok _, ⟨_, rfl⟩, q⟩ hz
  | @lst a xs ds hS hA =>
    cases (show u = Value.ref a from ru)
    exact repr_of_reads' rd hs (PyData.noDict_hsm hn) hg (by omega) (fun _ _ e => e) (fun h' u tk hk => ⟨.str _, H, I.kept hk, ⟨_, rfl⟩, q⟩) hz
  | @tup a xs ds hS hA =>
    cases (show u = Value.ref a from ru)
    exact repr_of_reads' rd hs (PyData.noDict_hsm hn) hg (by omega) (fun _ _ e => e) (fun h' u tk hk => ⟨.str _, H, I.kept hk, ⟨_, rfl⟩, q⟩) hz
/-- a text n times, n from 2 to 1000 -/
theorem op_mulS : OpR X (binaryOp .Mult) (fun x y H Q => ∃ (z : Str) (n : Int), x = .str z ∧ y = .int n ∧ 2 ≤ n ∧ n ≤ 1000 ∧ 1 ≤ z.length ∧ z.length ≤ 1000 ∧ PySem.Builtin.Str.tooLong (z.length * n.toNat) = false ∧
    (⟨(List.replicate n.toNat z.cps).foldl (· ++ ·) #[]⟩ : Str).length ≤ sizeLine ∧ Q (.str ⟨(List.replicate n.toNat z.cps).foldl (· ++ ·) #[]⟩) H) := by
  intro pins s σ H x y v u Q I rx ry h
  obtain ⟨z, n, rfl, rfl, h1, h2, h3, h4, h5, h6, q⟩ := h
  obtain ⟨t, rfl⟩ := (show ∃ t, v = Value.str z t from rx)
  obtain ⟨t', rfl⟩ := (show ∃ t, u = Value.int n t from ry)
  have e0 : ¬ n < 1 := by omega
  have e1 : (n == 1 || z.length == 0) = false := by
    rw [Bool.or_eq_false_iff]
    exact ⟨beq_eq_false_iff_ne.mpr (by omega), beq_eq_false_iff_ne.mpr (by omega)⟩
  refine PySem.P.mul_str (by
      rw [decide_eq_false (show ¬ n < -(2 ^ 63 : Int) by omega), decide_eq_false (show ¬ n ≥ 2 ^ 63 by omega)]; rfl) (fun _ _ => ?_) (fun _ _ => h5) ?_
  · have : (1000 : Int) ≤ (2 ^ 63 - 1) / n := by
      rw [Int.le_ediv_iff_mul_le (by omega)]
      omega
    omega
  · rw [if_neg e0, if_neg (by rw [e1]; exact Bool.false_ne_true)]
    exact ⟨h6, ⟨.str _, H, I.tok _, ⟨_, rfl⟩, q⟩⟩
end

/-! ### a list against the empty list -/
section
variable {X : Cx}
theorem isL {pins : List (Addr × Obj)} {σ : L2.St} {H : Hp} {s : Shared} {a : Addr} {xs : List V} (I : Inv X pins σ H s) (h : SqL X.K H a xs) : ∃ its : Array Value, its.size = xs.length ∧ s.heap.IsList a its := by
  obtain ⟨its, r, ⟨o, n, h1, h2, _, h4⟩, _⟩ := I.list h
  exact ⟨its.toArray, r.length.symm, o, h1, h2, n, h4⟩
theorem op_eqNil (hu : X.A.units < cLine) : OpR X (compareOp .Eq) (fun x y H Q => ∃ (a b : Addr) (xs : List V), x = .ref a ∧ y = .ref b ∧ SqL X.K H a xs ∧ SqL X.K H b [] ∧ Q (.bl xs.isEmpty) H) := by
  intro pins s σ H x y v u Q I rx ry h
  obtain ⟨a, b, xs, rfl, rfl, h1, h2, q⟩ := h
  cases (show v = Value.ref a from rx)
  cases (show u = Value.ref b from ry)
  obtain ⟨i1, z1, l1⟩ := isL I h1
  obtain ⟨i2, z2, l2⟩ := isL I h2
  cases xs with
  | nil =>
    have zz : i1.size = i2.size := by rw [z1, z2]
    refine PySem.SeqAt.eq_listAt (e := fun _ => true) l1 l2 zz hu (fun j h3 _ => ?_) ?_
    · rw [z1] at h3
      cases h3
    · rw [z1]
      exact ⟨.bl true, H, I, rfl, q⟩
  | cons y ys =>
    refine PySem.SeqAt.eq_list_lengthsAt l1 l2 ?_ hu ⟨.bl false, H, I, rfl, q⟩
    rw [z1, z2]
    rfl
end

/-! ### a call by keywords alone -/
/-- all parameters are given by name -/
def KB0 (K : PySem.W.Frag) (fd : FuncData) (ps : List Str) : Prop := ∀ (s : Shared) (ws : List Value), K.In s.heap → ws.length = ps.length → BindsTo s fd ⟨[], ps.zip ws⟩ (ps.zip ws)
def tCallK0 (sp : Sp) (tk : TA) : TE := fun σ H Q => tk σ H fun zs H1 => sp zs H1 Q E0
section
variable {X : Cx} {k : Nat} {f : Addr} {fd : FuncData} {ps : List Str} {sp : Sp} {x : Str} {p pos : Pos} {kws : List Keyword} {tk : TA}
theorem pe_callK0 (F : FnOk X.prog X.w X.K X.mg X.base CX0 k f fd ps sp) (hr : Room k X.A) (hg : Gl X x) (hm : X.mg x = some (.ref f)) (hk : PySem.W.keepIn X.K (.ref f) = true) (hb : KB0 X.K fd ps) (hkw : PK X kws tk)
    (hall : (backToKw pos (keywordEach kws X.env)).all (·.1.isSome) = true := by rfl) (hks : (backToKw pos (keywordEach kws X.env)).filterMap (·.1) = ps := by rfl) (hdb : (x == ("__debug__" : Str)) = false := by decide)
    (hpl : ((backTo pos (starEach [] X.env)).any (·.1) || (backToKw pos (keywordEach kws X.env)).any (·.1.isNone)) = false := by rfl) :
    PE X (.Call (.Name x p) [] kws pos) (tCallK0 sp tk) := by
  constructor
  intro pins s σ H Q I h
  apply wpAny_Call_Name_kw
  apply ld_glob I hg hm _ hdb
  apply PySem.W.callWith_KW0 (h₀ := X.base) I.ok.mod.kin hk hall _ hpl
  apply thn (hkw.run pos pins s σ H _ I h)
  rintro ws s2 ⟨zs, H2, I2, rz, q2⟩
  refine ⟨I2.kIn, ?_⟩
  have hl : ws.length = ps.length := rz.length.symm.trans (F.len _ _ _ _ q2)
  have go := F.run X.A X.stack s2 H2 ⟨[], ps.zip ws⟩ ws zs Q E0 hr I2.env0 (hb s2 ws I2.kIn hl) rz q2
  rw [hks]
  refine wpAny_call (codeAny_mono go fun r s' hq => ?_)
  match r, hq with
  | .error _, hq => exact False.elim hq
  | .ok (.ret _), hq => exact I2.after hq
  | .ok .next, hq => exact False.elim hq
  | .ok .brk, hq => exact False.elim hq
  | .ok .cont, hq => exact False.elim hq
end

/-! ### defs that may ask for a repr: no repr is under way -/
structure FnG (P : Program) (w : World) (K : PySem.W.Frag) (mg : Str → Option Value) (base : Heap) (k : Nat) (f : Addr) (fd : FuncData) (ps : List Str) (sp : Sp) : Prop where
  len : ∀ vs H Q E, sp vs H Q E → vs.length = ps.length
  run : ∀ (A : Around) (outer : List Env) (s : Shared) (H : Hp) (args : Args) (us : List Value) (vs : List V) (Q : VK) (E : XK), Room k A → A.guards = some [] → Env0 P w K mg base A outer s H →
    BindsTo s fd args (ps.zip us) → Vals vs us → sp vs H Q E → codeAny (model P w) A (.call (.ref f) args) (CR CX0 outer P w H s Q E) s
section
variable {P : Program} {w : World} {K : PySem.W.Frag} {mg : Str → Option Value} {base : Heap}
theorem Fun.okG {x qual : Str} {st : Stmt} {f : Addr} {fd : FuncData} {N ps : List Str} {k : Nat} {sp : Sp} (F : Fun K x qual st f fd) (S : FnScope N ps (defScope st)) (len : ∀ vs H Q E, sp vs H Q E → vs.length = ps.length)
    (hbody : ∀ (cdv : Value) (A : Around) (outer : List Env) (s : Shared) (H : Hp) (vs : List V) (Q : VK) (E : XK), Room k (A.deeper (envOfC qual (defScope st) s.heap.objs.size f cdv)) → A.guards = some [] → sp vs H Q E →
      ∃ t, PSs (cxOf CX0 P w K mg base N qual (defScope st) f cdv A outer s H E).nox (defBody st) t ∧ t { nx := fun _ H' => Q .non H', rt := Q } (start N vs) H) : FnG P w K mg base (k + 1) f fd ps sp := by
  obtain ⟨c0, d0, v0, e0, p0, n0, cv, t0, l0, rfl, hl0, hc0⟩ := F.ex
  constructor
  · exact len
  intro A outer s H args us vs Q E hr hgd en hb rv hsp
  have hlen := len _ _ _ _ hsp
  have hkept : ∀ b o, base.get? b = some o → s.heap.get? b = some o := fun b o e => (en.bs b o e).1
  have hK : K.In s.heap := en.mod.kin.keeps hkept
  have hlim : s.heap.NoLimit := en.mod.nolimit.keeps hkept
  have hpar : ∀ y ∈ ps.zip us, (defScope st).names.lookup y.1 = some .local ∨ ((defScope st).names.lookup y.1 = some .cell ∧ ((cellsFrom (s.heap.objs.size + 1) (defScope st).names []).lookup y.1).isSome = true) := by
    rintro ⟨n, v⟩ hy
    rcases S.par n (List.of_mem_zip hy).1 with q | q
    · exact Or.inl q
    · exact Or.inr ⟨q, PySem.W.cellsFrom_some _ _ _ (Or.inl q)⟩
  apply codeAny_call_function hr.depth (hK _ _ hl0) rfl S.co S.gen rfl (PySem.W.codeRec_of hK hc0)
  apply hb
  apply wpAny_newFunctionEnv_cells S.kind hpar
  rintro env he s1 inC
  subst he
  refine ⟨hlim.keeps inC.toInCall.keep, codeAny_func ?_⟩
  obtain ⟨t, ht, hq⟩ := hbody cv A outer s H vs Q E (hr.deeper _) hgd hsp
  have I := inv_start (CX := CX0) (E := E) S hr.hd en hlen rv inC
  refine wpAny_mono (ht.nox.run [] s1 (start N vs) H _ I hq) ?_ (fun _ _ z => z)
  intro fl s' hs
  match fl, hs with
  | .ret u, ⟨v, σ', H', J, r2, q⟩ => exact ⟨v, H', J.os, J.bare, J.base, J.hok, r2, q⟩
  | .next, ⟨σ', H', J, q⟩ => exact ⟨V.non, H', J.os, J.bare, J.base, J.hok, rfl, q⟩
  | .brk, ⟨_, _, _, q⟩ => exact False.elim q
  | .cont, ⟨_, _, _, q⟩ => exact False.elim q
end
section
variable {X : Cx} {k : Nat} {f : Addr} {fd : FuncData} {ps : List Str} {sp : Sp} {x : Str} {p pos : Pos} {e : Expr} {es : List Expr} {t : TA}
/-- f(e, ..) of such a def -/
theorem pe_callG (F : FnG X.prog X.w X.K X.mg X.base k f fd ps sp) (hgd : X.A.guards = some []) (hr : Room k X.A) (hg : Gl X x) (hm : X.mg x = some (.ref f)) (hk : PySem.W.keepIn X.K (.ref f) = true) (hb : Binds X.K fd ps []) (ha : PA X (e :: es) t)
    (hdb : (x == ("__debug__" : Str)) = false := by decide) (he : starEach (e :: es) X.env = (false, eval e X.env) :: starEach es X.env := by rfl) (hpl : (backTo pos (starEach es X.env)).any (·.1) = false := by rfl) :
    PE X (.Call (.Name x p) (e :: es) [] pos) (tCall sp [] E0 t) := by
  constructor
  intro pins s σ H Q I h
  apply wpAny_Call_Name_kw
  apply ld_glob I hg hm _ hdb
  refine PySem.W.callWith_K (h₀ := X.base) I.ok.mod.kin hk ?_ he hpl
  apply thn (ha.run pos pins s σ H _ I h)
  rintro us s1 ⟨vs, H1, I1, r, q⟩
  refine ⟨I1.kIn, ?_⟩
  have r2 : Vals (vs ++ []) (us ++ []) := r.append .nil
  have hl : (us ++ []).length = ps.length := by rw [← r2.length]; exact F.len _ _ _ _ q
  have go := F.run X.A X.stack s1 H1 ⟨us, []⟩ (us ++ []) (vs ++ []) Q E0 hr hgd I1.env0 (hb s1 us I1.kIn hl) r2 q
  refine wpAny_call (codeAny_mono go fun r s' hq => ?_)
  match r, hq with
  | .error _, hq => exact False.elim hq
  | .ok (.ret _), hq => exact I1.after hq
  | .ok .next, hq => exact False.elim hq
  | .ok .brk, hq => exact False.elim hq
  | .ok .cont, hq => exact False.elim hq
end

/-! ### a method called by keywords alone -/
def KM0 (K : PySem.W.Frag) (fd : FuncData) (ps : List Str) : Prop := ∀ (s : Shared) (u : Value) (ws : List Value), K.In s.heap → ws.length + 1 = ps.length → BindsTo s fd ⟨[u], (ps.drop 1).zip ws⟩ (ps.zip (u :: ws))
def tMethK0 (C : Addr) (m : Str) (sp : Sp) (ta : TE) (tk : TA) : TE := fun σ H Q => ta σ H fun x H1 => ∃ a dx fs, x = .ref a ∧ H1 a = some (.ins C dx fs) ∧ fs.lookup m = none ∧ tk σ H1 fun zs H2 => sp (x :: zs) H2 Q E0
section
variable {X : Cx} {k : Nat} {f C : Addr} {fd : FuncData} {ps : List Str} {sp : Sp} {m : Str} {apos pos : Pos} {o : Expr} {kws : List Keyword} {ta : TE} {tk : TA}
theorem pe_methK0 {pl : Sem Bool} (he : PE X o ta) (c : Cls X.K C) (hm : Meth X.K C m f) (F : FnOk X.prog X.w X.K X.mg X.base CX0 k f fd ps sp) (hr : Room k X.A) (hb : KM0 X.K fd ps) (hkw : PK X kws tk)
    (hall : (backToKw pos (keywordEach kws X.env)).all (·.1.isSome) = true := by rfl) (hks : (backToKw pos (keywordEach kws X.env)).filterMap (·.1) = ps.drop 1 := by rfl)
    (hpl : ((backTo pos (starEach [] X.env)).any (·.1) || (backToKw pos (keywordEach kws X.env)).any (·.1.isNone)) = false := by rfl)
    (ht : eval (.Call (.Attribute o m apos) [] kws pos) X.env = (do
      let ov ← eval o X.env
      standAt apos.atName
      let (f, first) ← holding [ov] (getMethod ov m pl)
      callWith pos f first (backTo pos (starEach [] X.env)) (backToKw pos (keywordEach kws X.env))) := by rfl) :
    PE X (.Call (.Attribute o m apos) [] kws pos) (tMethK0 C m sp ta tk) := by
  constructor
  intro pins s σ H Q I h
  apply PySem.W.methodCall_KW (pl := pl) _ ht
  apply thn (he.run pins s σ H _ I h)
  rintro u s1 ⟨x, H1, I1, rx, a, dx, fs, rfl, ea, l, q⟩
  have eu : u = Value.ref a := rx
  subst eu
  apply getmeth_ok I1 ea c hm l
  apply PySem.W.callWith_KW0 (h₀ := X.base) (first := [.ref a]) I1.ok.mod.kin hm.kp hall _ hpl
  apply thn (hkw.run pos pins s1 σ H1 _ I1 q)
  rintro ws s2 ⟨zs, H2, I2, rz, q2⟩
  refine ⟨I2.kIn, ?_⟩
  have hl : ws.length + 1 = ps.length := by
    rw [← rz.length]
    exact F.len _ _ _ _ q2
  have rz2 : Vals (V.ref a :: zs) (Value.ref a :: ws) := .cons rfl rz
  have go := F.run X.A X.stack s2 H2 ⟨[.ref a], (ps.drop 1).zip ws⟩ (.ref a :: ws) (.ref a :: zs) Q E0 hr I2.env0 (hb s2 (.ref a) ws I2.kIn hl) rz2 q2
  rw [hks]
  refine wpAny_call (codeAny_mono go fun r s' hq => ?_)
  match r, hq with
  | .error _, hq => exact False.elim hq
  | .ok (.ret _), hq => exact I2.after hq
  | .ok .next, hq => exact False.elim hq
  | .ok .brk, hq => exact False.elim hq
  | .ok .cont, hq => exact False.elim hq
end

/-! ### the end of a law whose def may ask for a repr -/
section
variable {P : Program} {w : World} {K : PySem.W.Frag} {mg mb : Str → Option Value} {k : Nat} {fa a : Addr} {fd : FuncData} {x : Str} {sp : Sp} {s₁ : Shared} {vs : List Value} {ns : List Int} {H : Hp}
/-- what is tracked is the script at most: the state at the law's call -/
theorem env_law (KX : K.In s₁.heap) (hns : s₁.heap.Ns mainGlobals mg) (hb : s₁.heap.Ns builtinsNs mb) (hbb : ∀ x : Str, x ≠ "__name__" → mb x = bootBuiltins x) (hlim : s₁.heap.NoLimit) (hg : s₁.gens = #[])
    (ha : s₁.heap.get? a = some { cls := .type "list", data := .seq vs.toArray }) (hA : ∀ b, H b ≠ none → b = a) (hK : H a ≠ none → K.lookup a = none) (hok : HOk P w H s₁.heap) :
    K.In (hidT s₁.heap H) ∧ (hidT s₁.heap H).Ns mainGlobals mg ∧ Env0 P w K mg (hidT s₁.heap H) callerA [] s₁ H := by
  have free : ∀ {b : Addr} {o : Obj}, s₁.heap.get? b = some o → (∀ es ep, o.data = .dict es ep → False) ∨ H b = none := by
    intro b o e
    by_cases hb : H b = none
    · exact Or.inr hb
    · left
      intro es ep hd
      have := hA b hb
      subst this
      rw [ha] at e
      cases e
      cases hd
  have nsOf : ∀ {b : Addr} {m : Str → Option Value}, s₁.heap.Ns b m → (hidT s₁.heap H).Ns b m := by
    rintro b m ⟨o, es, ep, e, hd, rest⟩
    rcases free e with z | z
    · exact (z es ep hd).elim
    · exact ⟨o, es, ep, hidT_get e z, hd, rest⟩
  have kIn : K.In (hidT s₁.heap H) := by
    intro b o e
    refine hidT_get (KX b o e) ?_
    by_cases hb : H b = none
    · exact hb
    · have := hA b hb
      subst this
      rw [hK hb] at e
      cases e
  have md : Mod K mg (hidT s₁.heap H) := by
    obtain ⟨mc, h1, h2⟩ := hlim
    exact ⟨kIn, nsOf hns, ⟨mb, nsOf hb, hbb⟩, ⟨mc, nsOf h1, h2⟩⟩
  refine ⟨kIn, nsOf hns, ⟨rfl, md, fun b o e => of_hidT e, Nat.le_of_eq (hidT_size _ _), trivial, ?_, hok, .of_eq hg⟩⟩
  intro b z
  cases (show b ∈ ([] : List Addr) from z)
/-- the law's own call -/
theorem law_callG (KX : K.In s₁.heap) (hns : s₁.heap.Ns mainGlobals mg) (hb : s₁.heap.Ns builtinsNs mb) (hbb : ∀ x : Str, x ≠ "__name__" → mb x = bootBuiltins x) (hlim : s₁.heap.NoLimit) (hg : s₁.gens = #[])
    (ha : s₁.heap.get? a = some { cls := .type "list", data := .seq vs.toArray }) (hi : IntsAre vs ns) (hl : ns.length ≤ sizeLine) (hr : Room k callerA)
    (F : ∀ base : Heap, K.In base → base.Ns mainGlobals mg → FnG P w K mg base k fa fd [x] sp) (hbind : ∀ (s : Shared) (u : Value), BindsTo s fd ⟨[u], []⟩ [(x, u)])
    (hsp : ∀ H : Hp, Only H → SqL K H a (ns.map V.int) → sp [.ref a] H (fun v _ => v = .bl true) fun _ _ _ => False) :
    codeAny (model P w) callerA (.call (.ref fa) ⟨[.ref a], []⟩) (fun r s' => r = .ok (.ret (.bool true)) ∧ OldK s₁.heap s'.heap ∧ s'.os = s₁.os ∧ AllBare s'.gens) s₁ := by
  have main : ∀ H : Hp, Only H → SqL K H a (ns.map V.int) → HOk P w H s₁.heap → (∀ b, H b ≠ none → b = a) → (H a ≠ none → K.lookup a = none) →
      codeAny (model P w) callerA (.call (.ref fa) ⟨[.ref a], []⟩) (fun r s' => r = .ok (.ret (.bool true)) ∧ OldK s₁.heap s'.heap ∧ s'.os = s₁.os ∧ AllBare s'.gens) s₁ := by
    intro H only seq hok hA hK
    obtain ⟨k1, k2, en⟩ := env_law KX hns hb hbb hlim hg ha hA hK hok
    have go := (F _ k1 k2).run callerA [] s₁ H ⟨[.ref a], []⟩ [.ref a] [.ref a] (fun v _ => v = .bl true) (fun _ _ _ => False) hr rfl en (hbind s₁ (.ref a)) (.cons rfl .nil) (hsp H only seq)
    refine codeAny_mono go fun r s' hq => ?_
    match r, hq with
    | .error _, hq => exact False.elim hq
    | .ok .next, hq => exact False.elim hq
    | .ok .brk, hq => exact False.elim hq
    | .ok .cont, hq => exact False.elim hq
    | .ok (.ret u), ⟨v, H', os, bare, un, hok', ru, ev⟩ =>
      have ev' : v = .bl true := ev
      subst ev'
      have eu : u = Value.bool true := ru
      subst eu
      refine ⟨rfl, OldK.of_keep ?_, os, bare⟩
      intro b o e
      rcases only b with z | ⟨ob, xs, z⟩
      · exact un.keep b o e z (by intro z2; cases (show b ∈ ([] : List Addr) from z2)) (by intro z2; cases z2)
      · have after := (hok' b _ (un.frzs b ob _ z)).1
        have ahead := (hok b _ z).1
        rw [e] at ahead
        cases ahead
        exact after
  have rv := vals_ints hi
  cases hk : K.lookup a with
  | some o =>
    have e := KX a o hk
    rw [ha] at e
    cases e
    refine main (fun _ => none) (fun _ => Or.inl rfl) (Or.inr ⟨_, vs.toArray, _, hk, rfl, rfl, rfl, ?_, ?_⟩) ?_ (fun b z => absurd rfl z) (fun z => absurd rfl z)
    · rw [List.size_toArray, hi.length]
      exact hl
    · simpa using rv
    · intro b u z
      cases (show (none : Option HO) = some u from z)
  | none =>
    let H0 : Hp := fun b => if b = a then some (.frz { cls := .type "list", data := .seq vs.toArray } (.lst (ns.map V.int))) else none
    have at0 : H0 a = some (.frz { cls := .type "list", data := .seq vs.toArray } (.lst (ns.map V.int))) := if_pos rfl
    have off : ∀ b, b ≠ a → H0 b = none := fun b h => if_neg h
    refine main H0 ?_ (Or.inl (Or.inr ⟨_, at0⟩)) ?_ ?_ (fun _ => hk)
    · intro b
      by_cases h : b = a
      · subst h
        exact Or.inr ⟨_, _, at0⟩
      · exact Or.inl (off b h)
    · intro b u z
      by_cases h : b = a
      · subst h
        rw [at0] at z
        cases z
        refine ⟨ha, ?_, vs, _, rv, ha⟩
        rw [List.length_map]
        exact hl
      · rw [off b h] at z
        cases z
    · intro b z
      by_cases h : b = a
      · exact h
      · exact absurd (off b h) z
end
/-- the goal that the head leaves, by the law's promise -/
theorem walk_ofG {l : PySem.W.OpenLaw} {n k : Nat} {q : Program} {loose : List Str} {XP : (Str → Option Value) → Heap → Prop} {YP : World → Heap → Prop} {d : DefRec} {K : Params → PySem.W.Frag} {sp : World → Sp} {x : Str}
    (hn : l.most = some n) (hn2 : n ≤ sizeLine) (hdf : d.params.defaults = []) (hr : Room k callerA) (hY : ∀ (w : World) (h : Heap), YP w h → (K w.params).In h)
    (F : ∀ (w : World) (mg : Str → Option Value) (fa : Addr) (h : Heap), (K w.params).In h → h.Ns mainGlobals mg → mg d.name = some (.ref fa) →
      ∃ fd : FuncData, (∀ (s : Shared) (u : Value), BindsTo s fd ⟨[u], []⟩ [(x, u)]) ∧ ∀ base : Heap, (K w.params).In base → base.Ns mainGlobals mg → FnG l.prog w (K w.params) mg base k fa fd [x] (sp w))
    (hsp : ∀ (w : World) (H : Hp) (a : Addr) (ns : List Int), ns.length ≤ n → Only H → SqL (K w.params) H a (ns.map V.int) → sp w [.ref a] H (fun v _ => v = .bl true) fun _ _ _ => False) :
    PySem.W.WalkO q loose XP YP l.row.toRowW d [] (fun f vs => PySem.call f vs) := by
  apply Att.attach_call hn hdf
  intro w s₀ s₁ mg mb fa o pm cd doc a vs ns G Y ho hd hcd hmg hobj hints hlen hgens
  obtain ⟨fd, hb, hF⟩ := F w mg fa _ (hY w _ Y) G.T.g hmg
  exact law_callG (hY w _ Y) G.T.g G.T.b G.T.builtins G.T.nolimit hgens hobj hints (Nat.le_trans hlen hn2) hr hF hb (fun H h1 h2 => hsp w H a ns hlen h1 h2)
end My
set_option Elab.async false
set_option linter.all false
set_option maxRecDepth 100000
/-! what does not hang on the text of a law: bags of numbers, plain texts, names, places, values, data that repr shows -/
namespace My
open PySem PySem.Spec PyProof.Rows L2
/-- the law's bag of numbers -/
def Bag (H : Hp) (b : Addr) : Prop := ∃ n m : Int, H b = some (.lst [.int n, .int m]) ∧ 0 ≤ n ∧ 0 ≤ m ∧ m < 2147483648
/-- only the bag may have changed -/
def Kept (b : Addr) (H H' : Hp) : Prop := ∀ x o, x ≠ b → H x = some o → H' x = some o
/-- two ways that go on alike -/
theorem ite_via {c A B C : Prop} [Decidable c] (ha : c → C → A) (hb : ¬ c → C → B) (h : C) : if c then A else B := by
  by_cases e : c
  · rw [if_pos e]; exact ha e h
  · rw [if_neg e]; exact hb e h
theorem same_new {H : Hp} {p : Addr} {o : HO} (h : H p = none) : Same H (upd H p o) := fun b x e => by
  rw [upd_ne (ne_of_none e h)]
  exact e
theorem Bag.same {H H' : Hp} {b : Addr} (h : Bag H b) (s : Same H H') : Bag H' b := by
  obtain ⟨n, m, e, r⟩ := h
  exact ⟨n, m, s _ _ e, r⟩
theorem cut_ints (ns : List Int) (lo hi : Option Int) : ∃ ms : List Int, cutV (ns.map V.int) lo hi = ms.map V.int ∧ ms.length ≤ ns.length := by
  refine ⟨(ns.drop (HT.sIx ns.length 0 lo)).take (HT.sIx ns.length ns.length hi - HT.sIx ns.length 0 lo), ?_, ?_⟩
  · unfold cutV
    rw [List.length_map, List.map_take, List.map_drop]
  · rw [List.length_take, List.length_drop]
    omega
/-! ### names, places, values -/
abbrev letters : Str := "abcdefghijklmnopqrstuvwxyz"
/-- a text of 1 to most of these signs -/
def madeOf (cs : Str) (most : Int) (z : Str) : Bool := decide (1 ≤ z.length) && (decide ((z.length : Int) ≤ most) && z.cps.toList.all fun c => decide (c ∈ cs.cps.toList))
def ofText (f : Str → Bool) : V → Bool
  | .str z => f z
  | _ => false
/-- what is asked about: a text of no great length, or no text at all -/
def Ask (K : PySem.W.Frag) (H : Hp) (v : V) : Prop := (∃ z, v = .str z ∧ z.length ≤ 1000) ∨ ((∀ f, ofText f v = false) ∧ ∃ t, TyX K H v (.type t) ∧ kitB t "str" = some false)
theorem Ask.text {K : PySem.W.Frag} {H : Hp} {z : Str} (h : z.length ≤ 1000) : Ask K H (.str z) := .inl ⟨z, rfl, h⟩
theorem len1000 {n : Nat} (h : n ≤ 1000) : n ≤ sizeLine := Nat.le_of_lt (small1000 h)
theorem take_all_map {α β : Type} (f : α → β) (l : List α) (i : Nat) (x : α) (h : l[i]? = some x) : (l.take (i + 1)).map f = (l.take i).map f ++ [f x] := by
  rw [List.take_add_one, h, List.map_append]
  rfl
def nameS : Str → Bool := madeOf letters 8
/-- the text up to the first dot and behind it -/
def dot : Str := "."
def placeS (z : Str) : Bool := nameS (Txt.partition z dot).1 && nameS (Txt.partition z dot).2.2
abbrev valueSigns : Str := letters ++ "0123456789" ++ "-"
def valueS (z : Str) : Bool := madeOf valueSigns 12 z && !Txt.startswith z "-"
theorem part_len (z : Str) : (Txt.partition z dot).1.length ≤ z.length ∧ (Txt.partition z dot).2.2.length ≤ z.length := ⟨(fact_partition z dot).1, (fact_partition z dot).2.2⟩
def oddL (cs : Str) (l : List Nat) : List Nat := l.filter fun c => !decide (c ∈ cs.cps.toList)
theorem oddL_len (cs : Str) (l : List Nat) : (oddL cs l).length ≤ l.length := List.length_filter_le _ _
theorem oddL_nil (cs : Str) (l : List Nat) : (oddL cs l).isEmpty = l.all fun c => decide (c ∈ cs.cps.toList) := by
  unfold oddL
  induction l with
  | nil => rfl
  | cons c r ih =>
    rw [List.filter_cons, List.all_cons]
    cases h : decide (c ∈ cs.cps.toList) with
    | false => rfl
    | true => rw [Bool.true_and, ← ih]; rfl
theorem oddL_take {cs : Str} {l : List Nat} {i c : Nat} (h : l[i]? = some c) : oddL cs (l.take (i + 1)) = oddL cs (l.take i) ++ (if (!decide (c ∈ cs.cps.toList)) = true then [c] else []) := by
  unfold oddL
  rw [List.take_add_one, h, List.filter_append]
  congr 1
  show List.filter _ [c] = _
  rw [List.filter_cons, List.filter_nil]
/-! ### a place by its first dot, and by all its dots -/
theorem name_free {a : Str} (h : nameS a = true) : 46 ∉ TL.tl a := by
  unfold nameS madeOf at h
  rw [Bool.and_eq_true, Bool.and_eq_true] at h
  intro hm
  have h2 := List.all_eq_true.mp h.2.2 46 hm
  exact absurd (of_decide_eq_true h2) (by decide)
theorem name_empty : nameS Str.empty = false := by decide
theorem tl_dot : TL.tl dot = 46 :: [] := by decide
/-- by all its dots -/
def placeL : List Str → Bool
  | [a, b] => nameS a && nameS b
  | _ => false
theorem place_of (z : Str) : placeS z = placeL (Txt.split z dot) := by
  have hd : dot = (⟨#[46]⟩ : Str) := by decide
  have two : ∀ p q : Str, Str.join dot [p, q] = p ++ dot ++ q := fun p q => rfl
  by_cases hp : placeS z = true
  · have h1 := hp
    unfold placeS at h1
    rw [Bool.and_eq_true] at h1
    rcases partition_whole z dot with ⟨e, _⟩ | ⟨i, e, _⟩
    · rw [e] at h1
      exact absurd h1.2 (by rw [name_empty]; exact Bool.false_ne_true)
    · have sum := PySem.StrLaws.partition_sum z dot
      have mid : (Txt.partition z dot).2.1 = dot := by rw [e]
      rw [mid] at sum
      have back := TL.split_join (y := dot) tl_dot (by decide +kernel) (parts := [(Txt.partition z dot).1, (Txt.partition z dot).2.2]) (by simp) (fun p hm => by
        rcases List.mem_cons.mp hm with rfl | hm
        · exact name_free h1.1
        · cases List.mem_singleton.mp hm
          exact name_free h1.2)
      rw [TL.join_eq, two, sum] at back
      rw [back, hp]
      show true = (nameS _ && nameS _)
      rw [h1.1, h1.2]
      rfl
  · have hf : placeS z = false := eq_false_of_ne_true hp
    rw [hf]
    cases hs : Txt.split z dot with
    | nil => rfl
    | cons p r =>
      cases r with
      | nil => rfl
      | cons q r2 =>
        cases r2 with
        | cons _ _ => rfl
        | nil =>
          have sum := PySem.StrLaws.join_split z dot
          rw [hs, two] at sum
          have fr := PySem.StrLaws.split_free z 46
          rw [← hd, hs] at fr
          have e := TL.partition_app (y := dot) tl_dot (a := p) (b := q) (fr p (List.mem_cons_self ..))
          rw [sum] at e
          unfold placeS at hf
          rw [e] at hf
          exact hf.symm
theorem split_short (z : Str) : ∀ a ∈ Txt.split z dot, a.length ≤ z.length := fun a h => part_short h
/-! ### values: the same signs in another order -/
abbrev lawSigns : Str := "0123456789-abcdefghijklmnopqrstuvwxyz"
theorem signs_iff (c : Nat) : c ∈ lawSigns.cps.toList ↔ c ∈ valueSigns.cps.toList := by
  have h1 : ∀ x ∈ lawSigns.cps.toList, x ∈ valueSigns.cps.toList := by decide
  have h2 : ∀ x ∈ valueSigns.cps.toList, x ∈ lawSigns.cps.toList := by decide
  exact ⟨h1 c, h2 c⟩
theorem value_of (z : Str) : valueS z = ((oddL lawSigns z.cps.toList).isEmpty && ((decide ((1 : Int) ≤ (z.length : Int)) && decide ((z.length : Int) ≤ 12)) && !Txt.startswith z "-")) := by
  rw [oddL_nil]
  unfold valueS madeOf
  have e : (z.cps.toList.all fun c => decide (c ∈ lawSigns.cps.toList)) = z.cps.toList.all fun c => decide (c ∈ valueSigns.cps.toList) := by
    congr 1
    funext c
    exact decide_eq_decide.mpr (signs_iff c)
  rw [e, show decide ((1 : Int) ≤ (z.length : Int)) = decide (1 ≤ z.length) from decide_eq_decide.mpr (by omega)]
  cases decide (1 ≤ z.length) <;> cases decide ((z.length : Int) ≤ 12) <;> cases (z.cps.toList.all fun c => decide (c ∈ valueSigns.cps.toList)) <;> cases Txt.startswith z "-" <;> rfl
def dueOf (v : V) : List V := [.bl (ofText nameS v), .bl (ofText placeS v), .bl (ofText valueS v)]
/-! ### texts of at most n plain signs -/
structure Plain (n : Nat) (z : Str) : Prop where
  len : z.length ≤ n
  small : ∀ c ∈ TL.tl z, c < 128
theorem Plain.mono {n m : Nat} {z : Str} (h : Plain n z) (l : n ≤ m) : Plain m z := ⟨Nat.le_trans h.len l, h.small⟩
theorem len_tl (z : Str) : z.length = (TL.tl z).length := rfl
theorem Plain.app {n m : Nat} {a b : Str} (h : Plain n a) (g : Plain m b) : Plain (n + m) (a ++ b) := by
  have h1 := h.len
  have h2 := g.len
  refine ⟨?_, ?_⟩
  · rw [len_tl] at h1 h2 ⊢
    rw [TL.tl_append, List.length_append]
    omega
  · intro c hc
    rw [TL.tl_append] at hc
    rcases List.mem_append.mp hc with x | x
    · exact h.small c x
    · exact g.small c x
theorem Plain.cut {n : Nat} {z : Str} (h : Plain n z) (lo hi : Option Int) : Plain n (cutS z lo hi) := by
  have h1 := h.len
  constructor
  · rw [len_tl] at h1 ⊢
    show ((List.take _ (List.drop _ z.cps.toList)).toArray.toList).length ≤ n
    rw [List.length_take, List.length_drop]
    have : z.cps.toList.length = (TL.tl z).length := rfl
    omega
  · intro c hc
    have hc : c ∈ List.take (HT.sIx z.length z.length hi - HT.sIx z.length 0 lo) (List.drop (HT.sIx z.length 0 lo) z.cps.toList) := hc
    exact h.small c (List.mem_of_mem_drop (List.mem_of_mem_take hc))
theorem plain_joinL : ∀ {l : List Str}, (∀ y ∈ l, Plain 1 y) → (TL.joinL [] (l.map TL.tl)).length ≤ l.length ∧ ∀ c ∈ TL.joinL [] (l.map TL.tl), c < 128
  | [], _ => ⟨Nat.le_refl _, fun _ h => by cases h⟩
  | [y], h => ⟨(h y (by simp)).len, (h y (by simp)).small⟩
  | y :: y2 :: r, h => by
    have ih := plain_joinL (l := y2 :: r) fun z hz => h z (List.mem_cons_of_mem _ hz)
    have h1 := (h y (by simp)).len
    have h2 := (h y (by simp)).small
    show (TL.tl y ++ ([] ++ TL.joinL [] ((y2 :: r).map TL.tl))).length ≤ _ ∧ ∀ c ∈ TL.tl y ++ ([] ++ TL.joinL [] ((y2 :: r).map TL.tl)), c < 128
    rw [List.nil_append]
    constructor
    · rw [List.length_append, List.length_cons]
      have := ih.1
      rw [len_tl] at h1
      omega
    · intro c hc
      rcases List.mem_append.mp hc with x | x
      · exact h2 c x
      · exact ih.2 c x
theorem plain_join {l : List Str} (h : ∀ y ∈ l, Plain 1 y) : Plain l.length (Txt.join "" l) := by
  have e : TL.tl (Txt.join "" l) = TL.joinL [] (l.map TL.tl) := by rw [TL.join_eq, TL.tl_join]; rfl
  have q := plain_joinL h
  rw [← e] at q
  exact ⟨q.1, q.2⟩
theorem mem_joinL {S : List Nat} {c : Nat} {p : List Nat} : ∀ {ps : List (List Nat)}, p ∈ ps → c ∈ p → c ∈ TL.joinL S ps
  | [q], h, hc => by
    cases List.mem_singleton.mp h
    exact hc
  | q :: q2 :: r, h, hc => by
    show c ∈ q ++ (S ++ TL.joinL S (q2 :: r))
    rcases List.mem_cons.mp h with rfl | h
    · exact List.mem_append_left _ hc
    · exact List.mem_append_right _ (List.mem_append_right _ (mem_joinL h hc))
theorem Plain.part {n : Nat} {z a : Str} (h : Plain n z) (ha : a ∈ Txt.split z dot) : Plain n a := by
  refine ⟨Nat.le_trans (split_short z a ha) h.len, fun c hc => h.small c ?_⟩
  have e := PySem.StrLaws.join_split z dot
  rw [← e, TL.tl_join]
  exact mem_joinL (List.mem_map_of_mem ha) hc
theorem sum_len {l : List Str} (h : ∀ y ∈ l, Plain 1 y) : (l.map (·.length)).sum ≤ l.length := by
  induction l with
  | nil => exact Nat.le_refl _
  | cons y r ih =>
    have h1 := (h y (by simp)).len
    have h2 := ih fun z hz => h z (List.mem_cons_of_mem _ hz)
    rw [List.map_cons, List.sum_cons, List.length_cons]
    omega
/-! ### heaps of which the bag may have changed -/
theorem Kept.refl (b : Addr) (H : Hp) : Kept b H H := fun _ _ _ h => h
theorem Kept.trans {b : Addr} {H H1 H2 : Hp} (a : Kept b H H1) (c : Kept b H1 H2) : Kept b H H2 := fun x o h e => c x o h (a x o h e)
theorem Kept.same {b : Addr} {H H' : Hp} (h : Same H H') : Kept b H H' := fun x o _ e => h x o e
theorem Kept.new {b : Addr} {H : Hp} {p : Addr} {o : HO} (h : H p = none) : Kept b H (upd H p o) := Kept.same (same_new h)
theorem Kept.at {b : Addr} {H : Hp} {o : HO} : Kept b H (upd H b o) := fun x o h e => by
  rw [upd_ne h]
  exact e
theorem Bag.at {H : Hp} {b : Addr} {n m : Int} (n0 : 0 ≤ n) (m0 : 0 ≤ m) (m1 : m < 2147483648) : Bag (upd H b (.lst [.int n, .int m])) b := ⟨n, m, upd_same, n0, m0, m1⟩
theorem Bag.ne {H : Hp} {b p : Addr} (h : Bag H b) (hp : H p = none) : p ≠ b := by
  obtain ⟨n, m, e, _⟩ := h
  exact (ne_of_none e hp).symm
theorem Bag.new {H : Hp} {b p : Addr} {o : HO} (h : Bag H b) (hp : H p = none) : Bag (upd H p o) b := h.same (same_new hp)
theorem Kept.free {b p : Addr} {H H' : Hp} (k : Kept b H H') (hb : Bag H' b) (h : H' p = none) : H p = none := by
  have ne := hb.ne h
  cases e : H p with
  | none => rfl
  | some o =>
    rw [k p o ne e] at h
    cases h
/-- a comprehension of drawn texts of one sign -/
theorem lc_draw {n i : Nat} {te : TE} {vs : List Nat} {σ : L2.St} {H1 : Hp} {D b : Addr} {Qd : Hp → Prop} (hb : Bag H1 b) (nD : H1 D = none) (hn : n ≤ 1000) (hσ : ∀ x, wipe ((wipe σ vs).set i (some x)) vs = wipe σ vs)
    (hte : ∀ (x : V) (H3 : Hp) (Q' : V → Hp → Prop), Bag H3 b → (∀ y H4, Plain 1 y → Kept b H3 H4 → Bag H4 b → Q' (.str y) H4) → te ((wipe σ vs).set i (some x)) H3 Q')
    (hd : ∀ (ys : List Str) (H3 : Hp), ys.length = n → (∀ y ∈ ys, Plain 1 y) → Kept b H1 H3 → Bag H3 b → H3 D = some (.lst (ys.map V.str)) → Qd H3) :
    ∃ W : Nat → Nat → Hp → Prop, (∃ m, W 0 m (upd H1 D (.lst []))) ∧ ∀ j m H, W j m H →
      ((Itr 0 n).stop j H ∧ Qd H) ∨ ((Itr 0 n).go j H ∧ ∃ Nx : Hp → Prop, (∀ H', Nx H' → ∃ m', m' < m ∧ W (j + 1) m' H') ∧ ∀ x H', (Itr 0 n).yld j H x H' → gName i x (wipe σ vs) H' fun σ2 H2 => wipe σ2 vs = wipe σ vs ∧ tYes σ2 H2 fun c H3 =>
        if c = true then te σ2 H3 fun y H4 => ∃ acc, H4 D = some (.lst acc) ∧ acc.length < sizeLine ∧ Nx (upd H4 D (.lst (acc ++ [y]))) else Nx H3) := by
  refine lc_it walk_range (fun j H3 => ∃ ys : List Str, ys.length = j ∧ (∀ y ∈ ys, Plain 1 y) ∧ Kept b H1 H3 ∧ Bag H3 b ∧ H3 D = some (.lst (ys.map V.str))) ?_ (fun _ _ _ _ => trivial) ?_ ?_
  · exact ⟨[], rfl, (fun _ h => by cases h), Kept.new nD, hb.new nD, upd_same⟩
  · rintro j x H3 H4 hj ⟨ys, l, hp, k, hb3, d3⟩ ⟨rfl, rfl⟩
    refine ⟨hσ _, ?_⟩
    simp only [tYes, if_true]
    refine hte _ _ _ hb3 fun y H5 hy k5 b5 => ?_
    have nDb : D ≠ b := hb.ne nD
    have d5 := k5 D _ nDb d3
    refine ⟨_, d5, ?_, ys ++ [y], ?_, ?_, ?_, ?_, ?_⟩
    · rw [List.length_map]
      exact small1000 (by omega)
    · rw [List.length_append, l]
      rfl
    · intro z hz
      rcases List.mem_append.mp hz with x | x
      · exact hp z x
      · cases List.mem_singleton.mp x
        exact hy
    · intro x o hx e
      rw [upd_ne (ne_of_none e nD)]
      exact (k.trans k5) x o hx e
    · obtain ⟨n5, m5, e5, r5⟩ := b5
      exact ⟨n5, m5, by rw [upd_ne nDb.symm]; exact e5, r5⟩
    · rw [upd_same, List.map_append]
      rfl
  · rintro H3 ⟨ys, l, hp, k, hb3, d3⟩
    exact hd ys H3 l hp k hb3 d3
theorem plain_all {n : Nat} {cs : List Str} (h : (cs.all fun y => decide (y.length ≤ n) && y.cps.toList.all fun c => decide (c < 128)) = true) : ∀ y ∈ cs, Plain n y := fun y hy => by
  have h1 := List.all_eq_true.mp h y hy
  rw [Bool.and_eq_true] at h1
  exact ⟨of_decide_eq_true h1.1, fun c hc => of_decide_eq_true (List.all_eq_true.mp h1.2 c hc)⟩
/-! ### things that are asked about -/
/-- data that repr can show -/
structure Shows (d : PyData) : Prop where
  s : d.showable = true
  n : d.hasDict = false
  p : d.depth ≤ 8
  z : d.shown.length ≤ sizeLine
def Thing (K : PySem.W.Frag) (H : Hp) (v : V) : Prop := Ask K H v ∧ ∃ d, Dp K H v d ∧ Shows d
theorem shows_str {n : Nat} {z : Str} (h : Plain n z) (hn : n ≤ 1000) : Shows (.str z) := by
  refine ⟨rfl, rfl, Nat.zero_le _, ?_⟩
  have h1 := PySem.StrLaws.reprText_len z fun c hc => Nat.lt_trans (h.small c hc) (by decide)
  have h2 := h.len
  have h3 : (100000 : Nat) ≤ sizeLine := by decide
  show (reprText z).length ≤ sizeLine
  omega
theorem texts_show {l : List Str} (h : ∀ y ∈ l, Plain 50 y) : PyData.showableAll (l.map .str) = true ∧ PyData.hasDictAll (l.map .str) = false ∧ PyData.depthAll (l.map .str) = 0 ∧ PyData.leavesShortAll 8 (l.map .str) = true ∧ PyData.bulkAll (l.map .str) ≤ 51 * l.length := by
  induction l with
  | nil => exact ⟨rfl, rfl, rfl, rfl, Nat.le_refl _⟩
  | cons y r ih =>
    obtain ⟨h1, h2, h3, h4, h5⟩ := ih fun z hz => h z (List.mem_cons_of_mem _ hz)
    have hy := h y (by simp)
    have hl := hy.len
    refine ⟨?_, ?_, ?_, ?_, ?_⟩
    · show (true && PyData.showableAll (r.map .str)) = true
      rw [h1]; rfl
    · show (false || PyData.hasDictAll (r.map .str)) = false
      rw [h2]; rfl
    · show max 0 (PyData.depthAll (r.map .str)) = 0
      rw [h3]; rfl
    · show ((PyData.str y).leavesShort 8 && PyData.leavesShortAll 8 (r.map .str)) = true
      rw [h4, Bool.and_true]
      have : ∀ c ∈ y.cps.toList, c < 16 ^ 8 := fun c hc => Nat.lt_trans (hy.small c hc) (by decide)
      simpa only [PyData.leavesShort, List.all_eq_true, decide_eq_true_eq] using this
    · show y.cps.size + 1 + PyData.bulkAll (r.map .str) ≤ 51 * (r.length + 1)
      have : y.length = y.cps.size := rfl
      omega
theorem shows_list {l : List Str} (h : ∀ y ∈ l, Plain 50 y) (hl : l.length ≤ 1000) : Shows (.list (l.map .str)) := by
  obtain ⟨h1, h2, h3, h4, h5⟩ := texts_show h
  refine ⟨h1, h2, by show PyData.depthAll (l.map .str) + 1 ≤ 8; omega, ?_⟩
  have b := PyData.shown_le_bulk 8 (by decide) (.list (l.map .str)) h4
  have e : (PyData.list (l.map .str)).bulk = PyData.bulkAll (l.map .str) := rfl
  have h6 : (1000000 : Nat) ≤ sizeLine := by decide
  rw [e] at b
  omega
theorem shows_tuple {l : List Str} (h : ∀ y ∈ l, Plain 50 y) (hl : l.length ≤ 1000) : Shows (.tuple (l.map .str)) := by
  obtain ⟨h1, h2, h3, h4, h5⟩ := texts_show h
  refine ⟨h1, h2, by show PyData.depthAll (l.map .str) + 1 ≤ 8; omega, ?_⟩
  have b := PyData.shown_le_bulk 8 (by decide) (.tuple (l.map .str)) h4
  have e : (PyData.tuple (l.map .str)).bulk = PyData.bulkAll (l.map .str) := rfl
  have h6 : (1000000 : Nat) ≤ sizeLine := by decide
  rw [e] at b
  omega
theorem dp_strs {K : PySem.W.Frag} {H : Hp} : ∀ l : List Str, DpAll K H (l.map V.str) (l.map .str)
  | [] => .nil
  | y :: r => .cons (.str y) (dp_strs r)
section
variable {K : PySem.W.Frag} {H H' : Hp} {v : V}
mutual
theorem Dp.same (s : Same H H') : ∀ {v : V} {d : PyData}, Dp K H v d → Dp K H' v d
  | _, _, .non => .non
  | _, _, .bl b => .bl b
  | _, _, .int i => .int i
  | _, _, .str x => .str x
  | _, _, .lst h a => .lst (s.seq h) (DpAll.same s a)
  | _, _, .tup h a => .tup (by
      rcases h with (h | ⟨o, h⟩) | h
      · exact .inl (.inl (s _ _ h))
      · exact .inl (.inr ⟨o, s _ _ h⟩)
      · exact .inr h) (DpAll.same s a)
theorem DpAll.same (s : Same H H') : ∀ {vs : List V} {ds : List PyData}, DpAll K H vs ds → DpAll K H' vs ds
  | _, _, .nil => .nil
  | _, _, .cons h a => .cons (Dp.same s h) (DpAll.same s a)
end
end
/-- a kind that is told by values that stand in the heap, or by the value alone -/
inductive Kind (H : Hp) : V → String → Prop where
  | non : Kind H .non "NoneType"
  | bl (b : Bool) : Kind H (.bl b) "bool"
  | int (i : Int) : Kind H (.int i) "int"
  | lst {a : Addr} {xs : List V} (e : H a = some (.lst xs)) : Kind H (.ref a) "list"
  | tup {a : Addr} {xs : List V} (e : H a = some (.tup xs)) : Kind H (.ref a) "tuple"
theorem Kind.ask {K : PySem.W.Frag} {H : Hp} {v : V} {t : String} (k : Kind H v t) : Ask K H v := by
  cases k with
  | non => exact .inr ⟨fun _ => rfl, _, .base .non, by decide +kernel⟩
  | bl b => exact .inr ⟨fun _ => rfl, _, .base (.bl b), by decide +kernel⟩
  | int i => exact .inr ⟨fun _ => rfl, _, .base (.int i), by decide +kernel⟩
  | lst e => exact .inr ⟨fun _ => rfl, _, .base (.lst e), by decide +kernel⟩
  | tup e => exact .inr ⟨fun _ => rfl, _, .base (.tup e), by decide +kernel⟩
/-- asked about again, behind more -/
def Ask' (K : PySem.W.Frag) (H : Hp) (v : V) : Prop := (∃ z, v = .str z ∧ z.length ≤ 1000) ∨ ∃ t, Kind H v t
theorem Ask'.ask {K : PySem.W.Frag} {H : Hp} {v : V} (h : Ask' K H v) : Ask K H v := by
  rcases h with h | ⟨t, h⟩
  · exact .inl h
  · exact h.ask
theorem Ask'.same {K : PySem.W.Frag} {H H' : Hp} {v : V} (h : Ask' K H v) (s : Same H H') : Ask' K H' v := by
  rcases h with h | ⟨t, h⟩
  · exact .inl h
  · cases h with
    | non => exact .inr ⟨_, .non⟩
    | bl b => exact .inr ⟨_, .bl b⟩
    | int i => exact .inr ⟨_, .int i⟩
    | lst e => exact .inr ⟨_, .lst (s _ _ e)⟩
    | tup e => exact .inr ⟨_, .tup (s _ _ e)⟩
theorem step_new {H : Hp} {b p : Addr} {o : HO} (hb : Bag H b) (np : H p = none) : ∃ H2, upd H p o = H2 ∧ H2 p = some o ∧ Kept b H H2 ∧ Bag H2 b ∧ p ≠ b :=
  ⟨_, rfl, upd_same, Kept.new np, hb.new np, hb.ne np⟩
def Held (K : PySem.W.Frag) (p a : Addr) (xs : List V) (H : Hp) : Prop := SqL K H a xs ∧ ∀ H', Kept p H H' → SqL K H' a xs
theorem held_of {K : PySem.W.Frag} {H H1 : Hp} {p a : Addr} {xs : List V} (h : SqL K H a xs) (s : Same H H1) (np : H p = none) : ∀ H', Kept p H1 H' → SqL K H' a xs := by
  intro H' k
  rcases h with (h | ⟨o, h⟩) | h
  · exact .inl (.inl (k _ _ (ne_of_none h np) (s _ _ h)))
  · exact .inl (.inr ⟨o, k _ _ (ne_of_none h np) (s _ _ h)⟩)
  · exact .inr h
end My
set_option Elab.async false
set_option linter.all false
set_option maxRecDepth 100000
/-! files of settings: what their lines are worth, and how such a file stands in the heap -/
namespace My
open PySem PySem.Spec PyProof.Rows L2
abbrev digits : Str := "0123456789"
abbrev markS : Str := "#~"
abbrev eqS : Str := " = "
abbrev spaceS : Str := " "
def relW (z : Str) : Bool := madeOf digits 2 z && (decide (z = "0") || !Txt.startswith z "0")
def looseS (z : Str) : Bool := decide (z = "") || (Txt.startswith z "#" && !Txt.startswith z markS)
def headOf (z : Str) : Str := cutS z (some 1) (some (-1))
def headS (z : Str) : Bool := Txt.startswith z "[" && (Txt.endswith z "]" && nameS (headOf z))
def setS (z : Str) : Option (Str × Str) := if (nameS (Txt.partition z eqS).1 && valueS (Txt.partition z eqS).2.2) = true then some ((Txt.partition z eqS).1, (Txt.partition z eqS).2.2) else none
def intOf (z : Str) : Int := (PySem.intText? z).getD 0
abbrev kp1 (z : Str) := Txt.partition z spaceS
abbrev kp2 (z : Str) := Txt.partition (kp1 z).2.2 spaceS
abbrev kp3 (z : Str) := Txt.partition (kp2 z).2.2 eqS
def keptS (z : Str) : Option (Int × Str × Option Str) :=
  if (decide ((kp1 z).1 = markS) && (relW (kp2 z).1 && placeS (kp3 z).1)) = true then
    (if (kp3 z).2.1 = "" then some (intOf (kp2 z).1, (kp3 z).1, none) else if valueS (kp3 z).2.2 = true then some (intOf (kp2 z).1, (kp3 z).1, some (kp3 z).2.2) else none)
  else none
theorem int_of_rel {z : Str} (h : relW z = true) : PySem.intText? z = some (intOf z) ∧ z.length ≤ 640 := by
  unfold relW madeOf at h
  simp only [Bool.and_eq_true, decide_eq_true_eq] at h
  obtain ⟨⟨h1, h2, h3⟩, _⟩ := h
  have hall : ∀ c ∈ z.cps.toList, c ∈ digits.cps.toList := fun c hc => of_decide_eq_true (List.all_eq_true.mp h3 c hc)
  refine ⟨?_, by omega⟩
  have key : (PySem.intText? z).isSome = true := by
    obtain ⟨cps⟩ := z
    have hl : cps.toList.length = (⟨cps⟩ : Str).length := rfl
    have e : cps = cps.toList.toArray := by simp
    rw [e]
    have hall' : ∀ c ∈ cps.toList, c ∈ digits.cps.toList := hall
    generalize cps.toList = l at *
    match l, hl, hall' with
    | [], hl, _ => simp at hl; omega
    | [a], _, ha =>
      have all1 : ∀ a ∈ digits.cps.toList, (PySem.intText? ⟨[a].toArray⟩).isSome = true := by decide +kernel
      exact all1 a (ha a (by simp))
    | [a, b], _, ha =>
      have all2 : ∀ a ∈ digits.cps.toList, ∀ b ∈ digits.cps.toList, (PySem.intText? ⟨[a, b].toArray⟩).isSome = true := by decide +kernel
      exact all2 a (ha a (by simp)) b (ha b (by simp))
    | _ :: _ :: _ :: r, hl, _ => simp at hl; omega
  unfold intOf
  obtain ⟨n, hn⟩ := Option.isSome_iff_exists.mp key
  rw [hn]
  rfl
/-- what is known of the lines that were read -/
structure FS where
  headers : List Str
  settings : List (Str × Str)
  kept : List ((Int × Str) × Option Str)
  blocks : List (Str × List Str)
  loose : List Str
  deriving DecidableEq
def fs0 : FS := ⟨[], [], [], [], []⟩
/-- one line; none where the text is no file -/
def stepF (fs : FS) (z : Str) : Option FS :=
  if looseS z = true then some { fs with loose := fs.loose ++ [z] }
  else if Txt.startswith z markS = true then
    (match keptS z with
    | none => none
    | some (r, p, v) => if (r, p) ∈ fs.kept.map (·.1) then none else some { fs with kept := fs.kept ++ [((r, p), v)] })
  else if headS z = true then
    (if headOf z ∈ fs.headers then none else some { fs with headers := fs.headers ++ [headOf z], blocks := fs.blocks ++ [(headOf z, fs.loose)], loose := [] })
  else (match setS z with
    | none => none
    | some (k, v) => (match fs.headers.getLast? with
      | none => none
      | some h => if h ++ "." ++ k ∈ fs.settings.map (·.1) then none else some { fs with settings := fs.settings ++ [(h ++ "." ++ k, v)], blocks := fs.blocks ++ [(h ++ "." ++ k, fs.loose)], loose := [] }))
def runF : FS → List Str → Option FS
  | fs, [] => some fs
  | fs, z :: r => (stepF fs z).bind fun fs' => runF fs' r
theorem runF_app (fs : FS) (a b : List Str) : runF fs (a ++ b) = (runF fs a).bind fun fs' => runF fs' b := by
  induction a generalizing fs with
  | nil => rfl
  | cons z r ih =>
    show (stepF fs z).bind (fun fs' => runF fs' (r ++ b)) = ((stepF fs z).bind fun fs' => runF fs' r).bind fun fs' => runF fs' b
    cases stepF fs z with
    | none => rfl
    | some fs' => exact ih fs'
/-- names, places: no block's name is met twice -/
structure FsOk (fs : FS) : Prop where
  hn : ∀ h ∈ fs.headers, nameS h = true
  sd : ∀ p ∈ fs.settings.map (·.1), 46 ∈ TL.tl p
  bk : ∀ p ∈ fs.blocks.map (·.1), p ∈ fs.headers ∨ p ∈ fs.settings.map (·.1)
theorem fs0_ok : FsOk fs0 := ⟨by simp [fs0], by simp [fs0], by simp [fs0]⟩
theorem dot_in (h k : Str) : 46 ∈ TL.tl (h ++ "." ++ k) := by
  rw [TL.tl_append, TL.tl_append]
  exact List.mem_append_left _ (List.mem_append_right _ (by decide))
theorem FsOk.newHead {fs : FS} (o : FsOk fs) {n : Str} (hn : nameS n = true) (h : n ∉ fs.headers) : n ∉ fs.blocks.map (·.1) := fun hb => by
  rcases o.bk n hb with x | x
  · exact h x
  · exact name_free hn (o.sd n x)
theorem FsOk.newPlace {fs : FS} (o : FsOk fs) {p : Str} (hd : 46 ∈ TL.tl p) (h : p ∉ fs.settings.map (·.1)) : p ∉ fs.blocks.map (·.1) := fun hb => by
  rcases o.bk p hb with x | x
  · exact name_free (o.hn p x) hd
  · exact h x
theorem FsOk.step {fs fs' : FS} {z : Str} (o : FsOk fs) (h : stepF fs z = some fs') : FsOk fs' := by
  unfold stepF at h
  split at h
  · cases h
    exact ⟨o.hn, o.sd, o.bk⟩
  split at h
  · split at h
    · cases h
    · split at h
      · cases h
      · cases h
        exact ⟨o.hn, o.sd, o.bk⟩
  split at h
  · rename_i hh
    split at h
    · cases h
    · cases h
      have hn : nameS (headOf z) = true := by
        unfold headS at hh
        simp only [Bool.and_eq_true] at hh
        exact hh.2.2
      refine ⟨?_, o.sd, ?_⟩
      · intro x hx
        rcases List.mem_append.mp hx with x2 | x2
        · exact o.hn x x2
        · cases List.mem_singleton.mp x2
          exact hn
      · intro p hp
        rw [List.map_append] at hp
        rcases List.mem_append.mp hp with x2 | x2
        · rcases o.bk p x2 with y | y
          · exact .inl (List.mem_append_left _ y)
          · exact .inr y
        · cases List.mem_singleton.mp x2
          exact .inl (List.mem_append_right _ (List.mem_singleton.mpr rfl))
  split at h
  · cases h
  split at h
  · cases h
  split at h
  · cases h
  · cases h
    refine ⟨o.hn, ?_, ?_⟩
    · intro p hp
      rw [List.map_append] at hp
      rcases List.mem_append.mp hp with x2 | x2
      · exact o.sd p x2
      · cases List.mem_singleton.mp x2
        exact dot_in _ _
    · intro p hp
      rw [List.map_append] at hp
      rcases List.mem_append.mp hp with x2 | x2
      · rcases o.bk p x2 with y | y
        · exact .inl y
        · exact .inr (by rw [List.map_append]; exact List.mem_append_left _ y)
      · cases List.mem_singleton.mp x2
        refine .inr ?_
        rw [List.map_append]
        exact List.mem_append_right _ (List.mem_singleton.mpr rfl)
/-! ### the heap -/
def optV : Option Str → V
  | none => .non
  | some v => .str v
def flds1 (t : Str) : List (Str × V) := putF "text" (.str t) []
def flds2 (t : Str) (r : Addr) : List (Str × V) := putF "rows" (.ref r) (flds1 t)
def flds3 (t : Str) (r h : Addr) : List (Str × V) := putF "headers" (.ref h) (flds2 t r)
def flds4 (t : Str) (r h s : Addr) : List (Str × V) := putF "settings_read" (.ref s) (flds3 t r h)
def flds5 (t : Str) (r h s k : Addr) : List (Str × V) := putF "kept_read" (.ref k) (flds4 t r h s)
def flds6 (t : Str) (r h s k b : Addr) : List (Str × V) := putF "blocks" (.ref b) (flds5 t r h s k)
def flds (t : Str) (r h s k b l : Addr) : List (Str × V) := putF "loose" (.ref l) (flds6 t r h s k b)
theorem putF_same (f : Str) (u v : V) : ∀ fs : List (Str × V), putF f v (putF f u fs) = putF f v fs
  | [] => by
    show (if f = f then [(f, v)] else _) = [(f, v)]
    rw [if_pos rfl]
  | (g, x) :: r => by
    show putF f v (if g = f then (g, u) :: r else (g, x) :: putF f u r) = if g = f then (g, v) :: r else (g, x) :: putF f v r
    by_cases e : g = f
    · rw [if_pos e, if_pos e]
      show (if g = f then (g, v) :: r else _) = _
      rw [if_pos e]
    · rw [if_neg e, if_neg e]
      show (if g = f then _ else (g, x) :: putF f v (putF f u r)) = _
      rw [if_neg e, putF_same f u v r]
theorem flds_reloose (t : Str) (r h s k b l l' : Addr) : putF "loose" (.ref l') (flds t r h s k b l) = flds t r h s k b l' := putF_same _ _ _ _
theorem putF_len (f : Str) (v : V) : ∀ fs : List (Str × V), (putF f v fs).length ≤ fs.length + 1
  | [] => Nat.le_refl _
  | (g, x) :: r => by
    show (if g = f then (g, v) :: r else (g, x) :: putF f v r).length ≤ _
    split
    · simp
    · have := putF_len f v r
      simp only [List.length_cons]
      omega
theorem flds_len (t : Str) (r h s k b l : Addr) : (flds t r h s k b l).length < 1000 := by
  have h1 := putF_len "text" (.str t) []
  have h2 := putF_len "rows" (.ref r) (flds1 t)
  have h3 := putF_len "headers" (.ref h) (flds2 t r)
  have h4 := putF_len "settings_read" (.ref s) (flds3 t r h)
  have h5 := putF_len "kept_read" (.ref k) (flds4 t r h s)
  have h6 := putF_len "blocks" (.ref b) (flds5 t r h s k)
  have h7 := putF_len "loose" (.ref l) (flds6 t r h s k b)
  unfold flds
  unfold flds6 at h7 ⊢
  unfold flds5 at h6 h7 ⊢
  unfold flds4 at h5 h6 h7 ⊢
  unfold flds3 at h4 h5 h6 h7 ⊢
  unfold flds2 at h3 h4 h5 h6 h7 ⊢
  unfold flds1 at h2 h3 h4 h5 h6 h7 ⊢
  simp only [List.length_nil] at h1
  omega
section
variable (t : Str) (r h s k b l : Addr)
theorem f_loose : (flds t r h s k b l).lookup ("loose" : Str) = some (V.ref l) := by unfold flds; rw [lookup_putF, if_pos rfl]
theorem f_blocks : (flds t r h s k b l).lookup ("blocks" : Str) = some (V.ref b) := by
  unfold flds flds6
  rw [lookup_putF, if_neg (by decide +kernel), lookup_putF, if_pos rfl]
theorem f_kept : (flds t r h s k b l).lookup ("kept_read" : Str) = some (V.ref k) := by
  unfold flds flds6 flds5
  rw [lookup_putF, if_neg (by decide +kernel), lookup_putF, if_neg (by decide +kernel), lookup_putF, if_pos rfl]
theorem f_settings : (flds t r h s k b l).lookup ("settings_read" : Str) = some (V.ref s) := by
  unfold flds flds6 flds5 flds4
  rw [lookup_putF, if_neg (by decide +kernel), lookup_putF, if_neg (by decide +kernel), lookup_putF, if_neg (by decide +kernel), lookup_putF, if_pos rfl]
theorem f_headers : (flds t r h s k b l).lookup ("headers" : Str) = some (V.ref h) := by
  unfold flds flds6 flds5 flds4 flds3
  rw [lookup_putF, if_neg (by decide +kernel), lookup_putF, if_neg (by decide +kernel), lookup_putF, if_neg (by decide +kernel), lookup_putF, if_neg (by decide +kernel), lookup_putF, if_pos rfl]
theorem f_rows : (flds t r h s k b l).lookup ("rows" : Str) = some (V.ref r) := by
  unfold flds flds6 flds5 flds4 flds3 flds2
  rw [lookup_putF, if_neg (by decide +kernel), lookup_putF, if_neg (by decide +kernel), lookup_putF, if_neg (by decide +kernel), lookup_putF, if_neg (by decide +kernel), lookup_putF, if_neg (by decide +kernel), lookup_putF, if_pos rfl]
theorem f_text : (flds t r h s k b l).lookup ("text" : Str) = some (V.str t) := by
  unfold flds flds6 flds5 flds4 flds3 flds2 flds1
  rw [lookup_putF, if_neg (by decide +kernel), lookup_putF, if_neg (by decide +kernel), lookup_putF, if_neg (by decide +kernel), lookup_putF, if_neg (by decide +kernel), lookup_putF, if_neg (by decide +kernel), lookup_putF, if_neg (by decide +kernel), lookup_putF, if_pos rfl]
/-- no attribute of that name -/
theorem f_no {m : Str} (h1 : ¬ m = "loose") (h2 : ¬ m = "blocks") (h3 : ¬ m = "kept_read") (h4 : ¬ m = "settings_read") (h5 : ¬ m = "headers") (h6 : ¬ m = "rows") (h7 : ¬ m = "text") : (flds t r h s k b l).lookup m = none := by
  unfold flds flds6 flds5 flds4 flds3 flds2 flds1
  rw [lookup_putF, if_neg h1, lookup_putF, if_neg h2, lookup_putF, if_neg h3, lookup_putF, if_neg h4, lookup_putF, if_neg h5, lookup_putF, if_neg h6, lookup_putF, if_neg h7]
  rfl
end
def setKV (l : List (Str × Str)) : List (Key × V) := l.map fun p => (.inr p.1, .str p.2)
def keptKV (l : List ((Int × Str) × Option Str)) : List (List Key × V) := l.map fun p => ([.inl p.1.1, .inr p.1.2], optV p.2)
def blkKV (l : List (Str × Addr)) : List (Key × V) := l.map fun p => (.inr p.1, .ref p.2)
/-- where the parts of a file stand -/
structure Parts where
  dx : Addr
  r : Addr
  h : Addr
  s : Addr
  k : Addr
  b : Addr
  l : Addr
  bl : List (Str × Addr)
/-- a file at x, its parts at A; H0: the heap ahead of it, in which all of them are free -/
structure FileP (C : Addr) (H0 H : Hp) (x : Addr) (t : Str) (rows : List Str) (fs : FS) (A : Parts) : Prop where
  same : Same H0 H
  ob : H x = some (.ins C A.dx (flds t A.r A.h A.s A.k A.b A.l))
  er : H A.r = some (.lst (rows.map V.str))
  eh : H A.h = some (.lst (fs.headers.map V.str))
  es : H A.s = some (.dK (setKV fs.settings))
  ek : H A.k = some (.dT (keptKV fs.kept))
  eb : H A.b = some (.dK (blkKV A.bl))
  el : H A.l = some (.lst (fs.loose.map V.str))
  bs : Paired (fun (p : Str × Addr) (q : Str × List Str) => p.1 = q.1 ∧ H p.2 = some (.lst (q.2.map V.str)) ∧ p.2 ≠ A.l ∧ p.2 ≠ A.h ∧ H0 p.2 = none) A.bl fs.blocks
  rh : A.r ≠ A.h
  rl : A.r ≠ A.l
  hl : A.h ≠ A.l
  sb : A.s ≠ A.b
  n : H0 x = none ∧ H0 A.r = none ∧ H0 A.h = none ∧ H0 A.s = none ∧ H0 A.k = none ∧ H0 A.b = none ∧ H0 A.l = none
  ok : FsOk fs
def FileAt (C : Addr) (H0 H : Hp) (x : Addr) (t : Str) (rows : List Str) (fs : FS) : Prop := ∃ A, FileP C H0 H x t rows fs A
/-- what is free in H0 stands as it stood -/
def Kept0 (H0 H H' : Hp) : Prop := ∀ c o, H0 c = none → H c = some o → H' c = some o
theorem FileP.keep {C : Addr} {H0 H H' : Hp} {x : Addr} {t : Str} {rows : List Str} {fs : FS} {A : Parts} (f : FileP C H0 H x t rows fs A) (s : Same H0 H') (k : Kept0 H0 H H') : FileP C H0 H' x t rows fs A := by
  obtain ⟨n1, n2, n3, n4, n5, n6, n7⟩ := f.n
  exact ⟨s, k _ _ n1 f.ob, k _ _ n2 f.er, k _ _ n3 f.eh, k _ _ n4 f.es, k _ _ n5 f.ek, k _ _ n6 f.eb, k _ _ n7 f.el, Paired.mapP f.bs fun p q z => ⟨z.1, k _ _ z.2.2.2.2 z.2.1, z.2.2⟩, f.rh, f.rl, f.hl, f.sb, f.n, f.ok⟩
theorem FileP.more {C : Addr} {H0 H H' : Hp} {x : Addr} {t : Str} {rows : List Str} {fs : FS} {A : Parts} (f : FileP C H0 H x t rows fs A) (s : Same H H') : FileP C H0 H' x t rows fs A :=
  f.keep (f.same.trans s) fun c o _ e => s c o e
end My
set_option Elab.async false
set_option linter.all false
set_option maxRecDepth 100000
/-! how a file that stands in the heap changes, line by line -/
namespace My
open PySem PySem.Spec PyProof.Rows L2
section
variable {C : Addr} {H0 H : Hp} {x : Addr} {t : Str} {rows : List Str} {fs : FS} {A : Parts}
theorem FileP.weaken {H1 : Hp} (f : FileP C H0 H x t rows fs A) (s : Same H1 H0) : FileP C H1 H x t rows fs A := by
  obtain ⟨n1, n2, n3, n4, n5, n6, n7⟩ := f.n
  exact ⟨s.trans f.same, f.ob, f.er, f.eh, f.es, f.ek, f.eb, f.el, Paired.mapP f.bs fun p q z => ⟨z.1, z.2.1, z.2.2.1, z.2.2.2.1, s.free z.2.2.2.2⟩, f.rh, f.rl, f.hl, f.sb, ⟨s.free n1, s.free n2, s.free n3, s.free n4, s.free n5, s.free n6, s.free n7⟩, f.ok⟩
theorem upd_off {c : Addr} {o : HO} (n : H0 c = none) (s : Same H0 H) : Same H0 (upd H c o) := fun b u e => by
  rw [upd_ne (ne_of_none e n)]
  exact s b u e
theorem FileP.bAddr (f : FileP C H0 H x t rows fs A) : ∀ p ∈ A.bl, ∃ u, H p.2 = some (.lst u) ∧ p.2 ≠ A.l ∧ p.2 ≠ A.h := by
  have key : ∀ {l : List (Str × Addr)} {m : List (Str × List Str)}, Paired (fun (p : Str × Addr) (q : Str × List Str) => p.1 = q.1 ∧ H p.2 = some (.lst (q.2.map V.str)) ∧ p.2 ≠ A.l ∧ p.2 ≠ A.h ∧ H0 p.2 = none) l m → ∀ p ∈ l, ∃ u, H p.2 = some (.lst u) ∧ p.2 ≠ A.l ∧ p.2 ≠ A.h := by
    intro l m q
    induction q with
    | nil => intro p hp; cases hp
    | cons h _ ih =>
      intro p hp
      rcases List.mem_cons.mp hp with rfl | hp
      · exact ⟨_, h.2.1, h.2.2.1, h.2.2.2.1⟩
      · exact ih p hp
  exact key f.bs
/-- a change at c, which is none of the other parts -/
theorem FileP.at {c : Addr} {o : HO} (f : FileP C H0 H x t rows fs A) (nc : H0 c = none) (hx : x ≠ c) (hr : A.r ≠ c) (hh : A.h ≠ c) (hs : A.s ≠ c) (hk : A.k ≠ c) (hb : A.b ≠ c) (hl : A.l ≠ c) (hB : ∀ p ∈ A.bl, p.2 ≠ c) : FileP C H0 (upd H c o) x t rows fs A := by
  refine ⟨upd_off nc f.same, by rw [upd_ne hx]; exact f.ob, by rw [upd_ne hr]; exact f.er, by rw [upd_ne hh]; exact f.eh, by rw [upd_ne hs]; exact f.es, by rw [upd_ne hk]; exact f.ek, by rw [upd_ne hb]; exact f.eb, by rw [upd_ne hl]; exact f.el, ?_, f.rh, f.rl, f.hl, f.sb, f.n, f.ok⟩
  have key : ∀ {l : List (Str × Addr)} {m : List (Str × List Str)}, (∀ p ∈ l, p.2 ≠ c) → Paired (fun (p : Str × Addr) (q : Str × List Str) => p.1 = q.1 ∧ H p.2 = some (.lst (q.2.map V.str)) ∧ p.2 ≠ A.l ∧ p.2 ≠ A.h ∧ H0 p.2 = none) l m →
      Paired (fun (p : Str × Addr) (q : Str × List Str) => p.1 = q.1 ∧ (upd H c o) p.2 = some (.lst (q.2.map V.str)) ∧ p.2 ≠ A.l ∧ p.2 ≠ A.h ∧ H0 p.2 = none) l m := by
    intro l m hn q
    induction q with
    | nil => exact .nil
    | cons h _ ih =>
      refine .cons ⟨h.1, ?_, h.2.2⟩ (ih fun p hp => hn p (List.mem_cons_of_mem _ hp))
      rw [upd_ne (hn _ (List.mem_cons_self ..))]
      exact h.2.1
  exact key hB f.bs
/-- the same blocks, seen at a changed heap -/
theorem FileP.bsAt {c : Addr} {o : HO} (f : FileP C H0 H x t rows fs A) (hB : ∀ p ∈ A.bl, p.2 ≠ c) : Paired (fun (p : Str × Addr) (q : Str × List Str) => p.1 = q.1 ∧ (upd H c o) p.2 = some (.lst (q.2.map V.str)) ∧ p.2 ≠ A.l ∧ p.2 ≠ A.h ∧ H0 p.2 = none) A.bl fs.blocks := by
  have key : ∀ {l : List (Str × Addr)} {m : List (Str × List Str)}, (∀ p ∈ l, p.2 ≠ c) → Paired (fun (p : Str × Addr) (q : Str × List Str) => p.1 = q.1 ∧ H p.2 = some (.lst (q.2.map V.str)) ∧ p.2 ≠ A.l ∧ p.2 ≠ A.h ∧ H0 p.2 = none) l m →
      Paired (fun (p : Str × Addr) (q : Str × List Str) => p.1 = q.1 ∧ (upd H c o) p.2 = some (.lst (q.2.map V.str)) ∧ p.2 ≠ A.l ∧ p.2 ≠ A.h ∧ H0 p.2 = none) l m := by
    intro l m hn q
    induction q with
    | nil => exact .nil
    | cons h _ ih =>
      refine .cons ⟨h.1, ?_, h.2.2⟩ (ih fun p hp => hn p (List.mem_cons_of_mem _ hp))
      rw [upd_ne (hn _ (List.mem_cons_self ..))]
      exact h.2.1
  exact key hB f.bs
theorem lstNe {a b : Addr} {u : List V} {o : HO} (ha : H a = some (.lst u)) (hb : H b = some o) (h : ∀ v, o ≠ .lst v) : a ≠ b := fun e => by
  subst e
  rw [ha] at hb
  cases hb
  exact h u rfl
theorem FileP.addLoose (f : FileP C H0 H x t rows fs A) (z : Str) : FileP C H0 (upd H A.l (.lst ((fs.loose ++ [z]).map V.str))) x t rows { fs with loose := fs.loose ++ [z] } A := by
  obtain ⟨n1, n2, n3, n4, n5, n6, n7⟩ := f.n
  have hx : x ≠ A.l := (lstNe f.el f.ob (fun _ h => nomatch h)).symm
  have hs : A.s ≠ A.l := (lstNe f.el f.es (fun _ h => nomatch h)).symm
  have hk : A.k ≠ A.l := (lstNe f.el f.ek (fun _ h => nomatch h)).symm
  have hb : A.b ≠ A.l := (lstNe f.el f.eb (fun _ h => nomatch h)).symm
  have hB : ∀ p ∈ A.bl, p.2 ≠ A.l := fun p hp => let ⟨_, _, h, _⟩ := f.bAddr p hp; h
  exact ⟨upd_off n7 f.same, by rw [upd_ne hx]; exact f.ob, by rw [upd_ne f.rl]; exact f.er, by rw [upd_ne f.hl]; exact f.eh, by rw [upd_ne hs]; exact f.es, by rw [upd_ne hk]; exact f.ek, by rw [upd_ne hb]; exact f.eb, upd_same, f.bsAt hB, f.rh, f.rl, f.hl, f.sb, f.n, ⟨f.ok.hn, f.ok.sd, f.ok.bk⟩⟩
theorem FileP.addHead (f : FileP C H0 H x t rows fs A) {n : Str} (hn : nameS n = true) : FileP C H0 (upd H A.h (.lst ((fs.headers ++ [n]).map V.str))) x t rows { fs with headers := fs.headers ++ [n] } A := by
  obtain ⟨n1, n2, n3, n4, n5, n6, n7⟩ := f.n
  have hx : x ≠ A.h := (lstNe f.eh f.ob (fun _ h => nomatch h)).symm
  have hs : A.s ≠ A.h := (lstNe f.eh f.es (fun _ h => nomatch h)).symm
  have hk : A.k ≠ A.h := (lstNe f.eh f.ek (fun _ h => nomatch h)).symm
  have hb : A.b ≠ A.h := (lstNe f.eh f.eb (fun _ h => nomatch h)).symm
  have hB : ∀ p ∈ A.bl, p.2 ≠ A.h := fun p hp => let ⟨_, _, _, h⟩ := f.bAddr p hp; h
  refine ⟨upd_off n3 f.same, by rw [upd_ne hx]; exact f.ob, by rw [upd_ne f.rh]; exact f.er, upd_same, by rw [upd_ne hs]; exact f.es, by rw [upd_ne hk]; exact f.ek, by rw [upd_ne hb]; exact f.eb, by rw [upd_ne f.hl.symm]; exact f.el, f.bsAt hB, f.rh, f.rl, f.hl, f.sb, f.n, ⟨?_, f.ok.sd, ?_⟩⟩
  · intro y hy
    rcases List.mem_append.mp hy with q | q
    · exact f.ok.hn y q
    · cases List.mem_singleton.mp q
      exact hn
  · intro p hp
    rcases f.ok.bk p hp with q | q
    · exact .inl (List.mem_append_left _ q)
    · exact .inr q
theorem FileP.addSet (f : FileP C H0 H x t rows fs A) {p v : Str} (hd : 46 ∈ TL.tl p) : FileP C H0 (upd H A.s (.dK (setKV (fs.settings ++ [(p, v)])))) x t rows { fs with settings := fs.settings ++ [(p, v)] } A := by
  obtain ⟨n1, n2, n3, n4, n5, n6, n7⟩ := f.n
  have hx : x ≠ A.s := ne_of f.ob f.es (fun h => nomatch h)
  have hr : A.r ≠ A.s := lstNe f.er f.es (fun _ h => nomatch h)
  have hh : A.h ≠ A.s := lstNe f.eh f.es (fun _ h => nomatch h)
  have hk : A.k ≠ A.s := ne_of f.ek f.es (fun h => nomatch h)
  have hl : A.l ≠ A.s := lstNe f.el f.es (fun _ h => nomatch h)
  have hB : ∀ p ∈ A.bl, p.2 ≠ A.s := fun p hp => let ⟨_, h, _⟩ := f.bAddr p hp; lstNe h f.es (fun _ h => nomatch h)
  refine ⟨upd_off n4 f.same, by rw [upd_ne hx]; exact f.ob, by rw [upd_ne hr]; exact f.er, by rw [upd_ne hh]; exact f.eh, upd_same, by rw [upd_ne hk]; exact f.ek, by rw [upd_ne f.sb.symm]; exact f.eb, by rw [upd_ne hl]; exact f.el, f.bsAt hB, f.rh, f.rl, f.hl, f.sb, f.n, ⟨f.ok.hn, ?_, ?_⟩⟩
  · intro y hy
    rw [List.map_append] at hy
    rcases List.mem_append.mp hy with q | q
    · exact f.ok.sd y q
    · cases List.mem_singleton.mp q
      exact hd
  · intro y hy
    rcases f.ok.bk y hy with q | q
    · exact .inl q
    · exact .inr (by rw [List.map_append]; exact List.mem_append_left _ q)
theorem FileP.addKept (f : FileP C H0 H x t rows fs A) (e : (Int × Str) × Option Str) : FileP C H0 (upd H A.k (.dT (keptKV (fs.kept ++ [e])))) x t rows { fs with kept := fs.kept ++ [e] } A := by
  obtain ⟨n1, n2, n3, n4, n5, n6, n7⟩ := f.n
  have hx : x ≠ A.k := ne_of f.ob f.ek (fun h => nomatch h)
  have hr : A.r ≠ A.k := lstNe f.er f.ek (fun _ h => nomatch h)
  have hh : A.h ≠ A.k := lstNe f.eh f.ek (fun _ h => nomatch h)
  have hs : A.s ≠ A.k := ne_of f.es f.ek (fun h => nomatch h)
  have hb : A.b ≠ A.k := ne_of f.eb f.ek (fun h => nomatch h)
  have hl : A.l ≠ A.k := lstNe f.el f.ek (fun _ h => nomatch h)
  have hB : ∀ p ∈ A.bl, p.2 ≠ A.k := fun p hp => let ⟨_, h, _⟩ := f.bAddr p hp; lstNe h f.ek (fun _ h => nomatch h)
  exact ⟨upd_off n5 f.same, by rw [upd_ne hx]; exact f.ob, by rw [upd_ne hr]; exact f.er, by rw [upd_ne hh]; exact f.eh, by rw [upd_ne hs]; exact f.es, upd_same, by rw [upd_ne hb]; exact f.eb, by rw [upd_ne hl]; exact f.el, f.bsAt hB, f.rh, f.rl, f.hl, f.sb, f.n, ⟨f.ok.hn, f.ok.sd, f.ok.bk⟩⟩
theorem paired_snoc {α β : Type} {F : α → β → Prop} : ∀ {l : List α} {m : List β} {a : α} {b : β}, Paired F l m → F a b → Paired F (l ++ [a]) (m ++ [b])
  | _, _, _, _, .nil, h => .cons h .nil
  | _, _, _, _, .cons h r, g => .cons h (paired_snoc r g)
/-- the block is closed: the dict takes the loose list, a new one stands in its place -/
theorem FileP.close (f : FileP C H0 H x t rows fs A) {y : Str} {l' : Addr} (nl : (upd H A.b (.dK (blkKV (A.bl ++ [(y, A.l)])))) l' = none) (hy : y ∈ fs.headers ∨ y ∈ fs.settings.map (·.1)) :
    FileP C H0 (upd (upd (upd H A.b (.dK (blkKV (A.bl ++ [(y, A.l)])))) l' (.lst [])) x (.ins C A.dx (flds t A.r A.h A.s A.k A.b l'))) x t rows { fs with blocks := fs.blocks ++ [(y, fs.loose)], loose := [] } { A with l := l', bl := A.bl ++ [(y, A.l)] } := by
  obtain ⟨n1, n2, n3, n4, n5, n6, n7⟩ := f.n
  have bx : x ≠ A.b := ne_of f.ob f.eb (fun h => nomatch h)
  have br : A.r ≠ A.b := lstNe f.er f.eb (fun _ h => nomatch h)
  have bh : A.h ≠ A.b := lstNe f.eh f.eb (fun _ h => nomatch h)
  have bk : A.k ≠ A.b := ne_of f.ek f.eb (fun h => nomatch h)
  have bl : A.l ≠ A.b := lstNe f.el f.eb (fun _ h => nomatch h)
  have at1 : ∀ {c : Addr} {o : HO}, H c = some o → c ≠ A.b → (upd H A.b (.dK (blkKV (A.bl ++ [(y, A.l)])))) c = some o := fun e h => by rw [upd_ne h]; exact e
  have off : ∀ {c : Addr} {o : HO}, H c = some o → c ≠ A.b → c ≠ l' := fun e h => ne_of_none (at1 e h) nl
  have lb : A.b ≠ l' := ne_of_none upd_same nl
  have xl : x ≠ l' := off f.ob bx
  have all : ∀ {c : Addr} {o : HO}, H c = some o → c ≠ A.b → c ≠ x → (upd (upd (upd H A.b (.dK (blkKV (A.bl ++ [(y, A.l)])))) l' (.lst [])) x (.ins C A.dx (flds t A.r A.h A.s A.k A.b l'))) c = some o := fun e h hx => by
    rw [upd_ne hx, upd_ne (off e h)]
    exact at1 e h
  have xr : A.r ≠ x := lstNe f.er f.ob (fun _ h => nomatch h)
  have xh : A.h ≠ x := lstNe f.eh f.ob (fun _ h => nomatch h)
  have xs : A.s ≠ x := ne_of f.es f.ob (fun h => nomatch h)
  have xk : A.k ≠ x := ne_of f.ek f.ob (fun h => nomatch h)
  have xA : A.l ≠ x := lstNe f.el f.ob (fun _ h => nomatch h)
  have fl : H0 l' = none := by
    have s2 : Same H0 (upd H A.b (.dK (blkKV (A.bl ++ [(y, A.l)])))) := upd_off n6 f.same
    exact s2.free nl
  refine ⟨upd_off n1 (upd_off fl (upd_off n6 f.same)), upd_same, all f.er br xr, all f.eh bh xh, all f.es f.sb xs, all f.ek bk xk, ?_, ?_, ?_, f.rh, off f.er br, off f.eh bh, f.sb, ⟨n1, n2, n3, n4, n5, n6, fl⟩, ⟨f.ok.hn, f.ok.sd, ?_⟩⟩
  · show (upd (upd (upd H A.b _) l' _) x _) A.b = _
    rw [upd_ne bx.symm, upd_ne lb]
    exact upd_same
  · show (upd (upd (upd H A.b _) l' _) x _) l' = _
    rw [upd_ne xl.symm]
    exact upd_same
  · refine paired_snoc ?_ ⟨rfl, all f.el bl xA, off f.el bl, f.hl.symm, n7⟩
    have key : ∀ {l : List (Str × Addr)} {m : List (Str × List Str)}, Paired (fun (p : Str × Addr) (q : Str × List Str) => p.1 = q.1 ∧ H p.2 = some (.lst (q.2.map V.str)) ∧ p.2 ≠ A.l ∧ p.2 ≠ A.h ∧ H0 p.2 = none) l m →
        Paired (fun (p : Str × Addr) (q : Str × List Str) => p.1 = q.1 ∧ (upd (upd (upd H A.b (.dK (blkKV (A.bl ++ [(y, A.l)])))) l' (.lst [])) x (.ins C A.dx (flds t A.r A.h A.s A.k A.b l'))) p.2 = some (.lst (q.2.map V.str)) ∧ p.2 ≠ l' ∧ p.2 ≠ A.h ∧ H0 p.2 = none) l m := by
      intro l m q
      induction q with
      | nil => exact .nil
      | cons h _ ih =>
        have hb := lstNe h.2.1 f.eb (fun _ h => nomatch h)
        exact .cons ⟨h.1, all h.2.1 hb (lstNe h.2.1 f.ob (fun _ h => nomatch h)), off h.2.1 hb, h.2.2.2.1, h.2.2.2.2⟩ ih
    exact key f.bs
  · intro p hp
    rw [List.map_append] at hp
    rcases List.mem_append.mp hp with q | q
    · exact f.ok.bk p q
    · cases List.mem_singleton.mp q
      exact hy
end
/-! ### keys that are not there -/
theorem val_blk {l : List (Str × Addr)} {y : Str} (h : y ∉ l.map (·.1)) : valV (blkKV l) (Sum.inr y : Key) = none := by
  induction l with
  | nil => rfl
  | cons p r ih =>
    have h1 : ¬ p.1 = y := fun e => h (by simp [e])
    have h2 : y ∉ r.map (·.1) := fun e => h (List.mem_cons_of_mem _ e)
    show valV ((Sum.inr p.1, V.ref p.2) :: blkKV r) (Sum.inr y : Key) = none
    rw [valV_neg (fun e => h1 (Sum.inr.inj e))]
    exact ih h2
theorem val_set {l : List (Str × Str)} {y : Str} (h : y ∉ l.map (·.1)) : valV (setKV l) (Sum.inr y : Key) = none := by
  induction l with
  | nil => rfl
  | cons p r ih =>
    have h1 : ¬ p.1 = y := fun e => h (by simp [e])
    have h2 : y ∉ r.map (·.1) := fun e => h (List.mem_cons_of_mem _ e)
    show valV ((Sum.inr p.1, V.str p.2) :: setKV r) (Sum.inr y : Key) = none
    rw [valV_neg (fun e => h1 (Sum.inr.inj e))]
    exact ih h2
theorem val_kept {l : List ((Int × Str) × Option Str)} {e : Int × Str} (h : e ∉ l.map (·.1)) : valV (keptKV l) ([Sum.inl e.1, Sum.inr e.2] : List Key) = none := by
  induction l with
  | nil => rfl
  | cons p r ih =>
    have h1 : ¬ p.1 = e := fun z => h (by simp [z])
    have h2 : e ∉ r.map (·.1) := fun z => h (List.mem_cons_of_mem _ z)
    show valV (([Sum.inl p.1.1, Sum.inr p.1.2], optV p.2) :: keptKV r) ([Sum.inl e.1, Sum.inr e.2] : List Key) = none
    rw [valV_neg ?_]
    · exact ih h2
    · intro z
      injection z with z1 z2
      injection z2 with z2 _
      exact h1 (Prod.ext (Sum.inl.inj z1) (Sum.inr.inj z2))
/-- the names of the blocks, as they stand in the dict -/
theorem blk_names {P : Str × Addr → Str × List Str → Prop} (hP : ∀ p q, P p q → p.1 = q.1) : ∀ {l : List (Str × Addr)} {m : List (Str × List Str)}, Paired P l m → l.map (·.1) = m.map (·.1)
  | _, _, .nil => rfl
  | _, _, .cons h r => by
    rw [List.map_cons, List.map_cons, hP _ _ h, blk_names hP r]
theorem in_strs (x : Str) (l : List Str) : inV (.str x) (l.map V.str) = decide (x ∈ l) := by
  unfold inV
  induction l with
  | nil => rfl
  | cons y r ih =>
    rw [List.map_cons, List.any_cons, ih]
    by_cases e : y = x
    · subst e
      rw [show eqV (.str y) (.str y) = true by simp [eqV]]
      simp
    · rw [show eqV (.str y) (.str x) = false by simp [eqV, e]]
      simp [Ne.symm e]
end My
set_option Elab.async false
set_option linter.all false
set_option maxRecDepth 100000
/-! own __contains__, __len__, __str__ read by in, not in, len, str -/
namespace My
open PySem PySem.Spec PyProof.Rows L2
section
variable {X : Cx} {k : Nat} {f C : Addr} {fd : FuncData} {ps : List Str} {sp : Sp}
/-- the def at f is called with these values, one C call deeper or not -/
theorem run_own {pins : List (Addr × Obj)} {σ : L2.St} {H : Hp} {s : Shared} {us : List Value} {vs : List V} {Q : VK} {A : Around} (F : FnOk X.prog X.w X.K X.mg X.base CX0 k f fd ps sp) (hr : Room k A) (en : Env0 X.prog X.w X.K X.mg X.base A X.stack s H) (hb : Binds X.K fd ps [])
    (I : Inv X pins σ H s) (r : Vals vs us) (h : sp vs H Q E0) {R : Value → Shared → Prop} (hR : ∀ u s', EP X pins σ Q u s' → R u s') : wpAny (model X.prog X.w) A (call (.ref f) us) R X.xe s := by
  have r2 : Vals (vs ++ []) (us ++ []) := r.append .nil
  have h2 : sp (vs ++ []) H Q E0 := by rw [List.append_nil]; exact h
  have hl : (us ++ []).length = ps.length := by rw [← r2.length]; exact F.len _ _ _ _ h2
  have go := F.run A X.stack s H ⟨us, []⟩ (us ++ []) (vs ++ []) Q E0 hr en (hb s us I.kIn hl) r2 h2
  refine wpAny_call (codeAny_mono go fun r s' hq => ?_)
  match r, hq with
  | .error _, hq => exact False.elim hq
  | .ok (.ret u), hq => exact hR u s' (I.after hq)
  | .ok .next, hq => exact False.elim hq
  | .ok .brk, hq => exact False.elim hq
  | .ok .cont, hq => exact False.elim hq
theorem inst_of {pins : List (Addr × Obj)} {σ : L2.St} {H : Hp} {s : Shared} {a dx : Addr} {fs : List (Str × V)} (I : Inv X pins σ H s) (e : H a = some (.ins C dx fs)) : ∃ od, PySem.W.InstAt s.heap a (PySem.W.instObj C dx) C (some od) := by
  obtain ⟨mA, O, _⟩ := ins_get I.hok e
  obtain ⟨od, J, _⟩ := O.look
  exact ⟨od, J⟩
/-- x in o, o an instance whose class tells it -/
def rInOwn (C : Addr) (sp : Sp) (neg : Bool) : R2 := fun x y H Q => ∃ a dx fs, y = .ref a ∧ H a = some (.ins C dx fs) ∧ sp [.ref a, x] H (fun v H' => ∃ b, v = .bl b ∧ Q (.bl (if neg then !b else b)) H') E0
theorem op_inOwn (m : Meth X.K C "__contains__" f) (F : FnOk X.prog X.w X.K X.mg X.base CX0 k f fd ps sp) (hr : Room k X.A) (hb : Binds X.K fd ps []) : OpR X (compareOp .In) (rInOwn C sp false) := by
  intro pins s σ H x y v u Q I rx ry h
  obtain ⟨a, dx, fs, rfl, ea, hsp⟩ := h
  cases (show u = Value.ref a from ry)
  obtain ⟨od, J⟩ := inst_of I ea
  obtain ⟨mm, Fm⟩ := I.fr
  refine PySem.W.in_K Fm I.mod.kin J m.at_ m.fn (run_own F hr I.env0 hb I (vs := [.ref a, x]) (.cons rfl (.cons rx .nil)) hsp fun u s' hu => ?_)
  obtain ⟨z, H', I', rz, b, rfl, q⟩ := hu
  cases (show u = Value.bool b from rz)
  exact wpAny_truthy_bool ⟨.bl b, H', I', rfl, q⟩
theorem op_notInOwn (m : Meth X.K C "__contains__" f) (F : FnOk X.prog X.w X.K X.mg X.base CX0 k f fd ps sp) (hr : Room k X.A) (hb : Binds X.K fd ps []) : OpR X (compareOp .NotIn) (rInOwn C sp true) := by
  intro pins s σ H x y v u Q I rx ry h
  obtain ⟨a, dx, fs, rfl, ea, hsp⟩ := h
  cases (show u = Value.ref a from ry)
  obtain ⟨od, J⟩ := inst_of I ea
  obtain ⟨mm, Fm⟩ := I.fr
  refine PySem.W.notIn_K Fm I.mod.kin J m.at_ m.fn (run_own F hr I.env0 hb I (vs := [.ref a, x]) (.cons rfl (.cons rx .nil)) hsp fun u s' hu => ?_)
  obtain ⟨z, H', I', rz, b, rfl, q⟩ := hu
  cases (show u = Value.bool b from rz)
  exact wpAny_truthy_bool ⟨.bl (!b), H', I', rfl, q⟩
/-- len(o) -/
theorem call_lenOwn (m : Meth X.K C "__len__" f) (F : FnOk X.prog X.w X.K X.mg X.base CX0 k f fd ps sp) (hr : Room (k + 1) X.A) (hb : Binds X.K fd ps []) :
    CallR X (.builtin "len") (fun xs H Q => ∃ a dx fs, xs = [.ref a] ∧ H a = some (.ins C dx fs) ∧ sp [.ref a] H (fun v H' => ∃ n : Int, v = .int n ∧ 0 ≤ n ∧ n ≤ 1000000 ∧ Q (.int n) H') E0) := by
  intro pins s σ H xs us Q I r h
  obtain ⟨a, dx, fs, rfl, ea, hsp⟩ := h
  obtain ⟨u, rfl, ru⟩ := vals1 r
  cases (show u = Value.ref a from ru)
  obtain ⟨od, J⟩ := inst_of I ea
  obtain ⟨mm, Fm⟩ := I.fr
  refine PySem.W.len_K Fm I.mod.kin J m.at_ m.fn (run_own F hr.in1 I.env0.in1 hb I (vs := [.ref a]) (.cons rfl .nil) hsp fun u s' hu => ?_)
  obtain ⟨z, H', I', rz, n, rfl, n0, n1, q⟩ := hu
  obtain ⟨t, rfl⟩ := (show ∃ t, u = Value.int n t from rz)
  exact ⟨⟨by omega, by omega⟩, ⟨.int n, H', I'.tok _, ⟨_, rfl⟩, q⟩⟩
/-- str(o) -/
theorem call_strOwn (m : Meth X.K C "__str__" f) (F : FnOk X.prog X.w X.K X.mg X.base CX0 k f fd ps sp) (hr : Room (k + 2) X.A) (hb : Binds X.K fd ps []) :
    CallR X (.type "str") (fun xs H Q => ∃ a dx fs, xs = [.ref a] ∧ H a = some (.ins C dx fs) ∧ sp [.ref a] H (fun v H' => ∃ z : Str, v = .str z ∧ Q (.str z) H') E0) := by
  intro pins s σ H xs us Q I r h
  obtain ⟨a, dx, fs, rfl, ea, hsp⟩ := h
  obtain ⟨u, rfl, ru⟩ := vals1 r
  cases (show u = Value.ref a from ru)
  obtain ⟨od, J⟩ := inst_of I ea
  refine PySem.W.kso_call (by have := hr.un; show X.A.units + 1 + 1 < cLine; omega) I.kIn J m.at_ m.fn (run_own F hr.in1.in1 I.env0.in1.in1 hb I (vs := [.ref a]) (.cons rfl .nil) hsp fun u s' hu => ?_)
  obtain ⟨z, H', I', rz, y, rfl, q⟩ := hu
  obtain ⟨t, rfl⟩ := (show ∃ t, u = Value.str y t from rz)
  exact ⟨.str y, H', I', ⟨_, rfl⟩, q⟩
end
end My
set_option Elab.async false
set_option linter.all false
set_option maxRecDepth 100000
set_option maxHeartbeats 1000000
/-! for inside a generator -/
namespace My
open PySem PySem.Spec PyProof.Rows L2 GenW
section
variable {M : Model} {A : Around} {R : GenEnd} {Y : Protocol} {n : Nat} {s₀ : Shared} {c : Code} {fs : List Frame} {s : Shared} {env : Env}
  {K : Flow → Sem PySem.Fin} {J : Value → Sem PySem.Fin} {gd : Bool → Bool} {lv : List Value → List Value}
theorem seg_For {target iter : Expr} {body orelse : List Stmt} {pos : Pos} (hs : ∀ x, foldedSetIterable iter env x = pure x)
    (h : wpAny M (A.over c fs) (eval iter env) (fun x s1 => wpAny M (A.over c fs) (pyIter x) (fun it s2 => ∀ p, Seg M A R Y n s₀ (.forLoop target it body orelse env) (M.den (.forLoop target it body orelse env))
      (.ret (fun r => ((match r with | .ok f => (.pure f : Sem Flow) | .error e => .raise e).onRaise (cameBack env)).wrap K J gd lv) none (gd false) (lv []) c p [] :: fs) s2)
      (fun x s' => Seg M A R Y n s₀ c (J x) fs s') s1) (fun x s' => Seg M A R Y n s₀ c (J x) fs s') s) :
    Seg M A R Y n s₀ c ((exec (.For target iter body orelse pos) env).wrap K J gd lv) fs s := by
  rw [exec_For]
  refine seg_bind_wrap (wpAny_standAt ?_)
  refine seg_bind_wrap (wpAny_mono h (fun x s1 h1 => ?_) fun _ _ h' => h')
  refine seg_bind_wrap (wpAny_of_eq (hs x) ?_)
  refine seg_bind_wrap (wpAny_standAt ?_)
  refine seg_bind_wrap (wpAny_holding (wpAny_mono h1 (fun it s2 h2 => ?_) fun _ _ h' => h'))
  exact seg_call h2
end
section
variable {prog : Program} {w : World} {A : Around} {R : GenEnd} {Y : Protocol} {n : Nat} {s₀ : Shared} {fs : List Frame} {s : Shared} {env : Env}
/-- what a loop's code does with an exception -/
abbrev noted (env : Env) (x : Value) : Sem PySem.Fin := (do noteFrame x env; theTreesLotGoes x : Sem Unit).wrap (fun _ => .raise x) .raise id id
theorem noted_eq (x : Value) : ((do noteFrame x env; theTreesLotGoes x : Sem Unit).bind fun _ => (.raise x : Sem PySem.Fin)) = noted env x := by
  first | exact Sem.bind_eq_wrap _ _ | rw [Sem.bind_eq_wrap]
theorem seg_forLoop {target : Expr} {it : Value} {body orelse : List Stmt}
    (h : wpAny (model prog w) (A.over (.forLoop target it body orelse env) fs) (pyNext it) (fun r s1 => match r with
      | none => Seg (model prog w) A R Y n s₀ (.forLoop target it body orelse env) (.pure (.again (.block orelse env))) fs s1
      | some v => wpAny (model prog w) (A.over (.forLoop target it body orelse env) fs) (letOwnedTupleGo target it v) (fun _ s2 =>
          wpAny (model prog w) (A.over (.forLoop target it body orelse env) fs) (assign target env v) (fun _ s3 =>
            Seg (model prog w) A R Y n s₀ (.forLoop target it body orelse env) ((execs body env).wrap (fun f => match f with
              | .next | .cont => .pure (.again (.forLoop target it body orelse env))
              | .brk => .pure (.done .next)
              | .ret v => .pure (.done (.ret v))) (noted env) id id) fs s3)
            (fun x s' => Seg (model prog w) A R Y n s₀ (.forLoop target it body orelse env) (noted env x) fs s') s2)
          (fun x s' => Seg (model prog w) A R Y n s₀ (.forLoop target it body orelse env) (noted env x) fs s') s1)
      (fun x s' => Seg (model prog w) A R Y n s₀ (.forLoop target it body orelse env) (noted env x) fs s') s) :
    Seg (model prog w) A R Y n s₀ (.forLoop target it body orelse env) ((model prog w).den (.forLoop target it body orelse env)) fs s := by
  show Seg _ A R Y n s₀ _ ((forTurn target it body orelse env).onRaise (fun x => do noteFrame x env; theTreesLotGoes x)) fs s
  unfold forTurn
  rw [Sem.onRaise_eq_wrap]
  refine seg_bind_wrap (wpAny_standAt ?_)
  refine seg_bind_wrap (wpAny_onRaise (wpAny_mono h (fun r s1 h1 => ?_) fun x s' hx => wpAny_standAt ?_))
  · cases r with
    | none => exact h1
    | some v =>
      refine seg_bind_wrap (wpAny_mono h1 (fun _ s2 h2 => ?_) fun x s' hx => ?_)
      · refine seg_bind_wrap (wpAny_mono h2 (fun _ s3 h3 => ?_) fun x s' hx => ?_)
        · rw [Sem.bind_eq_wrap', Sem.wrap_wrap]
          rw [Sem.wrap_congr (execs body env) _ _ (K' := fun f => match f with
              | .next | .cont => .pure (.again (.forLoop target it body orelse env))
              | .brk => .pure (.done .next)
              | .ret v => .pure (.done (.ret v))) (H' := noted env)
            (fun f => by cases f <;> rfl) (fun e => by exact noted_eq e)]
          exact h3
        · rw [noted_eq]; exact hx
      · rw [noted_eq]; exact hx
  · rw [noted_eq]; exact hx
theorem seg_blockNil {env' : Env} {k : Result → Sem PySem.Fin} {hh g l c₁ p₁ kp} (h : Seg (model prog w) A R Y n s₀ c₁ (k (.ok .next)) fs s) :
    Seg (model prog w) A R Y n s₀ (.block [] env') ((model prog w).den (.block [] env')) (.ret k hh g l c₁ p₁ kp :: fs) s := by
  show Seg _ A R Y n s₀ _ (do return PySem.Fin.done (← (execs [] env').onRaise (fun x => do noteFrame x env'; theTreesLotGoes x))) _ s
  exact seg_leaf (.ok .next) h
end
section
variable {X : Cx} {tg : Expr}
/-- for in a generator: W: the invariant by the turn, a measure, and what is out -/
def tGFor (wi : TI) (g : TG) (tb : TGn) : TGn := fun D ys σ H => wi σ H fun J H1 => ∃ W : Nat → Nat → List V → L2.St → Hp → Prop, (∃ m, W 0 m ys σ H1) ∧ ∀ i m ys σ H, W i m ys σ H →
  (J.stop i H ∧ D.nx ys σ H) ∨ (J.go i H ∧ ∃ N : List V → L2.St → Hp → Prop, (∀ ys' σ' H', N ys' σ' H' → ∃ m', m' < m ∧ W (i + 1) m' ys' σ' H') ∧ ∀ x H', J.yld i H x H' → g x σ H' fun σ2 H2 => tb { D with nx := N, ct := N, bk := D.nx } ys σ2 H2)
theorem gs_for {iter : Expr} {body : List Stmt} {wi : TI} {g : TG} {tb : TGn} {pos : Pos} (hp : PassesOwn (model X.prog X.w) X.A X.env X.xe) (hc : X.calm = true) (hi : PI X tg iter wi) (hg : PG X tg g) (hb : GSs X body tb)
    (hs : ∀ x, foldedSetIterable iter X.env x = pure x := by intro _; rfl) : GS X (.For tg iter body [] pos) (tGFor wi g tb) := by
  refine ⟨fun A S ip R n ys s₀ c fs K J gd lv s σ H D gg hn k hI ht => ?_⟩
  obtain ⟨acc, cc, rr, I⟩ := hI
  refine seg_For hs ?_
  rw [gg.over]
  refine wpAny_mono (hi.run _ s σ H _ I ht) (fun v s1 h1 => wpAny_mono h1 (fun itv s2 h2 p => ?_) fun x s' hx => k.exc n s₀ x s' hx) fun x s' hx => k.exc n s₀ x s' hx
  obtain ⟨it, fp, tn, Jt, H2, e, I2, T, st2, f2, W, ⟨m0, w0⟩, turn⟩ := h2
  subst e
  have gl := fun (kk : Result → Sem PySem.Fin) => gc_loop (k := kk) (c' := .forLoop tg (.ref it) body [] X.env) (l := lv []) (kp := []) (p := p) gg rfl rfl
  have nS : ∀ b ∈ fp, b ≠ S := fun b hb e => (f2 b hb).2.2.2.2.2 (S, lstObj acc cc) (List.mem_append_right _ List.mem_cons_self) e.symm
  have stat : ∀ {H' : Hp} {acc' : Array Value} {cc' : Nat}, (∀ b ∈ fp, H' b = none) → ∀ b ∈ fp, FpOk X ((S, lstObj acc' cc') :: ip) H' b := fun {H' acc' cc'} hn b hb => by
    obtain ⟨z1, z2, z3, z4, z5, z6⟩ := f2 b hb
    refine ⟨hn b hb, z2, z3, z4, z5, fun q hq => ?_⟩
    rcases List.mem_append.mp hq with hq | hq
    · exact z6 q (List.mem_append_left _ hq)
    · rcases List.mem_cons.mp hq with rfl | hq
      · exact z6 (S, lstObj acc cc) (List.mem_append_right _ List.mem_cons_self)
      · exact z6 q (List.mem_append_right _ (List.mem_cons_of_mem _ hq))
  have loop : ∀ (m i n : Nat) (ys : List V) (s₀ s : Shared) (σ : L2.St) (H : Hp), n + ys.length = sizeLine → W i m ys σ H → GI X S ip ys σ H s → tn i s.heap → (∀ b ∈ fp, H b = none) →
      Seg (model X.prog X.w) A R (GY X S) n s₀ (.forLoop tg (.ref it) body [] X.env) ((model X.prog X.w).den (.forLoop tg (.ref it) body [] X.env))
        (.ret (fun r => ((match r with | .ok f => (.pure f : Sem Flow) | .error e => .raise e).onRaise (cameBack X.env)).wrap K J gd lv) none (gd false) (lv []) c p [] :: fs) s := by
    intro m
    induction m using Nat.strongRecOn with
    | ind m ih =>
      intro i n ys s₀ s3 σ3 H3 hn w3 hI3 st3 fr3
      have ee : ∀ (n : Nat) (s₀ : Shared) (x : Value) (s' : Shared), X.xe x s' → Seg (model X.prog X.w) A R (GY X S) n s₀ (.forLoop tg (.ref it) body [] X.env) (noted X.env x)
          (.ret (fun r => ((match r with | .ok f => (.pure f : Sem Flow) | .error e => .raise e).onRaise (cameBack X.env)).wrap K J gd lv) none (gd false) (lv []) c p [] :: fs) s' := fun n s₀ x s' hx => by
        refine seg_wrap ?_
        rw [(gl _).over]
        refine wpAny_bind (wpAny_mono (hp x s' hx) (fun _ s'' hcb => wpAny_theTreesLotGoes ?_) fun y s'' hcb => ?_)
        · exact seg_leaf (.error x) (seg_cameBack gg k hcb)
        · exact seg_leaf (.error y) (seg_cameBack gg k hcb)
      obtain ⟨acc3, c3, r3, I3⟩ := hI3
      refine seg_forLoop ?_
      rw [(gl _).over]
      rcases turn i m ys σ3 H3 w3 with ⟨stop, qn⟩ | ⟨go, N, hN, step⟩
      · refine wpAny_mono (T.done X rfl rfl rfl hc i _ s3 σ3 H3 X.xe I3 (stat fr3) st3 stop) (fun r s4 ⟨hr, I4⟩ => ?_) fun x s' hx => ee n s₀ x s' hx
        subst hr
        exact seg_again rfl (seg_blockNil (k.ok n ys s₀ s4 .next hn ⟨σ3, H3, ⟨acc3, c3, r3, I4⟩, qn⟩))
      · refine wpAny_mono (T.item X rfl rfl rfl hc i _ s3 σ3 H3 X.xe I3 (stat fr3) st3 go) (fun r s4 ⟨u, hr, h4⟩ => ?_) fun x s' hx => ee n s₀ x s' hx
        subst hr
        refine wpAny_mono h4 (fun _ s5 ⟨x, H5, I5, r5, y5, st5, fr5⟩ => ?_) fun x s' hx => ee n s₀ x s' hx
        have I5' := I5.pinned (stat fr5) (T.obj _ _ st5)
        refine wpAny_mono (hg.run _ s5 σ3 H5 x u _ I5' r5 (step x H5 y5)) (fun _ s6 ⟨σ6, H6, I6, q6⟩ => ?_) fun x s' hx => ee n s₀ x s' hx
        have g2 : GC X S (ip ++ pinsAt fp s5.heap) A (.forLoop tg (.ref it) body [] X.env) (.ret (fun r => ((match r with | .ok f => (.pure f : Sem Flow) | .error e => .raise e).onRaise (cameBack X.env)).wrap K J gd lv) none (gd false) (lv []) c p [] :: fs) id :=
          let z := gl _
          { pn := z.pn, apart := z.apart, over := z.over, split := z.split, guard := z.guard, gd := z.gd, ip := fun q hq => (List.mem_append.mp hq).elim (fun h => z.ip q h) fun h => nS _ (of_pinsAt h).1 }
        refine hb.run A S (ip ++ pinsAt fp s5.heap) R n ys s₀ _ _ _ _ id id s6 σ6 H6 { D with nx := N, ct := N, bk := D.nx } g2 hn ⟨fun n' ys' s₀' s7 f hn' hs => ?_, fun n' s₀' x s7 hx => ee n' s₀' x s7 hx⟩ ⟨acc3, c3, r3, I6⟩ q6
        have un : ∀ {ys' : List V} {σ7 : L2.St} {H7 : Hp}, GI X S (ip ++ pinsAt fp s5.heap) ys' σ7 H7 s7 → GI X S ip ys' σ7 H7 s7 := fun ⟨a7, c7, r7, I7⟩ => ⟨a7, c7, r7, Inv.unpinned (pins := (S, lstObj a7 c7) :: ip) I7⟩
        have again : ∀ {σ7 : L2.St} {H7 : Hp}, GI X S (ip ++ pinsAt fp s5.heap) ys' σ7 H7 s7 → N ys' σ7 H7 → Seg (model X.prog X.w) A R (GY X S) n' s₀' (.forLoop tg (.ref it) body [] X.env) (.pure (.again (.forLoop tg (.ref it) body [] X.env)))
            (.ret (fun r => ((match r with | .ok f => (.pure f : Sem Flow) | .error e => .raise e).onRaise (cameBack X.env)).wrap K J gd lv) none (gd false) (lv []) c p [] :: fs) s7 := fun {σ7 H7} G7 n7 => by
          obtain ⟨m', hm, w7⟩ := hN ys' σ7 H7 n7
          obtain ⟨a7, c7, r7, I7⟩ := id G7
          have at7 : ∀ b ∈ fp, ∀ o, s5.heap.get? b = some o → (b, o) ∈ X.pn ++ ((S, lstObj a7 c7) :: (ip ++ pinsAt fp s5.heap)) := fun b hb o e => List.mem_append_right _ (List.mem_cons_of_mem _ (List.mem_append_right _ (mem_pinsAt hb e)))
          refine seg_again rfl (ih m' hm (i + 1) n' ys' s₀' s7 σ7 H7 hn' w7 (un G7) (T.keep _ _ _ st5 fun b hb o e => (I7.pin (b, o) (at7 b hb o e)).1) fun b hb => ?_)
          obtain ⟨o, e, d⟩ := T.obj _ _ st5 b hb
          exact (I7.pin (b, o) (at7 b hb o e)).2.1
        cases f with
        | next => obtain ⟨σ7, H7, G7, n7⟩ := hs; exact again G7 n7
        | cont => obtain ⟨σ7, H7, G7, n7⟩ := hs; exact again G7 n7
        | brk => obtain ⟨σ7, H7, G7, n7⟩ := hs; exact seg_leaf (.ok .next) (k.ok n' ys' s₀' s7 .next hn' ⟨σ7, H7, un G7, n7⟩)
        | ret v => obtain ⟨x7, σ7, H7, G7, r7, q7⟩ := hs; exact seg_leaf (.ok (.ret v)) (k.ok n' ys' s₀' s7 (.ret v) hn' ⟨x7, σ7, H7, un G7, r7, q7⟩)
  exact loop m0 0 n ys s₀ s2 σ H2 hn w0 ⟨acc, cc, rr, I2⟩ st2 fun b hb => (f2 b hb).1
end
end My
set_option Elab.async false
set_option linter.all false
set_option maxRecDepth 100000
set_option maxHeartbeats 1000000
/-! the truth of an object with its own __len__; a lock in a generator; a generator def by its body -/
namespace My
open PySem PySem.Spec PyProof.Rows L2 GenW
section
variable {X : Cx} {k : Nat} {f C : Addr} {fd : FuncData} {ps : List Str} {sp : Sp} {ta : TE} {a : Expr} {pos : Pos}
theorem special_noX {M : Model} {A : Around} {E : Value → Shared → Prop} {s : Shared} {K : PySem.W.Frag} {a : Addr} {ox : Obj} {C : Addr} {name : Str} {args : List Value} {Q : Option Value → Shared → Prop} (X : K.In s.heap) (I : PySem.W.InstAt s.heap a ox C dd) (hf : PySem.W.findIn K (.ref C) name = some none) (h : Q none s) : wpAny M A (callSpecial? (.ref a) name args) Q E s := by
  unfold callSpecial? specialOf
  exact wpAny_bind (wpAny_bind (I.type.here ((PySem.W.looks_findIn X hf).here (wpAny_pure h))))
/-- what the truth of o wants: no __bool__, __len__ by the def at f -/
abbrev LenSp (C : Addr) (sp : Sp) (x : V) (H : Hp) (Q : Bool → Hp → Prop) : Prop := ∃ a dx fs, x = .ref a ∧ H a = some (.ins C dx fs) ∧ sp [.ref a] H (fun v H' => ∃ n : Int, v = .int n ∧ 0 ≤ n ∧ n ≤ 1000000 ∧ Q (n != 0) H') E0
theorem truthy_own (hno : PySem.W.findIn X.K (.ref C) "__bool__" = some none) (m : Meth X.K C "__len__" f) (F : FnOk X.prog X.w X.K X.mg X.base CX0 k f fd ps sp) (hb : Binds X.K fd ps [])
    {A : Around} (hr : Room (k + 1) A) {pins : List (Addr × Obj)} {σ : L2.St} {H : Hp} {s : Shared} {x : V} {u : Value} {Q : Bool → Hp → Prop} {R : Bool → Shared → Prop} (hen : Env0 X.prog X.w X.K X.mg X.base A X.stack s H)
    (I : Inv X pins σ H s) (rx : RelV x u) (h : LenSp C sp x H Q) (hR : ∀ b H' s', Inv X pins σ H' s' → Q b H' → R b s') : wpAny (model X.prog X.w) A (truthy u) R X.xe s := by
  obtain ⟨a, dx, fs, rfl, ea, hsp⟩ := h
  cases (show u = Value.ref a from rx)
  obtain ⟨od, J⟩ := inst_of I ea
  obtain ⟨mm, Fm⟩ := I.fr
  have key : wpAny (model X.prog X.w) A (runValue (.builtin "len" ⟨[.ref a], []⟩)) (fun r s' => ∃ n t H', r = .int n t ∧ Inv X pins σ H' s' ∧ Q (n != 0) H') X.xe s := by
    refine wpAny_runValue (codeAny_builtin entry_len ?_)
    rw [Around.under_plainId plain_len _]
    unfold Builtin.«len»
    refine wpAny_bind (m := oneArg "len" _) (wpAny_pure ?_)
    refine wpAny_bind (m := callSpecial? (.ref a) (Str.ofString "__len__")) (PySem.W.special_fn (I.mod.kin.keeps Fm.keep) J m.at_ (beq_iff_eq.mp m.fn) (run_own F hr.in1 hen.in1 hb I (vs := [.ref a]) (.cons rfl .nil) hsp fun u s' hu => ?_))
    obtain ⟨z, H', I', rz, n, rfl, n0, n1, q⟩ := hu
    obtain ⟨t, rfl⟩ := (show ∃ t, u = Value.int n t from rz)
    refine wpAny_bind (wpAny_holding (wpAny_pure ?_))
    refine wpAny_bind (wpAny_letGo ?_)
    show wpAny _ _ (if n < 0 then _ else _) _ _ _
    rw [if_neg (by omega)]
    show wpAny _ _ (if n ≥ 2 ^ 63 then _ else _) _ _ _
    rw [if_neg (by omega)]
    exact wpAny_bind (wpAny_mkInt (wpAny_pure ⟨n, _, H', rfl, I'.tok _, q⟩))
  have hspe : ∀ {Q' : Option Value → Shared → Prop}, Q' (some (.ref f)) s → wpAny (model X.prog X.w) A (specialOf (.ref a) "__len__") Q' X.xe s := fun q => by
    unfold specialOf
    exact wpAny_bind (J.type.here ((PySem.W.looks_findIn I.kIn m.at_).here q))
  unfold truthy
  first
    | refine wpAny_bind (special_noX (name := Str.ofString "__bool__") I.kIn J hno ?_)
    | refine wpAny_bind (wpAny_pure (wpAny_bind (special_noX (name := Str.ofString "__bool__") I.kIn J hno ?_)))
  first
    | refine wpAny_bind (hspe ?_)
    | refine wpAny_bind (wpAny_pure (wpAny_bind (hspe ?_)))
  first
    | exact wpAny_bind (wpAny_mono key (fun r s' h' => by obtain ⟨n, t, H', rfl, I', q⟩ := h'; exact wpAny_pure (hR _ H' s' I' q)) fun _ _ e => e)
    | exact wpAny_bind (wpAny_pure (wpAny_bind (wpAny_mono key (fun r s' h' => by obtain ⟨n, t, H', rfl, I', q⟩ := h'; exact wpAny_pure (hR _ H' s' I' q)) fun _ _ e => e)))
/-- not o -/
def tNotOwn (C : Addr) (sp : Sp) (ta : TE) : TE := fun σ H Q => ta σ H fun x H1 => LenSp C sp x H1 fun b H2 => Q (.bl (!b)) H2
theorem pe_notOwn (hno : PySem.W.findIn X.K (.ref C) "__bool__" = some none) (m : Meth X.K C "__len__" f) (F : FnOk X.prog X.w X.K X.mg X.base CX0 k f fd ps sp) (hr : Room (k + 1) X.A) (hb : Binds X.K fd ps []) (ha : PE X a ta) : PE X (.UnaryOp .Not a pos) (tNotOwn C sp ta) := by
  refine ⟨fun pins s σ H Q I h => ?_⟩
  refine UnaryOp_ (thn (ha.run pins s σ H _ I h) fun v s1 ⟨x, H1, I1, r1, q1⟩ => ?_)
  exact not_of (truthy_own hno m F hb hr I1.env0 I1 r1 q1 fun b H' s' I' q => ⟨.bl (!b), H', I', rfl, q⟩)
/-- bool(o) -/
theorem call_boolOwn (hno : PySem.W.findIn X.K (.ref C) "__bool__" = some none) (m : Meth X.K C "__len__" f) (F : FnOk X.prog X.w X.K X.mg X.base CX0 k f fd ps sp) (hr : Room (k + 3) X.A) (hb : Binds X.K fd ps []) :
    CallR X (.type "bool") (fun xs H Q => ∃ x, xs = [x] ∧ LenSp C sp x H fun b H' => Q (.bl b) H') := by
  intro pins s σ H xs us Q I r h
  obtain ⟨x, rfl, h⟩ := h
  obtain ⟨u, rfl, ru⟩ := vals1 r
  refine callType_codes (T := "bool") (Bi := Builtin.«object.__init__») (Q₁ := fun r s₁ => ∃ b, r = .bool b ∧ EP X pins σ Q (.bool b) s₁) PySem.F.called_bool (PySem.F.typeCall_bool_1 _) PySem.F.entry_object_init ?_ ?_
  · refine codeAny_of_tree ?_
    show wpAny _ X.A.in1.in1 (do checkBuiltinCall "bool.__new__" ⟨[.type "bool", u], []⟩; again (.builtin "bool.__new__" ⟨[.type "bool", u], []⟩)) _ _ s
    refine wpAny_bind (wpAny_of_eq (PySem.F.newCall_bool_1 _) (wpAny_pure ⟨plainId_quiet (by decide +kernel) _, codeAny_builtin PySem.F.entry_bool_new ?_⟩))
    rw [Around.under_plainId (by decide +kernel) _]
    have f1 := PySem.F.conv_sub_bool
    have tr : wpAny (model X.prog X.w) X.A.in1.in1 (truthy u) (fun b s' => EP X pins σ Q (.bool b) s') X.xe s := truthy_own hno m F hb hr.in1.in1 I.env0.in1.in1 I ru h fun b H' s' I' q => ⟨.bl b, H', I', rfl, q⟩
    unfold Builtin.«bool.__new__»
    repeat (any_goals (first | assumption | (with_reducible refine wpAny_mono tr (fun b s' hb' => ?_) fun _ _ e => e) | wp_step))
    all_goals first | exact ⟨_, rfl, _, rfl, hb'⟩ | exact ⟨_, rfl, hb'⟩ | skip
  · rintro obj s₁ ⟨b, rfl, hq⟩
    exact ⟨PySem.typeIs_bool _ _, PySem.F.args_object_init_2 _ _, object_init_meets PySem.F.called_bool.init.lookup PySem.F.called_bool.made (by decide) X.prog X.w X.A.in1 _ s₁ ⟨PySem.typeIs_bool _ _, rfl, hq⟩⟩
end
section
variable {X : Cx}
def tGLock (t : TGn) : TGn := fun D ys σ H => ∃ d u, H d = some u ∧ Mut (some u) ∧ ∀ od, t ⟨fun ys' σ' H' => H' d = some (.frz od u) ∧ D.nx ys' σ' (upd H' d u), fun ys' v H' => H' d = some (.frz od u) ∧ D.rt ys' v (upd H' d u), fun ys' σ' H' => H' d = some (.frz od u) ∧ D.bk ys' σ' (upd H' d u), fun ys' σ' H' => H' d = some (.frz od u) ∧ D.ct ys' σ' (upd H' d u)⟩ ys σ (upd H d (.frz od u))
theorem gs_lock {st : Stmt} {t : TGn} (h : GS X st t) : GS X st (tGLock t) := by
  refine ⟨fun A S ip R n ys s₀ c fs K J gd lv s σ H D g hn k hI ht => ?_⟩
  obtain ⟨d, u, hd, mu, ht⟩ := ht
  obtain ⟨acc, cc, r, I⟩ := hI
  have nf := I.nofrz hd mu
  obtain ⟨od, I1⟩ := I.lock hd mu
  refine h.run A S ip R n ys s₀ c fs K J gd lv s σ _ _ g hn ⟨fun n' ys' s₀' s' f hn' hs => ?_, k.exc⟩ ⟨acc, cc, r, I1⟩ (ht od)
  have un : ∀ {ys' : List V} {σ' : L2.St} {H' : Hp}, GI X S ip ys' σ' H' s' → H' d = some (.frz od u) → GI X S ip ys' σ' (upd H' d u) s' := fun ⟨a7, c7, r7, I7⟩ e => ⟨a7, c7, r7, I7.unlock e nf⟩
  cases f with
  | next => obtain ⟨σ', H', G, e, q⟩ := hs; exact k.ok n' ys' s₀' s' .next hn' ⟨σ', _, un G e, q⟩
  | brk => obtain ⟨σ', H', G, e, q⟩ := hs; exact k.ok n' ys' s₀' s' .brk hn' ⟨σ', _, un G e, q⟩
  | cont => obtain ⟨σ', H', G, e, q⟩ := hs; exact k.ok n' ys' s₀' s' .cont hn' ⟨σ', _, un G e, q⟩
  | ret v => obtain ⟨x, σ', H', G, rr, e, q⟩ := hs; exact k.ok n' ys' s₀' s' (.ret v) hn' ⟨x, σ', _, un G e, rr, q⟩
theorem gss_one {st : Stmt} {t : TGn} (h : GS X st t) : GSs X [st] (tGThen t tG0) := gss_cons h gss_nil
end
section
variable {P : Program} {w : World} {K : PySem.W.Frag} {mg : Str → Option Value} {base : Heap}
/-- a generator def by its body -/
theorem Fun.okY {x qual : Str} {st : Stmt} {f : Addr} {fd : FuncData} {N ps : List Str} {k : Nat} {sp : SpG} (F : Fun K x qual st f fd) (S : GScope N ps (defScope st)) (len : ∀ vs H Q E, sp vs H Q E → vs.length = ps.length)
    (hbody : ∀ (cdv : Value) (A : Around) (outer : List Env) (s : Shared) (H : Hp) (vs : List V) (Q : List V → Hp → Prop) (E : XK) (pn : List (Addr × Obj)), Room k (A.deeper (envOfC qual (defScope st) s.heap.objs.size f cdv)) → sp vs H Q E →
      ∃ t, GSs (gcxOf P w K mg base N qual (defScope st) f cdv A outer s H E pn) (defBody st) t ∧ t { nx := fun ys _ H' => Q ys H', rt := fun ys v H' => v = .non ∧ Q ys H' } [] (start N vs) H) : GFn P w K mg base (k + 1) f fd ps sp := by
  obtain ⟨oc, od, kV, doc, pm, an, cdv, ct, osl, rfl, lk, hcd⟩ := F.ex
  exact gfn_of lk hcd S len fun A outer s H vs Q E pn hr hsp => hbody cdv A outer s H vs Q E pn hr hsp
end
/-- no exception at all -/
theorem noStop0 {K : PySem.W.Frag} : NoStop K E0 := fun _ _ _ h => h.elim
theorem passE0 {X : Cx} : Passes (CX X.prog X.w) X E0 := fun _ _ _ _ _ _ _ h => by
  obtain ⟨_, _, _, _, _, _, _, _, _, _, _, _, w⟩ := h
  exact w.elim
end My
set_option Elab.async false
set_option linter.all false
set_option maxRecDepth 100000
namespace My
open PySem PySem.Spec PyProof.Rows L2
/-- a for in a generator over a walk -/
theorem gfor_it {J : It} {n : Nat} {G : Hp → Prop} {Y : Nat → Hp → V → Hp → Prop} (w : Walk J n G Y) {g : TG} {tb : TGn} {D : GEnds} {ys : List V} {σ : L2.St} {H : Hp} (Pv : Nat → List V → L2.St → Hp → Prop) (h0 : Pv 0 ys σ H) (hG : ∀ i ys σ H, i ≤ n → Pv i ys σ H → G H)
    (hs : ∀ i x ys σ H H', i < n → Pv i ys σ H → Y i H x H' → g x σ H' fun σ2 H2 => tb { D with nx := Pv (i + 1), ct := Pv (i + 1), bk := D.nx } ys σ2 H2) (hd : ∀ ys σ H, Pv n ys σ H → D.nx ys σ H) :
    ∃ W : Nat → Nat → List V → L2.St → Hp → Prop, (∃ m, W 0 m ys σ H) ∧ ∀ i m ys σ H, W i m ys σ H →
      (J.stop i H ∧ D.nx ys σ H) ∨ (J.go i H ∧ ∃ N : List V → L2.St → Hp → Prop, (∀ ys' σ' H', N ys' σ' H' → ∃ m', m' < m ∧ W (i + 1) m' ys' σ' H') ∧ ∀ x H', J.yld i H x H' → g x σ H' fun σ2 H2 => tb { D with nx := N, ct := N, bk := D.nx } ys σ2 H2) := by
  refine ⟨fun i m ys σ H => m = n - i ∧ i ≤ n ∧ Pv i ys σ H, ⟨n, by simp, Nat.zero_le _, h0⟩, ?_⟩
  rintro i m ys σ H ⟨rfl, hi, p⟩
  have q := hG i ys σ H hi p
  by_cases hlt : i < n
  · exact .inr ⟨w.goes i H hlt q, Pv (i + 1), fun ys' σ' H' p' => ⟨n - (i + 1), by omega, rfl, hlt, p'⟩, fun x H' y => hs i x ys σ H H' hlt p (w.yields i H x H' hlt q y)⟩
  · have e : i = n := by omega
    subst e
    exact .inl ⟨w.stops H q, hd ys σ H p⟩
/-- the value at a place -/
def valS (l : List (Str × Str)) (y : Str) : Option Str := (l.find? fun p => decide (p.1 = y)).map (·.2)
theorem val_get : ∀ (l : List (Str × Str)) (y : Str), valV (setKV l) (Sum.inr y : Key) = (valS l y).map V.str
  | [], _ => rfl
  | p :: r, y => by
    by_cases h : p.1 = y
    · have e : valS (p :: r) y = some p.2 := by
        unfold valS
        rw [List.find?_cons, show decide (p.1 = y) = true from decide_eq_true h]
        rfl
      rw [e]
      exact valV_pos (p := (Sum.inr p.1, V.str p.2)) (by show (Sum.inr p.1 : Key) = Sum.inr y; rw [h])
    · have e : valS (p :: r) y = valS r y := by
        unfold valS
        rw [List.find?_cons, show decide (p.1 = y) = false from decide_eq_false h]
      rw [e, ← val_get r y]
      exact valV_neg (p := (Sum.inr p.1, V.str p.2)) (by show ¬ (Sum.inr p.1 : Key) = Sum.inr y; exact fun z => h (Sum.inr.inj z))
theorem valS_some : ∀ (l : List (Str × Str)) (y : Str), (valS l y).isSome = decide (y ∈ l.map (·.1))
  | [], _ => rfl
  | p :: r, y => by
    by_cases h : p.1 = y
    · unfold valS
      rw [List.find?_cons, show decide (p.1 = y) = true from decide_eq_true h]
      exact (decide_eq_true (by rw [List.map_cons, h]; exact List.mem_cons_self ..)).symm
    · have e : valS (p :: r) y = valS r y := by
        unfold valS
        rw [List.find?_cons, show decide (p.1 = y) = false from decide_eq_false h]
      rw [e, valS_some r y]
      refine decide_eq_decide.mpr ⟨fun m => ?_, fun m => ?_⟩
      · rw [List.map_cons]; exact List.mem_cons_of_mem _ m
      · rw [List.map_cons] at m
        rcases List.mem_cons.mp m with z | z
        · exact absurd z.symm h
        · exact z
theorem valS_at : ∀ {l : List (Str × Str)} {i : Nat} {p : Str × Str}, (l.map (·.1)).Nodup → l[i]? = some p → valS l p.1 = some p.2
  | [], i, p, _, e => by simp at e
  | a :: r, 0, p, _, e => by
    cases (Option.some.inj e : a = p)
    unfold valS
    rw [List.find?_cons, show decide (a.1 = a.1) = true from decide_eq_true rfl]
    rfl
  | a :: r, i + 1, p, h, e => by
    have e2 : r[i]? = some p := e
    have hr := List.nodup_cons.mp (show (a.1 :: r.map (·.1)).Nodup from h)
    have ne : ¬ a.1 = p.1 := fun z => hr.1 (by rw [z]; exact List.mem_map.mpr ⟨p, List.mem_of_getElem? e2, rfl⟩)
    have : valS (a :: r) p.1 = valS r p.1 := by
      unfold valS
      rw [List.find?_cons, show decide (a.1 = p.1) = false from decide_eq_false ne]
    rw [this]
    exact valS_at hr.2 e2
theorem keys_map (l : List (Str × Str)) : ((setKV l).map fun kv => kV kv.1) = (l.map (·.1)).map V.str := by
  unfold setKV
  rw [List.map_map, List.map_map]
  rfl
theorem setKV_len (l : List (Str × Str)) : (setKV l).length = l.length := by unfold setKV; rw [List.length_map]
theorem setKV_at {l : List (Str × Str)} {i : Nat} {k : Key} {v : V} (h : (setKV l)[i]? = some (k, v)) : ∃ p, l[i]? = some p ∧ k = .inr p.1 ∧ v = .str p.2 := by
  unfold setKV at h
  rw [List.getElem?_map] at h
  cases e : l[i]? with
  | none => rw [e] at h; cases h
  | some p => rw [e] at h; cases h; exact ⟨p, rfl, rfl, rfl⟩
/-- the pairs (place, value) as they stand -/
def PairsAt (H : Hp) : List V → List (Str × Str) → Prop := Paired fun v p => ∃ a, v = .ref a ∧ H a = some (.tup [.str p.1, .str p.2])
theorem PairsAt.same {H H' : Hp} (s : Same H H') : ∀ {vs : List V} {l : List (Str × Str)}, PairsAt H vs l → PairsAt H' vs l
  | _, _, .nil => .nil
  | _, _, .cons ⟨a, e, h⟩ t => .cons ⟨a, e, s _ _ h⟩ (PairsAt.same s t)
end My
set_option Elab.async false
set_option linter.all false
set_option maxRecDepth 100000
/-! own == and != of an instance with an object of any plain kind, and == from the other side -/
namespace My
open PySem PySem.Spec PyProof.Rows L2
/-- the plain kinds -/
inductive KindS (H : Hp) : V → String → Prop where
  | non : KindS H .non "NoneType"
  | bl (b : Bool) : KindS H (.bl b) "bool"
  | int (i : Int) : KindS H (.int i) "int"
  | str (z : Str) : KindS H (.str z) "str"
  | lst {a : Addr} {xs : List V} (e : H a = some (.lst xs)) : KindS H (.ref a) "list"
  | tup {a : Addr} {xs : List V} (e : H a = some (.tup xs)) : KindS H (.ref a) "tuple"
def plainKinds : List String := ["NoneType", "bool", "int", "str", "list", "tuple"]
/-- what the written part says of a class with an own == -/
structure EqC (K : PySem.W.Frag) (C f : Addr) : Prop where
  eq : Meth K C "__eq__" f
  ne : PySem.W.findIn K (.ref C) "__ne__" = some (some (.builtin "object.__ne__"))
  mro : PySem.W.mroIn K C (.type "object") = some true
  off : ∀ T ∈ plainKinds, PySem.W.mroIn K C (.type T) = some false
theorem sub_off {K : PySem.W.Frag} {C : Addr} {T : String} {l : List String} (e : fastBuiltinMro T = some (l.map Value.type)) : PySem.W.subIn K (.type T) (.ref C) = some false := by
  show (fastBuiltinMro T).map (·.contains (.ref C)) = some false
  rw [e]
  show some ((l.map Value.type).contains (.ref C)) = some false
  congr 1
  clear e
  induction l with
  | nil => rfl
  | cons a r ih =>
    rw [List.map_cons, List.contains_cons]
    rw [ih, Bool.or_false]
    first
      | rfl
      | simp
theorem kit_off {K : PySem.W.Frag} {C : Addr} {T : String} {dd : Option Addr} {cd : ClassData} {sl : Array (Option Value)} {l : List String} (lc : K.lookup C = some ⟨.type "type", dd, .cls cd, sl⟩) (e : fastBuiltinMro T = some (l.map Value.type)) :
    PySem.W.kitOne K (.type T) (.ref C) = some false := by
  have h1 : PySem.W.clsIn K C = some cd := by
    unfold PySem.W.clsIn
    rw [lc]
  have h2 : PySem.W.typeIn K (.ref C) = some (.type "type") := by
    show (K.lookup C).map (·.cls) = _
    rw [lc]
    rfl
  unfold PySem.W.kitOne
  rw [if_neg (by simp)]
  show (if ((PySem.W.clsIn K C).isSome && PySem.W.typeIn K (.ref C) == some (.type "type")) = true then PySem.W.subIn K (.type T) (.ref C) else none) = some false
  rw [h1, h2, if_pos (by simp)]
  exact sub_off e
section
variable {X : Cx} {k : Nat} {f C : Addr} {fd : FuncData} {ps : List Str} {sp : Sp} {pins : List (Addr × Obj)} {σ : L2.St} {H : Hp} {s : Shared}
theorem KindS.typeIs {v : V} {u : Value} {T : String} (I : Inv X pins σ H s) (r : RelV v u) (k : KindS H v T) : s.TypeIs u T := by
  cases k with
  | non => cases (show u = Value.none from r); rfl
  | bl b => cases (show u = Value.bool b from r); rfl
  | int i => obtain ⟨t, q⟩ := (show ∃ t, u = Value.int i t from r); cases q; rfl
  | str z => obtain ⟨t, q⟩ := (show ∃ t, u = Value.str z t from r); cases q; rfl
  | lst e =>
    rename_i a xs
    cases (show u = Value.ref a from r)
    obtain ⟨its, _, pl, _⟩ := I.list (SqL.of (K := X.K) e)
    obtain ⟨o, h1, h2, _⟩ := pl.isList
    exact ⟨o, h1, h2⟩
  | tup e =>
    rename_i a xs
    cases (show u = Value.ref a from r)
    obtain ⟨its, _, ⟨o, h1, h2, _⟩, _⟩ := I.tuple (SqT.of (K := X.K) e)
    exact ⟨o, h1, h2⟩
theorem KindS.sub {v : V} {T : String} {K : PySem.W.Frag} (k : KindS H v T) : PySem.W.subIn K (.type T) (.ref C) = some false := by
  cases k with
  | non => exact sub_off (l := ["NoneType", "object"]) (by decide +kernel)
  | bl b => exact sub_off (l := ["bool", "int", "object"]) (by decide +kernel)
  | int i => exact sub_off (l := ["int", "object"]) (by decide +kernel)
  | str z => exact sub_off (l := ["str", "object"]) (by decide +kernel)
  | lst e => exact sub_off (l := ["list", "object"]) (by decide +kernel)
  | tup e => exact sub_off (l := ["tuple", "object"]) (by decide +kernel)
theorem KindS.mem {v : V} {T : String} (k : KindS H v T) : T ∈ plainKinds := by cases k <;> decide
/-- an instance of the class, or an object of a plain kind -/
def Oth (C : Addr) (H : Hp) (y : V) : Prop := (∃ b dy gs, y = .ref b ∧ H b = some (.ins C dy gs)) ∨ ∃ T, KindS H y T
theorem oth_looks {y : V} {u : Value} (I : Inv X pins σ H s) (r : RelV y u) (o : Oth C H y) : ∃ tb, PySem.W.Looks (model X.prog X.w) s.heap (typeOf u) tb ∧ PySem.W.notFirst X.K C tb = true := by
  rcases o with ⟨b, dy, gs, rfl, e⟩ | ⟨T, k⟩
  · cases (show u = Value.ref b from r)
    obtain ⟨od, J⟩ := inst_of I e
    exact ⟨.ref C, J.type, by simp [PySem.W.notFirst]⟩
  · refine ⟨.type T, fun A Q E s' keep q => ?_, by unfold PySem.W.notFirst; rw [k.sub]; simp⟩
    have t := k.typeIs I r
    refine wpAny_typeOf ?_ q
    cases u with
    | ref a => obtain ⟨o, h1, h2⟩ := t; exact ⟨o, keep _ _ h1, h2⟩
    | _ => exact t
/-- x == y (x != y), x an instance of the class at C -/
def rEqOwn (C : Addr) (sp : Sp) (neg : Bool) : R2 := fun x y H Q => ∃ a dx fs, x = .ref a ∧ H a = some (.ins C dx fs) ∧ Oth C H y ∧ sp [x, y] H (fun v H' => ∃ b, v = .bl b ∧ Q (.bl (if neg then !b else b)) H') E0
theorem op_eqOwn (c : EqC X.K C f) (F : FnOk X.prog X.w X.K X.mg X.base CX0 k f fd ps sp) (hr : Room k X.A) (hb : Binds X.K fd ps []) : OpR X (compareOp .Eq) (rEqOwn C sp false) := by
  intro pins s σ H x y v u Q I rx ry h
  obtain ⟨a, dx, fs, rfl, ea, ho, hsp⟩ := h
  cases (show v = Value.ref a from rx)
  obtain ⟨od, J⟩ := inst_of I ea
  obtain ⟨mm, Fm⟩ := I.fr
  obtain ⟨tb, hl, hn⟩ := oth_looks I ry ho
  show wpAny _ _ (richCompare .Eq (.ref a) u) _ _ _
  refine PySem.W.cmp_K (op := .Eq) hr.units0 Fm I.mod.kin J hl hn c.eq.at_ c.eq.fn (run_own F hr I.env0 hb I (vs := [.ref a, y]) (.cons rfl (.cons ry .nil)) hsp fun u' s' hu => ?_)
  obtain ⟨z, H', I', rz, b, rfl, q⟩ := hu
  cases (show u' = Value.bool b from rz)
  exact ⟨.bl b, H', I', rfl, q⟩
theorem ifBound_ne {M : Model} {A : Around} {E : Value → Shared → Prop} {K : PySem.W.Frag} {a : Addr} {ox : Obj} {od : Option Obj} {args : List Value} {Q : Option Value → Shared → Prop} (kin : K.In s.heap) (J : PySem.W.InstAt s.heap a ox C od) (hs : PySem.W.findIn K (.ref C) "__ne__" = some (some (.builtin "object.__ne__")))
    (h : wpAny M A (call (.builtin "object.__ne__") (.ref a :: args)) (fun v => Q (some v)) E s) : wpAny M A (callSpecialIfBound? (.ref a) "__ne__" args) Q E s := by
  have fin : wpAny M A (call (.builtin "object.__ne__") ([.ref a] ++ args) >>= fun v => pure (some v)) Q E s := wpAny_bind (wpAny_mono h (fun v s' q => wpAny_pure q) fun _ _ q => q)
  simp only [callSpecialIfBound?, bindSpecialIfBound?]
  refine wpAny_holding (wpAny_bind (wpAny_bind (wpAny_bind (J.type.here ((PySem.W.looks_findIn kin hs).here (wpAny_bind (wpAny_askSetting (wpAny_ite ?_))))))))
  split
  · exact wpAny_bind (wpAny_of_eq (PySem.F.cmp_object.ne.bind _) (wpAny_pure (by exact fin)))
  · exact wpAny_tryCatch (wpAny_bind (wpAny_of_eq (PySem.F.cmp_object.ne.bind _) (wpAny_pure (by exact fin))))
theorem op_neOwn (c : EqC X.K C f) (F : FnOk X.prog X.w X.K X.mg X.base CX0 k f fd ps sp) (hr : Room (k + 1) X.A) (hb : Binds X.K fd ps []) : OpR X (compareOp .NotEq) (rEqOwn C sp true) := by
  intro pins s σ H x y v u Q I rx ry h
  obtain ⟨a, dx, fs, rfl, ea, ho, hsp⟩ := h
  cases (show v = Value.ref a from rx)
  obtain ⟨od, J⟩ := inst_of I ea
  obtain ⟨mm, Fm⟩ := I.fr
  obtain ⟨tb, hl, hn⟩ := oth_looks I ry ho
  have un := hr.un
  have one : wpAny (model X.prog X.w) X.A (tryCompare (.ref a) "__ne__" u) (fun r s' => ∃ w, r = some w ∧ EP X pins σ Q w s') X.xe s := by
    unfold tryCompare
    refine wpAny_bind (ifBound_ne I.kIn J c.ne (wpAny_call (codeAny_call_builtin PySem.F.cmp_object.ne.plain PySem.F.cmpEntry_ne (PySem.W.check_slot PySem.F.cmpKind_ne PySem.F.cmpSplit_ne (J.type.andThen (PySem.W.looks_mroIn I.kIn c.mro)) (PySem.F.cmpArgs_ne _ _) ?_))))
    unfold Builtin.«object.__ne__»
    have en := I.env0.in1
    have own : wpAny (model X.prog X.w) X.A.in1 (callSpecialIfBound? (.ref a) "__eq__" [u]) (fun r s' => ∃ b, r = some (.bool b) ∧ EP X pins σ Q (.bool (!b)) s') X.xe s :=
      PySem.W.ifBound_K I.kIn J c.eq.at_ c.eq.fn (run_own F hr.in1 en hb I (vs := [.ref a, y]) (.cons rfl (.cons ry .nil)) hsp fun u' s' hu => by
        obtain ⟨z, H', I', rz, b, rfl, q⟩ := hu
        cases (show u' = Value.bool b from rz)
        exact ⟨b, rfl, .bl (!b), H', I', rfl, q⟩)
    repeat (first
      | with_reducible refine wpAny_cRoomFor (by show X.A.units + 1 < cLine; omega) ?_
      | (refine wpAny_bind (m := callSpecialIfBound? (.ref a) (Str.ofString "__eq__") [u]) (wpAny_mono own (fun r s' hq => ?_) fun _ _ q => q))
      | wp_step)
    obtain ⟨b, rfl, q⟩ := hq
    exact wpAny_bind (wpAny_truthy_bool (wpAny_pure (wpAny_pure ⟨_, rfl, q⟩)))
  show wpAny _ _ (richCompare .NotEq (.ref a) u) _ _ _
  simp only [richCompare, cmpInfo_NotEq, oneThing_ref]
  refine wpAny_holding (wpAny_bind (wpAny_cRoomFor hr.units0 (wpAny_bind (J.type.here (wpAny_bind (hl.here ?_))))))
  generalize tryCompare (.ref a) (Str.ofString "__ne__") u = tc at one ⊢
  generalize EP X pins σ Q = R at one ⊢
  have fin : ∀ (m : Sem Value), wpAny (model X.prog X.w) X.A (tc >>= fun d => match d with | some v => pure v | _ => m) R X.xe s := fun m =>
    wpAny_bind (wpAny_mono one (fun r s' z => by obtain ⟨w, rfl, z⟩ := z; exact wpAny_pure z) fun _ _ z => z)
  split
  · rename_i q
    have e : PySem.W.subIn X.K tb (.ref C) = some false := by
      rcases Bool.or_eq_true_iff.mp hn with e | e
      · rw [beq_iff_eq.mp e] at q; simp at q
      · exact beq_iff_eq.mp e
    refine wpAny_bind ((PySem.W.looks_subIn I.kIn e).here ?_)
    simp only [Bool.false_eq_true, if_false]
    exact fin _
  · refine wpAny_bind (wpAny_pure ?_)
    simp only [Bool.false_eq_true, if_false]
    exact fin _
/-! ### from the other side -/
theorem str_off {M : Model} {A : Around} {E : Value → Shared → Prop} {a dx : Addr} {od : Option Obj} {z : Str} {t : Tok} {Q : PySem.Fin → Shared → Prop} (J : PySem.W.InstAt s.heap a (PySem.W.instObj C dx) C od) (h : Q (.done (.ret .notImplemented)) s) :
    wpAny M A (Builtin.«str.__eq__» ⟨[.str z t, .ref a], []⟩) Q E s := by
  unfold Builtin.«str.__eq__» Builtin.Str.strCompare Builtin.Str.strSlot
  repeat (first | with_reducible refine wpAny_load J.at_ ?_ | wp_step)
  exact h
theorem int_off {M : Model} {A : Around} {E : Value → Shared → Prop} {a dx : Addr} {od : Option Obj} {z : Int} {t : Tok} {Q : PySem.Fin → Shared → Prop} (J : PySem.W.InstAt s.heap a (PySem.W.instObj C dx) C od) (h : Q (.done (.ret .notImplemented)) s) :
    wpAny M A (Builtin.«int.__eq__» ⟨[.int z t, .ref a], []⟩) Q E s := by
  show wpAny M A (Builtin.Int.intBinary "__eq__" (fun x y => ret (.bool (x == y))) false ⟨[.int z t, .ref a], []⟩) Q E s
  unfold Builtin.Int.intBinary
  repeat (first | with_reducible refine wpAny_load J.at_ ?_ | wp_step)
  exact h
theorem bool_off {M : Model} {A : Around} {E : Value → Shared → Prop} {a dx : Addr} {od : Option Obj} {z : Bool} {Q : PySem.Fin → Shared → Prop} (J : PySem.W.InstAt s.heap a (PySem.W.instObj C dx) C od) (h : Q (.done (.ret .notImplemented)) s) :
    wpAny M A (Builtin.«int.__eq__» ⟨[.bool z, .ref a], []⟩) Q E s := by
  show wpAny M A (Builtin.Int.intBinary "__eq__" (fun x y => ret (.bool (x == y))) false ⟨[.bool z, .ref a], []⟩) Q E s
  unfold Builtin.Int.intBinary
  repeat (first | with_reducible refine wpAny_load J.at_ ?_ | wp_step)
  exact h
theorem inst_off {K : PySem.W.Frag} {prog : Program} {w : World} {A : Around} {E : Value → Shared → Prop} {a dx : Addr} {od : Option Obj} {T : String} {Q' : Bool → Shared → Prop} (kin : K.In s.heap) (J : PySem.W.InstAt s.heap a (PySem.W.instObj C dx) C od) (off : PySem.W.mroIn K C (.type T) = some false)
    (h : Q' false s) : wpAny (model prog w) A (isInstance (.ref a) (.type T)) Q' E s := by
  have L : PySem.W.Looks (model prog w) s.heap (isInstance (.ref a) (.type T)) false := J.type.andThen (PySem.W.looks_mroIn kin off)
  exact L.here h
theorem list_off {K : PySem.W.Frag} {prog : Program} {w : World} {A : Around} {E : Value → Shared → Prop} {a l dx : Addr} {od : Option Obj} {Q : PySem.Fin → Shared → Prop} (kin : K.In s.heap) (J : PySem.W.InstAt s.heap a (PySem.W.instObj C dx) C od) (off : PySem.W.mroIn K C (.type "list") = some false)
    (h : Q (.done (.ret .notImplemented)) s) : wpAny (model prog w) A (Builtin.«list.__eq__» ⟨[.ref l, .ref a], []⟩) Q E s := by
  show wpAny _ _ (isInstance (.ref a) (.type "list") >>= _) _ _ s
  refine wpAny_bind (inst_off kin J off ?_)
  simp only [Bool.not_false, if_true]
  repeat (first | exact h | wp_step)
theorem tup_off {K : PySem.W.Frag} {prog : Program} {w : World} {A : Around} {E : Value → Shared → Prop} {a l dx : Addr} {od : Option Obj} {Q : PySem.Fin → Shared → Prop} (kin : K.In s.heap) (J : PySem.W.InstAt s.heap a (PySem.W.instObj C dx) C od) (off : PySem.W.mroIn K C (.type "tuple") = some false)
    (h : Q (.done (.ret .notImplemented)) s) : wpAny (model prog w) A (Builtin.«tuple.__eq__» ⟨[.ref l, .ref a], []⟩) Q E s := by
  show wpAny _ _ (isInstance (.ref a) (.type "tuple") >>= _) _ _ s
  refine wpAny_bind (inst_off kin J off ?_)
  simp only [Bool.not_false, if_true]
  repeat (first | exact h | wp_step)
/-- an object of a plain kind declines -/
theorem declines {v : V} {u : Value} {T : String} {a dx : Addr} {fs : List (Str × V)} {Q : Option Value → Shared → Prop} {E : Value → Shared → Prop} {A : Around} (c : EqC X.K C f) (I : Inv X pins σ H s) (ea : H a = some (.ins C dx fs)) (r : RelV v u) (kd : KindS H v T) (h : Q none s) :
    wpAny (model X.prog X.w) A (tryCompare u "__eq__" (.ref a)) Q E s := by
  have hT := kd.typeIs I r
  obtain ⟨od, J⟩ := inst_of I ea
  cases kd with
  | non =>
    cases (show u = Value.none from r)
    exact wpAny_tryCompare_declines hT PySem.F.slot_NoneType_eq (wpAny_call_entry PySem.F.slot_NoneType_eq hT PySem.F.entry_NoneType_eq (wpAny_pure ⟨_, rfl, rfl, h⟩) (PySem.F.args_NoneType_eq_2 _ _))
  | bl b =>
    cases (show u = Value.bool b from r)
    exact wpAny_tryCompare_declines hT PySem.F.slot_bool_eq (wpAny_call_entry PySem.F.slot_bool_eq hT PySem.F.entry_int_eq (bool_off J ⟨_, rfl, rfl, h⟩) (PySem.F.args_int_eq_2 _ _))
  | int i =>
    obtain ⟨t, q⟩ := (show ∃ t, u = Value.int i t from r)
    cases q
    exact wpAny_tryCompare_declines hT PySem.F.slot_int_eq (wpAny_call_entry PySem.F.slot_int_eq hT PySem.F.entry_int_eq (int_off J ⟨_, rfl, rfl, h⟩) (PySem.F.args_int_eq_2 _ _))
  | str z =>
    obtain ⟨t, q⟩ := (show ∃ t, u = Value.str z t from r)
    cases q
    exact wpAny_tryCompare_declines hT PySem.F.slot_str_eq (wpAny_call_entry PySem.F.slot_str_eq hT PySem.F.entry_str_eq (str_off J ⟨_, rfl, rfl, h⟩) (PySem.F.args_str_eq_2 _ _))
  | lst e =>
    rename_i l xs
    cases (show u = Value.ref l from r)
    exact wpAny_tryCompare_declines hT PySem.F.slot_list_eq (wpAny_call_entry PySem.F.slot_list_eq hT PySem.F.entry_list_eq (list_off I.kIn J (c.off _ (by decide)) ⟨_, rfl, rfl, h⟩) (PySem.F.args_list_eq_2 _ _))
  | tup e =>
    rename_i l xs
    cases (show u = Value.ref l from r)
    exact wpAny_tryCompare_declines hT PySem.F.slot_tuple_eq (wpAny_call_entry PySem.F.slot_tuple_eq hT PySem.F.entry_tuple_eq (tup_off I.kIn J (c.off _ (by decide)) ⟨_, rfl, rfl, h⟩) (PySem.F.args_tuple_eq_2 _ _))
/-- x == o, x of a plain kind, o an instance: o's own == is asked -/
def rEqOwnR (C : Addr) (sp : Sp) : R2 := fun x y H Q => ∃ a dx fs T, y = .ref a ∧ H a = some (.ins C dx fs) ∧ KindS H x T ∧ sp [y, x] H (fun v H' => ∃ b, v = .bl b ∧ Q (.bl b) H') E0
theorem op_eqOwnR (c : EqC X.K C f) (F : FnOk X.prog X.w X.K X.mg X.base CX0 k f fd ps sp) (hr : Room k X.A) (hb : Binds X.K fd ps []) : OpR X (compareOp .Eq) (rEqOwnR C sp) := by
  intro pins s σ H x y v u Q I rx ry h
  obtain ⟨a, dx, fs, T, rfl, ea, kd, hsp⟩ := h
  cases (show u = Value.ref a from ry)
  obtain ⟨od, J⟩ := inst_of I ea
  have hT := kd.typeIs I rx
  have two : wpAny (model X.prog X.w) X.A (tryCompare (.ref a) "__eq__" v) (fun r s' => ∃ w, r = some w ∧ EP X pins σ Q w s') X.xe s := by
    unfold tryCompare
    refine wpAny_bind (PySem.W.ifBound_K I.kIn J c.eq.at_ c.eq.fn (run_own F hr I.env0 hb I (vs := [.ref a, x]) (.cons rfl (.cons rx .nil)) hsp fun u' s' hu => ?_))
    obtain ⟨z, H', I', rz, b, rfl, q⟩ := hu
    cases (show u' = Value.bool b from rz)
    exact wpAny_pure ⟨_, rfl, .bl b, H', I', rfl, q⟩
  have one : ∀ (Q' : Option Value → Shared → Prop), Q' none s → wpAny (model X.prog X.w) X.A (tryCompare v "__eq__" (.ref a)) Q' X.xe s := fun Q' h' => declines c I ea rx kd h'
  show wpAny _ _ (richCompare .Eq v (.ref a)) _ _ _
  simp only [richCompare, cmpInfo_Eq, hT.oneThing_none]
  refine wpAny_holding (wpAny_bind (wpAny_cRoomFor hr.units0 (wpAny_bind (wpAny_typeOf hT (wpAny_bind (J.type.here ?_))))))
  generalize tryCompare (.ref a) (Str.ofString "__eq__") v = tc2 at two ⊢
  generalize tryCompare v (Str.ofString "__eq__") (.ref a) = tc1 at one ⊢
  generalize EP X pins σ Q = R at two ⊢
  have ne : (Value.type T != Value.ref C) = true := by simp
  rw [if_pos ne]
  refine wpAny_bind ((PySem.W.looks_mroIn I.kIn (c.off T kd.mem)).here ?_)
  simp only [Bool.false_eq_true, if_false, Bool.not_false, if_true]
  refine wpAny_bind (one _ ?_)
  exact wpAny_bind (wpAny_mono two (fun r s' z => by obtain ⟨w, rfl, z⟩ := z; exact wpAny_pure z) fun _ _ z => z)
end
end My
set_option Elab.async false
set_option linter.all false
set_option maxRecDepth 100000
/-! where a number was written a token is out: what stands behind it may ask for one, also in the block of a comprehension -/
namespace My
open PySem PySem.Spec PyProof.Rows L2
section
variable {α : Type} {M : Model} {A : Around} {s : Shared} {m : Sem α} {Q R : α → Shared → Prop} {E : Value → Shared → Prop}
/-- on, with the token still out -/
theorem onT (k : 1 ≤ s.toks) (h : wpAny M A m Q E s) (go : ∀ a s', 1 ≤ s'.toks → Q a s' → R a s') : wpAny M A m R E s :=
  wpAny_mono (wpAny_toks_of k h) (fun a s' z => go a s' z.1 z.2) fun _ _ z => z.2
theorem onF (k : 1 ≤ s.toks) (h : wpAny M A m Q (fun _ _ => False) s) (go : ∀ a s', 1 ≤ s'.toks → Q a s' → R a s') : wpAny M A m R E s :=
  wpAny_mono (wpAny_toks_of k h) (fun a s' z => go a s' z.1 z.2) fun _ _ z => z.2.elim
end
section
variable {X : Cx} {a b c e tg iter elt : Expr} {ta te : TE} {r : R2} {tc : TT} {t u : TS} {pos cp : Pos} {n : Int} {j : Nat}
/-- a test behind which a token is out -/
def PTK (X : Cx) (c : Expr) (tc : TT) : Prop :=
  ∀ (pins : List (Addr × Obj)) (s : Shared) (σ : L2.St) (H : Hp) (Q : Bool → Hp → Prop), Inv X pins σ H s → tc σ H Q →
    wpAny (model X.prog X.w) X.A (isTrue c X.env (eval c X.env)) (fun d s' => 1 ≤ s'.toks ∧ TP X pins σ Q d s') X.xe s
theorem ptk_int {op : CmpOp} (ho : OpR X (compareOp op) r) (ha : PE X a ta) (hm : behindInMarks op (.Constant (.int n) j cp) = false := by first | exact nomark _ | rfl) :
    PTK X (.Compare a [op] [.Constant (.int n) j cp] pos) (tTest (tOp r ta (tC (.int n)))) := by
  intro pins s σ H Q I h
  refine wpAny_isTrue_Compare1 (thn (ha.run pins s σ H _ I h) fun v s1 hv => ?_) hm
  obtain ⟨x, H1, I1, r1, q1⟩ := hv
  refine wpAny_Constant_int ?_
  refine onT (by show 1 ≤ s1.toks + 1; omega) (ho pins _ σ H1 x (.int n) v _ _ (I1.tok (s1.toks + 1)) r1 ⟨s1.toks, rfl⟩ q1) fun d s3 k3 hd => ?_
  obtain ⟨z, H3, I3, r3, y, rfl, q3⟩ := hd
  cases r3
  exact wpAny_truthy_bool ⟨k3, H3, I3, q3⟩
theorem ps_ifK {as bs : List Stmt} (hc : PTK X c tc) (ha : PSsT X as t) (hb : PSs X bs u) : PS X (.If c as bs pos) (tIfS tc t u) := by
  refine ⟨fun pins s σ H D I h => ?_⟩
  refine wpAny_If (thn (hc pins s σ H _ I h) fun d s1 q => ?_)
  obtain ⟨k, H1, I1, q1⟩ := q
  cases d with
  | true => exact ha pins s1 σ H1 D k I1 q1
  | false => exact hb.run pins s1 σ H1 D I1 q1
/-- [elt for tg in iter], the elements ask for a token -/
theorem pet_lc {scope : Scope} {own : List (Str × Nat)} {wi : TI} {g : TG} (calm : X.calm = true) (nd : X.N.Nodup) (hi : PI X tg iter wi) (ok : BlkOk X.N X.env.scope scope own)
    (hg : ∀ s H C cl fp, PG (X.blk s H scope (compEnvC scope cl C X.env) fp) tg g) (he : ∀ s H C cl fp, PET (X.blk s H scope (compEnvC scope cl C X.env) fp) elt te)
    (hs : ∀ x, foldedSetIterable iter X.env x = pure x := by intro _; rfl) :
    PET X (.ListComp elt [⟨tg, iter, [], 0⟩] scope pos) (tLc wi g tYes te (own.map (·.2))) := by
  intro pins s σ H Q k0 I h
  rw [eval_ListComp]
  have cap : ∀ y ∈ scope.names, y.2 = .free → ∃ c, X.env.cells.lookup y.1 = some c := fun y hy ey => (ok.free y hy ey).elim (fun z => I.ok.has _ (.inl z)) fun z => I.ok.has _ (.inr z)
  refine wpAny_comprehension_free rfl hs (closure_ok cap) ok.kind (fun y hy ey => (ok.uniq y hy).trans (congrArg some ey)) ?_
  refine onT k0 (hi.run pins s σ H _ I h) fun _ s1 k1 h1 => onT k1 h1 fun itv s2 k2 h2 => ?_
  obtain ⟨it, fp, tn, J, H2, rfl, I2, T, st2, f2, q⟩ := h2
  refine wpAny_newObj_type (newEnv_comp ?_) (by show 0 ≤ sizeLine; decide)
  obtain ⟨W, ⟨m0, w0⟩, turn⟩ := q s2.heap.objs.size (I2.hok.fresh (Nat.le_refl _))
  generalize eD : s2.heap.objs.size = D at w0 turn ⊢
  generalize e3 : ({ s2 with heap := s2.heap.push { cls := .type "list", data := .seq ([] : List Value).toArray } } : Shared) = s3
  have p3 : s3.heap = s2.heap.push { cls := .type "list", data := .seq ([] : List Value).toArray } := by rw [← e3]
  have k3 : 1 ≤ s3.toks := by rw [← e3]; exact k2
  have I3 : Inv X pins σ (upd H2 D (.lst [])) s3 := by
    rw [← e3]
    exact I2.laid (t' := s2.toks) (fun _ _ z => Heap.get?_push_of_some _ z) (Nat.le_of_eq eD) ⟨Nat.zero_le _, [], 0, .nil, by rw [← eD]; exact Heap.get?_push_size _ rfl⟩
  have below : ∀ x ∈ fp, x < D := fun x hx => by
    obtain ⟨_, z, _⟩ := T.obj _ _ st2 x hx
    rw [← eD]
    exact Heap.lt_size z
  have f3 : ∀ x ∈ fp, FpOk X pins (upd H2 D (.lst [])) x ∧ x < s3.heap.objs.size := fun x hx => by
    have lt := below x hx
    refine ⟨⟨(upd_ne (Nat.ne_of_lt lt)).trans (f2 x hx).1, (f2 x hx).2⟩, ?_⟩
    rw [p3, Heap.size_push, eD]
    exact Nat.lt_succ_of_lt lt
  have st3 : tn 0 s3.heap := T.keep _ _ _ st2 fun x _ o z => p3 ▸ Heap.get?_push_of_some _ z
  have I4 := block_start I3 ok nd f3
  generalize eH : upd H2 D (.lst []) = H3 at w0 I3 f3 I4
  generalize eC : s3.heap.objs.size = C at f3 I4 ⊢
  generalize ecl : cellsFrom (C + 1) scope.names (cloFrom X.env.cells scope.names []) = cl at I4
  have pg := hg s3 H3 C cl fp
  have pe := he s3 H3 C cl fp
  generalize ece : compEnvC scope cl C X.env = ce at I4 pg pe
  have lC : ce.locals = C := by rw [← ece]; rfl
  generalize e4 : ({ s3 with heap := pushCells (s3.heap.push { cls := .type "dict", data := .dict #[] }) scope.names } : Shared) = s4 at I4
  have k4 : 1 ≤ s4.toks := by rw [← e4]; exact k3
  have st4 : tn 0 s4.heap := T.keep _ _ _ st3 fun x _ o z => by
    rw [← e4]
    exact pushCells_keeps _ _ _ _ (Heap.get?_push_of_some _ z)
  have fine : ∀ {τ : L2.St} {Hn : Hp} {sn : Shared}, Inv (X.blk s3 H3 scope ce fp) [] τ Hn sn → (∀ x ∈ fp, Hn x = none) → ∀ x ∈ fp, FpOk (X.blk s3 H3 scope ce fp) [] Hn x := fun {τ Hn sn} In off x hx =>
    ⟨off x hx, (In.ok.exf x hx).1, In.ok.exfs x hx, .inl hx, (In.ok.exf x hx).2, fun p hp => by cases (show p ∈ ([] : List (Addr × Obj)) from hp)⟩
  have loop : codeAny (model X.prog X.w) X.A (.compLoop (.ListComp elt [⟨tg, iter, [], 0⟩] scope pos) 0 (.ref it) (.ref D) ce) (compPost (model X.prog X.w) X.A X.xe none (EP X pins σ Q) (.ref D) C) s4 := by
    refine compLoop_any (fun left sn => 1 ≤ sn.toks ∧ ∃ i Hn, Inv (X.blk s3 H3 scope ce fp) [] (wipe σ (own.map (·.2))) Hn sn ∧ tn i sn.heap ∧ (∀ x ∈ fp, Hn x = none) ∧ W i left Hn) ?_ m0 ⟨k4, 0, H3, I4, st4, fun x hx => (f3 x hx).1.1, w0⟩
    rintro left s5 ⟨k5, i, H5, I5, st5, n5, w5⟩
    rcases turn i left H5 w5 with ⟨stop, last⟩ | ⟨go, Nx, hNx, step⟩
    · refine onF k5 (T.done (X.blk s3 H3 scope ce fp) rfl rfl rfl calm i [] s5 _ H5 _ I5 (fine I5 n5) st5 stop) fun v s6 _ ⟨ev, I6⟩ => ?_
      rw [ev]
      have I7 : Inv X pins σ H5 s6 := I3.call' (ch := fp) I6.os I6.base I6.hok I6.bare fun x hx => by
        obtain ⟨_, z1, _, z3, z4, z5⟩ := (f3 x hx).1
        exact ⟨z3, z1, z4, z5⟩
      have nC : H5 C = none := by rw [← lC]; exact I6.free
      obtain ⟨mC, hC, _⟩ := I6.loc
      rw [show (X.blk s3 H3 scope ce fp).env.locals = C from lC] at hC
      have fC := I3.fpOk (Nat.le_of_eq eC) nC
      obtain ⟨g0, g1, _, g3, g4, g5⟩ := fC
      exact ⟨mC, hC, fun _ sb => ⟨.ref D, H5, I7.turned (t' := s6.toks) (fun x o hx z => (sb.2 x hx).trans z) g0 g1 g3 g4 g5, rfl, last⟩⟩
    · refine onF k5 (T.item (X.blk s3 H3 scope ce fp) rfl rfl rfl calm i [] s5 _ H5 _ I5 (fine I5 n5) st5 go) fun v s6 k6 ⟨uv, ev, h6⟩ => ?_
      rw [ev]
      refine onF k6 h6 fun _ s7 k7 ⟨x, H7, I7, r7, y7, st7, n7⟩ => ?_
      refine onF k7 (pg.run _ s7 _ H7 x uv _ (I7.pinned (fine I7 n7) (T.obj _ _ st7)) r7 (step x H7 y7)) fun _ s8 k8 ⟨σ8, H8, I8, hw8, q8⟩ => ?_
      refine wpAny_tests_nil ?_
      simp only [if_true]
      have q9 : te σ8 H8 fun y Hy => ∃ acc, Hy D = some (.lst acc) ∧ acc.length < sizeLine ∧ Nx (upd Hy D (.lst (acc ++ [y]))) := by simpa only [tYes, if_true] using q8
      refine onF k8 (pe _ s8 σ8 H8 _ k8 I8 q9) fun z s9 k9 ⟨yv, H9, I9, r9, acc, hD9, few, nx⟩ => ?_
      refine onF (R := fun _ sn => ∃ m, m < left ∧ _) k9 (app_ok (X := X.blk s3 H3 scope ce fp) (Q := fun _ sn => Inv (X.blk s3 H3 scope ce fp) ([] ++ pinsAt fp s7.heap) σ8 (upd H9 D (.lst (acc ++ [yv]))) sn) I9 hD9 few r9 fun _ z => z) fun _ sn kn In => ?_
      obtain ⟨m', hm, w'⟩ := hNx _ nx
      have held : ∀ x ∈ fp, ∀ o, s7.heap.get? x = some o → sn.heap.get? x = some o ∧ (upd H9 D (.lst (acc ++ [yv]))) x = none := fun x hx o z => by
        have y := In.pin (x, o) (List.mem_append_right _ (List.mem_append_right _ (mem_pinsAt hx z)))
        exact ⟨y.1, y.2.1⟩
      refine ⟨m', hm, kn, i + 1, _, (In.unpinned (pins := [])).weak (by rw [← hw8, wipe_length]) (fun jj v z => (wipe_some (hw8 ▸ z)).1), T.keep _ _ _ st7 fun x hx o z => (held x hx o z).1, fun x hx => ?_, w'⟩
      obtain ⟨o, z, _⟩ := T.obj _ _ st7 x hx
      exact (held x hx o z).2
  have goal := codeAny_compStart_list loop (T.self X.A 0 _ _ _ st4 loop)
  subst e4 ece ecl
  exact goal
end
end My
set_option Elab.async false
set_option linter.all false
set_option maxRecDepth 100000
namespace K07
open PySem PySem.Spec PyProof.Rows L2 My
/-! ### the text -/
def topS (i : Nat) : Stmt := PySem.Challenge.pw_settingsmerge_k07_equal_files.main.body.getD i (.Pass ⟨0, 0, 0, 0⟩)
abbrev s_is_made_of : Stmt := topS 11
abbrev N_is_made_of : List Str := ["thing", "characters", "most", "character"]
theorem scis_made_of : FnScope N_is_made_of ["thing", "characters", "most"] (defScope s_is_made_of) := ⟨rfl, rfl, rfl, by decide +kernel, rfl, by decide +kernel, by decide +kernel⟩
abbrev s_is_name : Stmt := topS 12
abbrev N_is_name : List Str := ["thing"]
theorem scis_name : FnScope N_is_name ["thing"] (defScope s_is_name) := ⟨rfl, rfl, rfl, by decide +kernel, rfl, by decide +kernel, by decide +kernel⟩
abbrev s_is_place : Stmt := topS 13
abbrev N_is_place : List Str := ["thing", "section", "dot", "key"]
theorem scis_place : FnScope N_is_place ["thing"] (defScope s_is_place) := ⟨rfl, rfl, rfl, by decide +kernel, rfl, by decide +kernel, by decide +kernel⟩
abbrev s_is_value : Stmt := topS 14
abbrev N_is_value : List Str := ["thing"]
theorem scis_value : FnScope N_is_value ["thing"] (defScope s_is_value) := ⟨rfl, rfl, rfl, by decide +kernel, rfl, by decide +kernel, by decide +kernel⟩
abbrev s_is_release_word : Stmt := topS 15
abbrev N_is_release_word : List Str := ["thing"]
theorem scis_release_word : FnScope N_is_release_word ["thing"] (defScope s_is_release_word) := ⟨rfl, rfl, rfl, by decide +kernel, rfl, by decide +kernel, by decide +kernel⟩
abbrev s_is_header : Stmt := topS 16
abbrev N_is_header : List Str := ["line"]
theorem scis_header : FnScope N_is_header ["line"] (defScope s_is_header) := ⟨rfl, rfl, rfl, by decide +kernel, rfl, by decide +kernel, by decide +kernel⟩
abbrev s_is_loose : Stmt := topS 17
abbrev N_is_loose : List Str := ["line"]
theorem scis_loose : FnScope N_is_loose ["line"] (defScope s_is_loose) := ⟨rfl, rfl, rfl, by decide +kernel, rfl, by decide +kernel, by decide +kernel⟩
abbrev s_read_setting : Stmt := topS 18
abbrev N_read_setting : List Str := ["line", "key", "equals", "value"]
theorem scread_setting : FnScope N_read_setting ["line"] (defScope s_read_setting) := ⟨rfl, rfl, rfl, by decide +kernel, rfl, by decide +kernel, by decide +kernel⟩
abbrev s_read_kept : Stmt := topS 19
abbrev N_read_kept : List Str := ["line", "mark", "gap", "rest", "word", "named", "place", "equals", "value"]
theorem scread_kept : FnScope N_read_kept ["line"] (defScope s_read_kept) := ⟨rfl, rfl, rfl, by decide +kernel, rfl, by decide +kernel, by decide +kernel⟩
abbrev s_L_bag : Stmt := topS 22
abbrev N_L_bag : List Str := ["_law_script", "_law_at", "_law_cell", "_law_blend", "_law_k", "_law_each"]
theorem scL_bag : FnScope N_L_bag ["_law_script", "_law_at"] (defScope s_L_bag) := ⟨rfl, rfl, rfl, by decide +kernel, rfl, by decide +kernel, by decide +kernel⟩
abbrev s_L_take : Stmt := topS 23
abbrev N_L_take : List Str := ["_law_bag_here", "_law_many", "_law_digit"]
theorem scL_take : FnScope N_L_take ["_law_bag_here", "_law_many"] (defScope s_L_take) := ⟨rfl, rfl, rfl, by decide +kernel, rfl, by decide +kernel, by decide +kernel⟩
abbrev s_L_of : Stmt := topS 24
abbrev N_L_of : List Str := ["_law_bag_here", "_law_some"]
theorem scL_of : FnScope N_L_of ["_law_bag_here", "_law_some"] (defScope s_L_of) := ⟨rfl, rfl, rfl, by decide +kernel, rfl, by decide +kernel, by decide +kernel⟩
abbrev s_L_lines : Stmt := topS 25
abbrev N_L_lines : List Str := ["_law_bag_here", "_law_lines_here", "_law_head", "_law_key"]
theorem scL_lines : FnScope N_L_lines ["_law_bag_here"] (defScope s_L_lines) := ⟨rfl, rfl, rfl, by decide +kernel, rfl, by decide +kernel, by decide +kernel⟩
abbrev s_L_changed : Stmt := topS 26
abbrev N_L_changed : List Str := ["_law_bag_here", "_law_lines_here", "_law_way", "_law_spot", "_law_lasts", "_law_line"]
theorem scL_changed : FnScope N_L_changed ["_law_bag_here", "_law_lines_here"] (defScope s_L_changed) := ⟨rfl, rfl, rfl, by decide +kernel, rfl, by decide +kernel, by decide +kernel⟩
abbrev s_L_unlike : Stmt := topS 27
abbrev N_L_unlike : List Str := ["_law_file", "_law_whole", "_law_some", "_law_found", "_law_one"]
theorem scL_unlike : FnScope N_L_unlike ["_law_file", "_law_whole"] (defScope s_L_unlike) := ⟨rfl, rfl, rfl, by decide +kernel, rfl, by decide +kernel, by decide +kernel⟩
abbrev s_law : Stmt := topS 28
abbrev N_law : List Str := ["_law_script", "_law_at", "_law_bag_here", "_law_turn", "_law_lines_here", "_law_other", "_law_whole", "_law_twin", "_law_one", "_law_two", "_law_same"]
theorem sclaw : FnScope N_law ["_law_script"] (defScope s_law) := ⟨rfl, rfl, rfl, by decide +kernel, rfl, by decide +kernel, by decide +kernel⟩
abbrev s_SettingsFile___init__ : Stmt := inClass (topS 20) 0
abbrev N_SettingsFile___init__ : List Str := ["self", "text", "at", "line", "kind"]
theorem scSettingsFile___init__ : FnScope N_SettingsFile___init__ ["self", "text"] (defScope s_SettingsFile___init__) := ⟨rfl, rfl, rfl, by decide +kernel, rfl, by decide +kernel, by decide +kernel⟩
abbrev s_SettingsFile_take : Stmt := inClass (topS 20) 1
abbrev N_SettingsFile_take : List Str := ["self", "line", "setting", "key", "value"]
theorem scSettingsFile_take : FnScope N_SettingsFile_take ["self", "line"] (defScope s_SettingsFile_take) := ⟨rfl, rfl, rfl, by decide +kernel, rfl, by decide +kernel, by decide +kernel⟩
abbrev s_SettingsFile_take_kept : Stmt := inClass (topS 20) 2
abbrev N_SettingsFile_take_kept : List Str := ["self", "line", "kept", "release", "place", "value"]
theorem scSettingsFile_take_kept : FnScope N_SettingsFile_take_kept ["self", "line"] (defScope s_SettingsFile_take_kept) := ⟨rfl, rfl, rfl, by decide +kernel, rfl, by decide +kernel, by decide +kernel⟩
abbrev s_SettingsFile_take_header : Stmt := inClass (topS 20) 3
abbrev N_SettingsFile_take_header : List Str := ["self", "name"]
theorem scSettingsFile_take_header : FnScope N_SettingsFile_take_header ["self", "name"] (defScope s_SettingsFile_take_header) := ⟨rfl, rfl, rfl, by decide +kernel, rfl, by decide +kernel, by decide +kernel⟩
abbrev s_SettingsFile_take_setting : Stmt := inClass (topS 20) 4
abbrev N_SettingsFile_take_setting : List Str := ["self", "key", "value", "place"]
theorem scSettingsFile_take_setting : FnScope N_SettingsFile_take_setting ["self", "key", "value"] (defScope s_SettingsFile_take_setting) := ⟨rfl, rfl, rfl, by decide +kernel, rfl, by decide +kernel, by decide +kernel⟩
abbrev s_SettingsFile_close_block : Stmt := inClass (topS 20) 5
abbrev N_SettingsFile_close_block : List Str := ["self", "thing"]
theorem scSettingsFile_close_block : FnScope N_SettingsFile_close_block ["self", "thing"] (defScope s_SettingsFile_close_block) := ⟨rfl, rfl, rfl, by decide +kernel, rfl, by decide +kernel, by decide +kernel⟩
abbrev s_SettingsFile_lines : Stmt := inClass (topS 20) 6
abbrev N_SettingsFile_lines : List Str := ["self"]
theorem scSettingsFile_lines : FnScope N_SettingsFile_lines ["self"] (defScope s_SettingsFile_lines) := ⟨rfl, rfl, rfl, by decide +kernel, rfl, by decide +kernel, by decide +kernel⟩
abbrev s_SettingsFile_sections : Stmt := inClass (topS 20) 7
abbrev N_SettingsFile_sections : List Str := ["self"]
theorem scSettingsFile_sections : FnScope N_SettingsFile_sections ["self"] (defScope s_SettingsFile_sections) := ⟨rfl, rfl, rfl, by decide +kernel, rfl, by decide +kernel, by decide +kernel⟩
abbrev s_SettingsFile_pairs : Stmt := inClass (topS 20) 13
abbrev N_SettingsFile_pairs : List Str := ["self", "place"]
theorem scSettingsFile_pairs : GScope N_SettingsFile_pairs ["self"] (defScope s_SettingsFile_pairs) := ⟨rfl, rfl, rfl, by decide +kernel, rfl, by decide +kernel, by decide +kernel⟩
abbrev s_SettingsFile___len__ : Stmt := inClass (topS 20) 14
abbrev N_SettingsFile___len__ : List Str := ["self"]
theorem scSettingsFile___len__ : FnScope N_SettingsFile___len__ ["self"] (defScope s_SettingsFile___len__) := ⟨rfl, rfl, rfl, by decide +kernel, rfl, by decide +kernel, by decide +kernel⟩
abbrev s_SettingsFile___contains__ : Stmt := inClass (topS 20) 15
abbrev N_SettingsFile___contains__ : List Str := ["self", "x"]
theorem scSettingsFile___contains__ : FnScope N_SettingsFile___contains__ ["self", "x"] (defScope s_SettingsFile___contains__) := ⟨rfl, rfl, rfl, by decide +kernel, rfl, by decide +kernel, by decide +kernel⟩
abbrev s_SettingsFile___eq__ : Stmt := inClass (topS 20) 16
abbrev N_SettingsFile___eq__ : List Str := ["self", "other"]
theorem scSettingsFile___eq__ : FnScope N_SettingsFile___eq__ ["self", "other"] (defScope s_SettingsFile___eq__) := ⟨rfl, rfl, rfl, by decide +kernel, rfl, by decide +kernel, by decide +kernel⟩
abbrev s_SettingsFile___str__ : Stmt := inClass (topS 20) 17
abbrev N_SettingsFile___str__ : List Str := ["self"]
theorem scSettingsFile___str__ : FnScope N_SettingsFile___str__ ["self"] (defScope s_SettingsFile___str__) := ⟨rfl, rfl, rfl, by decide +kernel, rfl, by decide +kernel, by decide +kernel⟩
/-! ### what the top has written -/
structure Top (K : PySem.W.Frag) (mg : Str → Option Value) where
  C_SettingsFile : Addr
  cl_SettingsFile : Cls K C_SettingsFile
  g_SettingsFile : mg "SettingsFile" = some (.ref C_SettingsFile)
  nb_SettingsFile : PySem.W.findIn K (.ref C_SettingsFile) "__bool__" = some none
  no_SettingsFile_text : NoAttr K C_SettingsFile "text"
  no_SettingsFile_rows : NoAttr K C_SettingsFile "rows"
  no_SettingsFile_headers : NoAttr K C_SettingsFile "headers"
  no_SettingsFile_settings_read : NoAttr K C_SettingsFile "settings_read"
  no_SettingsFile_kept_read : NoAttr K C_SettingsFile "kept_read"
  no_SettingsFile_blocks : NoAttr K C_SettingsFile "blocks"
  no_SettingsFile_loose : NoAttr K C_SettingsFile "loose"
  ne_SettingsFile : PySem.W.findIn K (.ref C_SettingsFile) "__ne__" = some (some (.builtin "object.__ne__"))
  ro_SettingsFile : PySem.W.mroIn K C_SettingsFile (.type "object") = some true
  ca_SettingsFile : PySem.W.findIn K (.ref C_SettingsFile) "__class__" = some (some (.builtin "object.__class__"))
  cg_SettingsFile : PySem.W.specialIn K (.builtin "object.__class__") "__get__" = some (some (.builtin "getset_descriptor.__get__"))
  ct_SettingsFile : PySem.W.takesIn K (.builtin "object.__class__") = some true
  mo_SettingsFile_NoneType : PySem.W.mroIn K C_SettingsFile (.type "NoneType") = some false
  ki_SettingsFile_NoneType : PySem.W.kitOne K (.type "NoneType") (.ref C_SettingsFile) = some false
  mo_SettingsFile_bool : PySem.W.mroIn K C_SettingsFile (.type "bool") = some false
  ki_SettingsFile_bool : PySem.W.kitOne K (.type "bool") (.ref C_SettingsFile) = some false
  mo_SettingsFile_int : PySem.W.mroIn K C_SettingsFile (.type "int") = some false
  ki_SettingsFile_int : PySem.W.kitOne K (.type "int") (.ref C_SettingsFile) = some false
  mo_SettingsFile_str : PySem.W.mroIn K C_SettingsFile (.type "str") = some false
  ki_SettingsFile_str : PySem.W.kitOne K (.type "str") (.ref C_SettingsFile) = some false
  mo_SettingsFile_list : PySem.W.mroIn K C_SettingsFile (.type "list") = some false
  ki_SettingsFile_list : PySem.W.kitOne K (.type "list") (.ref C_SettingsFile) = some false
  mo_SettingsFile_tuple : PySem.W.mroIn K C_SettingsFile (.type "tuple") = some false
  ki_SettingsFile_tuple : PySem.W.kitOne K (.type "tuple") (.ref C_SettingsFile) = some false
  f_is_made_of : Addr
  d_is_made_of : FuncData
  F_is_made_of : Fun K "is_made_of" "is_made_of" s_is_made_of f_is_made_of d_is_made_of
  b_is_made_of : Binds K d_is_made_of ["thing", "characters", "most"] []
  g_is_made_of : mg "is_made_of" = some (.ref f_is_made_of)
  f_is_name : Addr
  d_is_name : FuncData
  F_is_name : Fun K "is_name" "is_name" s_is_name f_is_name d_is_name
  b_is_name : Binds K d_is_name ["thing"] []
  g_is_name : mg "is_name" = some (.ref f_is_name)
  f_is_place : Addr
  d_is_place : FuncData
  F_is_place : Fun K "is_place" "is_place" s_is_place f_is_place d_is_place
  b_is_place : Binds K d_is_place ["thing"] []
  g_is_place : mg "is_place" = some (.ref f_is_place)
  f_is_value : Addr
  d_is_value : FuncData
  F_is_value : Fun K "is_value" "is_value" s_is_value f_is_value d_is_value
  b_is_value : Binds K d_is_value ["thing"] []
  g_is_value : mg "is_value" = some (.ref f_is_value)
  f_is_release_word : Addr
  d_is_release_word : FuncData
  F_is_release_word : Fun K "is_release_word" "is_release_word" s_is_release_word f_is_release_word d_is_release_word
  b_is_release_word : Binds K d_is_release_word ["thing"] []
  g_is_release_word : mg "is_release_word" = some (.ref f_is_release_word)
  f_is_header : Addr
  d_is_header : FuncData
  F_is_header : Fun K "is_header" "is_header" s_is_header f_is_header d_is_header
  b_is_header : Binds K d_is_header ["line"] []
  g_is_header : mg "is_header" = some (.ref f_is_header)
  f_is_loose : Addr
  d_is_loose : FuncData
  F_is_loose : Fun K "is_loose" "is_loose" s_is_loose f_is_loose d_is_loose
  b_is_loose : Binds K d_is_loose ["line"] []
  g_is_loose : mg "is_loose" = some (.ref f_is_loose)
  f_read_setting : Addr
  d_read_setting : FuncData
  F_read_setting : Fun K "read_setting" "read_setting" s_read_setting f_read_setting d_read_setting
  b_read_setting : Binds K d_read_setting ["line"] []
  g_read_setting : mg "read_setting" = some (.ref f_read_setting)
  f_read_kept : Addr
  d_read_kept : FuncData
  F_read_kept : Fun K "read_kept" "read_kept" s_read_kept f_read_kept d_read_kept
  b_read_kept : Binds K d_read_kept ["line"] []
  g_read_kept : mg "read_kept" = some (.ref f_read_kept)
  f__law_bag : Addr
  d__law_bag : FuncData
  F__law_bag : Fun K "_law_bag" "_law_bag" s_L_bag f__law_bag d__law_bag
  b__law_bag : Binds K d__law_bag ["_law_script", "_law_at"] []
  g__law_bag : mg "_law_bag" = some (.ref f__law_bag)
  f__law_take : Addr
  d__law_take : FuncData
  F__law_take : Fun K "_law_take" "_law_take" s_L_take f__law_take d__law_take
  b__law_take : Binds K d__law_take ["_law_bag_here", "_law_many"] []
  g__law_take : mg "_law_take" = some (.ref f__law_take)
  f__law_of : Addr
  d__law_of : FuncData
  F__law_of : Fun K "_law_of" "_law_of" s_L_of f__law_of d__law_of
  b__law_of : Binds K d__law_of ["_law_bag_here", "_law_some"] []
  g__law_of : mg "_law_of" = some (.ref f__law_of)
  f__law_lines : Addr
  d__law_lines : FuncData
  F__law_lines : Fun K "_law_lines" "_law_lines" s_L_lines f__law_lines d__law_lines
  b__law_lines : Binds K d__law_lines ["_law_bag_here"] []
  g__law_lines : mg "_law_lines" = some (.ref f__law_lines)
  f__law_changed : Addr
  d__law_changed : FuncData
  F__law_changed : Fun K "_law_changed" "_law_changed" s_L_changed f__law_changed d__law_changed
  b__law_changed : Binds K d__law_changed ["_law_bag_here", "_law_lines_here"] []
  g__law_changed : mg "_law_changed" = some (.ref f__law_changed)
  f__law_unlike : Addr
  d__law_unlike : FuncData
  F__law_unlike : Fun K "_law_unlike" "_law_unlike" s_L_unlike f__law_unlike d__law_unlike
  b__law_unlike : Binds K d__law_unlike ["_law_file", "_law_whole"] []
  g__law_unlike : mg "_law_unlike" = some (.ref f__law_unlike)
  f_law : Addr
  d_law : FuncData
  F_law : Fun K "law" "law" s_law f_law d_law
  b_law : Binds K d_law ["_law_script"] []
  g_law : mg "law" = some (.ref f_law)
  f_SettingsFile___init__ : Addr
  d_SettingsFile___init__ : FuncData
  F_SettingsFile___init__ : Fun K "__init__" "SettingsFile.__init__" s_SettingsFile___init__ f_SettingsFile___init__ d_SettingsFile___init__
  b_SettingsFile___init__ : Binds K d_SettingsFile___init__ ["self", "text"] []
  mk_SettingsFile : Mk K C_SettingsFile f_SettingsFile___init__
  f_SettingsFile_take : Addr
  d_SettingsFile_take : FuncData
  F_SettingsFile_take : Fun K "take" "SettingsFile.take" s_SettingsFile_take f_SettingsFile_take d_SettingsFile_take
  b_SettingsFile_take : Binds K d_SettingsFile_take ["self", "line"] []
  me_SettingsFile_take : Meth K C_SettingsFile "take" f_SettingsFile_take
  f_SettingsFile_take_kept : Addr
  d_SettingsFile_take_kept : FuncData
  F_SettingsFile_take_kept : Fun K "take_kept" "SettingsFile.take_kept" s_SettingsFile_take_kept f_SettingsFile_take_kept d_SettingsFile_take_kept
  b_SettingsFile_take_kept : Binds K d_SettingsFile_take_kept ["self", "line"] []
  me_SettingsFile_take_kept : Meth K C_SettingsFile "take_kept" f_SettingsFile_take_kept
  f_SettingsFile_take_header : Addr
  d_SettingsFile_take_header : FuncData
  F_SettingsFile_take_header : Fun K "take_header" "SettingsFile.take_header" s_SettingsFile_take_header f_SettingsFile_take_header d_SettingsFile_take_header
  b_SettingsFile_take_header : Binds K d_SettingsFile_take_header ["self", "name"] []
  me_SettingsFile_take_header : Meth K C_SettingsFile "take_header" f_SettingsFile_take_header
  f_SettingsFile_take_setting : Addr
  d_SettingsFile_take_setting : FuncData
  F_SettingsFile_take_setting : Fun K "take_setting" "SettingsFile.take_setting" s_SettingsFile_take_setting f_SettingsFile_take_setting d_SettingsFile_take_setting
  b_SettingsFile_take_setting : Binds K d_SettingsFile_take_setting ["self", "key", "value"] []
  me_SettingsFile_take_setting : Meth K C_SettingsFile "take_setting" f_SettingsFile_take_setting
  f_SettingsFile_close_block : Addr
  d_SettingsFile_close_block : FuncData
  F_SettingsFile_close_block : Fun K "close_block" "SettingsFile.close_block" s_SettingsFile_close_block f_SettingsFile_close_block d_SettingsFile_close_block
  b_SettingsFile_close_block : Binds K d_SettingsFile_close_block ["self", "thing"] []
  me_SettingsFile_close_block : Meth K C_SettingsFile "close_block" f_SettingsFile_close_block
  f_SettingsFile_lines : Addr
  d_SettingsFile_lines : FuncData
  F_SettingsFile_lines : Fun K "lines" "SettingsFile.lines" s_SettingsFile_lines f_SettingsFile_lines d_SettingsFile_lines
  b_SettingsFile_lines : Binds K d_SettingsFile_lines ["self"] []
  p_SettingsFile_lines : Addr
  pr_SettingsFile_lines : PropOf K C_SettingsFile "lines" p_SettingsFile_lines f_SettingsFile_lines
  f_SettingsFile_sections : Addr
  d_SettingsFile_sections : FuncData
  F_SettingsFile_sections : Fun K "sections" "SettingsFile.sections" s_SettingsFile_sections f_SettingsFile_sections d_SettingsFile_sections
  b_SettingsFile_sections : Binds K d_SettingsFile_sections ["self"] []
  me_SettingsFile_sections : Meth K C_SettingsFile "sections" f_SettingsFile_sections
  f_SettingsFile_pairs : Addr
  d_SettingsFile_pairs : FuncData
  F_SettingsFile_pairs : Fun K "pairs" "SettingsFile.pairs" s_SettingsFile_pairs f_SettingsFile_pairs d_SettingsFile_pairs
  b_SettingsFile_pairs : Binds K d_SettingsFile_pairs ["self"] []
  me_SettingsFile_pairs : Meth K C_SettingsFile "pairs" f_SettingsFile_pairs
  f_SettingsFile___len__ : Addr
  d_SettingsFile___len__ : FuncData
  F_SettingsFile___len__ : Fun K "__len__" "SettingsFile.__len__" s_SettingsFile___len__ f_SettingsFile___len__ d_SettingsFile___len__
  b_SettingsFile___len__ : Binds K d_SettingsFile___len__ ["self"] []
  me_SettingsFile___len__ : Meth K C_SettingsFile "__len__" f_SettingsFile___len__
  f_SettingsFile___contains__ : Addr
  d_SettingsFile___contains__ : FuncData
  F_SettingsFile___contains__ : Fun K "__contains__" "SettingsFile.__contains__" s_SettingsFile___contains__ f_SettingsFile___contains__ d_SettingsFile___contains__
  b_SettingsFile___contains__ : Binds K d_SettingsFile___contains__ ["self", "x"] []
  me_SettingsFile___contains__ : Meth K C_SettingsFile "__contains__" f_SettingsFile___contains__
  f_SettingsFile___eq__ : Addr
  d_SettingsFile___eq__ : FuncData
  F_SettingsFile___eq__ : Fun K "__eq__" "SettingsFile.__eq__" s_SettingsFile___eq__ f_SettingsFile___eq__ d_SettingsFile___eq__
  b_SettingsFile___eq__ : Binds K d_SettingsFile___eq__ ["self", "other"] []
  me_SettingsFile___eq__ : Meth K C_SettingsFile "__eq__" f_SettingsFile___eq__
  f_SettingsFile___str__ : Addr
  d_SettingsFile___str__ : FuncData
  F_SettingsFile___str__ : Fun K "__str__" "SettingsFile.__str__" s_SettingsFile___str__ f_SettingsFile___str__ d_SettingsFile___str__
  b_SettingsFile___str__ : Binds K d_SettingsFile___str__ ["self"] []
  me_SettingsFile___str__ : Meth K C_SettingsFile "__str__" f_SettingsFile___str__
  t_LONGEST_NAME : Tok
  g_LONGEST_NAME : mg "LONGEST_NAME" = some (.int 8 t_LONGEST_NAME)
  t_LETTERS : Tok
  g_LETTERS : mg "LETTERS" = some (.str "abcdefghijklmnopqrstuvwxyz" t_LETTERS)
  t_LONGEST_VALUE : Tok
  g_LONGEST_VALUE : mg "LONGEST_VALUE" = some (.int 12 t_LONGEST_VALUE)
  t_DIGITS : Tok
  g_DIGITS : mg "DIGITS" = some (.str "0123456789" t_DIGITS)
  t_LONGEST_RELEASE : Tok
  g_LONGEST_RELEASE : mg "LONGEST_RELEASE" = some (.int 2 t_LONGEST_RELEASE)
  t_KEPT_MARK : Tok
  g_KEPT_MARK : mg "KEPT_MARK" = some (.str "#~" t_KEPT_MARK)
  m_len : mg "len" = none
  m_isinstance : mg "isinstance" = none
  m_str : mg "str" = none
  m_all : mg "all" = none
  m_int : mg "int" = none
  m_enumerate : mg "enumerate" = none
  m_abs : mg "abs" = none
  m_list : mg "list" = none
  m_range : mg "range" = none
  m_max : mg "max" = none
  m_min : mg "min" = none
theorem Top.eqc_SettingsFile {K : PySem.W.Frag} {mg : Str → Option Value} (T : Top K mg) : EqC K T.C_SettingsFile T.f_SettingsFile___eq__ := ⟨T.me_SettingsFile___eq__, T.ne_SettingsFile, T.ro_SettingsFile, fun t ht => by
  rcases List.mem_cons.mp ht with rfl | ht
  · exact T.mo_SettingsFile_NoneType
  rcases List.mem_cons.mp ht with rfl | ht
  · exact T.mo_SettingsFile_bool
  rcases List.mem_cons.mp ht with rfl | ht
  · exact T.mo_SettingsFile_int
  rcases List.mem_cons.mp ht with rfl | ht
  · exact T.mo_SettingsFile_str
  rcases List.mem_cons.mp ht with rfl | ht
  · exact T.mo_SettingsFile_list
  cases List.mem_singleton.mp ht
  exact T.mo_SettingsFile_tuple⟩
end K07

set_option Elab.async false
set_option linter.all false
set_option maxRecDepth 100000
namespace K07
open PySem PySem.Spec PyProof.Rows L2 My
section
variable {P : Program} {w : World} {K : PySem.W.Frag} {mg : Str → Option Value} {base : Heap}
def sp_L_take (K : PySem.W.Frag) : Sp := fun vs H Q _ => ∃ (b : Addr) (many : Int), vs = [.ref b, .int many] ∧ Bag H b ∧ 0 < many ∧ many ≤ 1000 ∧
  ∀ (d n m : Int), 0 ≤ d → d < many → 0 ≤ n → 0 ≤ m → m < 2147483648 → Q (.int d) (upd H b (.lst [.int n, .int m]))
theorem ok_L_take (T : Top K mg) : FnOk P w K mg base CX0 1 T.f__law_take T.d__law_take ["_law_bag_here", "_law_many"] (sp_L_take K) := by
  refine T.F__law_take.ok scL_take (fun vs H Q E h => ?_) (fun cdv A outer s H vs Q E hr h => ?_)
  · obtain ⟨b, many, rfl, _⟩ := h
    rfl
  · obtain ⟨b, many, rfl, ⟨n, m, hb, n0, m0, m1⟩, p0, p1, q⟩ := h
    refine ⟨_, (pss_cons (ps_if (pt_cmpR op_gt (pe_ix ix_list (pv 0) pe_int (fun _ _ => rfl)) pe_int (nomark _)) (pss_cons (ps_set (i := 2) scL_take.nd rfl (.inl rfl) (pe_op op_mod (pe_callTy call_int1 (by rfl) T.m_int (by decide +kernel) (pa_cons (pe_ix ix_list (pv 0) pe_int (fun _ _ => rfl)) pa_nil)) (pv 1)))
      (pss_cons (ps_asg (pe_op op_fdiv (pe_ix ix_list (pv 0) pe_int (fun _ _ => rfl)) (pv 1)) (pg_sub (pv 0) pe_int set_list))
      (pss_one (ps_ret (pv 2))))) pss_nil)
      (pss_cons (ps_asg (pe_op op_mod (pe_callTy call_int1 (by rfl) T.m_int (by decide +kernel) (pa_cons (pe_op op_add (pe_op op_mul (pe_ix ix_list (pv 0) pe_int (fun _ _ => rfl)) pe_int) pe_int) pa_nil)) pe_int) (pg_sub (pv 0) pe_int set_list))
      (pss_one (ps_ret (pe_op op_mod (pe_op op_fdiv (pe_op op_mod (pe_callTy call_int1 (by rfl) T.m_int (by decide +kernel) (pa_cons (pe_op op_mul (pe_op op_fdiv (pe_ix ix_list (pv 0) pe_int (fun _ _ => rfl)) pe_int) pe_int) pa_nil)) pe_int) pe_int) (pv 1)))))), ?_⟩
    refine ⟨.ref b, rfl, b, _, 0, .int n, rfl, rfl, SqL.of hb, atI_nat (j := 0) rfl, n, 0, rfl, rfl, _, rfl, ite2 (fun e => ?_) (fun e => ?_)⟩
    · refine ⟨.ref b, rfl, b, _, 0, .int n, rfl, rfl, SqL.of hb, atI_nat (j := 0) rfl, .inl ⟨n, rfl, .int many, rfl, n, many, rfl, rfl, p0, ?_⟩⟩
      refine ⟨.ref b, rfl, b, _, 0, .int n, rfl, rfl, SqL.of hb, atI_nat (j := 0) rfl, .int many, rfl, n, many, rfl, rfl, ⟨p0, by omega⟩, ?_⟩
      refine ⟨.ref b, rfl, b, _, 0, 0, rfl, rfl, hb, rfl, ?_⟩
      refine ⟨.int (n % many), rfl, ?_⟩
      exact q _ _ _ (Int.emod_nonneg _ (by omega)) (Int.emod_lt_of_pos _ p0) (Int.ediv_nonneg n0 (by omega)) m0 m1
    · refine ⟨.ref b, rfl, b, _, 1, .int m, rfl, rfl, SqL.of hb, atI_nat (j := 1) rfl, m, 40692, rfl, rfl, .inl ⟨by omega, by omega⟩, _, 2909, rfl, rfl, .inl ⟨_, rfl, _, 2147483399, rfl, rfl, (show (0 : Int) < 2147483399 by decide), ?_⟩⟩
      refine ⟨.ref b, rfl, b, _, 1, 1, rfl, rfl, hb, rfl, ?_⟩
      obtain ⟨m2, hm⟩ : ∃ m2, m2 = (m * 40692 + 2909) % 2147483399 := ⟨_, rfl⟩
      have a0 : 0 ≤ m2 := by rw [hm]; exact Int.emod_nonneg _ (by decide)
      have a1 : m2 < 2147483399 := by rw [hm]; exact Int.emod_lt_of_pos _ (by decide)
      refine ⟨.ref b, rfl, b, _, 1, .int m2, rfl, rfl, SqL.of upd_same, atI_nat (j := 1) (by rw [hm]; rfl), m2, 7, rfl, rfl, ⟨by decide, by decide⟩, _, 69621, rfl, rfl, .inl ⟨by omega, by omega⟩,
        .inl ⟨_, rfl, _, 2147483587, rfl, rfl, (show (0 : Int) < 2147483587 by decide), _, 64, rfl, rfl, ⟨by decide, by decide⟩, .int many, rfl, _, many, rfl, rfl, p0, ?_⟩⟩
      have z := q (m2 / 7 * 69621 % 2147483587 / 64 % many) n m2 (Int.emod_nonneg _ (by omega)) (Int.emod_lt_of_pos _ p0) n0 a0 (by omega)
      rw [hm] at z ⊢
      exact z
def sp_L_of (K : PySem.W.Frag) : Sp := fun vs H Q _ => ∃ (b l : Addr) (xs : List V), vs = [.ref b, .ref l] ∧ Bag H b ∧ H l = some (.lst xs) ∧ l ≠ b ∧ xs ≠ [] ∧ xs.length ≤ 1000 ∧
  ∀ (v : V) (n m : Int), v ∈ xs → 0 ≤ n → 0 ≤ m → m < 2147483648 → Q v (upd H b (.lst [.int n, .int m]))
theorem ok_L_of (T : Top K mg) : FnOk P w K mg base CX0 2 T.f__law_of T.d__law_of ["_law_bag_here", "_law_some"] (sp_L_of K) := by
  have G__law_take : FnOk P w K mg base CX0 1 T.f__law_take T.d__law_take ["_law_bag_here", "_law_many"] (sp_L_take K) := ok_L_take T
  refine T.F__law_of.ok scL_of (fun vs H Q E h => ?_) (fun cdv A outer s H vs Q E hr h => ?_)
  · obtain ⟨b, l, xs, rfl, _⟩ := h
    rfl
  · obtain ⟨b, l, xs, rfl, hb, hl, ne, h0, h1, q⟩ := h
    refine ⟨_, (pss_one (ps_ret (pe_ix ix_list (pv 1) (pe_call G__law_take (hr.mono (by decide)) (by rfl) T.g__law_take T.F__law_take.kp T.b__law_take .nil pass0 (pa_cons (pv 0) (pa_cons (pe_callB call_len_seq (by rfl) T.m_len (by decide +kernel) (pa_cons (pv 1) pa_nil)) pa_nil))) (fun _ _ => rfl)))), ?_⟩
    have hp : 0 < xs.length := List.length_pos_iff.mpr h0
    refine ⟨.ref l, rfl, .ref b, rfl, .ref l, rfl, l, xs, rfl, .inl (SqL.of hl), b, (xs.length : Int), rfl, hb, by omega, by omega, fun d n m d0 d1 n0 m0 m1 => ?_⟩
    have hd : d.toNat < xs.length := by omega
    refine ⟨l, xs, d, xs[d.toNat], rfl, rfl, SqL.of (by rw [upd_ne ne]; exact hl), at_of (j := d.toNat) (by omega) (List.getElem?_eq_getElem hd), ?_⟩
    exact q _ _ _ (List.getElem_mem hd) n0 m0 m1
/-! ### the bag -/
def sp_L_bag (K : PySem.W.Frag) : Sp := fun vs H Q _ => ∃ (a : Addr) (i : Int) (ns : List Int), vs = [.ref a, .int i] ∧ SqL K H a (ns.map V.int) ∧ ns.length ≤ 63 ∧ 0 ≤ i ∧ i ≤ 1000 ∧
  ∀ H' p, Same H H' → H p = none → Bag H' p → Q (.ref p) H'
theorem ok_L_bag (T : Top K mg) : FnOk P w K mg base CX0 1 T.f__law_bag T.d__law_bag ["_law_script", "_law_at"] (sp_L_bag K) := by
  refine T.F__law_bag.ok scL_bag (fun vs H Q E h => ?_) (fun cdv A outer s H vs Q E hr h => ?_)
  · obtain ⟨b, l, xs, rfl, _⟩ := h
    rfl
  · obtain ⟨a, i, ns, rfl, hS, hl, i0, i1, q⟩ := h
    refine ⟨_, (pss_cons (ps_set (i := 2) scL_bag.nd rfl (.inl rfl) (pe_ifExp (pt_cmpR op_lt (pv 1) (pe_callB call_len_seq (by rfl) T.m_len (by decide +kernel) (pa_cons (pv 0) pa_nil)) (nomark _)) (pe_ix ix_list (pv 0) (pv 1) (fun _ _ => rfl)) pe_int))
      (pss_cons (ps_set (i := 3) scL_bag.nd rfl (.inl rfl) (pe_op op_add (pe_op op_mul pe_int (pv 1)) pe_int))
      (pss_cons (ps_for PassesOwn.never rfl (pi_enum (by rfl) T.m_enumerate (pa_cons (pe_slice sl_list (pv 0) po_none (po_some pe_int)) pa_nil)) (pg_tup rfl (pgs_cons (pg_name (i := 4) scL_bag.nd rfl (.inl rfl)) (pgs_cons (pg_name (i := 5) scL_bag.nd rfl (.inl rfl)) pgs_nil))) (pss_one (ps_set (i := 3) scL_bag.nd rfl (.inl rfl) (pe_op op_mod (pe_callTy call_int1 (by rfl) T.m_int (by decide +kernel) (pa_cons (pe_op op_add (pe_op op_add (pe_op op_add (pe_op op_mul (pv 3) pe_int) (pe_op op_mod (pe_callTy call_int1 (by rfl) T.m_int (by decide +kernel) (pa_cons (pv 5) pa_nil)) pe_int)) (pe_op op_mul pe_int (pv 4))) pe_int) pa_nil)) pe_int))))
      (pss_one (ps_ret (pe_lst (pa_cons (pe_ifExp (pt_cmpR op_ge (pe_callB call_abs (by rfl) T.m_abs (by decide +kernel) (pa_cons (pv 2) pa_nil)) (pe_op op_pow pe_int pe_int) (nomark _)) (pe_callB call_abs (by rfl) T.m_abs (by decide +kernel) (pa_cons (pv 2) pa_nil)) pe_int) (pa_cons (pv 3) pa_nil)))))))), ?_⟩
    obtain ⟨z, hz1, hz2⟩ : ∃ z : Int, (i < (((ns.map V.int).length : Nat) : Int) → atI (ns.map V.int) i = some (.int z)) ∧ (¬ i < (((ns.map V.int).length : Nat) : Int) → z = 0) := by
      by_cases h : i < (((ns.map V.int).length : Nat) : Int)
      · have hn : i.toNat < ns.length := by rw [List.length_map] at h; omega
        refine ⟨ns[i.toNat], fun _ => at_of (j := i.toNat) (by omega) ?_, fun h2 => absurd h h2⟩
        rw [List.getElem?_map, List.getElem?_eq_getElem hn]
        rfl
      · exact ⟨0, fun h2 => absurd h2 h, fun _ => rfl⟩
    refine ⟨.int i, rfl, .ref a, rfl, a, _, rfl, .inl hS, i, _, rfl, rfl, _, rfl, ite_via (fun e r => ⟨.ref a, rfl, .int i, rfl, a, _, i, .int z, rfl, rfl, hS, hz1 (of_decide_eq_true e), r⟩) (fun e r => by
      have e2 := hz2 (fun x => e (decide_eq_true x))
      rw [e2] at r
      exact r) ?_⟩
    refine ⟨.int i, rfl, 4093, i, rfl, rfl, .inl ⟨by decide, by decide⟩, _, 47, rfl, rfl, ?_⟩
    refine ⟨.ref a, rfl, 40, rfl, a, _, rfl, hS, fun c nc => ?_⟩
    obtain ⟨ms, ems, lms⟩ := cut_ints ns none (some 40)
    have sc0 : Same H (upd H c (.lst (cutV (ns.map V.int) none (some 40)))) := same_new nc
    refine ⟨c, _, rfl, SqL.of upd_same, for_it (walk_enum (xs := cutV (ns.map V.int) none (some 40))) (fun _ σ H3 => ∃ (bl : Int) (y4 y5 : Option V), σ = [some (.ref a), some (.int i), some (.int z), some (.int bl), y4, y5] ∧ 0 ≤ bl ∧ bl < 2147483648 ∧ Same H H3 ∧ H3 c = some (.lst (cutV (ns.map V.int) none (some 40)))) ?_ ?_ ?_ ?_⟩
    · exact ⟨4093 * i + 47, none, none, rfl, by omega, by omega, sc0, upd_same⟩
    · rintro j σ H3 _ ⟨bl, y4, y5, _, _, _, _, h5⟩
      exact SqL.of h5
    · rintro j x σ H3 H4 hj ⟨bl, y4, y5, rfl, b0, b1, hs, hc⟩ ⟨t, x1, x2, rfl, nt, rfl, e1, e2⟩
      cases e1
      obtain ⟨v, rfl⟩ : ∃ v : Int, x2 = .int v := by
        have e2 : (ms.map V.int)[j]? = some x2 := by rw [← ems]; exact e2
        rw [List.getElem?_map] at e2
        cases e3 : ms[j]? with
        | none => rw [e3] at e2; cases e2
        | some v => rw [e3] at e2; cases e2; exact ⟨v, rfl⟩
      refine ⟨t, _, rfl, SqT.of upd_same, rfl, .int (j : Nat), [.int v], rfl, .int v, [], rfl, rfl, ?_⟩
      refine ⟨.int bl, rfl, bl, 40014, rfl, rfl, .inl ⟨by omega, by omega⟩, .int v, rfl, .inl ⟨v, rfl, v, 2147483563, rfl, rfl, (show (0 : Int) < 2147483563 by decide), _, _, rfl, rfl, .int (j : Nat), rfl, 83, _, rfl, rfl, .inl ⟨by decide, by decide⟩, _, _, rfl, rfl, _, 7, rfl, rfl, .inl ⟨_, rfl, _, 2147483563, rfl, rfl, (show (0 : Int) < 2147483563 by decide), ?_⟩⟩⟩
      refine ⟨_, _, _, rfl, Int.emod_nonneg _ (by decide), Int.lt_trans (Int.emod_lt_of_pos _ (by decide)) (by decide), hs.trans (same_new nt), ?_⟩
      rw [upd_ne (ne_of_none hc nt)]
      exact hc
    · rintro σ H3 ⟨bl, y4, y5, rfl, b0, b1, hs, hc⟩
      have rest : ∀ n : Int, 0 ≤ n → ∀ p, H3 p = none → Q (.ref p) (upd H3 p (.lst [.int n, .int bl])) := fun n n0 p np => q _ p (hs.trans (same_new np)) (hs.free np) ⟨n, bl, upd_same, n0, b0, b1⟩
      refine ⟨.int z, rfl, z, rfl, 10, 18, rfl, rfl, ⟨by decide, by decide, by decide⟩, _, _, rfl, rfl, _, rfl, ite2 (fun e => ?_) (fun e => ?_)⟩
      · refine ⟨.int z, rfl, z, rfl, .int bl, rfl, (by show 2 ≤ sizeLine; decide), fun p np => rest _ ?_ p np⟩
        split <;> omega
      · exact ⟨.int bl, rfl, (by show 2 ≤ sizeLine; decide), fun p np => rest 0 (by decide) p np⟩
def sp_is_made_of (K : PySem.W.Frag) : Sp := fun vs H Q _ => ∃ (v : V) (cs : Str) (most : Int), vs = [v, .str cs, .int most] ∧ Ask K H v ∧ ∀ H', Same H H' → Q (.bl (ofText (madeOf cs most) v)) H'
theorem ok_is_made_of (T : Top K mg) : FnOk P w K mg base CX0 1 T.f_is_made_of T.d_is_made_of ["thing", "characters", "most"] (sp_is_made_of K) := by
  refine T.F_is_made_of.ok scis_made_of (fun vs H Q E h => ?_) (fun cdv A outer s H vs Q E hr h => ?_)
  · obtain ⟨v, cs, most, rfl, _⟩ := h
    rfl
  · obtain ⟨v, cs, most, rfl, hv, q⟩ := h
    refine ⟨_, (pss_cons (ps_if (PW.pt (pw_or (pt_not (pt_val (pe_callB call_isi (by rfl) T.m_isinstance (by decide +kernel) (pa_cons (pv 0) (pa_cons (pe_bltn (v := .ty "str") (by rfl) T.m_str (by decide +kernel) rfl) pa_nil))))) (pw_or (pt_cmpR op_eq (pv 0) pe_str (nomark _)) (pw_or1 (pt_cmpR op_gt (pe_callB call_len_str (by rfl) T.m_len (by decide +kernel) (pa_cons (pv 0) pa_nil)) (pv 2) (nomark _)))))) (pss_one (ps_ret pe_bl)) pss_nil)
      (pss_one (ps_ret (pe_callB (cr_all rfl) (by rfl) T.m_all (by decide +kernel) (pa_cons (pe_lc (own := [("character", 3)]) rfl scis_made_of.nd (pi_str (pv 0)) (blkOk_by (N := N_is_made_of) (sc := defScope s_is_made_of) (by decide +kernel)) (fun _ _ _ _ _ => (pg_name (i := 3) scis_made_of.nd rfl (.inl rfl))) (fun _ _ _ _ _ => pts_nil) (fun _ _ _ _ _ => (pe_cmpR op_in_sign (pv 3) (pv 1) (by rfl)))) pa_nil))))), ?_⟩
    rcases hv with ⟨z, rfl, hz⟩ | ⟨hno, t, ht, hk⟩
    · refine ⟨.str z, rfl, _, _, _, _, true, rfl, ClsV.ty "str", .base (.str z), kit_ty (by decide +kernel), true, rfl, iteF ?_⟩
      refine ⟨.str z, rfl, rfl, _, rfl, ite2 (fun e => iteT ?_) (fun e => ?_)⟩
      · have e1 : z = "" := V.str.inj (of_decide_eq_true e)
        subst e1
        exact q H (Same.refl H)
      · have z0 : 1 ≤ z.length := by
          cases hl : z.length with
          | zero =>
            refine absurd (decide_eq_true ?_) e
            have : z = "" := by
              cases z with
              | mk cps => 
                have : cps = #[] := Array.eq_empty_of_size_eq_zero hl
                rw [this]; rfl
            rw [this]
          | succ n => omega
        refine ⟨.str z, rfl, z, rfl, len1000 hz, .int most, rfl, _, _, rfl, rfl, _, rfl, ite2 (fun e2 => ?_) (fun e2 => ?_)⟩
        · have e3 : (z.length : Int) > most := of_decide_eq_true e2
          have := q H (Same.refl H)
          have hm : ofText (madeOf cs most) (.str z) = false := by
            show (decide (1 ≤ z.length) && (decide ((z.length : Int) ≤ most) && _)) = false
            rw [decide_eq_false (show ¬ (z.length : Int) ≤ most by omega), Bool.false_and, Bool.and_false]
          rw [hm] at this
          exact this
        · have e3 : ¬ (z.length : Int) > most := fun x => e2 (decide_eq_true x)
          refine ⟨.str z, rfl, z, rfl, fun D nD => lc_it walk_str (fun i H3 => Same H H3 ∧ H3 D = some (.lst ((z.cps.toList.take i).map fun c => V.bl (decide (c ∈ cs.cps.toList))))) ?_ (fun _ _ _ _ => trivial) ?_ ?_⟩
          · exact ⟨same_new nD, upd_same⟩
          · rintro i x H3 H4 hi ⟨s3, d3⟩ ⟨rfl, c, hc, rfl⟩
            refine ⟨rfl, ?_⟩
            simp only [tYes, if_true]
            refine ⟨.str ⟨#[c]⟩, rfl, .str cs, rfl, c, cs, rfl, rfl, _, d3, ?_, ?_, ?_⟩
            · rw [List.length_map, List.length_take]
              refine small1000 ?_
              have : z.cps.toList.length = z.length := rfl
              omega
            · intro b o e4
              rw [upd_ne (ne_of_none e4 nD)]
              exact s3 _ _ e4
            · have hc2 : z.cps.toList[i]? = some c := by rw [Array.getElem?_toList]; exact hc
              rw [upd_same, take_all_map _ _ _ _ hc2]
          · rintro H3 ⟨s3, d3⟩
            have e4 : z.cps.toList.take z.cps.size = z.cps.toList := List.take_of_length_le (Nat.le_of_eq rfl)
            rw [e4] at d3
            refine ⟨D, z.cps.toList.map fun c => decide (c ∈ cs.cps.toList), rfl, SqL.of (by rw [d3, List.map_map]; rfl), ?_⟩
            have := q H3 s3
            have hm : ofText (madeOf cs most) (.str z) = (z.cps.toList.map fun c => decide (c ∈ cs.cps.toList)).all id := by
              show (decide (1 ≤ z.length) && (decide ((z.length : Int) ≤ most) && _)) = _
              rw [decide_eq_true z0, decide_eq_true (show (z.length : Int) ≤ most by omega), Bool.true_and, Bool.true_and, List.all_map]
              rfl
            rw [hm] at this
            exact this
    · refine ⟨v, rfl, _, _, _, _, false, rfl, ClsV.ty "str", ht, kit_ty hk, false, rfl, iteT ?_⟩
      have := q H (Same.refl H)
      rw [hno] at this
      exact this
def sp_ask (K : PySem.W.Frag) (f : Str → Bool) : Sp := fun vs H Q _ => ∃ v : V, vs = [v] ∧ Ask K H v ∧ ∀ H', Same H H' → Q (.bl (ofText f v)) H'
def sp_is_name (K : PySem.W.Frag) : Sp := sp_ask K nameS
def sp_is_place (K : PySem.W.Frag) : Sp := sp_ask K placeS
def sp_is_value (K : PySem.W.Frag) : Sp := sp_ask K valueS
theorem ok_is_name (T : Top K mg) : FnOk P w K mg base CX0 2 T.f_is_name T.d_is_name ["thing"] (sp_is_name K) := by
  have G_is_made_of : FnOk P w K mg base CX0 1 T.f_is_made_of T.d_is_made_of ["thing", "characters", "most"] (sp_is_made_of K) := ok_is_made_of T
  refine T.F_is_name.ok scis_name (fun vs H Q E h => ?_) (fun cdv A outer s H vs Q E hr h => ?_)
  · obtain ⟨v, rfl, _⟩ := h
    rfl
  · obtain ⟨v, rfl, hv, q⟩ := h
    refine ⟨_, (pss_one (ps_ret (pe_call G_is_made_of (hr.mono (by decide)) (by rfl) T.g_is_made_of T.F_is_made_of.kp T.b_is_made_of .nil pass0 (pa_cons (pv 0) (pa_cons (pe_glob (v := .str "abcdefghijklmnopqrstuvwxyz") (by rfl) T.g_LETTERS ⟨_, rfl⟩) (pa_cons (pe_glob (v := .int 8) (by rfl) T.g_LONGEST_NAME ⟨_, rfl⟩) pa_nil)))))), ?_⟩
    exact ⟨v, rfl, v, _, _, rfl, hv, q⟩
theorem ok_is_place (T : Top K mg) : FnOk P w K mg base CX0 3 T.f_is_place T.d_is_place ["thing"] (sp_is_place K) := by
  have G_is_name : FnOk P w K mg base CX0 2 T.f_is_name T.d_is_name ["thing"] (sp_is_name K) := ok_is_name T
  refine T.F_is_place.ok scis_place (fun vs H Q E h => ?_) (fun cdv A outer s H vs Q E hr h => ?_)
  · obtain ⟨v, rfl, _⟩ := h
    rfl
  · obtain ⟨v, rfl, hv, q⟩ := h
    refine ⟨_, (pss_cons (ps_if (pt_not (pt_val (pe_callB call_isi (by rfl) T.m_isinstance (by decide +kernel) (pa_cons (pv 0) (pa_cons (pe_bltn (v := .ty "str") (by rfl) T.m_str (by decide +kernel) rfl) pa_nil))))) (pss_one (ps_ret pe_bl)) pss_nil)
      (pss_cons (ps_asg (pe_m1 F.slot_str_partition F.type_str_partition mt_partition (pv 0) pe_str) (pg_tup rfl (pgs_cons (pg_name (i := 1) scis_place.nd rfl (.inl rfl)) (pgs_cons (pg_name (i := 2) scis_place.nd rfl (.inl rfl)) (pgs_cons (pg_name (i := 3) scis_place.nd rfl (.inl rfl)) pgs_nil)))))
      (pss_one (ps_ret (pe_and (pe_call G_is_name (hr.mono (by decide)) (by rfl) T.g_is_name T.F_is_name.kp T.b_is_name .nil pass0 (pa_cons (pv 1) pa_nil)) (pe_one (pe_call G_is_name (hr.mono (by decide)) (by rfl) T.g_is_name T.F_is_name.kp T.b_is_name .nil pass0 (pa_cons (pv 3) pa_nil)))))))), ?_⟩
    rcases hv with ⟨z, rfl, hz⟩ | ⟨hno, t, ht, hk⟩
    · refine ⟨.str z, rfl, _, _, _, _, true, rfl, ClsV.ty "str", .base (.str z), kit_ty (by decide +kernel), true, rfl, iteF ?_⟩
      refine ⟨.str z, rfl, ⟨z, rfl⟩, z, dot, rfl, rfl, rfl, len1000 hz, fun p np => ?_⟩
      refine ⟨p, _, rfl, SqT.of upd_same, rfl, _, _, rfl, _, _, rfl, _, _, rfl, rfl, ?_⟩
      have hp := part_len z
      refine ⟨.str (Txt.partition z dot).1, rfl, _, rfl, Ask.text (by omega), fun H2 s2 => ⟨nameS (Txt.partition z dot).1, rfl, ite2 (fun e => ?_) (fun e => ?_)⟩⟩
      · refine ⟨.str (Txt.partition z dot).2.2, rfl, _, rfl, Ask.text (by omega), fun H3 s3 => ?_⟩
        have := q H3 (((same_new np).trans s2).trans s3)
        have hm : ofText placeS (.str z) = ofText nameS (.str (Txt.partition z dot).2.2) := by
          show (nameS _ && nameS _) = nameS _
          rw [e, Bool.true_and]
        rw [hm] at this
        exact this
      · have := q H2 ((same_new np).trans s2)
        have hm : ofText placeS (.str z) = false := by
          show (nameS _ && nameS _) = false
          rw [eq_false_of_ne_true e, Bool.false_and]
        rw [hm] at this
        exact this
    · refine ⟨v, rfl, _, _, _, _, false, rfl, ClsV.ty "str", ht, kit_ty hk, false, rfl, iteT ?_⟩
      have := q H (Same.refl H)
      rw [hno] at this
      exact this
theorem ok_is_value (T : Top K mg) : FnOk P w K mg base CX0 2 T.f_is_value T.d_is_value ["thing"] (sp_is_value K) := by
  have G_is_made_of : FnOk P w K mg base CX0 1 T.f_is_made_of T.d_is_made_of ["thing", "characters", "most"] (sp_is_made_of K) := ok_is_made_of T
  refine T.F_is_value.ok scis_value (fun vs H Q E h => ?_) (fun cdv A outer s H vs Q E hr h => ?_)
  · obtain ⟨v, rfl, _⟩ := h
    rfl
  · obtain ⟨v, rfl, hv, q⟩ := h
    refine ⟨_, (pss_one (ps_ret (pe_and (pe_call G_is_made_of (hr.mono (by decide)) (by rfl) T.g_is_made_of T.F_is_made_of.kp T.b_is_made_of .nil pass0 (pa_cons (pv 0) (pa_cons (pe_op op_add_str (pe_op op_add_str (pe_glob (v := .str "abcdefghijklmnopqrstuvwxyz") (by rfl) T.g_LETTERS ⟨_, rfl⟩) (pe_glob (v := .str "0123456789") (by rfl) T.g_DIGITS ⟨_, rfl⟩)) pe_str) (pa_cons (pe_glob (v := .int 12) (by rfl) T.g_LONGEST_VALUE ⟨_, rfl⟩) pa_nil)))) (pe_one (pe_not (pe_m1 F.slot_str_startswith F.type_str_startswith mt_startswith (pv 0) pe_str)))))), ?_⟩
    refine ⟨v, rfl, _, _, rfl, rfl, by decide, _, _, rfl, rfl, by decide, v, _, _, rfl, hv, fun H2 s2 => ⟨_, rfl, ite2 (fun e => ?_) (fun e => ?_)⟩⟩
    · rcases hv with ⟨z, rfl, hz⟩ | ⟨hno, t, ht, hk⟩
      · refine ⟨.str z, rfl, ⟨z, rfl⟩, z, _, rfl, rfl, _, rfl, ?_⟩
        have := q H2 s2
        have hm : ofText valueS (.str z) = !Txt.startswith z "-" := by
          show (madeOf valueSigns 12 z && _) = _
          rw [show madeOf valueSigns 12 z = true from e, Bool.true_and]
        rw [hm] at this
        exact this
      · rw [hno] at e
        cases e
    · have := q H2 s2
      have hm : ofText valueS v = false := by
        rcases hv with ⟨z, rfl, hz⟩ | ⟨hno, t, ht, hk⟩
        · show (madeOf valueSigns 12 z && _) = false
          rw [show madeOf valueSigns 12 z = false from eq_false_of_ne_true e, Bool.false_and]
        · exact hno _
      rw [hm] at this
      exact this
end
end K07

set_option Elab.async false
set_option linter.all false
set_option maxRecDepth 100000
namespace K07
open PySem PySem.Spec PyProof.Rows L2 My
section
variable {P : Program} {w : World} {K : PySem.W.Frag} {mg : Str → Option Value} {base : Heap}
/-! ### lines -/
def sp_line (f : Str → Bool) : Sp := fun vs H Q _ => ∃ z : Str, vs = [.str z] ∧ z.length ≤ 1000 ∧ ∀ H', Same H H' → Q (.bl (f z)) H'
def sp_is_release_word (K : PySem.W.Frag) : Sp := sp_line relW
def sp_is_header (K : PySem.W.Frag) : Sp := sp_line headS
def sp_is_loose (K : PySem.W.Frag) : Sp := sp_line looseS
theorem eq_str (a b : Str) : decide (V.str a = V.str b) = decide (a = b) := decide_eq_decide.mpr ⟨fun e => V.str.inj e, fun e => by rw [e]⟩
theorem ok_is_release_word (T : Top K mg) : FnOk P w K mg base CX0 2 T.f_is_release_word T.d_is_release_word ["thing"] (sp_is_release_word K) := by
  have G_is_made_of : FnOk P w K mg base CX0 1 T.f_is_made_of T.d_is_made_of ["thing", "characters", "most"] (sp_is_made_of K) := ok_is_made_of T
  refine T.F_is_release_word.ok scis_release_word (fun vs H Q E h => ?_) (fun cdv A outer s H vs Q E hr h => ?_)
  · obtain ⟨z, rfl, _⟩ := h
    rfl
  · obtain ⟨z, rfl, hz, q⟩ := h
    refine ⟨_, (pss_one (ps_ret (pe_and (pe_call G_is_made_of (hr.mono (by decide)) (by rfl) T.g_is_made_of T.F_is_made_of.kp T.b_is_made_of .nil pass0 (pa_cons (pv 0) (pa_cons (pe_glob (v := .str "0123456789") (by rfl) T.g_DIGITS ⟨_, rfl⟩) (pa_cons (pe_glob (v := .int 2) (by rfl) T.g_LONGEST_RELEASE ⟨_, rfl⟩) pa_nil)))) (pe_one (pe_or (pe_cmpR op_eq (pv 0) pe_str (nomark _)) (pe_one (pe_not (pe_m1 F.slot_str_startswith F.type_str_startswith mt_startswith (pv 0) pe_str)))))))), ?_⟩
    refine ⟨.str z, rfl, _, _, _, rfl, Ask.text hz, fun H2 s2 => ⟨_, rfl, ite2 (fun e => ?_) (fun e => ?_)⟩⟩
    · have e1 : madeOf digits 2 z = true := e
      refine ⟨.str z, rfl, rfl, _, rfl, ite2 (fun e2 => ?_) (fun e2 => ?_)⟩
      · have := q H2 s2
        rw [eq_str] at e2
        rw [show relW z = true by unfold relW; rw [e1, show decide (z = "0") = true from e2]; rfl] at this
        exact this
      · refine ⟨.str z, rfl, ⟨z, rfl⟩, z, _, rfl, rfl, _, rfl, ?_⟩
        have := q H2 s2
        rw [eq_str] at e2
        rw [show relW z = !Txt.startswith z "0" by unfold relW; rw [e1, show decide (z = "0") = false from eq_false_of_ne_true e2]; rfl] at this
        exact this
    · have e1 : madeOf digits 2 z = false := eq_false_of_ne_true e
      have := q H2 s2
      rw [show relW z = false by unfold relW; rw [e1]; rfl] at this
      exact this
theorem ok_is_header (T : Top K mg) : FnOk P w K mg base CX0 3 T.f_is_header T.d_is_header ["line"] (sp_is_header K) := by
  have G_is_name : FnOk P w K mg base CX0 2 T.f_is_name T.d_is_name ["thing"] (sp_is_name K) := ok_is_name T
  refine T.F_is_header.ok scis_header (fun vs H Q E h => ?_) (fun cdv A outer s H vs Q E hr h => ?_)
  · obtain ⟨z, rfl, _⟩ := h
    rfl
  · obtain ⟨z, rfl, hz, q⟩ := h
    refine ⟨_, (pss_one (ps_ret (pe_and (pe_m1 F.slot_str_startswith F.type_str_startswith mt_startswith (pv 0) pe_str) (pe_and (pe_m1 F.slot_str_endswith F.type_str_endswith mt_endswith (pv 0) pe_str) (pe_one (pe_call G_is_name (hr.mono (by decide)) (by rfl) T.g_is_name T.F_is_name.kp T.b_is_name .nil pass0 (pa_cons (pe_slice sl_str (pv 0) (po_some pe_int) (po_some (pe_un un_neg pe_int))) pa_nil))))))), ?_⟩
    refine ⟨.str z, rfl, ⟨z, rfl⟩, z, _, rfl, rfl, _, rfl, ite2 (fun e => ?_) (fun e => ?_)⟩
    · refine ⟨.str z, rfl, ⟨z, rfl⟩, z, _, rfl, rfl, _, rfl, ite2 (fun e2 => ?_) (fun e2 => ?_)⟩
      · refine ⟨.str z, rfl, 1, rfl, 1, rfl, -1, rfl, z, rfl, len1000 hz, _, rfl, Ask.text (Nat.le_trans (cutS_length z _ _) hz), fun H2 s2 => ?_⟩
        have := q H2 s2
        rw [show headS z = nameS (headOf z) by unfold headS; rw [show Txt.startswith z "[" = true from e, show Txt.endswith z "]" = true from e2]; rfl] at this
        exact this
      · have := q H (Same.refl H)
        rw [show headS z = false by unfold headS; rw [show Txt.startswith z "[" = true from e, show Txt.endswith z "]" = false from eq_false_of_ne_true e2]; rfl] at this
        exact this
    · have := q H (Same.refl H)
      rw [show headS z = false by unfold headS; rw [show Txt.startswith z "[" = false from eq_false_of_ne_true e]; rfl] at this
      exact this
theorem ok_is_loose (T : Top K mg) : FnOk P w K mg base CX0 1 T.f_is_loose T.d_is_loose ["line"] (sp_is_loose K) := by
  refine T.F_is_loose.ok scis_loose (fun vs H Q E h => ?_) (fun cdv A outer s H vs Q E hr h => ?_)
  · obtain ⟨z, rfl, _⟩ := h
    rfl
  · obtain ⟨z, rfl, hz, q⟩ := h
    have := q H (Same.refl H)
    refine ⟨_, (pss_one (ps_ret (pe_or (pe_cmpR op_eq (pv 0) pe_str (nomark _)) (pe_one (pe_and (pe_m1 F.slot_str_startswith F.type_str_startswith mt_startswith (pv 0) pe_str) (pe_one (pe_not (pe_m1 F.slot_str_startswith F.type_str_startswith mt_startswith (pv 0) (pe_glob (v := .str "#~") (by rfl) T.g_KEPT_MARK ⟨_, rfl⟩))))))))), ?_⟩
    refine ⟨.str z, rfl, rfl, _, rfl, ite2 (fun e => ?_) (fun e => ?_)⟩
    · rw [eq_str] at e
      rw [show looseS z = true by unfold looseS; rw [show decide (z = "") = true from e]; rfl] at this
      exact this
    · rw [eq_str] at e
      have e1 : decide (z = "") = false := eq_false_of_ne_true e
      refine ⟨.str z, rfl, ⟨z, rfl⟩, z, _, rfl, rfl, _, rfl, ite2 (fun e2 => ?_) (fun e2 => ?_)⟩
      · refine ⟨.str z, rfl, ⟨z, rfl⟩, z, _, rfl, rfl, _, rfl, ?_⟩
        rw [show looseS z = !Txt.startswith z markS by unfold looseS; rw [e1, show Txt.startswith z "#" = true from e2]; rfl] at this
        exact this
      · rw [show looseS z = false by unfold looseS; rw [e1, show Txt.startswith z "#" = false from eq_false_of_ne_true e2]; rfl] at this
        exact this
def sp_read_setting (K : PySem.W.Frag) : Sp := fun vs H Q _ => ∃ z : Str, vs = [.str z] ∧ z.length ≤ 1000 ∧ (setS z = none → ∀ H', Same H H' → Q .non H') ∧
  ∀ k v, setS z = some (k, v) → ∀ H' p, Same H H' → H' p = some (.tup [.str k, .str v]) → Q (.ref p) H'
theorem part3 (z y : Str) : (Txt.partition z y).1.length ≤ z.length ∧ (Txt.partition z y).2.1.length ≤ z.length ∧ (Txt.partition z y).2.2.length ≤ z.length := fact_partition z y
theorem ok_read_setting (T : Top K mg) : FnOk P w K mg base CX0 3 T.f_read_setting T.d_read_setting ["line"] (sp_read_setting K) := by
  have G_is_value : FnOk P w K mg base CX0 2 T.f_is_value T.d_is_value ["thing"] (sp_is_value K) := ok_is_value T
  have G_is_name : FnOk P w K mg base CX0 2 T.f_is_name T.d_is_name ["thing"] (sp_is_name K) := ok_is_name T
  refine T.F_read_setting.ok scread_setting (fun vs H Q E h => ?_) (fun cdv A outer s H vs Q E hr h => ?_)
  · obtain ⟨z, rfl, _⟩ := h
    rfl
  · obtain ⟨z, rfl, hz, q1, q2⟩ := h
    have hp := part3 z eqS
    refine ⟨_, (pss_cons (ps_asg (pe_m1 F.slot_str_partition F.type_str_partition mt_partition (pv 0) pe_str) (pg_tup rfl (pgs_cons (pg_name (i := 1) scread_setting.nd rfl (.inl rfl)) (pgs_cons (pg_name (i := 2) scread_setting.nd rfl (.inl rfl)) (pgs_cons (pg_name (i := 3) scread_setting.nd rfl (.inl rfl)) pgs_nil)))))
      (pss_one (ps_ret (pe_ifExp (PW.pt (pw_and (pt_val (pe_call G_is_name (hr.mono (by decide)) (by rfl) T.g_is_name T.F_is_name.kp T.b_is_name .nil pass0 (pa_cons (pv 1) pa_nil))) (pw_and1 (pt_val (pe_call G_is_value (hr.mono (by decide)) (by rfl) T.g_is_value T.F_is_value.kp T.b_is_value .nil pass0 (pa_cons (pv 3) pa_nil)))))) (pe_tup (pa_cons (pv 1) (pa_cons (pv 3) pa_nil))) pe_non)))), ?_⟩
    refine ⟨.str z, rfl, ⟨z, rfl⟩, z, eqS, rfl, rfl, rfl, len1000 hz, fun p np => ?_⟩
    refine ⟨p, _, rfl, SqT.of upd_same, rfl, _, _, rfl, _, _, rfl, _, _, rfl, rfl, ?_⟩
    have s1 : Same H (upd H p (.tup [.str (Txt.partition z eqS).1, .str (Txt.partition z eqS).2.1, .str (Txt.partition z eqS).2.2])) := same_new np
    refine ⟨.str (Txt.partition z eqS).1, rfl, _, rfl, Ask.text (by omega), fun H2 s2 => ⟨_, rfl, ite2 (fun e => ?_) (fun e => ?_)⟩⟩
    · refine ⟨.str (Txt.partition z eqS).2.2, rfl, _, rfl, Ask.text (by omega), fun H3 s3 => ⟨_, rfl, ite2 (fun e2 => ?_) (fun e2 => ?_)⟩⟩
      · refine ⟨.str (Txt.partition z eqS).1, rfl, .str (Txt.partition z eqS).2.2, rfl, (by show 2 ≤ sizeLine; decide), fun p2 np2 => ?_⟩
        refine q2 _ _ ?_ _ p2 ((s1.trans s2).trans (s3.trans (same_new np2))) upd_same
        unfold setS
        rw [show nameS (Txt.partition z eqS).1 = true from e, show valueS (Txt.partition z eqS).2.2 = true from e2]
        rfl
      · refine q1 ?_ _ ((s1.trans s2).trans s3)
        unfold setS
        rw [show nameS (Txt.partition z eqS).1 = true from e, show valueS (Txt.partition z eqS).2.2 = false from eq_false_of_ne_true e2]
        rfl
    · refine iteF (q1 ?_ _ (s1.trans s2))
      unfold setS
      rw [show nameS (Txt.partition z eqS).1 = false from eq_false_of_ne_true e]
      rfl
def sp_read_kept (K : PySem.W.Frag) : Sp := fun vs H Q _ => ∃ z : Str, vs = [.str z] ∧ z.length ≤ 1000 ∧ (keptS z = none → ∀ H', Same H H' → Q .non H') ∧
  ∀ r p v, keptS z = some (r, p, v) → ∀ H' a, Same H H' → H' a = some (.tup [.int r, .str p, optV v]) → Q (.ref a) H'
theorem ok_read_kept (T : Top K mg) : FnOk P w K mg base CX0 4 T.f_read_kept T.d_read_kept ["line"] (sp_read_kept K) := by
  have G_is_place : FnOk P w K mg base CX0 3 T.f_is_place T.d_is_place ["thing"] (sp_is_place K) := ok_is_place T
  have G_is_release_word : FnOk P w K mg base CX0 2 T.f_is_release_word T.d_is_release_word ["thing"] (sp_is_release_word K) := ok_is_release_word T
  have G_is_value : FnOk P w K mg base CX0 2 T.f_is_value T.d_is_value ["thing"] (sp_is_value K) := ok_is_value T
  refine T.F_read_kept.ok scread_kept (fun vs H Q E h => ?_) (fun cdv A outer s H vs Q E hr h => ?_)
  · obtain ⟨z, rfl, _⟩ := h
    rfl
  · obtain ⟨z, rfl, hz, q1, q2⟩ := h
    have hp1 : (kp1 z).1.length ≤ z.length ∧ (kp1 z).2.1.length ≤ z.length ∧ (kp1 z).2.2.length ≤ z.length := part3 z spaceS
    have hp2 : (kp2 z).1.length ≤ (kp1 z).2.2.length ∧ (kp2 z).2.1.length ≤ (kp1 z).2.2.length ∧ (kp2 z).2.2.length ≤ (kp1 z).2.2.length := part3 (kp1 z).2.2 spaceS
    have hp3 : (kp3 z).1.length ≤ (kp2 z).2.2.length ∧ (kp3 z).2.1.length ≤ (kp2 z).2.2.length ∧ (kp3 z).2.2.length ≤ (kp2 z).2.2.length := part3 (kp2 z).2.2 eqS
    refine ⟨_, (pss_cons (ps_asg (pe_m1 F.slot_str_partition F.type_str_partition mt_partition (pv 0) pe_str) (pg_tup rfl (pgs_cons (pg_name (i := 1) scread_kept.nd rfl (.inl rfl)) (pgs_cons (pg_name (i := 2) scread_kept.nd rfl (.inl rfl)) (pgs_cons (pg_name (i := 3) scread_kept.nd rfl (.inl rfl)) pgs_nil)))))
      (pss_cons (ps_asg (pe_m1 F.slot_str_partition F.type_str_partition mt_partition (pv 3) pe_str) (pg_tup rfl (pgs_cons (pg_name (i := 4) scread_kept.nd rfl (.inl rfl)) (pgs_cons (pg_name (i := 2) scread_kept.nd rfl (.inl rfl)) (pgs_cons (pg_name (i := 5) scread_kept.nd rfl (.inl rfl)) pgs_nil)))))
      (pss_cons (ps_asg (pe_m1 F.slot_str_partition F.type_str_partition mt_partition (pv 5) pe_str) (pg_tup rfl (pgs_cons (pg_name (i := 6) scread_kept.nd rfl (.inl rfl)) (pgs_cons (pg_name (i := 7) scread_kept.nd rfl (.inl rfl)) (pgs_cons (pg_name (i := 8) scread_kept.nd rfl (.inl rfl)) pgs_nil)))))
      (pss_cons (ps_if (PW.pt (pw_or (pt_cmpR op_ne (pv 1) (pe_glob (v := .str "#~") (by rfl) T.g_KEPT_MARK ⟨_, rfl⟩) (nomark _)) (pw_or (pt_not (pt_val (pe_call G_is_release_word (hr.mono (by decide)) (by rfl) T.g_is_release_word T.F_is_release_word.kp T.b_is_release_word .nil pass0 (pa_cons (pv 4) pa_nil)))) (pw_or1 (pt_not (pt_val (pe_call G_is_place (hr.mono (by decide)) (by rfl) T.g_is_place T.F_is_place.kp T.b_is_place .nil pass0 (pa_cons (pv 6) pa_nil)))))))) (pss_one (ps_ret pe_non)) pss_nil)
      (pss_cons (ps_if (pt_cmpR op_eq (pv 7) pe_str (nomark _)) (pss_one (ps_ret (pe_tup (pa_cons (pe_callTy call_int_str (by rfl) T.m_int (by decide +kernel) (pa_cons (pv 4) pa_nil)) (pa_cons (pv 6) (pa_cons pe_non pa_nil)))))) pss_nil)
      (pss_one (ps_ret (pe_ifExp (pt_val (pe_call G_is_value (hr.mono (by decide)) (by rfl) T.g_is_value T.F_is_value.kp T.b_is_value .nil pass0 (pa_cons (pv 8) pa_nil))) (pe_tup (pa_cons (pe_callTy call_int_str (by rfl) T.m_int (by decide +kernel) (pa_cons (pv 4) pa_nil)) (pa_cons (pv 6) (pa_cons (pv 8) pa_nil)))) pe_non)))))))), ?_⟩
    refine ⟨.str z, rfl, ⟨z, rfl⟩, z, spaceS, rfl, rfl, rfl, len1000 hz, fun p np => ?_⟩
    refine ⟨p, _, rfl, SqT.of upd_same, rfl, _, _, rfl, _, _, rfl, _, _, rfl, rfl, ?_⟩
    have s1 : Same H (upd H p (.tup [.str (kp1 z).1, .str (kp1 z).2.1, .str (kp1 z).2.2])) := same_new np
    refine ⟨.str (kp1 z).2.2, rfl, ⟨_, rfl⟩, _, spaceS, rfl, rfl, rfl, len1000 (by omega), fun p2 np2 => ?_⟩
    refine ⟨p2, _, rfl, SqT.of upd_same, rfl, _, _, rfl, _, _, rfl, _, _, rfl, rfl, ?_⟩
    have s2 := s1.trans (same_new (o := .tup [.str (kp2 z).1, .str (kp2 z).2.1, .str (kp2 z).2.2]) np2)
    refine ⟨.str (kp2 z).2.2, rfl, ⟨_, rfl⟩, _, eqS, rfl, rfl, rfl, len1000 (by omega), fun p3 np3 => ?_⟩
    refine ⟨p3, _, rfl, SqT.of upd_same, rfl, _, _, rfl, _, _, rfl, _, _, rfl, rfl, ?_⟩
    have s3 := s2.trans (same_new (o := .tup [.str (kp3 z).1, .str (kp3 z).2.1, .str (kp3 z).2.2]) np3)
    have none1 : (decide ((kp1 z).1 = markS) && (relW (kp2 z).1 && placeS (kp3 z).1)) = false → keptS z = none := fun h => by
      unfold keptS
      rw [h]
      rfl
    refine ⟨.str (kp1 z).1, rfl, rfl, _, rfl, ite2 (fun e => ?_) (fun e => ?_)⟩
    · rw [eq_str] at e
      refine iteT (q1 (none1 ?_) _ s3)
      have : decide ((kp1 z).1 = markS) = false := by
        cases h : decide ((kp1 z).1 = markS) with
        | false => rfl
        | true => rw [h] at e; cases e
      rw [this]
      rfl
    · rw [eq_str] at e
      have e1 : decide ((kp1 z).1 = markS) = true := by
        cases h : decide ((kp1 z).1 = markS) with
        | false => rw [h] at e; exact absurd rfl e
        | true => rfl
      refine ⟨.str (kp2 z).1, rfl, _, rfl, by omega, fun H4 s4 => ⟨_, rfl, ite2 (fun e2 => ?_) (fun e2 => ?_)⟩⟩
      · have e2' : relW (kp2 z).1 = false := by
          cases h : relW (kp2 z).1 with
          | false => rfl
          | true => rw [h] at e2; cases e2
        refine iteT (q1 (none1 ?_) _ (s3.trans s4))
        rw [e1, e2']
        rfl
      · have e2' : relW (kp2 z).1 = true := by
          cases h : relW (kp2 z).1 with
          | false => rw [h] at e2; exact absurd rfl e2
          | true => rfl
        refine ⟨.str (kp3 z).1, rfl, _, rfl, Ask.text (by omega), fun H5 s5 => ⟨_, rfl, ite2 (fun e3 => ?_) (fun e3 => ?_)⟩⟩
        · have e3' : placeS (kp3 z).1 = false := by
            cases h : placeS (kp3 z).1 with
            | false => rfl
            | true => rw [show ofText placeS (.str (kp3 z).1) = true from h] at e3; cases e3
          refine q1 (none1 ?_) _ ((s3.trans s4).trans s5)
          rw [e1, e2', e3']
          rfl
        · have e3' : placeS (kp3 z).1 = true := by
            cases h : placeS (kp3 z).1 with
            | false => rw [show ofText placeS (.str (kp3 z).1) = false from h] at e3; exact absurd rfl e3
            | true => rfl
          have hi := int_of_rel e2'
          have t5 := (s3.trans s4).trans s5
          refine ⟨.str (kp3 z).2.1, rfl, rfl, _, rfl, ite2 (fun e4 => ?_) (fun e4 => ?_)⟩
          · rw [eq_str] at e4
            refine ⟨.str (kp2 z).1, rfl, _, _, rfl, hi.1, hi.2, .str (kp3 z).1, rfl, (by show 3 ≤ sizeLine; decide), fun a na => ?_⟩
            refine q2 _ _ none ?_ _ a (t5.trans (same_new na)) upd_same
            unfold keptS
            rw [e1, e2', e3', if_pos (show (true && (true && true)) = true from rfl), if_pos (of_decide_eq_true e4)]
          · rw [eq_str] at e4
            have e4' : ¬ (kp3 z).2.1 = "" := fun h => e4 (decide_eq_true h)
            refine ⟨.str (kp3 z).2.2, rfl, _, rfl, Ask.text (by omega), fun H6 s6 => ⟨_, rfl, ite2 (fun e5 => ?_) (fun e5 => ?_)⟩⟩
            · refine ⟨.str (kp2 z).1, rfl, _, _, rfl, hi.1, hi.2, .str (kp3 z).1, rfl, .str (kp3 z).2.2, rfl, (by show 3 ≤ sizeLine; decide), fun a na => ?_⟩
              refine q2 _ _ (some (kp3 z).2.2) ?_ _ a ((t5.trans s6).trans (same_new na)) upd_same
              unfold keptS
              rw [e1, e2', e3', if_pos (show (true && (true && true)) = true from rfl), if_neg e4', if_pos (show valueS (kp3 z).2.2 = true from e5)]
            · refine q1 ?_ _ (t5.trans s6)
              unfold keptS
              rw [e1, e2', e3', if_pos (show (true && (true && true)) = true from rfl), if_neg e4', if_neg (show ¬ valueS (kp3 z).2.2 = true from e5)]
end
end K07

set_option Elab.async false
set_option linter.all false
set_option maxRecDepth 100000
namespace K07
open PySem PySem.Spec PyProof.Rows L2 My
/-- none of its lists is longer than n -/
structure Sm (n : Nat) (fs : FS) : Prop where
  a : fs.headers.length ≤ n
  b : fs.settings.length ≤ n
  c : fs.kept.length ≤ n
  d : fs.blocks.length ≤ n
  e : fs.loose.length ≤ n
theorem Sm.step {n : Nat} {fs fs' : FS} {z : Str} (h : Sm n fs) (e : stepF fs z = some fs') : Sm (n + 1) fs' := by
  obtain ⟨h1, h2, h3, h4, h5⟩ := h
  unfold stepF at e
  split at e
  · cases e
    constructor <;> (try simp) <;> omega
  split at e
  · split at e
    · cases e
    · split at e
      · cases e
      · cases e
        constructor <;> (try simp) <;> omega
  split at e
  · split at e
    · cases e
    · cases e
      constructor <;> (try simp) <;> omega
  split at e
  · cases e
  split at e
  · cases e
  split at e
  · cases e
  · cases e
    constructor <;> (try simp) <;> omega
theorem big {n : Nat} (h : n ≤ 100000) : n < sizeLine := Nat.lt_of_le_of_lt h (by decide)
theorem paired_len {α β : Type} {F : α → β → Prop} : ∀ {l : List α} {m : List β}, Paired F l m → l.length = m.length
  | _, _, .nil => rfl
  | _, _, .cons _ r => by rw [List.length_cons, List.length_cons, paired_len r]
section
variable {P : Program} {w : World} {K : PySem.W.Frag} {mg : Str → Option Value} {base : Heap}
/-! ### the methods of a file that is read -/
def sp_SettingsFile_close_block (K : PySem.W.Frag) (T : Top K mg) : Sp := fun vs H Q _ => ∃ (H0 : Hp) (x : Addr) (t : Str) (rows : List Str) (fs : FS) (A : Parts) (y : Str), vs = [.ref x, .str y] ∧ FileP T.C_SettingsFile H0 H x t rows fs A ∧ Sm 99999 fs ∧
  y ∉ fs.blocks.map (·.1) ∧ (y ∈ fs.headers ∨ y ∈ fs.settings.map (·.1)) ∧ ∀ H' A', FileP T.C_SettingsFile H0 H' x t rows { fs with blocks := fs.blocks ++ [(y, fs.loose)], loose := [] } A' → Q .non H'
theorem ok_SettingsFile_close_block (T : Top K mg) : FnOk P w K mg base CX0 1 T.f_SettingsFile_close_block T.d_SettingsFile_close_block ["self", "thing"] (sp_SettingsFile_close_block K T) := by
  refine T.F_SettingsFile_close_block.ok scSettingsFile_close_block (fun vs H Q E h => ?_) (fun cdv A outer s H vs Q E hr h => ?_)
  · obtain ⟨H0, x, t, rows, fs, A, y, rfl, _⟩ := h
    rfl
  · obtain ⟨H0, x, t, rows, fs, A, y, rfl, f, sm, hy, hy2, q⟩ := h
    refine ⟨_, (pss_cons (ps_dput (hu_of hr) (pe_fld (pv 0) rfl) (pv 1) (pe_fld (pv 0) rfl) rfl)
      (pss_one (ps_fld (pv 0) (pe_lst pa_nil) rfl))), ?_⟩
    have names : A.bl.map (·.1) = fs.blocks.map (·.1) := blk_names (fun _ _ h => h.1) f.bs
    have new : valV (blkKV A.bl) (Sum.inr y : Key) = none := val_blk (by rw [names]; exact hy)
    have len : (blkKV A.bl).length ≤ 100000 := by
      unfold blkKV
      rw [List.length_map, paired_len f.bs]
      have := sm.d
      omega
    refine ⟨.ref x, rfl, x, _, _, _, _, rfl, f.ob, T.cl_SettingsFile, T.no_SettingsFile_loose, f_loose _ _ _ _ _ _ _, .ref x, rfl, x, _, _, _, _, rfl, f.ob, T.cl_SettingsFile, T.no_SettingsFile_blocks, f_blocks _ _ _ _ _ _ _, .str y, rfl, A.b, _, rfl, DPut.k (k := Sum.inr y) f.eb (big len), ?_⟩
    rw [putK_new _ new]
    have e : blkKV A.bl ++ [(Sum.inr y, V.ref A.l)] = blkKV (A.bl ++ [(y, A.l)]) := by
      unfold blkKV
      rw [List.map_append]
      rfl
    rw [e]
    refine ⟨Nat.zero_le _, fun l' nl => ?_⟩
    have bx : x ≠ A.b := ne_of f.ob f.eb (fun h => nomatch h)
    have xl : x ≠ l' := ne_of_none (show (upd H A.b _) x = _ by rw [upd_ne bx]; exact f.ob) nl
    refine ⟨.ref x, rfl, x, _, _, _, rfl, (by rw [upd_ne xl, upd_ne bx]; exact f.ob), T.cl_SettingsFile, T.no_SettingsFile_loose, flds_len _ _ _ _ _ _ _, ?_⟩
    rw [flds_reloose]
    exact q _ _ (f.close nl hy2)
def sp_SettingsFile_take_header (K : PySem.W.Frag) (T : Top K mg) : Sp := fun vs H Q _ => ∃ (H0 : Hp) (x : Addr) (t : Str) (rows : List Str) (fs : FS) (A : Parts) (y : Str), vs = [.ref x, .str y] ∧ FileP T.C_SettingsFile H0 H x t rows fs A ∧ Sm 99998 fs ∧
  nameS y = true ∧ y ∉ fs.headers ∧ ∀ H' A', FileP T.C_SettingsFile H0 H' x t rows { fs with headers := fs.headers ++ [y], blocks := fs.blocks ++ [(y, fs.loose)], loose := [] } A' → Q .non H'
theorem ok_SettingsFile_take_header (T : Top K mg) : FnOk P w K mg base CX0 2 T.f_SettingsFile_take_header T.d_SettingsFile_take_header ["self", "name"] (sp_SettingsFile_take_header K T) := by
  have G_SettingsFile_close_block : FnOk P w K mg base CX0 1 T.f_SettingsFile_close_block T.d_SettingsFile_close_block ["self", "thing"] (sp_SettingsFile_close_block K T) := ok_SettingsFile_close_block T
  refine T.F_SettingsFile_take_header.ok scSettingsFile_take_header (fun vs H Q E h => ?_) (fun cdv A outer s H vs Q E hr h => ?_)
  · obtain ⟨H0, x, t, rows, fs, A, y, rfl, _⟩ := h
    rfl
  · obtain ⟨H0, x, t, rows, fs, A, y, rfl, f, sm, hn, hy, q⟩ := h
    refine ⟨_, (pss_cons (ps_if (pt_cmpR op_in_seq (pv 1) (pe_fld (pv 0) rfl) (by rfl)) (pss_one (ps_ret pe_str)) pss_nil)
      (pss_cons (ps_expr (pe_bm PySem.F.plainAttrs_list PySem.F.slot_list_append PySem.F.type_list_append mt_append (pe_fld (pv 0) rfl) (pa_cons (pv 1) pa_nil)))
      (pss_cons (ps_expr (pe_meth (pv 0) T.cl_SettingsFile T.me_SettingsFile_close_block G_SettingsFile_close_block (hr.mono (by decide)) T.b_SettingsFile_close_block .nil pass0 (pa_cons (pv 1) pa_nil)))
      (pss_one (ps_ret pe_non))))), ?_⟩
    have s1 := sm.a
    refine ⟨.str y, rfl, .ref x, rfl, x, _, _, _, _, rfl, f.ob, T.cl_SettingsFile, T.no_SettingsFile_headers, f_headers _ _ _ _ _ _ _, A.h, _, rfl, .inl (SqL.of f.eh), rfl, (by rw [List.all_map]; exact List.all_eq_true.mpr fun _ _ => rfl), _, rfl, ?_⟩
    rw [in_strs, decide_eq_false hy]
    refine iteF ?_
    refine ⟨.ref x, rfl, x, _, _, _, _, rfl, f.ob, T.cl_SettingsFile, T.no_SettingsFile_headers, f_headers _ _ _ _ _ _ _, .inl ⟨rfl, _, SqL.of f.eh⟩, .str y, rfl, A.h, _, _, rfl, rfl, f.eh, (by rw [List.length_map]; exact big (by omega)), ?_⟩
    have e : fs.headers.map V.str ++ [V.str y] = (fs.headers ++ [y]).map V.str := by rw [List.map_append]; rfl
    rw [e]
    have f2 := f.addHead hn
    refine ⟨.ref x, rfl, x, _, _, rfl, f2.ob, f_no _ _ _ _ _ _ _ (by decide +kernel) (by decide +kernel) (by decide +kernel) (by decide +kernel) (by decide +kernel) (by decide +kernel) (by decide +kernel), .str y, rfl, H0, x, t, rows, _, A, y, rfl, f2, ?_, f.ok.newHead hn hy, .inl (List.mem_append_right _ (List.mem_singleton.mpr rfl)), fun H' A' f3 => q H' A' f3⟩
    have h2 := sm.b
    have h3 := sm.c
    have h4 := sm.d
    have h5 := sm.e
    constructor <;> (try simp) <;> omega
def sp_SettingsFile_take_setting (K : PySem.W.Frag) (T : Top K mg) : Sp := fun vs H Q _ => ∃ (H0 : Hp) (x : Addr) (t : Str) (rows : List Str) (fs : FS) (A : Parts) (k v h : Str), vs = [.ref x, .str k, .str v] ∧ FileP T.C_SettingsFile H0 H x t rows fs A ∧ Sm 99998 fs ∧
  k.length ≤ 1000 ∧ fs.headers.getLast? = some h ∧ h ++ "." ++ k ∉ fs.settings.map (·.1) ∧ ∀ H' A', FileP T.C_SettingsFile H0 H' x t rows { fs with settings := fs.settings ++ [(h ++ "." ++ k, v)], blocks := fs.blocks ++ [(h ++ "." ++ k, fs.loose)], loose := [] } A' → Q .non H'
theorem ok_SettingsFile_take_setting (T : Top K mg) : FnOk P w K mg base CX0 2 T.f_SettingsFile_take_setting T.d_SettingsFile_take_setting ["self", "key", "value"] (sp_SettingsFile_take_setting K T) := by
  have G_SettingsFile_close_block : FnOk P w K mg base CX0 1 T.f_SettingsFile_close_block T.d_SettingsFile_close_block ["self", "thing"] (sp_SettingsFile_close_block K T) := ok_SettingsFile_close_block T
  refine T.F_SettingsFile_take_setting.ok scSettingsFile_take_setting (fun vs H Q E h => ?_) (fun cdv A outer s H vs Q E hr h => ?_)
  · obtain ⟨H0, x, t, rows, fs, A, k, v, h, rfl, _⟩ := h
    rfl
  · obtain ⟨H0, x, t, rows, fs, A, k, v, h, rfl, f, sm, hk, hl, hy, q⟩ := h
    refine ⟨_, (pss_cons (ps_if (pt_cmpR (op_eqNil hr.units0) (pe_fld (pv 0) rfl) (pe_lst pa_nil) (nomark _)) (pss_one (ps_ret pe_str)) pss_nil)
      (pss_cons (ps_set (i := 3) scSettingsFile_take_setting.nd rfl (.inl rfl) (pe_op op_add_str (pe_op op_add_str (pe_ix ix_list (pe_fld (pv 0) rfl) (pe_un un_neg pe_int) (fun _ _ => rfl)) pe_str) (pv 1)))
      (pss_cons (ps_if (pt_cmp (pc_din (hu_of hr) (pv 3) (pe_fld (pv 0) rfl))) (pss_one (ps_ret pe_str)) pss_nil)
      (pss_cons (ps_dput (hu_of hr) (pe_fld (pv 0) rfl) (pv 3) (pv 2) rfl)
      (pss_cons (ps_expr (pe_meth (pv 0) T.cl_SettingsFile T.me_SettingsFile_close_block G_SettingsFile_close_block (hr.mono (by decide)) T.b_SettingsFile_close_block .nil pass0 (pa_cons (pv 3) pa_nil)))
      (pss_one (ps_ret pe_non))))))), ?_⟩
    have h1 := sm.a
    have h2 := sm.b
    have h3 := sm.c
    have h4 := sm.d
    have h5 := sm.e
    have eh : fs.headers = fs.headers.dropLast ++ [h] := by
      obtain ⟨ne, e⟩ : ∃ ne, fs.headers.getLast ne = h := by
        cases hh : fs.headers with
        | nil => rw [hh] at hl; cases hl
        | cons a r => rw [hh] at hl; exact ⟨by simp, by rw [List.getLast?_eq_some_getLast (by simp)] at hl; exact Option.some.inj hl⟩
      rw [← e, List.dropLast_concat_getLast]
    have hin : h ∈ fs.headers := by rw [eh]; exact List.mem_append_right _ (List.mem_singleton.mpr rfl)
    have hlen : h.length ≤ 8 := by
      have := f.ok.hn h hin
      unfold nameS madeOf at this
      simp only [Bool.and_eq_true, decide_eq_true_eq] at this
      omega
    have hgt : atI (fs.headers.map V.str) (-1) = some (.str h) := by
      rw [eh, List.map_append]
      exact atI_last _ _
    refine ⟨.ref x, rfl, x, _, _, _, _, rfl, f.ob, T.cl_SettingsFile, T.no_SettingsFile_headers, f_headers _ _ _ _ _ _ _, Nat.zero_le _, fun p np => ⟨A.h, p, _, rfl, rfl, SqL.of (same_new np _ _ f.eh), SqL.of upd_same, _, rfl, ?_⟩⟩
    have emp : (fs.headers.map V.str).isEmpty = false := by rw [eh, List.map_append]; simp
    rw [emp]
    refine iteF ?_
    have f1 := f.more (same_new (o := .lst []) np)
    generalize upd H p (.lst []) = H1 at f1
    have l1 : (h ++ "." : Str).length ≤ 9 := by
      rw [len_tl, TL.tl_append, List.length_append]
      show h.length + 1 ≤ 9
      omega
    have sb : 100000 ≤ sizeLine := by decide
    refine ⟨.ref x, rfl, x, _, _, _, _, rfl, f1.ob, T.cl_SettingsFile, T.no_SettingsFile_headers, f_headers _ _ _ _ _ _ _, 1, rfl, A.h, _, -1, .str h, rfl, rfl, SqL.of f1.eh, hgt, _, _, rfl, rfl, (by show h.length + 1 ≤ sizeLine; omega), .str k, rfl, _, _, rfl, rfl, (by omega), ?_⟩
    refine ⟨.str (h ++ "." ++ k), rfl, .ref x, rfl, x, _, _, _, _, rfl, f1.ob, T.cl_SettingsFile, T.no_SettingsFile_settings_read, f_settings _ _ _ _ _ _ _, A.s, _, rfl, DGet.k (k := Sum.inr (h ++ "." ++ k)) f1.es, _, rfl, ?_⟩
    have new := val_set hy
    rw [new]
    refine iteF ?_
    have len : (setKV fs.settings).length ≤ 100000 := by
      unfold setKV
      rw [List.length_map]
      omega
    refine ⟨.str v, rfl, .ref x, rfl, x, _, _, _, _, rfl, f1.ob, T.cl_SettingsFile, T.no_SettingsFile_settings_read, f_settings _ _ _ _ _ _ _, .str (h ++ "." ++ k), rfl, A.s, _, rfl, DPut.k (k := Sum.inr (h ++ "." ++ k)) f1.es (big len), ?_⟩
    rw [putK_new _ new]
    have e : setKV fs.settings ++ [(Sum.inr (h ++ "." ++ k), V.str v)] = setKV (fs.settings ++ [(h ++ "." ++ k, v)]) := by
      unfold setKV
      rw [List.map_append]
      rfl
    rw [e]
    have f2 := f1.addSet (p := h ++ "." ++ k) (v := v) (dot_in h k)
    refine ⟨.ref x, rfl, x, _, _, rfl, f2.ob, f_no _ _ _ _ _ _ _ (by decide +kernel) (by decide +kernel) (by decide +kernel) (by decide +kernel) (by decide +kernel) (by decide +kernel) (by decide +kernel), .str (h ++ "." ++ k), rfl, H0, x, t, rows, _, A, _, rfl, f2, ?_, f.ok.newPlace (dot_in h k) hy, .inr ?_, fun H' A' f3 => q H' A' f3⟩
    · constructor <;> (try simp) <;> omega
    · rw [List.map_append]
      exact List.mem_append_right _ (List.mem_singleton.mpr rfl)
end
end K07

set_option Elab.async false
set_option linter.all false
set_option maxRecDepth 100000
namespace K07
open PySem PySem.Spec PyProof.Rows L2 My
/-- the lines of a text -/
def rowsOf (t : Str) : List Str := if t = "" then [] else Txt.split t "\n"
/-- the block of that name -/
def valB (l : List (Str × List Str)) (y : Str) : Option (List Str) := (l.find? fun p => decide (p.1 = y)).map (·.2)
theorem val_block {H H0 : Hp} {lA hA : Addr} {y : Str} {ls : List Str} : ∀ {l : List (Str × Addr)} {m : List (Str × List Str)}, Paired (fun (p : Str × Addr) (q : Str × List Str) => p.1 = q.1 ∧ H p.2 = some (.lst (q.2.map V.str)) ∧ p.2 ≠ lA ∧ p.2 ≠ hA ∧ H0 p.2 = none) l m →
    valB m y = some ls → ∃ a, valV (blkKV l) (Sum.inr y : Key) = some (.ref a) ∧ H a = some (.lst (ls.map V.str))
  | _, _, .nil, e => by cases e
  | p :: l, q :: m, .cons h r, e => by
    by_cases hy : q.1 = y
    · have e2 : q.2 = ls := by
        unfold valB at e
        rw [List.find?_cons, show decide (q.1 = y) = true from decide_eq_true hy] at e
        exact Option.some.inj e
      refine ⟨p.2, ?_, by rw [← e2]; exact h.2.1⟩
      show valV ((Sum.inr p.1, V.ref p.2) :: blkKV l) (Sum.inr y : Key) = _
      exact valV_pos (p := (Sum.inr p.1, V.ref p.2)) (by show (Sum.inr p.1 : Key) = Sum.inr y; rw [h.1, hy])
    · have e2 : valB m y = some ls := by
        unfold valB at e ⊢
        rw [List.find?_cons, show decide (q.1 = y) = false from decide_eq_false hy] at e
        exact e
      obtain ⟨a, h1, h2⟩ := val_block r e2
      refine ⟨a, ?_, h2⟩
      show valV ((Sum.inr p.1, V.ref p.2) :: blkKV l) (Sum.inr y : Key) = _
      rw [valV_neg (p := (Sum.inr p.1, V.ref p.2)) (by show ¬ (Sum.inr p.1 : Key) = Sum.inr y; rw [h.1]; exact fun z => hy (Sum.inr.inj z))]
      exact h1
theorem run_at {fs fsE : FS} {rows : List Str} {i : Nat} {z : Str} (hE : runF fs0 rows = some fsE) (hi : rows[i]? = some z) (h : runF fs0 (rows.take i) = some fs) : ∃ fs', stepF fs z = some fs' ∧ runF fs0 (rows.take (i + 1)) = some fs' := by
  have e : rows = rows.take i ++ z :: rows.drop (i + 1) := by
    have := List.take_append_drop i rows
    rw [List.drop_eq_getElem?_toList_append, hi] at this
    exact this.symm
  rw [e, runF_app, h] at hE
  have hE2 : ((stepF fs z).bind fun fs' => runF fs' (rows.drop (i + 1))) = some fsE := hE
  cases hs : stepF fs z with
  | none => rw [hs] at hE2; cases hE2
  | some fs' =>
    refine ⟨fs', rfl, ?_⟩
    rw [List.take_add_one, hi, runF_app, h]
    show ((stepF fs z).bind fun f => runF f []) = _
    rw [hs]
    rfl
section
variable {P : Program} {w : World} {K : PySem.W.Frag} {mg : Str → Option Value} {base : Heap}
def sp_SettingsFile_take_kept (K : PySem.W.Frag) (T : Top K mg) : Sp := fun vs H Q _ => ∃ (H0 : Hp) (x : Addr) (t : Str) (rows : List Str) (fs : FS) (A : Parts) (z : Str) (r : Int) (p : Str) (v : Option Str), vs = [.ref x, .str z] ∧ FileP T.C_SettingsFile H0 H x t rows fs A ∧ Sm 99998 fs ∧
  z.length ≤ 1000 ∧ keptS z = some (r, p, v) ∧ (r, p) ∉ fs.kept.map (·.1) ∧ ∀ H' A', FileP T.C_SettingsFile H0 H' x t rows { fs with kept := fs.kept ++ [((r, p), v)] } A' → Q .non H'
theorem ok_SettingsFile_take_kept (T : Top K mg) : FnOk P w K mg base CX0 5 T.f_SettingsFile_take_kept T.d_SettingsFile_take_kept ["self", "line"] (sp_SettingsFile_take_kept K T) := by
  have G_read_kept : FnOk P w K mg base CX0 4 T.f_read_kept T.d_read_kept ["line"] (sp_read_kept K) := ok_read_kept T
  refine T.F_SettingsFile_take_kept.ok scSettingsFile_take_kept (fun vs H Q E h => ?_) (fun cdv A outer s H vs Q E hr h => ?_)
  · obtain ⟨H0, x, t, rows, fs, A, z, r, p, v, rfl, _⟩ := h
    rfl
  · obtain ⟨H0, x, t, rows, fs, A, z, r, p, v, rfl, f, sm, hz, hk, hn, q⟩ := h
    refine ⟨_, (pss_cons (ps_set (i := 2) scSettingsFile_take_kept.nd rfl (.inl rfl) (pe_call G_read_kept (hr.mono (by decide)) (by rfl) T.g_read_kept T.F_read_kept.kp T.b_read_kept .nil pass0 (pa_cons (pv 1) pa_nil)))
      (pss_cons (ps_if (pt_cmpR op_isN (pv 2) pe_non (nomark _)) (pss_one (ps_ret pe_str)) pss_nil)
      (pss_cons (ps_asg (pv 2) (pg_tup rfl (pgs_cons (pg_name (i := 3) scSettingsFile_take_kept.nd rfl (.inl rfl)) (pgs_cons (pg_name (i := 4) scSettingsFile_take_kept.nd rfl (.inl rfl)) (pgs_cons (pg_name (i := 5) scSettingsFile_take_kept.nd rfl (.inl rfl)) pgs_nil)))))
      (pss_cons (ps_if (pt_cmp (pc_din (hu_of hr) (pe_tup (pa_cons (pv 3) (pa_cons (pv 4) pa_nil))) (pe_fld (pv 0) rfl))) (pss_one (ps_ret pe_str)) pss_nil)
      (pss_cons (ps_dput (hu_of hr) (pe_fld (pv 0) rfl) (pe_tup (pa_cons (pv 3) (pa_cons (pv 4) pa_nil))) (pv 5) rfl)
      (pss_one (ps_ret pe_non))))))), ?_⟩
    refine ⟨.str z, rfl, z, rfl, hz, (fun e => by rw [hk] at e; cases e), fun r' p' v' e H1 a s1 ha => ?_⟩
    rw [hk] at e
    cases e
    have f1 := f.more s1
    refine ⟨.ref a, rfl, rfl, _, rfl, ?_⟩
    rw [decide_eq_false (show ¬ V.ref a = V.non from fun h => nomatch h)]
    refine iteF ?_
    refine ⟨.ref a, rfl, a, _, rfl, SqT.of ha, rfl, _, _, rfl, _, _, rfl, _, _, rfl, rfl, ?_⟩
    refine ⟨.int r, rfl, .str p, rfl, (by show 2 ≤ sizeLine; decide), fun kt nkt => ?_⟩
    have f2 := f1.more (same_new (o := .tup [.int r, .str p]) nkt)
    have hkt : (upd H1 kt (.tup [.int r, .str p])) kt = some (.tup (([Sum.inl r, Sum.inr p] : List Key).map kV)) := upd_same
    generalize upd H1 kt (.tup [.int r, .str p]) = H2 at f2 hkt
    refine ⟨.ref x, rfl, x, _, _, _, _, rfl, f2.ob, T.cl_SettingsFile, T.no_SettingsFile_kept_read, f_kept _ _ _ _ _ _ _, A.k, _, rfl, DGet.t (k := [Sum.inl r, Sum.inr p]) f2.ek hkt, _, rfl, ?_⟩
    have new := val_kept hn
    rw [new]
    refine iteF ?_
    have len : (keptKV fs.kept).length ≤ 100000 := by
      unfold keptKV
      rw [List.length_map]
      have := sm.c
      omega
    refine ⟨optV v, rfl, .ref x, rfl, x, _, _, _, _, rfl, f2.ob, T.cl_SettingsFile, T.no_SettingsFile_kept_read, f_kept _ _ _ _ _ _ _, .int r, rfl, .str p, rfl, (by show 2 ≤ sizeLine; decide), fun kt2 nkt2 => ?_⟩
    have f3 := f2.more (same_new (o := .tup [.int r, .str p]) nkt2)
    have hkt2 : (upd H2 kt2 (.tup [.int r, .str p])) kt2 = some (.tup (([Sum.inl r, Sum.inr p] : List Key).map kV)) := upd_same
    generalize upd H2 kt2 (.tup [.int r, .str p]) = H3 at f3 hkt2
    refine ⟨A.k, _, rfl, DPut.t (k := [Sum.inl r, Sum.inr p]) f3.ek hkt2 (big len), ?_⟩
    rw [putK_new _ new]
    have e : keptKV fs.kept ++ [(([Sum.inl r, Sum.inr p] : List Key), optV v)] = keptKV (fs.kept ++ [((r, p), v)]) := by
      unfold keptKV
      rw [List.map_append]
      rfl
    rw [e]
    exact q _ _ (f3.addKept ((r, p), v))
def sp_SettingsFile_take (K : PySem.W.Frag) (T : Top K mg) : Sp := fun vs H Q _ => ∃ (H0 : Hp) (x : Addr) (t : Str) (rows : List Str) (fs fs' : FS) (A : Parts) (z : Str), vs = [.ref x, .str z] ∧ FileP T.C_SettingsFile H0 H x t rows fs A ∧ Sm 99998 fs ∧
  z.length ≤ 1000 ∧ stepF fs z = some fs' ∧ ∀ H' A', FileP T.C_SettingsFile H0 H' x t rows fs' A' → Q .non H'
theorem ok_SettingsFile_take (T : Top K mg) : FnOk P w K mg base CX0 6 T.f_SettingsFile_take T.d_SettingsFile_take ["self", "line"] (sp_SettingsFile_take K T) := by
  have G_is_loose : FnOk P w K mg base CX0 1 T.f_is_loose T.d_is_loose ["line"] (sp_is_loose K) := ok_is_loose T
  have G_SettingsFile_take_kept : FnOk P w K mg base CX0 5 T.f_SettingsFile_take_kept T.d_SettingsFile_take_kept ["self", "line"] (sp_SettingsFile_take_kept K T) := ok_SettingsFile_take_kept T
  have G_is_header : FnOk P w K mg base CX0 3 T.f_is_header T.d_is_header ["line"] (sp_is_header K) := ok_is_header T
  have G_SettingsFile_take_header : FnOk P w K mg base CX0 2 T.f_SettingsFile_take_header T.d_SettingsFile_take_header ["self", "name"] (sp_SettingsFile_take_header K T) := ok_SettingsFile_take_header T
  have G_read_setting : FnOk P w K mg base CX0 3 T.f_read_setting T.d_read_setting ["line"] (sp_read_setting K) := ok_read_setting T
  have G_SettingsFile_take_setting : FnOk P w K mg base CX0 2 T.f_SettingsFile_take_setting T.d_SettingsFile_take_setting ["self", "key", "value"] (sp_SettingsFile_take_setting K T) := ok_SettingsFile_take_setting T
  refine T.F_SettingsFile_take.ok scSettingsFile_take (fun vs H Q E h => ?_) (fun cdv A outer s H vs Q E hr h => ?_)
  · obtain ⟨H0, x, t, rows, fs, fs', A, z, rfl, _⟩ := h
    rfl
  · obtain ⟨H0, x, t, rows, fs, fs', A, z, rfl, f, sm, hz, hs, q⟩ := h
    refine ⟨_, (pss_cons (ps_if (pt_val (pe_call G_is_loose (hr.mono (by decide)) (by rfl) T.g_is_loose T.F_is_loose.kp T.b_is_loose .nil pass0 (pa_cons (pv 1) pa_nil))) (pss_cons (ps_expr (pe_bm PySem.F.plainAttrs_list PySem.F.slot_list_append PySem.F.type_list_append mt_append (pe_fld (pv 0) rfl) (pa_cons (pv 1) pa_nil)))
      (pss_one (ps_ret pe_non))) pss_nil)
      (pss_cons (ps_if (pt_val (pe_m1 F.slot_str_startswith F.type_str_startswith mt_startswith (pv 1) (pe_glob (v := .str "#~") (by rfl) T.g_KEPT_MARK ⟨_, rfl⟩))) (pss_one (ps_ret (pe_meth (pv 0) T.cl_SettingsFile T.me_SettingsFile_take_kept G_SettingsFile_take_kept (hr.mono (by decide)) T.b_SettingsFile_take_kept .nil pass0 (pa_cons (pv 1) pa_nil)))) pss_nil)
      (pss_cons (ps_if (pt_val (pe_call G_is_header (hr.mono (by decide)) (by rfl) T.g_is_header T.F_is_header.kp T.b_is_header .nil pass0 (pa_cons (pv 1) pa_nil))) (pss_one (ps_ret (pe_meth (pv 0) T.cl_SettingsFile T.me_SettingsFile_take_header G_SettingsFile_take_header (hr.mono (by decide)) T.b_SettingsFile_take_header .nil pass0 (pa_cons (pe_slice sl_str (pv 1) (po_some pe_int) (po_some (pe_un un_neg pe_int))) pa_nil)))) pss_nil)
      (pss_cons (ps_set (i := 2) scSettingsFile_take.nd rfl (.inl rfl) (pe_call G_read_setting (hr.mono (by decide)) (by rfl) T.g_read_setting T.F_read_setting.kp T.b_read_setting .nil pass0 (pa_cons (pv 1) pa_nil)))
      (pss_cons (ps_if (pt_cmpR op_isN (pv 2) pe_non (nomark _)) (pss_one (ps_ret pe_str)) pss_nil)
      (pss_cons (ps_asg (pv 2) (pg_tup rfl (pgs_cons (pg_name (i := 3) scSettingsFile_take.nd rfl (.inl rfl)) (pgs_cons (pg_name (i := 4) scSettingsFile_take.nd rfl (.inl rfl)) pgs_nil))))
      (pss_one (ps_ret (pe_meth (pv 0) T.cl_SettingsFile T.me_SettingsFile_take_setting G_SettingsFile_take_setting (hr.mono (by decide)) T.b_SettingsFile_take_setting .nil pass0 (pa_cons (pv 3) (pa_cons (pv 4) pa_nil))))))))))), ?_⟩
    unfold stepF at hs
    have noM : ∀ {m : Str}, ¬ m = "loose" → ¬ m = "blocks" → ¬ m = "kept_read" → ¬ m = "settings_read" → ¬ m = "headers" → ¬ m = "rows" → ¬ m = "text" → (flds t A.r A.h A.s A.k A.b A.l).lookup m = none := fun h1 h2 h3 h4 h5 h6 h7 => f_no _ _ _ _ _ _ _ h1 h2 h3 h4 h5 h6 h7
    refine ⟨.str z, rfl, z, rfl, hz, fun H1 s1 => ⟨_, rfl, ite2 (fun e => ?_) (fun e => ?_)⟩⟩
    · rw [if_pos e] at hs
      cases hs
      have f1 := f.more s1
      have s5 := sm.e
      refine ⟨.ref x, rfl, x, _, _, _, _, rfl, f1.ob, T.cl_SettingsFile, T.no_SettingsFile_loose, f_loose _ _ _ _ _ _ _, .inl ⟨rfl, _, SqL.of f1.el⟩, .str z, rfl, A.l, _, _, rfl, rfl, f1.el, (by rw [List.length_map]; exact big (by omega)), ?_⟩
      have e2 : fs.loose.map V.str ++ [V.str z] = (fs.loose ++ [z]).map V.str := by rw [List.map_append]; rfl
      rw [e2]
      exact q _ _ (f1.addLoose z)
    · rw [if_neg e] at hs
      have f1 := f.more s1
      refine ⟨.str z, rfl, ⟨z, rfl⟩, z, _, rfl, rfl, _, rfl, ite2 (fun e2 => ?_) (fun e2 => ?_)⟩
      · rw [if_pos (show Txt.startswith z markS = true from e2)] at hs
        cases hk : keptS z with
        | none => rw [hk] at hs; cases hs
        | some w3 =>
          obtain ⟨r, p, v⟩ := w3
          rw [hk] at hs
          have hs : (if (r, p) ∈ fs.kept.map (·.1) then none else some { fs with kept := fs.kept ++ [((r, p), v)] }) = some fs' := hs
          by_cases hm : (r, p) ∈ fs.kept.map (·.1)
          · rw [if_pos hm] at hs; cases hs
          · rw [if_neg hm] at hs
            cases hs
            exact ⟨.ref x, rfl, x, _, _, rfl, f1.ob, noM (by decide +kernel) (by decide +kernel) (by decide +kernel) (by decide +kernel) (by decide +kernel) (by decide +kernel) (by decide +kernel), .str z, rfl, H0, x, t, rows, fs, A, z, r, p, v, rfl, f1, sm, hz, hk, hm, q⟩
      · rw [if_neg (show ¬ Txt.startswith z markS = true from e2)] at hs
        refine ⟨.str z, rfl, z, rfl, hz, fun H2 s2 => ⟨_, rfl, ite2 (fun e3 => ?_) (fun e3 => ?_)⟩⟩
        · rw [if_pos e3] at hs
          have f2 := f1.more s2
          have hn : nameS (headOf z) = true := by
            unfold headS at e3
            simp only [Bool.and_eq_true] at e3
            exact e3.2.2
          by_cases hm : headOf z ∈ fs.headers
          · rw [if_pos hm] at hs; cases hs
          · rw [if_neg hm] at hs
            cases hs
            exact ⟨.ref x, rfl, x, _, _, rfl, f2.ob, noM (by decide +kernel) (by decide +kernel) (by decide +kernel) (by decide +kernel) (by decide +kernel) (by decide +kernel) (by decide +kernel), .str z, rfl, 1, rfl, 1, rfl, -1, rfl, z, rfl, len1000 hz, H0, x, t, rows, fs, A, headOf z, rfl, f2, sm, hn, hm, q⟩
        · rw [if_neg e3] at hs
          have f2 := f1.more s2
          refine ⟨.str z, rfl, z, rfl, hz, (fun en => by rw [en] at hs; cases hs), fun k v ek H3 a s3 ha => ?_⟩
          rw [ek] at hs
          have hk1000 : k.length ≤ 1000 := by
            unfold setS at ek
            split at ek
            · cases ek
              exact Nat.le_trans (part3 z eqS).1 hz
            · cases ek
          have f3 := f2.more s3
          refine ⟨.ref a, rfl, rfl, _, rfl, ?_⟩
          rw [decide_eq_false (show ¬ V.ref a = V.non from fun h => nomatch h)]
          refine iteF ?_
          refine ⟨.ref a, rfl, a, _, rfl, SqT.of ha, rfl, _, _, rfl, _, _, rfl, rfl, ?_⟩
          cases hl : fs.headers.getLast? with
          | none =>
            rw [hl] at hs
            cases hs
          | some h =>
            rw [hl] at hs
            have hs : (if h ++ "." ++ k ∈ fs.settings.map (·.1) then none else some { fs with settings := fs.settings ++ [(h ++ "." ++ k, v)], blocks := fs.blocks ++ [(h ++ "." ++ k, fs.loose)], loose := [] }) = some fs' := hs
            by_cases hm : h ++ "." ++ k ∈ fs.settings.map (·.1)
            · rw [if_pos hm] at hs; cases hs
            · rw [if_neg hm] at hs
              cases hs
              exact ⟨.ref x, rfl, x, _, _, rfl, f3.ob, noM (by decide +kernel) (by decide +kernel) (by decide +kernel) (by decide +kernel) (by decide +kernel) (by decide +kernel) (by decide +kernel), .str k, rfl, .str v, rfl, H0, x, t, rows, fs, A, k, v, h, rfl, f3, sm, hk1000, hl, hm, q⟩
end
end K07

set_option Elab.async false
set_option linter.all false
set_option maxRecDepth 100000
namespace K07
open PySem PySem.Spec PyProof.Rows L2 My
/-- self.f = a new object -/
theorem fldNew {H0 H : Hp} {x C dx p : Addr} {fs fs' : List (Str × V)} {o : HO} (hx : H x = some (.ins C dx fs)) (np : H p = none) (s : Same H0 H) (nx : H0 x = none) :
    ∃ H', upd (upd H p o) x (.ins C dx fs') = H' ∧ H' x = some (.ins C dx fs') ∧ H' p = some o ∧ (∀ c u, H c = some u → c ≠ x → H' c = some u) ∧ Same H0 H' ∧ H0 p = none ∧ p ≠ x := by
  have px : p ≠ x := (ne_of_none hx np).symm
  refine ⟨_, rfl, upd_same, by rw [upd_ne px]; exact upd_same, fun c u e h => ?_, ?_, s.free np, px⟩
  · rw [upd_ne h, upd_ne (ne_of_none e np)]
    exact e
  · intro b u e
    rw [upd_ne (ne_of_none e nx), upd_ne (ne_of_none e (s.free np))]
    exact s b u e
section
variable {P : Program} {w : World} {K : PySem.W.Frag} {mg : Str → Option Value} {base : Heap}
def sp_SettingsFile___init__ (K : PySem.W.Frag) (T : Top K mg) : Sp := fun vs H Q _ => ∃ (H0 : Hp) (x dx : Addr) (t : Str) (fs : FS), vs = [.ref x, .str t] ∧ H = upd (upd H0 dx (.own x)) x (.ins T.C_SettingsFile dx []) ∧ H0 x = none ∧ H0 dx = none ∧ dx ≠ x ∧
  t.length ≤ 1000000 ∧ (rowsOf t).length ≤ 90000 ∧ (∀ z ∈ rowsOf t, z.length ≤ 1000) ∧ runF fs0 (rowsOf t) = some fs ∧ ∀ H' A, FileP T.C_SettingsFile H0 H' x t (rowsOf t) fs A → Q .non H'
theorem ok_SettingsFile___init__ (T : Top K mg) : FnOk P w K mg base CX0 7 T.f_SettingsFile___init__ T.d_SettingsFile___init__ ["self", "text"] (sp_SettingsFile___init__ K T) := by
  have G_SettingsFile_take : FnOk P w K mg base CX0 6 T.f_SettingsFile_take T.d_SettingsFile_take ["self", "line"] (sp_SettingsFile_take K T) := ok_SettingsFile_take T
  refine T.F_SettingsFile___init__.ok scSettingsFile___init__ (fun vs H Q E h => ?_) (fun cdv A outer s H vs Q E hr h => ?_)
  · obtain ⟨H0, x, dx, t, fs, rfl, _⟩ := h
    rfl
  · obtain ⟨H0, x, dx, t, fsE, rfl, eH, nx, ndx, nex, ht, hr1, hr2, hrun, q⟩ := h
    have s0 : Same H0 H := by
      rw [eH]
      intro b o e
      rw [upd_ne (ne_of_none e nx), upd_ne (ne_of_none e ndx)]
      exact e
    have hx0 : H x = some (.ins T.C_SettingsFile dx []) := by rw [eH]; exact upd_same
    obtain ⟨t2, p2, q2⟩ : ∃ t', PSs (cxOf CX0 P w K mg base N_SettingsFile___init__ "SettingsFile.__init__" (defScope s_SettingsFile___init__) T.f_SettingsFile___init__ cdv A outer s H E).nox ((defBody s_SettingsFile___init__).drop 3) t' ∧ ∀ (r : Addr) (H2 : Hp), H2 x = some (.ins T.C_SettingsFile dx (flds2 t r)) → H2 r = some (.lst ((rowsOf t).map V.str)) → Same H0 H2 → H0 r = none →
        t' { nx := fun _ H' => Q .non H', rt := Q } [some (.ref x), some (.str t), none, none, none] H2 := by
      refine ⟨_, (pss_cons (ps_fld (pv 0) (pe_lst pa_nil) rfl)
      (pss_cons (ps_fld (pv 0) pe_dnewK rfl)
      (pss_cons (ps_fld (pv 0) pe_dnewT rfl)
      (pss_cons (ps_fld (pv 0) pe_dnewK rfl)
      (pss_cons (ps_fld (pv 0) (pe_lst pa_nil) rfl)
      (pss_one (ps_for PassesOwn.never rfl (pi_enum (by rfl) T.m_enumerate (pa_cons (pe_callTy call_list_of (by rfl) T.m_list (by decide +kernel) (pa_cons (pe_fld (pv 0) rfl) pa_nil)) pa_nil)) (pg_tup rfl (pgs_cons (pg_name (i := 2) scSettingsFile___init__.nd rfl (.inl rfl)) (pgs_cons (pg_name (i := 3) scSettingsFile___init__.nd rfl (.inl rfl)) pgs_nil))) (pss_cons (ps_set (i := 4) scSettingsFile___init__.nd rfl (.inl rfl) (pe_meth (pv 0) T.cl_SettingsFile T.me_SettingsFile_take G_SettingsFile_take (hr.mono (by decide)) T.b_SettingsFile_take .nil pass0 (pa_cons (pv 3) pa_nil)))
      (pss_one (ps_if (pt_cmpR op_notN (pv 4) pe_non (nomark _)) (pss_one ps_never) pss_nil)))))))))), fun r H2 hx2 hr2' s2 nr => ?_⟩
      have cl := T.cl_SettingsFile
      have few : ∀ {l : List (Str × V)}, l.length ≤ 20 → l.length < 1000 := fun h => by omega
      have l1 : (flds1 t).length ≤ 1 := putF_len _ _ _
      have l2 : (flds2 t r).length ≤ 2 := Nat.le_trans (putF_len _ _ _) (by omega)
      refine ⟨Nat.zero_le _, fun h nh => ⟨.ref x, rfl, x, _, _, _, rfl, (by rw [upd_ne (ne_of_none hx2 nh)]; exact hx2), cl, T.no_SettingsFile_headers, few (by omega), ?_⟩⟩
      obtain ⟨H3, e3, x3, h3, k3, s3, nh0, hne⟩ := fldNew (o := .lst []) (fs' := flds3 t r h) hx2 nh s2 nx
      rw [show putF "headers" (V.ref h) (flds2 t r) = flds3 t r h from rfl, e3]
      have l3 : (flds3 t r h).length ≤ 3 := Nat.le_trans (putF_len _ _ _) (by omega)
      have r3 := k3 _ _ hr2' (lstNe hr2' hx2 (fun _ z => nomatch z))
      have rh : r ≠ h := ne_of_none hr2' nh
      intro sA nsA
      refine ⟨.ref x, rfl, x, _, _, _, rfl, (by rw [upd_ne (ne_of_none x3 nsA)]; exact x3), cl, T.no_SettingsFile_settings_read, few (by omega), ?_⟩
      obtain ⟨H4, e4, x4, s4', k4, s4, ns0, sne⟩ := fldNew (o := .dK []) (fs' := flds4 t r h sA) x3 nsA s3 nx
      rw [show putF "settings_read" (V.ref sA) (flds3 t r h) = flds4 t r h sA from rfl, e4]
      have l4 : (flds4 t r h sA).length ≤ 4 := Nat.le_trans (putF_len _ _ _) (by omega)
      have r4 := k4 _ _ r3 (lstNe r3 x3 (fun _ z => nomatch z))
      have h4 := k4 _ _ h3 hne
      intro kA nkA
      refine ⟨.ref x, rfl, x, _, _, _, rfl, (by rw [upd_ne (ne_of_none x4 nkA)]; exact x4), cl, T.no_SettingsFile_kept_read, few (by omega), ?_⟩
      obtain ⟨H5, e5, x5, k5', k5, s5, nk0, kne⟩ := fldNew (o := .dT []) (fs' := flds5 t r h sA kA) x4 nkA s4 nx
      rw [show putF "kept_read" (V.ref kA) (flds4 t r h sA) = flds5 t r h sA kA from rfl, e5]
      have l5 : (flds5 t r h sA kA).length ≤ 5 := Nat.le_trans (putF_len _ _ _) (by omega)
      have r5 := k5 _ _ r4 (lstNe r4 x4 (fun _ z => nomatch z))
      have h5 := k5 _ _ h4 hne
      have sA5 := k5 _ _ s4' sne
      intro bA nbA
      refine ⟨.ref x, rfl, x, _, _, _, rfl, (by rw [upd_ne (ne_of_none x5 nbA)]; exact x5), cl, T.no_SettingsFile_blocks, few (by omega), ?_⟩
      obtain ⟨H6, e6, x6, b6', k6, s6, nb0, bne⟩ := fldNew (o := .dK []) (fs' := flds6 t r h sA kA bA) x5 nbA s5 nx
      rw [show putF "blocks" (V.ref bA) (flds5 t r h sA kA) = flds6 t r h sA kA bA from rfl, e6]
      have l6 : (flds6 t r h sA kA bA).length ≤ 6 := Nat.le_trans (putF_len _ _ _) (by omega)
      have r6 := k6 _ _ r5 (lstNe r5 x5 (fun _ z => nomatch z))
      have h6 := k6 _ _ h5 hne
      have sA6 := k6 _ _ sA5 sne
      have kA6 := k6 _ _ k5' kne
      have sb : sA ≠ bA := ne_of_none sA5 nbA
      refine ⟨Nat.zero_le _, fun lA nlA => ⟨.ref x, rfl, x, _, _, _, rfl, (by rw [upd_ne (ne_of_none x6 nlA)]; exact x6), cl, T.no_SettingsFile_loose, few (by omega), ?_⟩⟩
      obtain ⟨H7, e7, x7, l7', k7, s7, nl0, lne⟩ := fldNew (o := .lst []) (fs' := flds t r h sA kA bA lA) x6 nlA s6 nx
      rw [show putF "loose" (V.ref lA) (flds6 t r h sA kA bA) = flds t r h sA kA bA lA from rfl, e7]
      have r7 := k7 _ _ r6 (lstNe r6 x6 (fun _ z => nomatch z))
      have h7 := k7 _ _ h6 hne
      have sA7 := k7 _ _ sA6 sne
      have kA7 := k7 _ _ kA6 kne
      have bA7 := k7 _ _ b6' bne
      have rl : r ≠ lA := ne_of_none r6 nlA
      have hl : h ≠ lA := ne_of_none h6 nlA
      -- the lines, one after another
      refine ⟨.ref x, rfl, x, _, _, _, _, rfl, x7, cl, T.no_SettingsFile_rows, f_rows _ _ _ _ _ _ _, r, _, rfl, .inl (SqL.of r7), fun c nc => ?_⟩
      have sc : Same H7 (upd H7 c (.lst ((rowsOf t).map V.str))) := same_new nc
      have hc : (upd H7 c (.lst ((rowsOf t).map V.str))) c = some (.lst ((rowsOf t).map V.str)) := upd_same
      have ncs : c ≠ x ∧ c ≠ r ∧ c ≠ h ∧ c ≠ sA ∧ c ≠ kA ∧ c ≠ bA ∧ c ≠ lA := ⟨(ne_of_none x7 nc).symm, (ne_of_none r7 nc).symm, (ne_of_none h7 nc).symm, (ne_of_none sA7 nc).symm, (ne_of_none kA7 nc).symm, (ne_of_none bA7 nc).symm, (ne_of_none l7' nc).symm⟩
      generalize upd H7 c (.lst ((rowsOf t).map V.str)) = H8 at sc hc
      let foot : Addr → Prop := fun b => b = x ∨ b = r ∨ b = h ∨ b = sA ∨ b = kA ∨ b = bA ∨ b = lA
      have dec : ∀ b, Decidable (foot b) := fun b => by unfold foot; infer_instance
      let G0 : Hp := fun b => if foot b then none else H8 b
      have gNone : ∀ b, foot b → G0 b = none := fun b hb => if_pos hb
      have gSome : ∀ b, ¬ foot b → G0 b = H8 b := fun b hb => if_neg hb
      have gSame : Same G0 H8 := fun b o e => by
        by_cases hb : foot b
        · rw [gNone b hb] at e; cases e
        · rw [gSome b hb] at e; exact e
      have gC : G0 c = some (.lst ((rowsOf t).map V.str)) := by
        rw [gSome c (fun hb => by
          obtain ⟨n1, n2, n3, n4, n5, n6, n7⟩ := ncs
          rcases hb with z | z | z | z | z | z | z
          · exact n1 z
          · exact n2 z
          · exact n3 z
          · exact n4 z
          · exact n5 z
          · exact n6 z
          · exact n7 z)]
        exact hc
      have gH0 : Same H0 G0 := fun b o e => by
        have hb : ¬ foot b := fun hb => by
          rcases hb with z | z | z | z | z | z | z
          · exact ne_of_none e nx z
          · exact ne_of_none e nr z
          · exact ne_of_none e nh0 z
          · exact ne_of_none e ns0 z
          · exact ne_of_none e nk0 z
          · exact ne_of_none e nb0 z
          · exact ne_of_none e nl0 z
        rw [gSome b hb]
        exact sc _ _ (s7 b o e)
      have f0 : FileP T.C_SettingsFile G0 H8 x t (rowsOf t) fs0 ⟨dx, r, h, sA, kA, bA, lA, []⟩ :=
        ⟨gSame, sc _ _ x7, sc _ _ r7, sc _ _ h7, sc _ _ sA7, sc _ _ kA7, sc _ _ bA7, sc _ _ l7', .nil, rh, rl, hl, sb, ⟨gNone _ (.inl rfl), gNone _ (.inr (.inl rfl)), gNone _ (.inr (.inr (.inl rfl))), gNone _ (.inr (.inr (.inr (.inl rfl)))), gNone _ (.inr (.inr (.inr (.inr (.inl rfl))))), gNone _ (.inr (.inr (.inr (.inr (.inr (.inl rfl)))))), gNone _ (.inr (.inr (.inr (.inr (.inr (.inr rfl))))))⟩, fs0_ok⟩
      refine ⟨c, _, rfl, SqL.of hc, for_it (walk_enum (xs := (rowsOf t).map V.str)) (fun i σ H3 => ∃ (fs : FS) (A : Parts) (y2 y3 y4 : Option V), σ = [some (.ref x), some (.str t), y2, y3, y4] ∧ FileP T.C_SettingsFile G0 H3 x t (rowsOf t) fs A ∧ runF fs0 ((rowsOf t).take i) = some fs ∧ Sm i fs) ?_ ?_ ?_ ?_⟩
      · exact ⟨fs0, _, none, none, none, rfl, f0, rfl, ⟨Nat.le_refl _, Nat.le_refl _, Nat.le_refl _, Nat.le_refl _, Nat.le_refl _⟩⟩
      · rintro i σ H9 _ ⟨fs, A', y2, y3, y4, _, f, _⟩
        exact SqL.of (f.same _ _ gC)
      · rintro i v σ H9 H10 hi ⟨fs, A', y2, y3, y4, rfl, f, hrun', sm⟩ ⟨tt, x1, x2, rfl, ntt, rfl, e1, e2⟩
        cases e1
        rw [List.length_map] at hi
        have hzi : (rowsOf t)[i]? = some (rowsOf t)[i] := List.getElem?_eq_getElem hi
        have ex2 : x2 = .str (rowsOf t)[i] := by
          have e2 : ((rowsOf t).map V.str)[i]? = some x2 := e2
          rw [List.getElem?_map, hzi] at e2
          exact (Option.some.inj e2).symm
        subst ex2
        obtain ⟨fs', hst, hrn⟩ := run_at hrun hzi hrun'
        have f2 := f.more (same_new (o := .tup [.int (i : Nat), .str (rowsOf t)[i]]) ntt)
        refine ⟨tt, _, rfl, SqT.of upd_same, rfl, _, _, rfl, _, _, rfl, rfl, ?_⟩
        refine ⟨.ref x, rfl, x, _, _, rfl, f2.ob, f_no _ _ _ _ _ _ _ (by decide +kernel) (by decide +kernel) (by decide +kernel) (by decide +kernel) (by decide +kernel) (by decide +kernel) (by decide +kernel), .str (rowsOf t)[i], rfl, G0, x, t, rowsOf t, fs, fs', A', _, rfl, f2, ?_, hr2 _ (List.getElem_mem hi), hst, fun H' A'' f3 => ?_⟩
        · obtain ⟨a1, a2, a3, a4, a5⟩ := sm
          constructor <;> omega
        · refine ⟨.non, rfl, rfl, _, rfl, iteNS rfl ?_⟩
          exact ⟨fs', A'', _, _, _, rfl, f3, hrn, sm.step hst⟩
      · rintro σ H9 ⟨fs, A', y2, y3, y4, rfl, f, hrun', sm⟩
        rw [List.length_map, List.take_of_length_le (Nat.le_refl _), hrun] at hrun'
        cases hrun'
        exact q _ _ (f.weaken gH0)
    refine ⟨_, (pss_cons (ps_if (pt_not (pt_val (pe_callB call_isi (by rfl) T.m_isinstance (by decide +kernel) (pa_cons (pv 1) (pa_cons (pe_bltn (v := .ty "str") (by rfl) T.m_str (by decide +kernel) rfl) pa_nil))))) (pss_one ps_never) pss_nil)
      (pss_cons (ps_fld (pv 0) (pv 1) rfl)
      (pss_cons (ps_fld (pv 0) (pe_ifExp (pt_cmpR op_ne (pv 1) pe_str (nomark _)) (pe_m1 F.slot_str_split F.type_str_split mt_split (pv 1) pe_str) (pe_lst pa_nil)) rfl)
      p2))), ?_⟩
    refine ⟨.str t, rfl, _, _, _, _, true, rfl, ClsV.ty "str", .base (.str t), kit_ty (by decide +kernel), true, rfl, iteF ?_⟩
    refine ⟨.str t, rfl, .ref x, rfl, x, _, _, _, rfl, hx0, T.cl_SettingsFile, T.no_SettingsFile_text, (by show 0 < 1000; decide), ?_⟩
    have x1 : (upd H x (.ins T.C_SettingsFile dx (flds1 t))) x = some (.ins T.C_SettingsFile dx (flds1 t)) := upd_same
    have s1 : Same H0 (upd H x (.ins T.C_SettingsFile dx (flds1 t))) := upd_off nx s0
    rw [show putF "text" (V.str t) [] = flds1 t from rfl]
    generalize upd H x (.ins T.C_SettingsFile dx (flds1 t)) = H1 at x1 s1
    have l1 : (flds1 t).length ≤ 1 := putF_len _ _ _
    refine ⟨.str t, rfl, rfl, _, rfl, ite2 (fun e => ?_) (fun e => ?_)⟩
    · have et : ¬ t = "" := fun h => by
        subst h
        cases e
      have hrw : rowsOf t = Txt.split t "\n" := if_neg et
      refine ⟨.str t, rfl, ⟨t, rfl⟩, t, _, rfl, rfl, rfl, Nat.le_trans (Nat.add_le_add_right ht 2) (by decide), fun r nr => ?_⟩
      rw [← hrw]
      refine ⟨.ref x, rfl, x, _, _, _, rfl, (by rw [upd_ne (ne_of_none x1 nr)]; exact x1), T.cl_SettingsFile, T.no_SettingsFile_rows, by omega, ?_⟩
      obtain ⟨H2, e2, x2, r2, k2, s2, nr0, rne⟩ := fldNew (o := .lst ((rowsOf t).map V.str)) (fs' := flds2 t r) x1 nr s1 nx
      rw [show putF "rows" (V.ref r) (flds1 t) = flds2 t r from rfl, e2]
      exact q2 r H2 x2 r2 s2 nr0
    · have et : t = "" := by
        by_cases h : t = ""
        · exact h
        · rw [eq_str, decide_eq_false h] at e
          exact absurd rfl e
      have hrw : (rowsOf t).map V.str = [] := by rw [show rowsOf t = [] from if_pos et]; rfl
      refine ⟨Nat.zero_le _, fun r nr => ?_⟩
      refine ⟨.ref x, rfl, x, _, _, _, rfl, (by rw [upd_ne (ne_of_none x1 nr)]; exact x1), T.cl_SettingsFile, T.no_SettingsFile_rows, by omega, ?_⟩
      obtain ⟨H2, e2, x2, r2, k2, s2, nr0, rne⟩ := fldNew (o := .lst []) (fs' := flds2 t r) x1 nr s1 nx
      rw [show putF "rows" (V.ref r) (flds1 t) = flds2 t r from rfl, e2]
      exact q2 r H2 x2 (by rw [hrw]; exact r2) s2 nr0
end
end K07

set_option Elab.async false
set_option linter.all false
set_option maxRecDepth 100000
namespace K07
open PySem PySem.Spec PyProof.Rows L2 My
theorem can_strs {n : Nat} {l : List Str} (h : ∀ y ∈ l, Plain n y) : PyData.canLayAll0 (l.map .str) = true := by
  induction l with
  | nil => rfl
  | cons y r ih =>
    show (PySem.PyData.strOk y && PyData.canLayAll0 (r.map .str)) = true
    rw [ih fun z hz => h z (List.mem_cons_of_mem _ hz), Bool.and_true]
    unfold PySem.PyData.strOk
    rw [Array.all_eq_true_iff_forall_mem]
    intro c hc
    exact decide_eq_true (Nat.lt_trans ((h y (List.mem_cons_self ..)).small c (Array.mem_toList_iff.mpr hc)) (by decide))
theorem shaped_strs {n : Nat} {l : List Str} (h : ∀ y ∈ l, Plain n y) : SeqAt.shaped (.list (l.map .str)) = true := by
  unfold SeqAt.shaped
  rw [Bool.and_eq_true]
  refine ⟨can_strs h, decide_eq_true ?_⟩
  show PyData.depthAll (l.map .str) + 1 ≤ 64
  rw [depthAll_strs']
  decide
theorem eqv_nil (l : List Str) : PyData.eqv (.list (l.map .str)) (.list []) = l.isEmpty := by
  cases l with
  | nil => rfl
  | cons y r => rfl
theorem _root_.My.Kept.off {b p : Addr} {H H3 : Hp} {o : HO} (k : Kept b H H3) (np : H p = none) : Kept b H (upd H3 p o) := fun x u h e => by
  rw [upd_ne (ne_of_none e np)]
  exact k x u h e
theorem _root_.My.Bag.off {b p : Addr} {H3 : Hp} {o : HO} (h : Bag H3 b) (ne : p ≠ b) : Bag (upd H3 p o) b := by
  obtain ⟨n, m, e, r⟩ := h
  exact ⟨n, m, by rw [upd_ne ne.symm]; exact e, r⟩
theorem ix_nat {n : Nat} {d : Int} (h0 : 0 ≤ d) (h1 : d < n) : ixN n d = some d.toNat := by
  unfold ixN
  rw [if_pos h0, if_pos h1]
theorem erase_map {α β : Type} (f : α → β) : ∀ (l : List α) (i : Nat), (l.map f).eraseIdx i = (l.eraseIdx i).map f
  | [], _ => rfl
  | _ :: _, 0 => rfl
  | a :: r, i + 1 => by
    show f a :: (r.map f).eraseIdx i = f a :: (r.eraseIdx i).map f
    rw [erase_map f r i]
theorem erase_perm {α : Type} : ∀ (l : List α) (i : Nat) (h : i < l.length), (l[i] :: l.eraseIdx i).Perm l
  | a :: r, 0, _ => List.Perm.refl _
  | a :: r, i + 1, h => by
    have hi : i < r.length := by simpa using h
    have ih := erase_perm r i hi
    show (r[i] :: a :: r.eraseIdx i).Perm (a :: r)
    exact (List.Perm.swap a r[i] _).trans (ih.cons a)
end K07

set_option Elab.async false
set_option linter.all false
set_option maxRecDepth 100000
namespace K07
open PySem PySem.Spec PyProof.Rows L2 My SkE
section
variable {P : Program} {w : World} {K : PySem.W.Frag} {mg : Str → Option Value} {base : Heap}
def sp_SettingsFile_lines (K : PySem.W.Frag) (T : Top K mg) : Sp := fun vs H Q _ => ∃ (H0 : Hp) (x : Addr) (t : Str) (rows : List Str) (fs : FS) (A : Parts), vs = [.ref x] ∧ FileP T.C_SettingsFile H0 H x t rows fs A ∧
  ∀ H' p, Same H H' → H p = none → H' p = some (.lst (rows.map V.str)) → Q (.ref p) H'
theorem ok_SettingsFile_lines (T : Top K mg) : FnOk P w K mg base CX0 1 T.f_SettingsFile_lines T.d_SettingsFile_lines ["self"] (sp_SettingsFile_lines K T) := by
  refine T.F_SettingsFile_lines.ok scSettingsFile_lines (fun vs H Q E h => ?_) (fun cdv A outer s H vs Q E hr h => ?_)
  · obtain ⟨H0, x, t, rows, fs, A, rfl, _⟩ := h
    rfl
  · obtain ⟨H0, x, t, rows, fs, A, rfl, f, q⟩ := h
    refine ⟨_, (pss_one (ps_ret (pe_callTy call_list_of (by rfl) T.m_list (by decide +kernel) (pa_cons (pe_fld (pv 0) rfl) pa_nil)))), ?_⟩
    refine ⟨.ref x, rfl, x, _, _, _, _, rfl, f.ob, T.cl_SettingsFile, T.no_SettingsFile_rows, f_rows _ _ _ _ _ _ _, A.r, _, rfl, .inl (SqL.of f.er), fun p np => ?_⟩
    exact q _ p (same_new np) np upd_same
def sp_SettingsFile_sections (K : PySem.W.Frag) (T : Top K mg) : Sp := fun vs H Q _ => ∃ (H0 : Hp) (x : Addr) (t : Str) (rows : List Str) (fs : FS) (A : Parts), vs = [.ref x] ∧ FileP T.C_SettingsFile H0 H x t rows fs A ∧
  ∀ H' p, Same H H' → H p = none → H' p = some (.lst (fs.headers.map V.str)) → Q (.ref p) H'
theorem ok_SettingsFile_sections (T : Top K mg) : FnOk P w K mg base CX0 1 T.f_SettingsFile_sections T.d_SettingsFile_sections ["self"] (sp_SettingsFile_sections K T) := by
  refine T.F_SettingsFile_sections.ok scSettingsFile_sections (fun vs H Q E h => ?_) (fun cdv A outer s H vs Q E hr h => ?_)
  · obtain ⟨H0, x, t, rows, fs, A, rfl, _⟩ := h
    rfl
  · obtain ⟨H0, x, t, rows, fs, A, rfl, f, q⟩ := h
    refine ⟨_, (pss_one (ps_ret (pe_callTy call_list_of (by rfl) T.m_list (by decide +kernel) (pa_cons (pe_fld (pv 0) rfl) pa_nil)))), ?_⟩
    refine ⟨.ref x, rfl, x, _, _, _, _, rfl, f.ob, T.cl_SettingsFile, T.no_SettingsFile_headers, f_headers _ _ _ _ _ _ _, A.h, _, rfl, .inl (SqL.of f.eh), fun p np => ?_⟩
    exact q _ p (same_new np) np upd_same
def sp_SettingsFile___len__ (K : PySem.W.Frag) (T : Top K mg) : Sp := fun vs H Q _ => ∃ (H0 : Hp) (x : Addr) (t : Str) (rows : List Str) (fs : FS) (A : Parts), vs = [.ref x] ∧ FileP T.C_SettingsFile H0 H x t rows fs A ∧ Q (.int (fs.settings.length : Nat)) H
theorem ok_SettingsFile___len__ (T : Top K mg) : FnOk P w K mg base CX0 1 T.f_SettingsFile___len__ T.d_SettingsFile___len__ ["self"] (sp_SettingsFile___len__ K T) := by
  refine T.F_SettingsFile___len__.ok scSettingsFile___len__ (fun vs H Q E h => ?_) (fun cdv A outer s H vs Q E hr h => ?_)
  · obtain ⟨H0, x, t, rows, fs, A, rfl, _⟩ := h
    rfl
  · obtain ⟨H0, x, t, rows, fs, A, rfl, f, q⟩ := h
    refine ⟨_, (pss_one (ps_ret (pe_callB call_lenD (by rfl) T.m_len (by decide +kernel) (pa_cons (pe_fld (pv 0) rfl) pa_nil)))), ?_⟩
    refine ⟨.ref x, rfl, x, _, _, _, _, rfl, f.ob, T.cl_SettingsFile, T.no_SettingsFile_settings_read, f_settings _ _ _ _ _ _ _, A.s, _, rfl, f.es, ?_⟩
    rw [setKV_len]
    exact q
def sp_SettingsFile___str__ (K : PySem.W.Frag) (T : Top K mg) : Sp := fun vs H Q _ => ∃ (H0 : Hp) (x : Addr) (t : Str) (rows : List Str) (fs : FS) (A : Parts), vs = [.ref x] ∧ FileP T.C_SettingsFile H0 H x t rows fs A ∧ Q (.str t) H
theorem ok_SettingsFile___str__ (T : Top K mg) : FnOk P w K mg base CX0 1 T.f_SettingsFile___str__ T.d_SettingsFile___str__ ["self"] (sp_SettingsFile___str__ K T) := by
  refine T.F_SettingsFile___str__.ok scSettingsFile___str__ (fun vs H Q E h => ?_) (fun cdv A outer s H vs Q E hr h => ?_)
  · obtain ⟨H0, x, t, rows, fs, A, rfl, _⟩ := h
    rfl
  · obtain ⟨H0, x, t, rows, fs, A, rfl, f, q⟩ := h
    refine ⟨_, (pss_one (ps_ret (pe_callTy call_str_str (by rfl) T.m_str (by decide +kernel) (pa_cons (pe_fld (pv 0) rfl) pa_nil)))), ?_⟩
    exact ⟨.ref x, rfl, x, _, _, _, _, rfl, f.ob, T.cl_SettingsFile, T.no_SettingsFile_text, f_text _ _ _ _ _ _ _, t, rfl, q⟩
theorem kindTy {K : PySem.W.Frag} {H : Hp} {v : V} {ty : String} (k : KindS H v ty) : TyX K H v (.type ty) := by
  cases k with
  | non => exact .base .non
  | bl b => exact .base (.bl b)
  | int i => exact .base (.int i)
  | str z => exact .base (.str z)
  | lst e => exact .base (.lst e)
  | tup e => exact .base (.tup e)
theorem kindKi (T : Top K mg) {H : Hp} {v : V} {ty : String} (k : KindS H v ty) : PySem.W.kitOne K (.type ty) (.ref T.C_SettingsFile) = some false := by
  cases k with
  | non => exact T.ki_SettingsFile_NoneType
  | bl b => exact T.ki_SettingsFile_bool
  | int i => exact T.ki_SettingsFile_int
  | str z => exact T.ki_SettingsFile_str
  | lst e => exact T.ki_SettingsFile_list
  | tup e => exact T.ki_SettingsFile_tuple
def sp_SettingsFile___eq__ (K : PySem.W.Frag) (T : Top K mg) : Sp := fun vs H Q _ => ∃ (H0 : Hp) (x : Addr) (t : Str) (rows : List Str) (fs : FS) (A : Parts) (y : V), vs = [.ref x, y] ∧ FileP T.C_SettingsFile H0 H x t rows fs A ∧
  ((∃ (H1 : Hp) (b : Addr) (t' : Str) (rows' : List Str) (fs' : FS) (A' : Parts), y = .ref b ∧ FileP T.C_SettingsFile H1 H b t' rows' fs' A' ∧ Q (.bl (decide (t = t'))) H) ∨ (∃ ty, KindS H y ty) ∧ Q (.bl false) H)
theorem ok_SettingsFile___eq__ (T : Top K mg) : FnOk P w K mg base CX0 1 T.f_SettingsFile___eq__ T.d_SettingsFile___eq__ ["self", "other"] (sp_SettingsFile___eq__ K T) := by
  refine T.F_SettingsFile___eq__.ok scSettingsFile___eq__ (fun vs H Q E h => ?_) (fun cdv A outer s H vs Q E hr h => ?_)
  · obtain ⟨H0, x, t, rows, fs, A, y, rfl, _⟩ := h
    rfl
  · obtain ⟨H0, x, t, rows, fs, A, y, rfl, f, q⟩ := h
    refine ⟨_, (pss_one (ps_ret (pe_and (pe_callB call_isi (by rfl) T.m_isinstance (by decide +kernel) (pa_cons (pv 1) (pa_cons (pe_glob (v := .ref T.C_SettingsFile) (by rfl) T.g_SettingsFile rfl) pa_nil))) (pe_one (pe_cmpR op_eq (pe_fld (pv 0) rfl) (pe_fld (pv 1) rfl) (nomark _)))))), ?_⟩
    rcases q with ⟨H1, b, t', rows', fs', A', rfl, f', q⟩ | ⟨⟨ty, k⟩, q⟩
    · refine ⟨.ref b, rfl, _, _, _, _, true, rfl, ClsV.own T.C_SettingsFile, .base (.ins f'.ob T.cl_SettingsFile T.ca_SettingsFile T.cg_SettingsFile T.ct_SettingsFile T.ro_SettingsFile), (by unfold PySem.W.kitOne; simp), true, rfl, iteT ?_⟩
      exact ⟨.ref x, rfl, x, _, _, _, _, rfl, f.ob, T.cl_SettingsFile, T.no_SettingsFile_text, f_text _ _ _ _ _ _ _, .ref b, rfl, b, _, _, _, _, rfl, f'.ob, T.cl_SettingsFile, T.no_SettingsFile_text, f_text _ _ _ _ _ _ _, rfl, (by
        have e : decide (V.str t = V.str t') = decide (t = t') := by simp
        rw [e]
        exact q)⟩
    · refine ⟨y, rfl, _, _, _, _, false, rfl, ClsV.own T.C_SettingsFile, kindTy k, kindKi T k, false, rfl, iteF ?_⟩
      exact q
def sp_SettingsFile_pairs (K : PySem.W.Frag) (T : Top K mg) : SpG := fun vs H Q _ => ∃ (H0 : Hp) (x : Addr) (t : Str) (rows : List Str) (fs : FS) (A : Parts), vs = [.ref x] ∧ FileP T.C_SettingsFile H0 H x t rows fs A ∧ (fs.settings.map (·.1)).Nodup ∧ fs.settings.length ≤ 1000 ∧
  ∀ H' out, Same H H' → PairsAt H' out fs.settings → Q out H'
theorem PairsAt.len {H : Hp} {vs : List V} {l : List (Str × Str)} (h : PairsAt H vs l) : vs.length = l.length := paired_len h
theorem ok_SettingsFile_pairs (T : Top K mg) : GFn P w K mg base 1 T.f_SettingsFile_pairs T.d_SettingsFile_pairs ["self"] (sp_SettingsFile_pairs K T) := by
  refine My.Fun.okY T.F_SettingsFile_pairs scSettingsFile_pairs (fun vs H Q E h => ?_) (fun cdv A outer s H vs Q E pn hr h => ?_)
  · obtain ⟨H0, x, t, rows, fs, A', rfl, _⟩ := h
    rfl
  · obtain ⟨H0, x, t, rows, fs, Ap, rfl, f, nd, hl, q⟩ := h
    refine ⟨_, (gss_one (gs_lock (gs_for owns_gcx rfl (pi_keys (pe_fld (pv 0) rfl)) (pg_name (i := 1) scSettingsFile_pairs.nd rfl (.inl rfl)) (gss_one (gs_yield (pe_tup (pa_cons (pv 1) (pa_cons (pe_dget (hu_of hr) (pe_fld (pv 0) rfl) (pv 1) (fun _ _ => rfl)) pa_nil)))))))), ?_⟩
    have xs : x ≠ Ap.s := ne_of f.ob f.es (fun h => nomatch h)
    refine ⟨Ap.s, _, f.es, trivial, fun od => ?_⟩
    have ob1 : (upd H Ap.s (.frz od (.dK (setKV fs.settings)))) x = some (.ins T.C_SettingsFile Ap.dx (flds t Ap.r Ap.h Ap.s Ap.k Ap.b Ap.l)) := by rw [upd_ne xs]; exact f.ob
    have es1 : (upd H Ap.s (.frz od (.dK (setKV fs.settings)))) Ap.s = some (.frz od (.dK (setKV fs.settings))) := upd_same
    have off1 : ∀ b o, b ≠ Ap.s → H b = some o → (upd H Ap.s (.frz od (.dK (setKV fs.settings)))) b = some o := fun b o h e => by rw [upd_ne h]; exact e
    generalize upd H Ap.s (.frz od (.dK (setKV fs.settings))) = H1 at ob1 es1 off1
    refine ⟨.ref x, rfl, x, _, _, _, _, rfl, ob1, T.cl_SettingsFile, T.no_SettingsFile_settings_read, f_settings _ _ _ _ _ _ _, Ap.s, od, rfl, .inl ⟨_, es1, gfor_it walk_keys (fun i ys σ H3 => ∃ y, σ = [some (.ref x), y] ∧ Same H1 H3 ∧ PairsAt H3 ys (fs.settings.take i)) ?_ ?_ ?_ ?_⟩⟩
    · exact ⟨none, rfl, Same.refl _, .nil⟩
    · rintro i ys σ H3 _ ⟨y, _, s3, _⟩
      exact s3 _ _ es1
    · rintro i v ys σ H3' H3 hi ⟨y, rfl, s3, pr⟩ ⟨rfl, k, u, hk, rfl⟩
      obtain ⟨p, hp, rfl, rfl⟩ := setKV_at hk
      rw [setKV_len] at hi
      refine ⟨?_, ?_⟩
      · rw [paired_len pr, List.length_take]
        exact small1000 (by omega)
      · have hv := valS_at nd hp
        refine ⟨.str p.1, rfl, .ref x, rfl, x, _, _, _, _, rfl, s3 _ _ ob1, T.cl_SettingsFile, T.no_SettingsFile_settings_read, f_settings _ _ _ _ _ _ _, .str p.1, rfl, Ap.s, .str p.2, rfl, ?_, (by show 2 ≤ sizeLine; decide), fun a na => ?_⟩
        · refine .inl ⟨_, Sum.inr p.1, .inr ⟨od, s3 _ _ es1⟩, rfl, ?_⟩
          rw [val_get, hv]
          rfl
        · refine ⟨_, rfl, s3.trans (same_new na), ?_⟩
          rw [List.take_add_one, hp]
          exact paired_snoc (PairsAt.same (same_new na) pr) ⟨a, rfl, upd_same⟩
    · rintro ys σ H3 ⟨y, rfl, s3, pr⟩
      rw [setKV_len, List.take_length] at pr
      refine ⟨s3 _ _ es1, ?_⟩
      refine q _ ys (fun b o e => ?_) ?_
      · by_cases hb : b = Ap.s
        · subst hb
          rw [f.es] at e
          cases e
          exact upd_same
        · rw [upd_ne hb]
          exact s3 _ _ (off1 b o hb e)
      · have key : ∀ {vs : List V} {l : List (Str × Str)}, PairsAt H3 vs l → PairsAt (upd H3 Ap.s (.dK (setKV fs.settings))) vs l := by
          intro vs l h
          induction h with
          | nil => exact .nil
          | cons h _ ih =>
            obtain ⟨a, e, h⟩ := h
            refine .cons ⟨a, e, ?_⟩ ih
            rw [upd_ne (fun z => by rw [z, s3 _ _ es1] at h; cases h)]
            exact h
        exact key pr
end
end K07

set_option Elab.async false
set_option linter.all false
set_option maxRecDepth 100000
namespace K07
open PySem PySem.Spec PyProof.Rows L2 My
/-! ### what a line does -/
inductive Ev where
  | loose
  | head (h : Str)
  | set (k : Str)
  | kept (r : Int) (p : Str)
  | bad
  deriving DecidableEq
def ev (z : Str) : Ev :=
  if looseS z = true then .loose
  else if Txt.startswith z markS = true then (match keptS z with | none => .bad | some (r, p, _) => .kept r p)
  else if headS z = true then .head (headOf z)
  else match setS z with | none => .bad | some (k, _) => .set k
def okE : List Str → List Str → List (Int × Str) → List Ev → Bool
  | _, _, _, [] => true
  | hs, ps, ks, .loose :: r => okE hs ps ks r
  | hs, ps, ks, .head h :: r => !decide (h ∈ hs) && okE (hs ++ [h]) ps ks r
  | hs, ps, ks, .set k :: r => match hs.getLast? with | none => false | some h => !decide (h ++ "." ++ k ∈ ps) && okE hs (ps ++ [h ++ "." ++ k]) ks r
  | hs, ps, ks, .kept n p :: r => !decide ((n, p) ∈ ks) && okE hs ps (ks ++ [(n, p)]) r
  | _, _, _, .bad :: _ => false
theorem runF_cons (fs : FS) (z : Str) (r : List Str) : runF fs (z :: r) = (stepF fs z).bind fun f => runF f r := rfl
theorem run_ok : ∀ (ls : List Str) (fs : FS), okE fs.headers (fs.settings.map (·.1)) (fs.kept.map (·.1)) (ls.map ev) = true → ∃ fs', runF fs ls = some fs'
  | [], fs, _ => ⟨fs, rfl⟩
  | z :: r, fs, h => by
    rw [List.map_cons] at h
    have go : ∀ f, stepF fs z = some f → okE f.headers (f.settings.map (·.1)) (f.kept.map (·.1)) (r.map ev) = true → ∃ fs', runF fs (z :: r) = some fs' := fun f e o => by
      obtain ⟨fs', q⟩ := run_ok r f o
      exact ⟨fs', by rw [runF_cons, e]; exact q⟩
    by_cases h1 : looseS z = true
    · rw [show ev z = .loose from if_pos h1] at h
      exact go { fs with loose := fs.loose ++ [z] } (if_pos h1) h
    by_cases h2 : Txt.startswith z markS = true
    · cases h3 : keptS z with
      | none =>
        rw [show ev z = .bad by unfold ev; rw [if_neg h1, if_pos h2, h3]] at h
        cases h
      | some e =>
        obtain ⟨n, p, v⟩ := e
        rw [show ev z = .kept n p by unfold ev; rw [if_neg h1, if_pos h2, h3]] at h
        rw [okE, Bool.and_eq_true, Bool.not_eq_true', decide_eq_false_iff_not] at h
        refine go { fs with kept := fs.kept ++ [((n, p), v)] } ?_ ?_
        · unfold stepF
          rw [if_neg h1, if_pos h2, h3]
          show (if _ then none else some _) = _
          rw [if_neg h.1]
        · show okE fs.headers _ ((fs.kept ++ [((n, p), v)]).map (·.1)) _ = true
          rw [List.map_append]
          exact h.2
    by_cases h3 : headS z = true
    · rw [show ev z = .head (headOf z) by unfold ev; rw [if_neg h1, if_neg h2, if_pos h3]] at h
      rw [okE, Bool.and_eq_true, Bool.not_eq_true', decide_eq_false_iff_not] at h
      refine go { fs with headers := fs.headers ++ [headOf z], blocks := fs.blocks ++ [(headOf z, fs.loose)], loose := [] } ?_ h.2
      unfold stepF
      rw [if_neg h1, if_neg h2, if_pos h3, if_neg h.1]
    cases h4 : setS z with
    | none =>
      rw [show ev z = .bad by unfold ev; rw [if_neg h1, if_neg h2, if_neg h3, h4]] at h
      cases h
    | some e =>
      obtain ⟨k, v⟩ := e
      rw [show ev z = .set k by unfold ev; rw [if_neg h1, if_neg h2, if_neg h3, h4]] at h
      rw [okE] at h
      cases h5 : fs.headers.getLast? with
      | none =>
        rw [h5] at h
        cases h
      | some hd =>
        rw [h5] at h
        simp only [Bool.and_eq_true, Bool.not_eq_true', decide_eq_false_iff_not] at h
        refine go { fs with settings := fs.settings ++ [(hd ++ "." ++ k, v)], blocks := fs.blocks ++ [(hd ++ "." ++ k, fs.loose)], loose := [] } ?_ ?_
        · unfold stepF
          rw [if_neg h1, if_neg h2, if_neg h3, h4, h5]
          show (if _ then none else some _) = _
          rw [if_neg h.1]
        · show okE fs.headers ((fs.settings ++ [(hd ++ "." ++ k, v)]).map (·.1)) _ _ = true
          rw [List.map_append]
          exact h.2
def isCore : Ev → Bool
  | .loose => false
  | .kept _ _ => false
  | _ => true
def keptK : Ev → Option (Int × Str)
  | .kept n p => some (n, p)
  | _ => none
theorem okE_split : ∀ (es : List Ev) (hs ps : List Str) (ks : List (Int × Str)), okE hs ps [] (es.filter isCore) = true → (∀ e ∈ es.filterMap keptK, e ∉ ks) → (es.filterMap keptK).Nodup → okE hs ps ks es = true
  | [], _, _, _, _, _, _ => by rw [okE]
  | .loose :: r, hs, ps, ks, h, a, n => by rw [okE]; exact okE_split r hs ps ks h a n
  | .bad :: r, hs, ps, ks, h, a, n => by
    rw [show (Ev.bad :: r).filter isCore = Ev.bad :: r.filter isCore from rfl] at h
    cases h
  | .head hd :: r, hs, ps, ks, h, a, n => by
    rw [show (Ev.head hd :: r).filter isCore = Ev.head hd :: r.filter isCore from rfl, okE, Bool.and_eq_true] at h
    rw [okE, Bool.and_eq_true]
    exact ⟨h.1, okE_split r _ ps ks h.2 a n⟩
  | .set k :: r, hs, ps, ks, h, a, n => by
    rw [show (Ev.set k :: r).filter isCore = Ev.set k :: r.filter isCore from rfl, okE] at h
    rw [okE]
    cases h5 : hs.getLast? with
    | none => rw [h5] at h; cases h
    | some hd =>
      rw [h5] at h
      simp only [Bool.and_eq_true] at h ⊢
      exact ⟨h.1, okE_split r _ _ ks h.2 a n⟩
  | .kept m p :: r, hs, ps, ks, h, a, n => by
    rw [show (Ev.kept m p :: r).filterMap keptK = (m, p) :: r.filterMap keptK from rfl] at a n
    rw [okE, Bool.and_eq_true, Bool.not_eq_true', decide_eq_false_iff_not]
    obtain ⟨n1, n2⟩ := List.nodup_cons.mp n
    refine ⟨a _ (List.mem_cons_self ..), okE_split r hs ps _ h (fun e he hm => ?_) n2⟩
    rcases List.mem_append.mp hm with z | z
    · exact a e (List.mem_cons_of_mem _ he) z
    · rw [List.mem_singleton.mp z] at he
      exact n1 he
/-! ### the places are met once, and there are few -/
theorem step_nd {fs fs' : FS} {z : Str} (h : stepF fs z = some fs') (n : (fs.settings.map (·.1)).Nodup) : (fs'.settings.map (·.1)).Nodup ∧ fs'.settings.length ≤ fs.settings.length + 1 := by
  unfold stepF at h
  split at h
  · cases h
    exact ⟨n, Nat.le_succ _⟩
  split at h
  · split at h
    · cases h
    · split at h
      · cases h
      · cases h
        exact ⟨n, Nat.le_succ _⟩
  split at h
  · split at h
    · cases h
    · cases h
      exact ⟨n, Nat.le_succ _⟩
  split at h
  · cases h
  · split at h
    · cases h
    · split at h
      · cases h
      · rename_i hn
        cases h
        refine ⟨?_, by rw [List.length_append]; exact Nat.le_refl _⟩
        show ((fs.settings ++ [_]).map (fun x : Str × Str => x.1)).Nodup
        rw [List.map_append]
        exact (List.perm_append_singleton _ _).nodup_iff.mpr (List.nodup_cons.mpr ⟨hn, n⟩)
theorem run_nd : ∀ (ls : List Str) {fs fs' : FS}, runF fs ls = some fs' → (fs.settings.map (·.1)).Nodup → (fs'.settings.map (·.1)).Nodup ∧ fs'.settings.length ≤ fs.settings.length + ls.length
  | [], fs, fs', h, n => by
    cases h
    exact ⟨n, Nat.le_add_right _ _⟩
  | z :: r, fs, fs', h, n => by
    rw [runF_cons] at h
    cases e : stepF fs z with
    | none => rw [e] at h; cases h
    | some f =>
      rw [e] at h
      obtain ⟨a, b⟩ := step_nd e n
      obtain ⟨c, d⟩ := run_nd r h a
      refine ⟨c, ?_⟩
      rw [List.length_cons]
      omega
/-! ### the lines of this law -/
abbrev alph : List Str := ["# top", "", "# c", "#", "[net]", "[b]", "a = 1", "a = on", "port = 1", "port = on", "xx = 1", "xx = on", "#~ 2 a.b", "#~ 3 a.b = 1", "#~ 3 a.b = on", "#~ 77 x.y"]
abbrev rep (z : Str) : Str := Txt.replace z "1" "on"
theorem alph_ok : ∀ z ∈ alph, z.length ≤ 100 ∧ (∀ c ∈ z.cps.toList, c < 128) ∧ 10 ∉ z.cps.toList := by decide +kernel
theorem alph_rep : ∀ z ∈ alph, rep z ∈ alph ∧ ev (rep z) = ev z := by decide +kernel
theorem alph_mark : ∀ z ∈ alph, (Txt.startswith z "#~" = true → isCore (ev z) = false) ∧ (Txt.startswith z "#~" = false → keptK (ev z) = none) := by decide +kernel
structure LineOk (z : Str) : Prop where
  p : Plain 100 z
  nl : 10 ∉ TL.tl z
theorem alph_line {z : Str} (h : z ∈ alph) : LineOk z := by
  obtain ⟨a, b, c⟩ := alph_ok z h
  exact ⟨⟨a, b⟩, c⟩
abbrev cores (ls : List Str) : List Ev := (ls.map ev).filter isCore
abbrev kepts (ls : List Str) : List (Int × Str) := (ls.map ev).filterMap keptK
theorem cores_app (a b : List Str) : cores (a ++ b) = cores a ++ cores b := by unfold cores; rw [List.map_append, List.filter_append]
theorem kepts_app (a b : List Str) : kepts (a ++ b) = kepts a ++ kepts b := by unfold kepts; rw [List.map_append, List.filterMap_append]
structure Good (n : Nat) (ls : List Str) : Prop where
  al : ∀ z ∈ ls, z ∈ alph
  len : ls.length ≤ n
  co : okE [] [] [] (cores ls) = true
  kn : (kepts ls).Nodup
theorem Good.run {n : Nat} {ls : List Str} (g : Good n ls) : ∃ fs, runF fs0 ls = some fs ∧ (fs.settings.map (·.1)).Nodup ∧ fs.settings.length ≤ n := by
  obtain ⟨fs, e⟩ := run_ok ls fs0 (okE_split _ [] [] [] g.co (fun _ _ => by simp) g.kn)
  obtain ⟨a, b⟩ := run_nd ls e (by simp [fs0])
  refine ⟨fs, e, a, ?_⟩
  have := g.len
  have : fs.settings.length ≤ 0 + ls.length := b
  omega
theorem Good.nil : Good 0 [] := ⟨(fun _ h => by cases h), Nat.le_refl _, by decide, by simp⟩
theorem Good.mono {m n : Nat} {ls : List Str} (g : Good m ls) (h : m ≤ n) : Good n ls := ⟨g.al, Nat.le_trans g.len h, g.co, g.kn⟩
/-- a line more that is no header and no setting -/
theorem Good.ins {n : Nat} {ls : List Str} (g : Good n ls) (k7 : ((77 : Int), ("x.y" : Str)) ∉ kepts ls) (i : Nat) {x : Str} (hx : x ∈ ([("" : Str), "#", "#~ 77 x.y"] : List Str)) : Good (n + 1) (ls.take i ++ [x] ++ ls.drop i) := by
  have c0 : ∀ x ∈ ([("" : Str), "#", "#~ 77 x.y"] : List Str), cores [x] = [] ∧ x ∈ alph ∧ (kepts [x] = [] ∨ kepts [x] = [((77 : Int), ("x.y" : Str))]) := by decide +kernel
  obtain ⟨c1, c2, c3⟩ := c0 x hx
  have td := List.take_append_drop i ls
  have eK : kepts (ls.take i) ++ kepts (ls.drop i) = kepts ls := by rw [← kepts_app, td]
  refine ⟨fun z hz => ?_, ?_, ?_, ?_⟩
  · rcases List.mem_append.mp hz with y | y
    · rcases List.mem_append.mp y with y | y
      · exact g.al z (List.mem_of_mem_take y)
      · rw [List.mem_singleton.mp y]; exact c2
    · exact g.al z (List.mem_of_mem_drop y)
  · have := g.len
    have e : (ls.take i).length + (ls.drop i).length = ls.length := by rw [← List.length_append, td]
    rw [List.length_append, List.length_append, List.length_singleton]
    omega
  · rw [cores_app, cores_app, c1, List.append_nil, ← cores_app, td]
    exact g.co
  · rw [kepts_app, kepts_app]
    rcases c3 with c3 | c3
    · rw [c3, List.append_nil, eK]
      exact g.kn
    · rw [c3, List.append_assoc, List.singleton_append]
      refine (List.perm_middle).nodup_iff.mpr (List.nodup_cons.mpr ⟨?_, ?_⟩)
      · rw [eK]; exact k7
      · rw [eK]; exact g.kn
theorem Good.rep {n : Nat} {ls : List Str} (g : Good n ls) : Good n (ls.map rep) := by
  have e : (ls.map K07.rep).map ev = ls.map ev := by
    rw [List.map_map]
    exact List.map_congr_left fun z hz => (alph_rep z (g.al z hz)).2
  refine ⟨fun z hz => ?_, by rw [List.length_map]; exact g.len, ?_, ?_⟩
  · obtain ⟨y, hy, rfl⟩ := List.mem_map.mp hz
    exact (alph_rep y (g.al y hy)).1
  · unfold cores
    rw [e]
    exact g.co
  · unfold kepts
    rw [e]
    exact g.kn
theorem cores_sub (p : Str → Bool) : ∀ ls : List Str, (∀ z ∈ ls, p z = false → isCore (ev z) = false) → cores (ls.filter p) = cores ls
  | [], _ => rfl
  | z :: r, h => by
    have ih := cores_sub p r fun y hy => h y (List.mem_cons_of_mem _ hy)
    cases e : p z with
    | true =>
      rw [List.filter_cons_of_pos e, ← List.singleton_append, cores_app, ih, ← cores_app, List.singleton_append]
    | false =>
      rw [List.filter_cons_of_neg (by rw [e]; exact Bool.false_ne_true), ih]
      have := h z (List.mem_cons_self ..) e
      show _ = (ev z :: r.map ev).filter isCore
      rw [List.filter_cons_of_neg (by rw [this]; exact Bool.false_ne_true)]
theorem kepts_sub (p : Str → Bool) : ∀ ls : List Str, (∀ z ∈ ls, p z = false → keptK (ev z) = none) → kepts (ls.filter p) = kepts ls
  | [], _ => rfl
  | z :: r, h => by
    have ih := kepts_sub p r fun y hy => h y (List.mem_cons_of_mem _ hy)
    cases e : p z with
    | true =>
      rw [List.filter_cons_of_pos e, ← List.singleton_append, kepts_app, ih, ← kepts_app, List.singleton_append]
    | false =>
      rw [List.filter_cons_of_neg (by rw [e]; exact Bool.false_ne_true), ih]
      have := h z (List.mem_cons_self ..) e
      show _ = (ev z :: r.map ev).filterMap keptK
      rw [List.filterMap_cons_none this]
theorem cores_none {ls : List Str} (h : ∀ z ∈ ls, isCore (ev z) = false) : cores ls = [] := by
  rw [← cores_sub (fun _ => false) ls fun z hz _ => h z hz, List.filter_eq_nil_iff.mpr (by simp)]
  rfl
theorem kepts_none {ls : List Str} (h : ∀ z ∈ ls, keptK (ev z) = none) : kepts ls = [] := by
  rw [← kepts_sub (fun _ => false) ls fun z hz _ => h z hz, List.filter_eq_nil_iff.mpr (by simp)]
  rfl
theorem Good.full {n : Nat} {ls : List Str} (g : Good n ls) : Good n (ls.filter fun z => !decide (z = "")) := by
  refine ⟨fun z hz => g.al z (List.mem_filter.mp hz).1, Nat.le_trans (List.length_filter_le _ _) g.len, ?_, ?_⟩
  · rw [cores_sub _ _ fun z hz e => ?_]
    · exact g.co
    · have : z = "" := by simpa using e
      rw [this]
      decide +kernel
  · rw [kepts_sub _ _ fun z hz e => ?_]
    · exact g.kn
    · have : z = "" := by simpa using e
      rw [this]
      decide +kernel
abbrev mk (z : Str) : Bool := Txt.startswith z "#~"
theorem Good.front {n : Nat} {ls : List Str} (g : Good n ls) : Good (n + n) (ls.filter K07.mk ++ ls.filter fun z => !K07.mk z) := by
  refine ⟨fun z hz => ?_, ?_, ?_, ?_⟩
  · rcases List.mem_append.mp hz with y | y
    · exact g.al z (List.mem_filter.mp y).1
    · exact g.al z (List.mem_filter.mp y).1
  · have := g.len
    have := List.length_filter_le K07.mk ls
    have := List.length_filter_le (fun z => !K07.mk z) ls
    rw [List.length_append]
    omega
  · rw [cores_app, cores_none fun z hz => (alph_mark z (g.al z (List.mem_filter.mp hz).1)).1 (List.mem_filter.mp hz).2, List.nil_append, cores_sub _ _ fun z hz e => (alph_mark z (g.al z hz)).1 (by simpa using e)]
    exact g.co
  · rw [kepts_app, kepts_none (ls := ls.filter fun z => !K07.mk z) fun z hz => (alph_mark z (g.al z (List.mem_filter.mp hz).1)).2 (by simpa using (List.mem_filter.mp hz).2), List.append_nil, kepts_sub _ _ fun z hz e => (alph_mark z (g.al z hz)).2 (by simpa using e)]
    exact g.kn
/-! ### the lines that are drawn -/
abbrev heads : List Str := ["net", "b"]
abbrev keys : List Str := ["a", "port", "xx"]
abbrev worths : List Str := ["1", "on"]
def coreOf (ms : List Nat) : List Ev := (List.zip heads ms).flatMap fun p => Ev.head p.1 :: (keys.take p.2).map Ev.set
theorem core_all : okE [] [] [] (coreOf []) = true ∧ (∀ a ∈ List.range 4, okE [] [] [] (coreOf [a]) = true ∧ ∀ b ∈ List.range 4, okE [] [] [] (coreOf [a, b]) = true) := by decide +kernel
theorem core_ok {ms : List Nat} (hl : ms.length ≤ 2) (h : ∀ m ∈ ms, m ≤ 3) : okE [] [] [] (coreOf ms) = true := by
  obtain ⟨c0, c1⟩ := core_all
  match ms, hl, h with
  | [], _, _ => exact c0
  | [a], _, h => exact (c1 a (List.mem_range.mpr (by have := h a (by simp); omega))).1
  | [a, b], _, h => exact (c1 a (List.mem_range.mpr (by have := h a (by simp); omega))).2 b (List.mem_range.mpr (by have := h b (by simp); omega))
  | _ :: _ :: _ :: _, hl, _ => simp at hl
theorem core_next {ms : List Nat} {h : Str} (j : Nat) (e : heads[ms.length]? = some h) : coreOf (ms ++ [j]) = coreOf ms ++ Ev.head h :: (keys.take j).map Ev.set := by
  match ms, e with
  | [], e =>
    cases e
    simp [coreOf]
  | [a], e =>
    cases e
    simp [coreOf]
  | _ :: _ :: _, e => simp at e
theorem head_line : ∀ h ∈ heads, ("[" ++ h ++ "]") ∈ alph ∧ ev ("[" ++ h ++ "]") = .head h ∧ ("[" ++ h ++ "]").length ≤ 100 := by decide +kernel
theorem set_line : ∀ k ∈ keys, ∀ v ∈ worths, (k ++ " = " ++ v) ∈ alph ∧ ev (k ++ " = " ++ v) = .set k ∧ (k ++ " = ").length ≤ 100 := by decide +kernel
/-- what is known of the lines so far -/
structure Part (n : Nat) (ls : List Str) (es : List Ev) : Prop where
  al : ∀ z ∈ ls, z ∈ alph
  len : ls.length ≤ n
  co : cores ls = es
  kn : kepts ls = []
theorem Part.add {n m : Nat} {ls bs : List Str} {es fs : List Ev} (p : Part n ls es) (q : Part m bs fs) : Part (n + m) (ls ++ bs) (es ++ fs) := by
  refine ⟨fun z hz => (List.mem_append.mp hz).elim (p.al z) (q.al z), ?_, by rw [cores_app, p.co, q.co], by rw [kepts_app, p.kn, q.kn]; rfl⟩
  have := p.len
  have := q.len
  rw [List.length_append]
  omega
theorem part_head {h : Str} (hh : h ∈ heads) : Part 1 ["[" ++ h ++ "]"] [.head h] := by
  obtain ⟨a, b, _⟩ := head_line h hh
  refine ⟨fun z hz => by rw [List.mem_singleton.mp hz]; exact a, Nat.le_refl _, ?_, ?_⟩
  · show [ev _].filter isCore = _
    rw [b]
    rfl
  · show [ev _].filterMap keptK = _
    rw [b]
    rfl
theorem part_set {k v : Str} (hk : k ∈ keys) (hv : v ∈ worths) : Part 1 [k ++ " = " ++ v] [.set k] := by
  obtain ⟨a, b, _⟩ := set_line k hk v hv
  refine ⟨fun z hz => by rw [List.mem_singleton.mp hz]; exact a, Nat.le_refl _, ?_, ?_⟩
  · show [ev _].filter isCore = _
    rw [b]
    rfl
  · show [ev _].filterMap keptK = _
    rw [b]
    rfl
theorem part_c (d : Nat) : Part 1 ((["# c"] : List Str).take d) [] := by
  match d with
  | 0 => exact ⟨(fun _ h => by cases h), Nat.zero_le _, rfl, rfl⟩
  | d + 1 =>
    rw [List.take_of_length_le (by simp)]
    exact ⟨by decide, Nat.le_refl _, by decide +kernel, by decide +kernel⟩
theorem part_top (d : Nat) : Part 2 ((["# top", ""] : List Str).drop d) [] := by
  match d with
  | 0 => exact ⟨by decide, Nat.le_refl _, by decide +kernel, by decide +kernel⟩
  | 1 => exact ⟨by decide, by decide, by decide +kernel, by decide +kernel⟩
  | d + 2 =>
    rw [List.drop_eq_nil_of_le (by simp)]
    exact ⟨(fun _ h => by cases h), Nat.zero_le _, rfl, rfl⟩
abbrev lasts : List Str := ["#~ 2 a.b", "#~ 3 a.b = 1", ""]
theorem Part.good {n : Nat} {ls : List Str} {ms : List Nat} (p : Part n ls (coreOf ms)) (hl : ms.length ≤ 2) (hm : ∀ m ∈ ms, m ≤ 3) (d : Nat) : Good (n + 3) (ls ++ lasts.drop d) ∧ ((77 : Int), ("x.y" : Str)) ∉ kepts (ls ++ lasts.drop d) := by
  have c : ∀ d ∈ List.range 4, (∀ z ∈ lasts.drop d, z ∈ alph) ∧ cores (lasts.drop d) = [] ∧ (kepts (lasts.drop d)).Nodup ∧ ((77 : Int), ("x.y" : Str)) ∉ kepts (lasts.drop d) := by decide +kernel
  have c' : (∀ z ∈ lasts.drop d, z ∈ alph) ∧ cores (lasts.drop d) = [] ∧ (kepts (lasts.drop d)).Nodup ∧ ((77 : Int), ("x.y" : Str)) ∉ kepts (lasts.drop d) := by
    by_cases h : d < 4
    · exact c d (List.mem_range.mpr h)
    · rw [List.drop_eq_nil_of_le (by show 3 ≤ d; omega)]
      exact ⟨(fun _ h => by cases h), rfl, List.nodup_nil, by simp⟩
  obtain ⟨c1, c2, c3, c4⟩ := c'
  have ek : kepts (ls ++ lasts.drop d) = kepts (lasts.drop d) := by rw [kepts_app, p.kn, List.nil_append]
  refine ⟨⟨fun z hz => (List.mem_append.mp hz).elim (p.al z) (c1 z), ?_, ?_, ?_⟩, ?_⟩
  · have := p.len
    have : (lasts.drop d).length ≤ 3 := by rw [List.length_drop]; exact Nat.sub_le _ _
    rw [List.length_append]
    omega
  · rw [cores_app, p.co, c2, List.append_nil]
    exact core_ok hl hm
  · rw [ek]; exact c3
  · rw [ek]; exact c4
end K07

set_option Elab.async false
set_option linter.all false
set_option maxRecDepth 100000
set_option maxHeartbeats 2000000
namespace K07
open PySem PySem.Spec PyProof.Rows L2 My
theorem cut_take (ys : List Str) {d : Int} (h0 : 0 ≤ d) : cutV (ys.map V.str) none (some d) = (ys.take d.toNat).map V.str := by
  unfold cutV
  rw [HT.sIx_none]
  have e : HT.sIx (ys.map V.str).length (ys.map V.str).length (some d) = min d.toNat (ys.map V.str).length := by
    have := HT.sIx_nat (ys.map V.str).length (ys.map V.str).length d.toNat
    rwa [show ((d.toNat : Nat) : Int) = d by omega] at this
  rw [e, List.drop_zero, Nat.sub_zero, List.map_take, List.length_map]
  by_cases h : d.toNat ≤ ys.length
  · rw [Nat.min_eq_left h]
  · rw [Nat.min_eq_right (by omega), List.take_of_length_le (by rw [List.length_map]; exact Nat.le_refl _), List.take_of_length_le (by rw [List.length_map]; omega)]
theorem cut_drop (ys : List Str) {d : Int} (h0 : 0 ≤ d) : cutV (ys.map V.str) (some d) none = (ys.drop d.toNat).map V.str := by
  unfold cutV
  rw [HT.sIx_none]
  have e : HT.sIx (ys.map V.str).length 0 (some d) = min d.toNat (ys.map V.str).length := by
    have := HT.sIx_nat (ys.map V.str).length 0 d.toNat
    rwa [show ((d.toNat : Nat) : Int) = d by omega] at this
  rw [e, List.map_drop, List.length_map]
  by_cases h : d.toNat ≤ ys.length
  · rw [Nat.min_eq_left h, List.take_of_length_le (by rw [List.length_drop, List.length_map]; exact Nat.le_refl _)]
  · rw [Nat.min_eq_right (by omega), List.drop_eq_nil_of_le (by rw [List.length_map]; exact Nat.le_refl _), List.drop_eq_nil_of_le (by rw [List.length_map]; omega), List.take_nil]
theorem take_at {α : Type} {l : List α} {n i : Nat} {x : α} (h : (l.take n)[i]? = some x) : l[i]? = some x := by
  rw [List.getElem?_take] at h
  split at h
  · exact h
  · cases h
/-- the state of the drawing -/
structure Ln (H : Hp) (b : Addr) (H3 : Hp) (pl : Addr) (ls : List Str) (n : Nat) (es : List Ev) : Prop where
  bag : Bag H3 b
  hl : H3 pl = some (.lst (ls.map V.str))
  pt : Part n ls es
  pb : pl ≠ b
  np : H pl = none
  kp : Kept b H H3
theorem Ln.keptD {H H3 H4 : Hp} {b pl : Addr} {ls : List Str} {n : Nat} {es : List Ev} (d : Ln H b H3 pl ls n es) (k : Kept b H3 H4) (bag : Bag H4 b) : Ln H b H4 pl ls n es :=
  ⟨bag, k _ _ d.pb d.hl, d.pt, d.pb, d.np, d.kp.trans k⟩
/-- lines more, in place -/
theorem Ln.put {H H3 : Hp} {b pl : Addr} {ls bs : List Str} {n m : Nat} {es fs : List Ev} {L : List V} (d : Ln H b H3 pl ls n es) (q : Part m bs fs) (eL : L = (ls ++ bs).map V.str) : Ln H b (upd H3 pl (.lst L)) pl (ls ++ bs) (n + m) (es ++ fs) :=
  ⟨d.bag.off d.pb, by rw [upd_same, eL], d.pt.add q, d.pb, d.np, d.kp.off d.np⟩
/-- lines more, in a new list -/
theorem Ln.cat {H H3 : Hp} {b pl q : Addr} {ls bs : List Str} {n m : Nat} {es fs : List Ev} {L : List V} (d : Ln H b H3 pl ls n es) (nq : H3 q = none) (p : Part m bs fs) (eL : L = (ls ++ bs).map V.str) : Ln H b (upd H3 q (.lst L)) q (ls ++ bs) (n + m) (es ++ fs) :=
  ⟨d.bag.new nq, by rw [upd_same, eL], d.pt.add p, d.bag.ne nq, d.kp.free d.bag nq, d.kp.trans (Kept.new nq)⟩
section
variable {P : Program} {w : World} {K : PySem.W.Frag} {mg : Str → Option Value} {base : Heap}
def sp_L_lines (K : PySem.W.Frag) : Sp := fun vs H Q _ => ∃ b : Addr, vs = [.ref b] ∧ Bag H b ∧ ∀ (H' : Hp) (ls : List Str) (p : Addr), Good 30 ls → ((77 : Int), ("x.y" : Str)) ∉ kepts ls → Kept b H H' → Bag H' b → H p = none → H' p = some (.lst (ls.map V.str)) → Q (.ref p) H'
theorem ok_L_lines (T : Top K mg) : FnOk P w K mg base CX0 3 T.f__law_lines T.d__law_lines ["_law_bag_here"] (sp_L_lines K) := by
  have G__law_take : FnOk P w K mg base CX0 1 T.f__law_take T.d__law_take ["_law_bag_here", "_law_many"] (sp_L_take K) := ok_L_take T
  have G__law_of : FnOk P w K mg base CX0 2 T.f__law_of T.d__law_of ["_law_bag_here", "_law_some"] (sp_L_of K) := ok_L_of T
  refine T.F__law_lines.ok scL_lines (fun vs H Q E h => ?_) (fun cdv A outer s H vs Q E hr h => ?_)
  · obtain ⟨b, rfl, _⟩ := h
    rfl
  · obtain ⟨b, rfl, hb, q⟩ := h
    refine ⟨_, (pss_cons (ps_set (i := 1) scL_lines.nd rfl (.inl rfl) (pe_slice sl_list (pe_lst (pa_cons pe_str (pa_cons pe_str pa_nil))) (po_some (pe_call G__law_take (hr.mono (by decide)) (by rfl) T.g__law_take T.F__law_take.kp T.b__law_take .nil pass0 (pa_cons (pv 0) (pa_cons pe_int pa_nil)))) po_none))
      (pss_cons (ps_for PassesOwn.never rfl (pi_list (pe_slice sl_list (pe_lst (pa_cons pe_str (pa_cons pe_str pa_nil))) po_none (po_some (pe_call G__law_take (hr.mono (by decide)) (by rfl) T.g__law_take T.F__law_take.kp T.b__law_take .nil pass0 (pa_cons (pv 0) (pa_cons pe_int pa_nil)))))) (pg_name (i := 2) scL_lines.nd rfl (.inl rfl)) (pss_cons (ps_expr (pe_bm PySem.F.plainAttrs_list PySem.F.slot_list_append PySem.F.type_list_append mt_append (pv 1) (pa_cons (pe_op op_add_str (pe_op op_add_str pe_str (pv 2)) pe_str) pa_nil)))
      (pss_one (ps_for PassesOwn.never rfl (pi_list (pe_slice sl_list (pe_lst (pa_cons pe_str (pa_cons pe_str (pa_cons pe_str pa_nil)))) po_none (po_some (pe_call G__law_take (hr.mono (by decide)) (by rfl) T.g__law_take T.F__law_take.kp T.b__law_take .nil pass0 (pa_cons (pv 0) (pa_cons pe_int pa_nil)))))) (pg_name (i := 3) scL_lines.nd rfl (.inl rfl)) (pss_one (ps_set (i := 1) scL_lines.nd rfl (.inl rfl) (pe_op op_cat (pe_op op_cat (pv 1) (pe_slice sl_list (pe_lst (pa_cons pe_str pa_nil)) po_none (po_some (pe_call G__law_take (hr.mono (by decide)) (by rfl) T.g__law_take T.F__law_take.kp T.b__law_take .nil pass0 (pa_cons (pv 0) (pa_cons pe_int pa_nil)))))) (pe_lst (pa_cons (pe_op op_add_str (pe_op op_add_str (pv 3) pe_str) (pe_call G__law_of (hr.mono (by decide)) (by rfl) T.g__law_of T.F__law_of.kp T.b__law_of .nil pass0 (pa_cons (pv 0) (pa_cons (pe_lst (pa_cons pe_str (pa_cons pe_str pa_nil))) pa_nil)))) pa_nil)))))))))
      (pss_one (ps_ret (pe_op op_cat (pv 1) (pe_slice sl_list (pe_lst (pa_cons pe_str (pa_cons pe_str (pa_cons pe_str pa_nil)))) (po_some (pe_call G__law_take (hr.mono (by decide)) (by rfl) T.g__law_take T.F__law_take.kp T.b__law_take .nil pass0 (pa_cons (pv 0) (pa_cons pe_int pa_nil)))) po_none)))))), ?_⟩
    have sbig : 100000 ≤ sizeLine := by decide
    refine ⟨(by show 2 ≤ sizeLine; decide), fun l0 nl0 => ⟨.ref b, rfl, b, 3, rfl, hb.new nl0, by decide, by decide, fun d0 m1 m2 d00 d01 g0 g1 g2 => ⟨d0, rfl, l0, _, rfl, SqL.of (Kept.at _ _ (hb.ne nl0) upd_same), fun p0 np0 => ?_⟩⟩⟩
    have k1 : Kept b H (upd (upd H l0 (.lst [V.str "# top", .str ""])) b (.lst [.int m1, .int m2])) := (Kept.new nl0).trans Kept.at
    have b1 : Bag (upd (upd H l0 (.lst [V.str "# top", .str ""])) b (.lst [.int m1, .int m2])) b := Bag.at g0 g1 g2
    have np0' : (upd (upd H l0 (.lst [V.str "# top", .str ""])) b (.lst [.int m1, .int m2])) p0 = none := np0
    show _
    have ec := cut_drop ["# top", ""] d00
    rw [show (cutV [V.str "# top", .str ""] (some d0) none) = ((["# top", ""] : List Str).drop d0.toNat).map V.str from ec]
    have d1 : Ln H b (upd (upd (upd H l0 (.lst [V.str "# top", .str ""])) b (.lst [.int m1, .int m2])) p0 (.lst (((["# top", ""] : List Str).drop d0.toNat).map V.str))) p0 ((["# top", ""] : List Str).drop d0.toNat) 2 [] :=
      ⟨b1.new np0', upd_same, part_top _, b1.ne np0', k1.free b1 np0', k1.trans (Kept.new np0')⟩
    generalize upd (upd (upd H l0 (.lst [V.str "# top", .str ""])) b (.lst [.int m1, .int m2])) p0 (.lst (((["# top", ""] : List Str).drop d0.toNat).map V.str)) = H1 at d1
    -- the heads
    refine ⟨(by show 2 ≤ sizeLine; decide), fun lh nlh => ⟨.ref b, rfl, b, 3, rfl, d1.bag.new nlh, by decide, by decide, fun d m3 m4 e0 e1 g3 g4 g5 => ⟨d, rfl, lh, _, rfl, SqL.of (Kept.at _ _ (d1.bag.ne nlh) upd_same), fun s1 ns1 => ?_⟩⟩⟩
    have d2 := d1.keptD ((Kept.new (o := .lst [V.str "net", .str "b"]) nlh).trans Kept.at) (Bag.at g3 g4 g5)
    have ns1' : (upd (upd H1 lh (.lst [V.str "net", .str "b"])) b (.lst [.int m3, .int m4])) s1 = none := ns1
    show _
    rw [show (cutV [V.str "net", .str "b"] none (some d)) = (heads.take d.toNat).map V.str from cut_take heads e0]
    have d3 := d2.keptD (Kept.new (o := .lst ((heads.take d.toNat).map V.str)) ns1') (d2.bag.new ns1')
    have hs1 : (upd (upd (upd H1 lh (.lst [V.str "net", .str "b"])) b (.lst [.int m3, .int m4])) s1 (.lst ((heads.take d.toNat).map V.str))) s1 = some (.lst ((heads.take d.toNat).map V.str)) := upd_same
    have s1b : s1 ≠ b := d2.bag.ne ns1'
    have ps1 : p0 ≠ s1 := ne_of_none d2.hl ns1'
    generalize upd (upd (upd H1 lh (.lst [V.str "net", .str "b"])) b (.lst [.int m3, .int m4])) s1 (.lst ((heads.take d.toNat).map V.str)) = H2 at d3 hs1
    refine ⟨s1, rfl, ⟨_, SqL.of hs1⟩, for_it (walk_list (xs := (heads.take d.toNat).map V.str)) (fun i σ H5 => ∃ (pl : Addr) (ls : List Str) (ms : List Nat) (y2 y3 : Option V), σ = [some (.ref b), some (.ref pl), y2, y3] ∧
        Ln H b H5 pl ls (2 + 7 * i) (coreOf ms) ∧ ms.length = i ∧ (∀ m ∈ ms, m ≤ 3) ∧ pl ≠ s1 ∧ H5 s1 = some (.lst ((heads.take d.toNat).map V.str))) ?_ (fun i σ H5 _ h => by
          obtain ⟨_, _, _, _, _, _, _, _, _, _, h⟩ := h
          exact SqL.of h) ?_ ?_⟩
    · exact ⟨p0, _, [], none, none, rfl, d3, rfl, (fun m hm => by cases hm), ps1, hs1⟩
    · rintro i v σ H5' H5 hi ⟨pl, ls, ms, y2, y3, rfl, dr, eml, hms, pls1, es⟩ ⟨rfl, hv⟩
      rw [List.length_map] at hi
      have hii : (heads.take d.toNat)[i]? = some (heads.take d.toNat)[i] := List.getElem?_eq_getElem hi
      have ev : v = .str (heads.take d.toNat)[i] := by
        rw [List.getElem?_map, hii] at hv
        exact (Option.some.inj hv).symm
      subst ev
      obtain ⟨h, eh0⟩ : ∃ h, h = (heads.take d.toNat)[i] := ⟨_, rfl⟩
      rw [← eh0] at hii ⊢
      have hat : heads[i]? = some h := take_at hii
      have hh : h ∈ heads := List.mem_of_getElem? hat
      have i2 : i < 2 := by
        have := (List.getElem?_eq_some_iff.mp hat).1
        exact this
      have hlen := (head_line h hh).2.2
      have ll := dr.pt.len
      have hl2 : h.length ≤ 98 := by
        have e : ("[" ++ h ++ "]" : Str).length = 1 + h.length + 1 := by rw [len_tl, TL.tl_append, TL.tl_append, List.length_append, List.length_append]; rfl
        omega
      refine ⟨.ref pl, rfl, .inl ⟨rfl, _, SqL.of dr.hl⟩, .str h, rfl, _, _, rfl, rfl, (by show 1 + h.length ≤ sizeLine; omega), _, _, rfl, rfl, (by
        show (("[" : Str) ++ h).length + 1 ≤ sizeLine
        rw [len_tl, TL.tl_append, List.length_append]
        show 1 + h.length + 1 ≤ sizeLine
        omega), pl, _, _, rfl, rfl, dr.hl, by rw [List.length_map]; exact small1000 (by omega), ?_⟩
      have d10 := dr.put (part_head hh) (L := ls.map V.str ++ [.str ("[" ++ h ++ "]")]) (by rw [List.map_append]; rfl)
      have es10 : (upd H5 pl (.lst (ls.map V.str ++ [.str ("[" ++ h ++ "]")]))) s1 = some (.lst ((heads.take d.toNat).map V.str)) := by rw [upd_ne pls1.symm]; exact es
      generalize upd H5 pl (.lst (ls.map V.str ++ [.str ("[" ++ h ++ "]")])) = H7 at d10 es10
      -- the keys
      refine ⟨(by show 3 ≤ sizeLine; decide), fun lk nlk => ⟨.ref b, rfl, b, 4, rfl, d10.bag.new nlk, by decide, by decide, fun dd m5 m6 e2 e3 g6 g7 g8 => ⟨dd, rfl, lk, _, rfl, SqL.of (Kept.at _ _ (d10.bag.ne nlk) upd_same), fun sl nsl => ?_⟩⟩⟩
      have k11 : Kept b H7 (upd (upd H7 lk (.lst [V.str "a", .str "port", .str "xx"])) b (.lst [.int m5, .int m6])) := (Kept.new nlk).trans Kept.at
      have d11 := d10.keptD k11 (Bag.at g6 g7 g8)
      have es11 := k11 _ _ s1b es10
      have nsl' : (upd (upd H7 lk (.lst [V.str "a", .str "port", .str "xx"])) b (.lst [.int m5, .int m6])) sl = none := nsl
      show _
      rw [show (cutV [V.str "a", .str "port", .str "xx"] none (some dd)) = (keys.take dd.toNat).map V.str from cut_take keys e2]
      generalize upd (upd H7 lk (.lst [V.str "a", .str "port", .str "xx"])) b (.lst [.int m5, .int m6]) = H8 at d11 es11 nsl'
      have d12 := d11.keptD (Kept.new (o := .lst ((keys.take dd.toNat).map V.str)) nsl') (d11.bag.new nsl')
      have es12 : (upd H8 sl (.lst ((keys.take dd.toNat).map V.str))) s1 = some (.lst ((heads.take d.toNat).map V.str)) := same_new nsl' _ _ es11
      have esl : (upd H8 sl (.lst ((keys.take dd.toNat).map V.str))) sl = some (.lst ((keys.take dd.toNat).map V.str)) := upd_same
      have slb : sl ≠ b := d11.bag.ne nsl'
      generalize upd H8 sl (.lst ((keys.take dd.toNat).map V.str)) = H9 at d12 es12 esl
      refine ⟨sl, rfl, ⟨_, SqL.of esl⟩, for_it (walk_list (xs := (keys.take dd.toNat).map V.str)) (fun j σ H5 => ∃ (pl : Addr) (ls : List Str) (y3 : Option V), σ = [some (.ref b), some (.ref pl), some (.str h), y3] ∧
          Ln H b H5 pl ls (2 + 7 * i + 1 + 2 * j) (coreOf ms ++ Ev.head h :: (keys.take j).map Ev.set) ∧ pl ≠ s1 ∧ H5 s1 = some (.lst ((heads.take d.toNat).map V.str)) ∧ H5 sl = some (.lst ((keys.take dd.toNat).map V.str))) ?_ (fun j σ H5 _ hh => by
          obtain ⟨_, _, _, _, _, _, _, hh⟩ := hh
          exact SqL.of hh) ?_ ?_⟩
      · exact ⟨pl, _, _, rfl, d12, pls1, es12, esl⟩
      · rintro j v σ H11' H11 hj ⟨pl, ls, y3, rfl, dr, pls1, es2, esl2⟩ ⟨rfl, hv⟩
        rw [List.length_map] at hj
        have hjj : (keys.take dd.toNat)[j]? = some (keys.take dd.toNat)[j] := List.getElem?_eq_getElem hj
        have ev : v = .str (keys.take dd.toNat)[j] := by
          rw [List.getElem?_map, hjj] at hv
          exact (Option.some.inj hv).symm
        subst ev
        obtain ⟨ky, eky⟩ : ∃ ky, ky = (keys.take dd.toNat)[j] := ⟨_, rfl⟩
        rw [← eky] at hjj ⊢
        have kat : keys[j]? = some ky := take_at hjj
        have hky : ky ∈ keys := List.mem_of_getElem? kat
        have j3 : j < 3 := (List.getElem?_eq_some_iff.mp kat).1
        have ll := dr.pt.len
        have klen : ∀ k ∈ keys, k.length ≤ 20 := by decide
        have klen := klen ky hky
        refine ⟨.ref pl, rfl, (by show 1 ≤ sizeLine; decide), fun lc nlc => ⟨.ref b, rfl, b, 2, rfl, dr.bag.new nlc, by decide, by decide, fun dc m7 m8 e5 e6 g9 g10 g11 => ⟨dc, rfl, lc, _, rfl, SqL.of (Kept.at _ _ (dr.bag.ne nlc) upd_same), fun sc nsc => ?_⟩⟩⟩
        have k12 : Kept b H11 (upd (upd H11 lc (.lst [V.str "# c"])) b (.lst [.int m7, .int m8])) := (Kept.new nlc).trans Kept.at
        have b12 : Bag (upd (upd H11 lc (.lst [V.str "# c"])) b (.lst [.int m7, .int m8])) b := Bag.at g9 g10 g11
        have nsc' : (upd (upd H11 lc (.lst [V.str "# c"])) b (.lst [.int m7, .int m8])) sc = none := nsc
        show _
        rw [show (cutV [V.str "# c"] none (some dc)) = ((["# c"] : List Str).take dc.toNat).map V.str from cut_take ["# c"] e5]
        generalize upd (upd H11 lc (.lst [V.str "# c"])) b (.lst [.int m7, .int m8]) = H12 at k12 b12 nsc'
        have d13 := dr.keptD k12 b12
        have d14 := d13.keptD (Kept.new (o := .lst (((["# c"] : List Str).take dc.toNat).map V.str)) nsc') (b12.new nsc')
        have cl : ((["# c"] : List Str).take dc.toNat).length ≤ 1 := (part_c dc.toNat).len
        refine ⟨_, _, _, _, rfl, rfl, d14.hl, upd_same, (by simp only [List.length_map]; omega), fun q1 nq1 => ?_⟩
        have k15 : Kept b H12 (upd H12 sc (.lst (((["# c"] : List Str).take dc.toNat).map V.str))) := Kept.new nsc'
        generalize upd H12 sc (.lst (((["# c"] : List Str).take dc.toNat).map V.str)) = H13 at d14 k15 nq1
        have d15 := d14.cat (q := q1) nq1 (part_c dc.toNat) (L := ls.map V.str ++ ((["# c"] : List Str).take dc.toNat).map V.str) (by rw [List.map_append])
        have k16 : Kept b H13 (upd H13 q1 (.lst (ls.map V.str ++ ((["# c"] : List Str).take dc.toNat).map V.str))) := Kept.new nq1
        generalize upd H13 q1 (.lst (ls.map V.str ++ ((["# c"] : List Str).take dc.toNat).map V.str)) = H14 at d15 k16
        -- the setting
        refine ⟨.str ky, rfl, _, _, rfl, rfl, (by show ky.length + 3 ≤ sizeLine; omega), .ref b, rfl, (by show 2 ≤ sizeLine; decide), fun lw nlw => ?_⟩
        refine ⟨b, lw, _, rfl, d15.bag.new nlw, upd_same, d15.bag.ne nlw, by simp, by show 2 ≤ 1000; decide, fun v m9 m10 hv g12 g13 g14 => ?_⟩
        obtain ⟨wo, hwo, rfl⟩ := List.mem_map.mp (show v ∈ worths.map V.str from hv)
        have wlen : ∀ v ∈ worths, v.length ≤ 20 := by decide
        have wlen := wlen wo hwo
        have k17 : Kept b H14 (upd (upd H14 lw (.lst [V.str "1", .str "on"])) b (.lst [.int m9, .int m10])) := (Kept.new nlw).trans Kept.at
        have b17 : Bag (upd (upd H14 lw (.lst [V.str "1", .str "on"])) b (.lst [.int m9, .int m10])) b := Bag.at g12 g13 g14
        generalize upd (upd H14 lw (.lst [V.str "1", .str "on"])) b (.lst [.int m9, .int m10]) = H15 at k17 b17
        have d17 := d15.keptD k17 b17
        refine ⟨_, _, rfl, rfl, (by
          show ((ky : Str) ++ " = ").length + wo.length ≤ sizeLine
          rw [len_tl, TL.tl_append, List.length_append]
          show ky.length + 3 + wo.length ≤ sizeLine
          omega), (by show 1 ≤ sizeLine; decide), fun q3 nq3 => ?_⟩
        have d18 := d17.keptD (Kept.new (o := .lst [.str (ky ++ " = " ++ wo)]) nq3) (b17.new nq3)
        refine ⟨_, _, _, _, rfl, rfl, (by have := d18.hl; rw [List.map_append] at this; exact this), upd_same, (by simp only [List.length_map, List.length_append, List.length_singleton]; omega), fun q4 nq4 => ?_⟩
        have k18 : Kept b H15 (upd H15 q3 (.lst [.str (ky ++ " = " ++ wo)])) := Kept.new nq3
        generalize upd H15 q3 (.lst [.str (ky ++ " = " ++ wo)]) = H16 at d18 k18 nq4
        have d19 := d18.cat (q := q4) nq4 (part_set hky hwo) (L := ls.map V.str ++ ((["# c"] : List Str).take dc.toNat).map V.str ++ [.str (ky ++ " = " ++ wo)]) (by rw [List.map_append, List.map_append]; rfl)
        have kA : Kept b H11 H16 := (((k12.trans k15).trans k16).trans k17).trans k18
        have es3 : H16 s1 = _ := kA _ _ s1b es2
        have esl3 : H16 sl = _ := kA _ _ slb esl2
        have eE : coreOf ms ++ Ev.head h :: (keys.take j).map Ev.set ++ [] ++ [Ev.set ky] = coreOf ms ++ Ev.head h :: (keys.take (j + 1)).map Ev.set := by
          rw [List.take_add_one, kat]
          simp
        rw [eE] at d19
        have eN : 2 + 7 * i + 1 + 2 * j + 1 + 1 = 2 + 7 * i + 1 + 2 * (j + 1) := by omega
        rw [eN] at d19
        exact ⟨q4, _, _, rfl, d19, (ne_of_none es3 nq4).symm, same_new nq4 _ _ es3, same_new nq4 _ _ esl3⟩
      · rintro σ H11 ⟨pl, ls, y3, rfl, dr, pls1, es2, esl2⟩
        rw [List.length_map] at dr
        have hm3 : (keys.take dd.toNat).length ≤ 3 := by rw [List.length_take]; exact Nat.min_le_right _ _
        refine ⟨pl, ls, ms ++ [(keys.take dd.toNat).length], _, _, rfl, ?_, by rw [List.length_append, eml]; rfl, ?_, pls1, es2⟩
        · rw [core_next _ (by rw [eml]; exact hat)]
          obtain ⟨z1, z2, ⟨z3, z4, z5, z6⟩, z7, z8, z9⟩ := dr
          exact ⟨z1, z2, ⟨z3, by omega, z5, z6⟩, z7, z8, z9⟩
        · intro m hm
          rcases List.mem_append.mp hm with x | x
          · exact hms m x
          · rw [List.mem_singleton.mp x]
            exact hm3
    · rintro σ H5 ⟨pl, ls, ms, y2, y3, rfl, dr, eml, hms, pls1, es⟩
      rw [List.length_map] at dr eml
      have hm2 : (heads.take d.toNat).length ≤ 2 := by rw [List.length_take]; exact Nat.min_le_right _ _
      have ll := dr.pt.len
      refine ⟨.ref pl, rfl, (by show 3 ≤ sizeLine; decide), fun lt nlt => ⟨.ref b, rfl, b, 4, rfl, dr.bag.new nlt, by decide, by decide, fun dt m5 m6 e2 e3 g6 g7 g8 => ⟨dt, rfl, lt, _, rfl, SqL.of (Kept.at _ _ (dr.bag.ne nlt) upd_same), fun st nst => ?_⟩⟩⟩
      have k6 : Kept b H5 (upd (upd H5 lt (.lst [V.str "#~ 2 a.b", .str "#~ 3 a.b = 1", .str ""])) b (.lst [.int m5, .int m6])) := (Kept.new nlt).trans Kept.at
      have b6 : Bag (upd (upd H5 lt (.lst [V.str "#~ 2 a.b", .str "#~ 3 a.b = 1", .str ""])) b (.lst [.int m5, .int m6])) b := Bag.at g6 g7 g8
      have nst' : (upd (upd H5 lt (.lst [V.str "#~ 2 a.b", .str "#~ 3 a.b = 1", .str ""])) b (.lst [.int m5, .int m6])) st = none := nst
      show _
      rw [show (cutV [V.str "#~ 2 a.b", .str "#~ 3 a.b = 1", .str ""] (some dt) none) = (lasts.drop dt.toNat).map V.str from cut_drop lasts e2]
      generalize upd (upd H5 lt (.lst [V.str "#~ 2 a.b", .str "#~ 3 a.b = 1", .str ""])) b (.lst [.int m5, .int m6]) = H6 at k6 b6 nst'
      have d6 := dr.keptD k6 b6
      have d7 := d6.keptD (Kept.new (o := .lst ((lasts.drop dt.toNat).map V.str)) nst') (b6.new nst')
      have tl3 : (lasts.drop dt.toNat).length ≤ 3 := by rw [List.length_drop]; exact Nat.sub_le _ _
      refine ⟨_, _, _, _, rfl, rfl, d7.hl, upd_same, (by simp only [List.length_map]; omega), fun q5 nq5 => ?_⟩
      obtain ⟨gd, g77⟩ := dr.pt.good (by omega) hms dt.toNat
      exact q _ _ q5 (gd.mono (by omega)) g77 (d7.kp.trans (Kept.new nq5)) (d7.bag.new nq5) (d7.kp.free d7.bag nq5) (by rw [upd_same, List.map_append])
end
end K07

set_option Elab.async false
set_option linter.all false
set_option maxRecDepth 100000
set_option maxHeartbeats 2000000
namespace K07
open PySem PySem.Spec PyProof.Rows L2 My
abbrev full (z : Str) : Bool := !decide (z = ("" : Str))
theorem filt_next {ls : List Str} {i : Nat} {x : Str} (p : Str → Bool) (h : ls[i]? = some x) : (ls.take (i + 1)).filter p = (ls.take i).filter p ++ (if p x = true then [x] else []) := by
  rw [List.take_add_one, h, List.filter_append]
  cases e : p x <;> simp [e]
theorem same_off {H H3 : Hp} {D : Addr} {o : HO} (nD : H D = none) (s3 : Same H H3) : Same H (upd H3 D o) := fun b u e => by
  rw [upd_ne (ne_of_none e nD)]
  exact s3 _ _ e
/-- a turn of [line for line in lines if ..] -/
theorem filt_turn {H1 H3 : Hp} {D : Addr} {ls : List Str} {i : Nat} {x : Str} {p : Str → Bool} {b : Bool} (hx : ls[i]? = some x) (nD : H1 D = none) (l60 : ls.length ≤ 60) (eb : b = p x) (s3 : Same H1 H3) (hD : H3 D = some (.lst (((ls.take i).filter p).map V.str))) :
    if b = true then ∃ acc, H3 D = some (.lst acc) ∧ acc.length < sizeLine ∧ (Same H1 (upd H3 D (.lst (acc ++ [.str x]))) ∧ (upd H3 D (.lst (acc ++ [.str x]))) D = some (.lst (((ls.take (i + 1)).filter p).map V.str))) else (Same H1 H3 ∧ H3 D = some (.lst (((ls.take (i + 1)).filter p).map V.str))) := by
  rw [filt_next p hx, eb]
  cases e : p x with
  | true =>
    rw [if_pos rfl]
    refine ⟨_, hD, ?_, same_off nD s3, ?_⟩
    · rw [List.length_map]
      have := List.length_filter_le p (ls.take i)
      rw [List.length_take] at this
      exact small1000 (by omega)
    · rw [upd_same, if_pos rfl, List.map_append]
      rfl
  | false =>
    rw [if_neg Bool.false_ne_true, if_neg Bool.false_ne_true, List.append_nil]
    exact ⟨s3, hD⟩
theorem str_at {ls : List Str} {i : Nat} {v : V} (h : (ls.map V.str)[i]? = some v) : ∃ z, ls[i]? = some z ∧ v = .str z := by
  rw [List.getElem?_map] at h
  cases e : ls[i]? with
  | none => rw [e] at h; cases h
  | some z => rw [e] at h; cases h; exact ⟨z, rfl, rfl⟩
section
variable {P : Program} {w : World} {K : PySem.W.Frag} {mg : Str → Option Value} {base : Heap}
def sp_L_changed (K : PySem.W.Frag) : Sp := fun vs H Q _ => ∃ (b l : Addr) (ls : List Str), vs = [.ref b, .ref l] ∧ Bag H b ∧ H l = some (.lst (ls.map V.str)) ∧ l ≠ b ∧ Good 30 ls ∧ ((77 : Int), ("x.y" : Str)) ∉ kepts ls ∧
  ∀ (H' : Hp) (ys : List Str) (p : Addr), Good 60 ys → Kept b H H' → Bag H' b → H p = none → H' p = some (.lst (ys.map V.str)) → Q (.ref p) H'
theorem ok_L_changed (T : Top K mg) : FnOk P w K mg base CX0 2 T.f__law_changed T.d__law_changed ["_law_bag_here", "_law_lines_here"] (sp_L_changed K) := by
  have G__law_take : FnOk P w K mg base CX0 1 T.f__law_take T.d__law_take ["_law_bag_here", "_law_many"] (sp_L_take K) := ok_L_take T
  refine T.F__law_changed.ok scL_changed (fun vs H Q E h => ?_) (fun cdv A outer s H vs Q E hr h => ?_)
  · obtain ⟨b, l, ls, rfl, _⟩ := h
    rfl
  · obtain ⟨b, l, ls, rfl, hb, hl, nlb, gd, g77, q⟩ := h
    refine ⟨_, (pss_cons (ps_par (i := 2) (j := 3) (by rfl) scL_changed.nd rfl rfl (by decide) rfl rfl (pa_cons (pe_call G__law_take (hr.mono (by decide)) (by rfl) T.g__law_take T.F__law_take.kp T.b__law_take .nil pass0 (pa_cons (pv 0) (pa_cons pe_int pa_nil))) (pa_cons (pe_call G__law_take (hr.mono (by decide)) (by rfl) T.g__law_take T.F__law_take.kp T.b__law_take .nil pass0 (pa_cons (pv 0) (pa_cons (pe_op op_add (pe_callB call_len_seq (by rfl) T.m_len (by decide +kernel) (pa_cons (pv 1) pa_nil)) pe_int) pa_nil))) pa_nil)) (by rfl))
      (pss_cons (ps_if (pt_cmpR op_lt (pv 2) pe_int (nomark _)) (pss_one (ps_ret (pe_callTy call_list_of (by rfl) T.m_list (by decide +kernel) (pa_cons (pv 1) pa_nil)))) pss_nil)
      (pss_cons (ps_if (pt_cmpR op_lt (pv 2) pe_int (nomark _)) (pss_one (ps_ret (pe_op op_cat (pe_op op_cat (pe_slice sl_list (pv 1) po_none (po_some (pv 3))) (pe_lst (pa_cons (pe_ix ix_list (pe_lst (pa_cons pe_str (pa_cons pe_str (pa_cons pe_str pa_nil)))) (pe_op op_sub (pv 2) pe_int) (fun _ _ => rfl)) pa_nil))) (pe_slice sl_list (pv 1) (po_some (pv 3)) po_none)))) pss_nil)
      (pss_cons (ps_ifK (ptk_int op_eq (pv 2)) (CwR.psst_one (CwR.pst_ret (pet_lc (own := [("_law_line", 5)]) rfl scL_changed.nd (pi_list (pv 1)) (blkOk_by (N := N_L_changed) (sc := defScope s_L_changed) (by decide +kernel)) (fun _ _ _ _ _ => (pg_name (i := 5) scL_changed.nd rfl (.inl rfl))) (fun _ _ _ _ _ => CwR.pet_replC (pv 5))))) pss_nil)
      (pss_cons (ps_if (pt_cmpR op_eq (pv 2) pe_int (nomark _)) (pss_one (ps_ret (pe_lc (own := [("_law_line", 5)]) rfl scL_changed.nd (pi_list (pv 1)) (blkOk_by (N := N_L_changed) (sc := defScope s_L_changed) (by decide +kernel)) (fun _ _ _ _ _ => (pg_name (i := 5) scL_changed.nd rfl (.inl rfl))) (fun _ _ _ _ _ => pts_one (pt_cmpR op_ne (pv 5) pe_str (nomark _))) (fun _ _ _ _ _ => (pv 5))))) pss_nil)
      (pss_cons (ps_setLc (own := [("_law_line", 5)]) (i := 4) rfl scL_changed.nd rfl rfl (sw_true rfl rfl rfl (by decide +kernel)) (pi_list (pv 1)) (blkOk_by (N := N_L_changed) (sc := defScope s_L_changed) (by decide +kernel)) (fun _ _ _ _ _ => (pg_name (i := 5) scL_changed.nd rfl (.inl rfl))) (fun _ _ _ _ _ => pts_one (pt_val (pe_m1 F.slot_str_startswith F.type_str_startswith mt_startswith (pv 5) pe_str))) (fun _ _ _ _ _ => (pv 5)))
      (pss_one (ps_ret (pe_op op_cat (pv 4) (pe_lc (own := [("_law_line", 5)]) rfl scL_changed.nd (pi_list (pv 1)) (blkOk_by (N := N_L_changed) (sc := defScope s_L_changed) (by decide +kernel)) (fun _ _ _ _ _ => (pg_name (i := 5) scL_changed.nd rfl (.inl rfl))) (fun _ _ _ _ _ => pts_one (pt_not (pt_val (pe_m1 F.slot_str_startswith F.type_str_startswith mt_startswith (pv 5) pe_str)))) (fun _ _ _ _ _ => (pv 5)))))))))))), ?_⟩
    have sbig : 100000 ≤ sizeLine := by decide
    have l30 := gd.len
    refine ⟨.ref b, rfl, b, 8, rfl, hb, by decide, by decide, fun d m1 m2 d0 d1 g0 g1 g2 => ?_⟩
    have b1 : Bag (upd H b (.lst [.int m1, .int m2])) b := Bag.at g0 g1 g2
    have k1 : Kept b H (upd H b (.lst [.int m1, .int m2])) := Kept.at
    generalize upd H b (.lst [.int m1, .int m2]) = H1 at b1 k1
    have hl1 := k1 _ _ nlb hl
    refine ⟨.ref b, rfl, .ref l, rfl, l, _, rfl, .inl (SqL.of hl1), _, 1, rfl, rfl, b, _, rfl, b1, by omega, by rw [List.length_map]; omega, fun sp m3 m4 e0 e1 g3 g4 g5 => ⟨_, _, rfl, ?_⟩⟩
    have b2 : Bag (upd H1 b (.lst [.int m3, .int m4])) b := Bag.at g3 g4 g5
    have k2 : Kept b H (upd H1 b (.lst [.int m3, .int m4])) := k1.trans Kept.at
    generalize upd H1 b (.lst [.int m3, .int m4]) = H2 at b2 k2
    have hl2 := k2 _ _ nlb hl
    have fin : ∀ {H3 : Hp} {p : Addr} {ys : List Str} {L : List V}, Same H2 H3 → H3 p = none → Good 60 ys → L = ys.map V.str → Q (.ref p) (upd H3 p (.lst L)) := fun {H3 p ys L} s3 np g e => by
      have k3 := k2.trans (Kept.same (b := b) s3)
      have b3 := b2.same s3
      exact q _ ys p g (k3.trans (Kept.new np)) (b3.new np) (k3.free b3 np) (by rw [upd_same, e])
    have fin2 : ∀ {H3 : Hp} {p : Addr} {ys : List Str}, Same H2 H3 → H2 p = none → Good 60 ys → H3 p = some (.lst (ys.map V.str)) → Q (.ref p) H3 := fun {H3 p ys} s3 np g e =>
      q _ ys p g (k2.trans (Kept.same (b := b) s3)) (b2.same s3) (k2.free b2 np) e
    refine ⟨.int d, rfl, d, 2, rfl, rfl, _, rfl, ite2 (fun e => ?_) (fun e => ?_)⟩
    · exact ⟨.ref l, rfl, l, _, rfl, .inl (SqL.of hl2), fun p np => fin (Same.refl _) np (gd.mono (by decide)) rfl⟩
    have w2 : ¬ d < 2 := of_decide_eq_false (eq_false_of_ne_true e)
    refine ⟨.int d, rfl, d, 5, rfl, rfl, _, rfl, ite2 (fun e5 => ?_) (fun e5 => ?_)⟩
    · have w5 : d < 5 := of_decide_eq_true e5
      refine ⟨.ref l, rfl, .int sp, rfl, sp, rfl, l, _, rfl, SqL.of hl2, fun s1 ns1 => ?_⟩
      rw [cut_take ls e0]
      refine ⟨(by show 3 ≤ sizeLine; decide), fun l3 nl3 => ⟨.int d, rfl, d, 2, rfl, rfl, ?_⟩⟩
      obtain ⟨x, hx, ex⟩ : ∃ x, x ∈ ([("" : Str), "#", "#~ 77 x.y"] : List Str) ∧ atI [V.str "", .str "#", .str "#~ 77 x.y"] (d - 2) = some (.str x) := by
        have : d = 2 ∨ d = 3 ∨ d = 4 := by omega
        rcases this with rfl | rfl | rfl
        · exact ⟨_, by simp, atI_nat (j := 0) rfl⟩
        · exact ⟨_, by simp, atI_nat (j := 1) rfl⟩
        · exact ⟨_, by simp, atI_nat (j := 2) rfl⟩
      refine ⟨l3, _, d - 2, .str x, rfl, rfl, SqL.of upd_same, ex, (by show 1 ≤ sizeLine; decide), fun l4 nl4 => ?_⟩
      have sA : Same H2 (upd H2 s1 (.lst ((ls.take sp.toNat).map V.str))) := same_new ns1
      have hs1 : (upd H2 s1 (.lst ((ls.take sp.toNat).map V.str))) s1 = some (.lst ((ls.take sp.toNat).map V.str)) := upd_same
      generalize upd H2 s1 (.lst ((ls.take sp.toNat).map V.str)) = H3 at sA hs1 nl3 nl4
      have sB := (same_new (o := .lst [V.str "", .str "#", .str "#~ 77 x.y"]) nl3).trans (same_new (o := .lst [.str x]) nl4)
      have tl1 : (ls.take sp.toNat).length ≤ 30 := by rw [List.length_take]; omega
      have dl1 : (ls.drop sp.toNat).length ≤ 30 := by rw [List.length_drop]; omega
      refine ⟨_, _, _, _, rfl, rfl, sB _ _ hs1, upd_same, (by simp only [List.length_map, List.length_singleton]; omega), fun c1 nc1 => ?_⟩
      have sC := (sA.trans sB).trans (same_new (o := .lst ((ls.take sp.toNat).map V.str ++ [.str x])) nc1)
      have hc1 : (upd (upd (upd H3 l3 (.lst [V.str "", .str "#", .str "#~ 77 x.y"])) l4 (.lst [.str x])) c1 (.lst ((ls.take sp.toNat).map V.str ++ [.str x]))) c1 = some (.lst ((ls.take sp.toNat).map V.str ++ [.str x])) := upd_same
      generalize upd (upd (upd H3 l3 (.lst [V.str "", .str "#", .str "#~ 77 x.y"])) l4 (.lst [.str x])) c1 (.lst ((ls.take sp.toNat).map V.str ++ [.str x])) = H4 at sC hc1
      refine ⟨.ref l, rfl, .int sp, rfl, sp, rfl, l, _, rfl, SqL.of (sC _ _ hl2), fun s2 ns2 => ?_⟩
      rw [cut_drop ls e0]
      refine ⟨_, _, _, _, rfl, rfl, same_new ns2 _ _ hc1, upd_same, (by simp only [List.length_map, List.length_append, List.length_singleton]; omega), fun c2 nc2 => ?_⟩
      exact fin (sC.trans (same_new ns2)) nc2 ((gd.ins g77 sp.toNat hx).mono (by decide)) (by simp)
    have w5 : ¬ d < 5 := of_decide_eq_false (eq_false_of_ne_true e5)
    refine ⟨.int d, rfl, rfl, _, rfl, ite2 (fun e6 => ?_) (fun e6 => ?_)⟩
    · refine ⟨.ref l, rfl, l, rfl, ⟨_, SqL.of hl2⟩, fun D nD => lc_it (walk_list (xs := ls.map V.str)) (fun i H4 => Same H2 H4 ∧ H4 D = some (.lst (((ls.take i).map rep).map V.str))) ?_ (fun _ _ _ h => SqL.of (h.1 _ _ hl2)) ?_ ?_⟩
      · exact ⟨same_new nD, upd_same⟩
      · rintro i v H4 H4' hi ⟨s4, hD⟩ ⟨rfl, hv⟩
        obtain ⟨z, hz, rfl⟩ := str_at hv
        refine ⟨rfl, ?_⟩
        simp only [tYes, if_true]
        have zl := (alph_ok z (gd.al z (List.mem_of_getElem? hz))).1
        refine ⟨.str z, rfl, z, rfl, (by show z.length + (z.length + 1) * 2 ≤ 16777216; omega), _, hD, ?_, same_off nD s4, ?_⟩
        · rw [List.length_map, List.length_map, List.length_take]
          exact small1000 (by omega)
        · rw [upd_same, List.take_add_one, hz, List.map_append, List.map_append]
          rfl
      · rintro H4 ⟨s4, hD⟩
        rw [List.length_map, List.take_length] at hD
        exact fin2 s4 nD (gd.rep.mono (by decide)) hD
    refine ⟨.int d, rfl, rfl, _, rfl, ite2 (fun e7 => ?_) (fun e7 => ?_)⟩
    · refine ⟨.ref l, rfl, l, rfl, ⟨_, SqL.of hl2⟩, fun D nD => lc_it (walk_list (xs := ls.map V.str)) (fun i H4 => Same H2 H4 ∧ H4 D = some (.lst (((ls.take i).filter full).map V.str))) ?_ (fun _ _ _ h => SqL.of (h.1 _ _ hl2)) ?_ ?_⟩
      · exact ⟨same_new nD, upd_same⟩
      · rintro i v H4 H4' hi ⟨s4, hD⟩ ⟨rfl, hv⟩
        obtain ⟨z, hz, rfl⟩ := str_at hv
        have this := filt_turn (b := !decide (V.str z = V.str "")) (p := full) hz nD (by omega) (by rw [eq_str]) s4 hD
        refine ⟨rfl, .str z, rfl, rfl, _, rfl, ite2 (fun hb => ?_) (fun hb => ?_)⟩
        · rw [if_pos hb] at this
          exact ⟨.str z, rfl, this⟩
        · rw [if_neg hb] at this
          exact this
      · rintro H4 ⟨s4, hD⟩
        rw [List.length_map, List.take_length] at hD
        exact fin2 s4 nD (gd.full.mono (by decide)) hD
    refine ⟨.ref l, rfl, l, rfl, ⟨_, SqL.of hl2⟩, fun D nD => lc_it (walk_list (xs := ls.map V.str)) (fun i H4 => Same H2 H4 ∧ H4 D = some (.lst (((ls.take i).filter K07.mk).map V.str))) ?_ (fun _ _ _ h => SqL.of (h.1 _ _ hl2)) ?_ ?_⟩
    · exact ⟨same_new nD, upd_same⟩
    · rintro i v H4 H4' hi ⟨s4, hD⟩ ⟨rfl, hv⟩
      obtain ⟨z, hz, rfl⟩ := str_at hv
      have this := filt_turn (b := Txt.startswith z "#~") (p := K07.mk) hz nD (by omega) rfl s4 hD
      refine ⟨rfl, .str z, rfl, ⟨z, rfl⟩, z, _, rfl, rfl, _, rfl, ite2 (fun hb => ?_) (fun hb => ?_)⟩
      · rw [if_pos hb] at this
        exact ⟨.str z, rfl, this⟩
      · rw [if_neg hb] at this
        exact this
    · rintro H4 ⟨s4, hD⟩
      rw [List.length_map, List.take_length] at hD
      refine ⟨.ref D, rfl, .ref l, rfl, l, rfl, ⟨_, SqL.of (s4 _ _ hl2)⟩, fun D2 nD2 => lc_it (walk_list (xs := ls.map V.str)) (fun i H5 => Same H4 H5 ∧ H5 D2 = some (.lst (((ls.take i).filter fun z => !K07.mk z).map V.str))) ?_ (fun _ _ _ h => SqL.of (h.1 _ _ (s4 _ _ hl2))) ?_ ?_⟩
      · exact ⟨same_new nD2, upd_same⟩
      · rintro i v H5 H5' hi ⟨s5, hD2⟩ ⟨rfl, hv⟩
        obtain ⟨z, hz, rfl⟩ := str_at hv
        have this := filt_turn (b := !Txt.startswith z "#~") (p := fun z => !K07.mk z) hz nD2 (by omega) rfl s5 hD2
        refine ⟨rfl, .str z, rfl, ⟨z, rfl⟩, z, _, rfl, rfl, _, rfl, ite2 (fun hb => ?_) (fun hb => ?_)⟩
        · rw [if_pos hb] at this
          exact ⟨.str z, rfl, this⟩
        · rw [if_neg hb] at this
          exact this
      · rintro H5 ⟨s5, hD2⟩
        rw [List.length_map, List.take_length] at hD2
        have f1 := List.length_filter_le K07.mk ls
        have f2 := List.length_filter_le (fun z => !K07.mk z) ls
        refine ⟨_, _, _, _, rfl, rfl, s5 _ _ hD, hD2, (by simp only [List.length_map]; omega), fun c nc => ?_⟩
        exact fin (s4.trans s5) nc gd.front (by rw [List.map_append])
end
end K07

set_option Elab.async false
set_option linter.all false
set_option maxRecDepth 100000
set_option maxHeartbeats 2000000
namespace K07
open PySem PySem.Spec PyProof.Rows L2 My
theorem _root_.My.KindS.same {H H' : Hp} {v : V} {ty : String} (s : Same H H') (k : KindS H v ty) : KindS H' v ty := by
  cases k with
  | non => exact .non
  | bl b => exact .bl b
  | int i => exact .int i
  | str z => exact .str z
  | lst e => exact .lst (s _ _ e)
  | tup e => exact .tup (s _ _ e)
abbrev ans : List V := [.bl false, .bl true, .bl false]
abbrev ansD : PyData := .list [.bool false, .bool true, .bool false]
theorem dp_ans {K : PySem.W.Frag} {H : Hp} {a : Addr} (e : H a = some (.lst ans)) : Dp K H (.ref a) ansD := .lst (SqL.of e) (.cons (.bl _) (.cons (.bl _) (.cons (.bl _) .nil)))
theorem dp_all {K : PySem.W.Frag} {H : Hp} : ∀ {rs : List Addr}, (∀ r ∈ rs, H r = some (.lst ans)) → DpAll K H (rs.map V.ref) (List.replicate rs.length ansD)
  | [], _ => .nil
  | r :: l, h => .cons (dp_ans (h r (List.mem_cons_self ..))) (dp_all fun y hy => h y (List.mem_cons_of_mem _ hy))
theorem sh8 : SeqAt.shaped (.list (List.replicate 8 ansD)) = true := by decide +kernel
theorem eq8 : PyData.eqv (.list (List.replicate 8 ansD)) (.list (List.replicate 8 ansD)) = true := by decide +kernel
section
variable {P : Program} {w : World} {K : PySem.W.Frag} {mg : Str → Option Value} {base : Heap}
def sp_L_unlike (K : PySem.W.Frag) (T : Top K mg) : Sp := fun vs H Q _ => ∃ (H0 : Hp) (x : Addr) (t : Str) (rows : List Str) (fs : FS) (A : Parts), vs = [.ref x, .str t] ∧ FileP T.C_SettingsFile H0 H x t rows fs A ∧ (fs.settings.map (·.1)).Nodup ∧ fs.settings.length ≤ 60 ∧
  ∀ H', Same H H' → Q (.bl true) H'
theorem ok_L_unlike (T : Top K mg) : FnOk P w K mg base CX0 5 T.f__law_unlike T.d__law_unlike ["_law_file", "_law_whole"] (sp_L_unlike K T) := by
  have G_SettingsFile_pairs : GFn P w K mg base 1 T.f_SettingsFile_pairs T.d_SettingsFile_pairs ["self"] (sp_SettingsFile_pairs K T) := ok_SettingsFile_pairs T
  have G_SettingsFile_sections : FnOk P w K mg base CX0 1 T.f_SettingsFile_sections T.d_SettingsFile_sections ["self"] (sp_SettingsFile_sections K T) := ok_SettingsFile_sections T
  have G_SettingsFile_lines : FnOk P w K mg base CX0 1 T.f_SettingsFile_lines T.d_SettingsFile_lines ["self"] (sp_SettingsFile_lines K T) := ok_SettingsFile_lines T
  have G_SettingsFile___len__ : FnOk P w K mg base CX0 1 T.f_SettingsFile___len__ T.d_SettingsFile___len__ ["self"] (sp_SettingsFile___len__ K T) := ok_SettingsFile___len__ T
  have G_SettingsFile___eq__ : FnOk P w K mg base CX0 1 T.f_SettingsFile___eq__ T.d_SettingsFile___eq__ ["self", "other"] (sp_SettingsFile___eq__ K T) := ok_SettingsFile___eq__ T
  refine T.F__law_unlike.ok scL_unlike (fun vs H Q E h => ?_) (fun cdv A outer s H vs Q E hr h => ?_)
  · obtain ⟨H0, x, t, rows, fs, A, rfl, _⟩ := h
    rfl
  · obtain ⟨H0, x, t, rows, fs, A', rfl, f, nd, slen, q⟩ := h
    refine ⟨_, (pss_cons (ps_set (i := 2) scL_unlike.nd rfl (.inl rfl) (pe_lst (pa_cons (pv 1) (pa_cons pe_non (pa_cons pe_bl (pa_cons (pe_callB (call_lenOwn T.me_SettingsFile___len__ G_SettingsFile___len__ (hr.mono (by decide)) T.b_SettingsFile___len__) (by rfl) T.m_len (by decide +kernel) (pa_cons (pv 0) pa_nil)) (pa_cons (pe_prop (pv 0) T.cl_SettingsFile T.pr_SettingsFile_lines G_SettingsFile_lines (hr.mono (by decide)) T.b_SettingsFile_lines .nil pass0 rfl) (pa_cons (pe_tup (pa_cons (pv 1) pa_nil)) (pa_cons (pe_meth0 (pv 0) T.cl_SettingsFile T.me_SettingsFile_sections G_SettingsFile_sections (hr.mono (by decide)) T.b_SettingsFile_sections .nil pass0) (pa_cons (pe_listG (pgen_meth0 (pv 0) T.cl_SettingsFile T.me_SettingsFile_pairs G_SettingsFile_pairs (hr.mono (by decide)) T.b_SettingsFile_pairs .nil) passE0 noStop0 (hr.mono (by decide)) (by rfl) T.m_list (by decide +kernel)) pa_nil))))))))))
      (pss_cons (ps_setLc (own := [("_law_one", 4)]) (i := 3) rfl scL_unlike.nd rfl rfl (sw_true rfl rfl rfl (by decide +kernel)) (pi_list (pv 2)) (blkOk_by (N := N_L_unlike) (sc := defScope s_L_unlike) (by decide +kernel)) (fun _ _ _ _ _ => (pg_name (i := 4) scL_unlike.nd rfl (.inl rfl))) (fun _ _ _ _ _ => pts_nil) (fun _ _ _ _ _ => (pe_lst (pa_cons (pe_cmpR (op_eqOwn T.eqc_SettingsFile G_SettingsFile___eq__ (hr.mono (by decide)) T.b_SettingsFile___eq__) (pv 0) (pv 4) (nomark _)) (pa_cons (pe_cmpR (op_neOwn T.eqc_SettingsFile G_SettingsFile___eq__ (hr.mono (by decide)) T.b_SettingsFile___eq__) (pv 0) (pv 4) (nomark _)) (pa_cons (pe_cmpR (op_eqOwnR T.eqc_SettingsFile G_SettingsFile___eq__ (hr.mono (by decide)) T.b_SettingsFile___eq__) (pv 4) (pv 0) (nomark _)) pa_nil))))))
      (pss_one (ps_ret (pe_cmpR (op_eqD hr.units) (pv 3) (pe_op op_rep (pe_lst (pa_cons (pe_lst (pa_cons pe_bl (pa_cons pe_bl (pa_cons pe_bl pa_nil)))) pa_nil)) (pe_callB call_len_seq (by rfl) T.m_len (by decide +kernel) (pa_cons (pv 2) pa_nil))) (nomark _)))))), ?_⟩
    have noM : ∀ {m : Str}, ¬ m = "loose" → ¬ m = "blocks" → ¬ m = "kept_read" → ¬ m = "settings_read" → ¬ m = "headers" → ¬ m = "rows" → ¬ m = "text" → (flds t A'.r A'.h A'.s A'.k A'.b A'.l).lookup m = none := fun h1 h2 h3 h4 h5 h6 h7 => f_no _ _ _ _ _ _ _ h1 h2 h3 h4 h5 h6 h7
    refine ⟨.str t, rfl, .ref x, rfl, x, _, _, rfl, f.ob, H0, x, t, rows, fs, A', rfl, f, _, rfl, by omega, by omega, ?_⟩
    refine ⟨.ref x, rfl, x, _, _, rfl, f.ob, H0, x, t, rows, fs, A', rfl, f, fun H1 p1 s1 np1 hp1 => ?_⟩
    have f1 := f.more s1
    refine ⟨.str t, rfl, (by show 1 ≤ sizeLine; decide), fun tp ntp => ?_⟩
    have s2 : Same H (upd H1 tp (.tup [.str t])) := s1.trans (same_new ntp)
    have htp : (upd H1 tp (.tup [.str t])) tp = some (.tup [.str t]) := upd_same
    have hp1' : (upd H1 tp (.tup [.str t])) p1 = some (.lst (rows.map V.str)) := same_new ntp _ _ hp1
    generalize upd H1 tp (.tup [.str t]) = H2 at s2 htp hp1'
    have f2 := f.more s2
    refine ⟨.ref x, rfl, x, _, _, rfl, f2.ob, noM (by decide +kernel) (by decide +kernel) (by decide +kernel) (by decide +kernel) (by decide +kernel) (by decide +kernel) (by decide +kernel), H0, x, t, rows, fs, A', rfl, f2, fun H3 p3 s3 np3 hp3 => ?_⟩
    have f3 := f2.more s3
    refine ⟨.ref x, rfl, x, _, _, rfl, f3.ob, noM (by decide +kernel) (by decide +kernel) (by decide +kernel) (by decide +kernel) (by decide +kernel) (by decide +kernel) (by decide +kernel), H0, x, t, rows, fs, A', rfl, f3, nd, by omega, fun H5 out s5 prs p5 np5 => ?_⟩
    have s6 : Same H3 (upd H5 p5 (.lst out)) := s5.trans (same_new np5)
    have hp5 : (upd H5 p5 (.lst out)) p5 = some (.lst out) := upd_same
    generalize upd H5 p5 (.lst out) = H6 at s6 hp5
    refine ⟨(by show 8 ≤ sizeLine; decide), fun sm nsm => ?_⟩
    have s7 : Same H6 (upd H6 sm (.lst [.str t, .non, .bl true, .int (fs.settings.length : Nat), .ref p1, .ref tp, .ref p3, .ref p5])) := same_new nsm
    have hsm : (upd H6 sm (.lst [.str t, .non, .bl true, .int (fs.settings.length : Nat), .ref p1, .ref tp, .ref p3, .ref p5])) sm = some (.lst [.str t, .non, .bl true, .int (fs.settings.length : Nat), .ref p1, .ref tp, .ref p3, .ref p5]) := upd_same
    have kinds : ∀ v ∈ [V.str t, .non, .bl true, .int (fs.settings.length : Nat), .ref p1, .ref tp, .ref p3, .ref p5], ∃ ty, KindS H6 v ty := by
      intro v hv
      have s36 := s3.trans s6
      rcases List.mem_cons.mp hv with rfl | hv
      · exact ⟨_, .str t⟩
      rcases List.mem_cons.mp hv with rfl | hv
      · exact ⟨_, .non⟩
      rcases List.mem_cons.mp hv with rfl | hv
      · exact ⟨_, .bl true⟩
      rcases List.mem_cons.mp hv with rfl | hv
      · exact ⟨_, .int _⟩
      rcases List.mem_cons.mp hv with rfl | hv
      · exact ⟨_, .lst (s36 _ _ hp1')⟩
      rcases List.mem_cons.mp hv with rfl | hv
      · exact ⟨_, .tup (s36 _ _ htp)⟩
      rcases List.mem_cons.mp hv with rfl | hv
      · exact ⟨_, .lst (s6 _ _ hp3)⟩
      cases List.mem_singleton.mp hv
      exact ⟨_, .lst hp5⟩
    have s07 : Same H (upd H6 sm (.lst [.str t, .non, .bl true, .int (fs.settings.length : Nat), .ref p1, .ref tp, .ref p3, .ref p5])) := ((s2.trans s3).trans s6).trans s7
    show _
    generalize eL : [V.str t, .non, .bl true, .int (fs.settings.length : Nat), .ref p1, .ref tp, .ref p3, .ref p5] = L at s7 hsm kinds s07 ⊢
    have l8 : L.length = 8 := by rw [← eL]; rfl
    generalize upd H6 sm (.lst L) = H7 at s7 hsm s07
    refine ⟨.ref sm, rfl, sm, rfl, ⟨_, SqL.of hsm⟩, fun D nD => lc_it (walk_list (xs := L)) (fun i H8 => Same H7 H8 ∧ ∃ rs : List Addr, rs.length = i ∧ H8 D = some (.lst (rs.map V.ref)) ∧ ∀ r ∈ rs, H8 r = some (.lst ans)) ?_ (fun _ _ _ h => SqL.of (h.1 _ _ hsm)) ?_ ?_⟩
    · exact ⟨same_new nD, [], rfl, upd_same, (fun r hr => by cases hr)⟩
    · rintro i v H8 H8' hi ⟨s8, rs, lr, hD, hrs⟩ ⟨rfl, hv⟩
      obtain ⟨ty, kd⟩ := kinds v (List.mem_of_getElem? hv)
      have k8 := (kd.same s7).same s8
      have f8 := f.more (s07.trans s8)
      refine ⟨rfl, ?_⟩
      simp only [tYes, if_true]
      refine ⟨.ref x, rfl, v, rfl, x, _, _, rfl, f8.ob, .inr ⟨ty, k8⟩, H0, x, t, rows, fs, A', v, rfl, f8, .inr ⟨⟨ty, k8⟩, false, rfl, ?_⟩⟩
      refine ⟨.ref x, rfl, v, rfl, x, _, _, rfl, f8.ob, .inr ⟨ty, k8⟩, H0, x, t, rows, fs, A', v, rfl, f8, .inr ⟨⟨ty, k8⟩, false, rfl, ?_⟩⟩
      refine ⟨v, rfl, .ref x, rfl, x, _, _, ty, rfl, f8.ob, k8, H0, x, t, rows, fs, A', v, rfl, f8, .inr ⟨⟨ty, k8⟩, false, rfl, (by show 3 ≤ sizeLine; decide), fun r nr => ?_⟩⟩
      have nrD : D ≠ r := ne_of_none hD nr
      refine ⟨_, same_new nr _ _ hD, by rw [List.length_map]; exact small1000 (by omega), ?_, rs ++ [r], by rw [List.length_append, lr]; rfl, ?_, ?_⟩
      · intro b u e
        rw [upd_ne (ne_of_none e nD)]
        exact same_new nr _ _ (s8 _ _ e)
      · rw [upd_same, List.map_append]
        rfl
      · intro y hy
        have yD : y ≠ D := by
          rcases List.mem_append.mp hy with z | z
          · intro e
            have h1 := hrs y z
            rw [e, hD] at h1
            cases rs with
            | nil => cases z
            | cons a l => simp [ans] at h1
          · rw [List.mem_singleton.mp z]; exact nrD.symm
        rw [upd_ne yD]
        rcases List.mem_append.mp hy with z | z
        · exact same_new nr _ _ (hrs y z)
        · rw [List.mem_singleton.mp z]; exact upd_same
    · rintro H8 ⟨s8, rs, lr, hD, hrs⟩
      refine ⟨.ref D, rfl, (by show 3 ≤ sizeLine; decide), fun a na => ⟨(by show 1 ≤ sizeLine; decide), fun c nc => ⟨.ref sm, rfl, sm, _, rfl, .inl (SqL.of (same_new nc _ _ (same_new na _ _ (s8 _ _ hsm)))), c, _, _, rfl, rfl, upd_same, by omega, by rw [l8]; omega, by rw [l8]; show 1 * 8 ≤ sizeLine; decide, fun p np => ?_⟩⟩⟩
      have s9 := (((s07.trans s8).trans (same_new (o := .lst ans) na)).trans (same_new (o := .lst [V.ref a]) nc)).trans (same_new (o := .lst (List.replicate ((L.length : Nat) : Int).toNat [V.ref a]).flatten) np)
      have hD9 := same_new (o := .lst (List.replicate ((L.length : Nat) : Int).toNat [V.ref a]).flatten) np _ _ (same_new (o := .lst [V.ref a]) nc _ _ (same_new (o := .lst ans) na _ _ hD))
      have ha9 := same_new (o := .lst (List.replicate ((L.length : Nat) : Int).toNat [V.ref a]).flatten) np _ _ (same_new (o := .lst [V.ref a]) nc _ _ (upd_same (H := H8) (a := a) (o := .lst ans)))
      have hr9 : ∀ r ∈ rs, (upd (upd (upd H8 a (.lst ans)) c (.lst [V.ref a])) p (.lst (List.replicate ((L.length : Nat) : Int).toNat [V.ref a]).flatten)) r = some (.lst ans) := fun r hr => same_new np _ _ (same_new nc _ _ (same_new na _ _ (hrs r hr)))
      have hp9 : (upd (upd (upd H8 a (.lst ans)) c (.lst [V.ref a])) p (.lst (List.replicate ((L.length : Nat) : Int).toNat [V.ref a]).flatten)) p = some (.lst ((List.replicate 8 a).map V.ref)) := by
        rw [upd_same, l8]
        rfl
      generalize upd (upd (upd H8 a (.lst ans)) c (.lst [V.ref a])) p (.lst (List.replicate ((L.length : Nat) : Int).toNat [V.ref a]).flatten) = H9 at s9 hD9 ha9 hr9 hp9
      have dA := dp_all (K := K) hr9
      rw [lr, l8] at dA
      have dB := dp_all (K := K) (H := H9) (rs := List.replicate 8 a) fun r hr => by rw [List.eq_of_mem_replicate hr]; exact ha9
      rw [List.length_replicate] at dB
      refine ⟨_, _, .lst (SqL.of hD9) dA, .lst (SqL.of hp9) dB, sh8, sh8, ?_⟩
      rw [eq8]
      exact q _ s9
end
end K07

set_option Elab.async false
set_option linter.all false
set_option maxRecDepth 100000
set_option maxHeartbeats 2000000
namespace K07
open PySem PySem.Spec PyProof.Rows L2 My
abbrev lf : Str := "\n"
theorem tl_lf : TL.tl lf = 10 :: [] := by decide
/-- lines that are joined and cut again -/
theorem rows_join {lines : List Str} (h : ∀ z ∈ lines, 10 ∉ TL.tl z) : rowsOf (Txt.join lf lines) = if lines = [("" : Str)] then [] else lines := by
  unfold rowsOf
  cases lines with
  | nil => rfl
  | cons a r =>
    have sp := TL.split_join (y := lf) tl_lf (by decide +kernel) (parts := a :: r) (by simp) h
    by_cases e : (a :: r) = [("" : Str)]
    · rw [if_pos e, e]
      rfl
    · rw [if_neg e]
      have ne : ¬ Txt.join lf (a :: r) = "" := fun z => by
        have z2 : TL.tl (Txt.join lf (a :: r)) = [] := by rw [z]; rfl
        rw [TL.join_eq, TL.tl_join, tl_lf] at z2
        cases r with
        | nil =>
          have z3 : TL.tl a = [] := z2
          apply e
          have : a = "" := by
            obtain ⟨cps⟩ := a
            have : cps = #[] := Array.toList_eq_nil_iff.mp z3
            rw [this]
            rfl
          rw [this]
        | cons b r2 =>
          have z3 : TL.tl a ++ ([10] ++ TL.joinL [10] ((b :: r2).map TL.tl)) = [] := z2
          simp at z3
      rw [if_neg ne]
      exact sp
theorem joined_len : ∀ {lines : List Str}, (∀ z ∈ lines, z.length ≤ 100) → (lines.map (·.length)).sum ≤ 100 * lines.length
  | [], _ => Nat.le_refl _
  | a :: r, h => by
    have h1 := h a (by simp)
    have h2 := joined_len (lines := r) fun z hz => h z (List.mem_cons_of_mem _ hz)
    rw [List.map_cons, List.sum_cons, List.length_cons]
    omega
theorem joinL_len {S : List Nat} : ∀ {l : List (List Nat)}, (TL.joinL S l).length ≤ (l.map (·.length)).sum + l.length * S.length
  | [] => Nat.zero_le _
  | [a] => by
    show a.length ≤ _
    simp
  | a :: b :: r => by
    have ih := joinL_len (S := S) (l := b :: r)
    show (a ++ (S ++ TL.joinL S (b :: r))).length ≤ _
    rw [List.length_append, List.length_append, List.map_cons, List.sum_cons, List.length_cons, Nat.add_mul, Nat.one_mul]
    omega
theorem join_short {lines : List Str} (h : ∀ z ∈ lines, z.length ≤ 100) (hl : lines.length ≤ 1000) : (Txt.join lf lines).length ≤ 1000000 := by
  have h1 := joined_len h
  rw [len_tl, TL.join_eq, TL.tl_join, tl_lf]
  have h2 := joinL_len (S := [10]) (l := lines.map TL.tl)
  rw [List.map_map, List.length_map] at h2
  have e : (lines.map ((fun x => x.length) ∘ TL.tl)).sum = (lines.map (·.length)).sum := rfl
  rw [e] at h2
  rw [show ([10] : List Nat).length = 1 from rfl, Nat.mul_one] at h2
  omega
/-- a text that is a file -/
structure TextOk (t : Str) (fs : FS) : Prop where
  tlen : t.length ≤ 1000000
  rl : (rowsOf t).length ≤ 90000
  rz : ∀ z ∈ rowsOf t, z.length ≤ 1000
  run : runF fs0 (rowsOf t) = some fs
  nd : (fs.settings.map (·.1)).Nodup
  sl : fs.settings.length ≤ 60
theorem text_ok {ls : List Str} (g : Good 60 ls) : ∃ fs, TextOk (Txt.join lf ls) fs := by
  have lens : ∀ z ∈ ls, z.length ≤ 100 := fun z hz => (alph_ok z (g.al z hz)).1
  have rws := rows_join (lines := ls) fun z hz => (alph_line (g.al z hz)).nl
  have l60 := g.len
  have tl := join_short lens (by omega)
  by_cases e : ls = [("" : Str)]
  · rw [if_pos e] at rws
    exact ⟨fs0, tl, by rw [rws]; simp, (by rw [rws]; intro z hz; cases hz), (by rw [rws]; rfl), by simp [fs0], by simp [fs0]⟩
  · rw [if_neg e] at rws
    obtain ⟨fs, r, n, s⟩ := g.run
    refine ⟨fs, tl, by rw [rws]; omega, ?_, by rw [rws]; exact r, n, s⟩
    rw [rws]
    intro z hz
    have := lens z hz
    omega
theorem text_a : ∃ fs, TextOk "[a]" fs := by
  have e : rowsOf "[a]" = ([("[a]" : Str)] : List Str) := by decide +kernel
  exact ⟨{ fs0 with headers := ["a"], blocks := [("a", [])] }, by decide, by rw [e]; decide, by rw [e]; decide, by rw [e]; decide +kernel, by decide, by decide⟩
theorem text_b : ∃ fs, TextOk "[a]\n" fs := by
  have e : rowsOf "[a]\n" = ([("[a]" : Str), ""] : List Str) := by decide +kernel
  exact ⟨{ fs0 with headers := ["a"], blocks := [("a", [])], loose := [""] }, by decide, by rw [e]; decide, by rw [e]; decide, by rw [e]; decide +kernel, by decide, by decide⟩
theorem text_0 : TextOk "" fs0 := ⟨by decide, by decide, by decide, rfl, by decide, by decide⟩
theorem sh3 (a b c : Bool) : SeqAt.shaped (.list [.bool a, .bool b, .bool c]) = true := by cases a <;> cases b <;> cases c <;> decide +kernel
theorem eq3 (a b c : Bool) : PyData.eqv (.list [.bool a, .bool b, .bool c]) (.list [.bool a, .bool b, .bool c]) = true := by cases a <;> cases b <;> cases c <;> decide +kernel
section
variable {P : Program} {w : World} {K : PySem.W.Frag} {mg : Str → Option Value} {base : Heap}
def sp_law (K : PySem.W.Frag) : Sp := fun vs H Q _ => ∃ (a : Addr) (ns : List Int), vs = [.ref a] ∧ SqL K H a (ns.map V.int) ∧ ns.length ≤ 63 ∧ ∀ H', Q (.bl true) H'
theorem ok_law (T : Top K mg) : FnOk P w K mg base CX0 9 T.f_law T.d_law ["_law_script"] (sp_law K) := by
  have G__law_bag : FnOk P w K mg base CX0 1 T.f__law_bag T.d__law_bag ["_law_script", "_law_at"] (sp_L_bag K) := ok_L_bag T
  have G__law_lines : FnOk P w K mg base CX0 3 T.f__law_lines T.d__law_lines ["_law_bag_here"] (sp_L_lines K) := ok_L_lines T
  have G__law_changed : FnOk P w K mg base CX0 2 T.f__law_changed T.d__law_changed ["_law_bag_here", "_law_lines_here"] (sp_L_changed K) := ok_L_changed T
  have G_SettingsFile___init__ : FnOk P w K mg base CX0 7 T.f_SettingsFile___init__ T.d_SettingsFile___init__ ["self", "text"] (sp_SettingsFile___init__ K T) := ok_SettingsFile___init__ T
  have G_SettingsFile___eq__ : FnOk P w K mg base CX0 1 T.f_SettingsFile___eq__ T.d_SettingsFile___eq__ ["self", "other"] (sp_SettingsFile___eq__ K T) := ok_SettingsFile___eq__ T
  have G_SettingsFile___str__ : FnOk P w K mg base CX0 1 T.f_SettingsFile___str__ T.d_SettingsFile___str__ ["self"] (sp_SettingsFile___str__ K T) := ok_SettingsFile___str__ T
  have G__law_unlike : FnOk P w K mg base CX0 5 T.f__law_unlike T.d__law_unlike ["_law_file", "_law_whole"] (sp_L_unlike K T) := ok_L_unlike T
  refine T.F_law.ok sclaw (fun vs H Q E h => ?_) (fun cdv A outer s H vs Q E hr h => ?_)
  · obtain ⟨a, ns, rfl, _⟩ := h
    rfl
  · obtain ⟨a, ns, rfl, hS, hl, q⟩ := h
    refine ⟨_, (pss_cons (ps_for PassesOwn.never rfl (pi_range1 (by rfl) T.m_range (pa_cons (pe_callB (call_max2 rfl) (by rfl) T.m_max (by decide +kernel) (pa_cons pe_int (pa_cons (pe_callB (call_min2 rfl) (by rfl) T.m_min (by decide +kernel) (pa_cons pe_int (pa_cons (pe_callB call_len_seq (by rfl) T.m_len (by decide +kernel) (pa_cons (pv 0) pa_nil)) pa_nil))) pa_nil))) pa_nil)) (pg_name (i := 1) sclaw.nd rfl (.inl rfl)) (pss_cons (ps_set (i := 2) sclaw.nd rfl (.inl rfl) (pe_call G__law_bag (hr.mono (by decide)) (by rfl) T.g__law_bag T.F__law_bag.kp T.b__law_bag .nil pass0 (pa_cons (pv 0) (pa_cons (pv 1) pa_nil))))
      (pss_one (ps_for PassesOwn.never rfl (pi_range1 (by rfl) T.m_range (pa_cons pe_int pa_nil)) (pg_name (i := 3) sclaw.nd rfl (.inl rfl)) (pss_cons (ps_set (i := 4) sclaw.nd rfl (.inl rfl) (pe_call G__law_lines (hr.mono (by decide)) (by rfl) T.g__law_lines T.F__law_lines.kp T.b__law_lines .nil pass0 (pa_cons (pv 2) pa_nil)))
      (pss_cons (ps_set (i := 5) sclaw.nd rfl (.inl rfl) (pe_call G__law_changed (hr.mono (by decide)) (by rfl) T.g__law_changed T.F__law_changed.kp T.b__law_changed .nil pass0 (pa_cons (pv 2) (pa_cons (pv 4) pa_nil))))
      (pss_cons (ps_par (i := 6) (j := 7) (by rfl) sclaw.nd rfl rfl (by decide) rfl rfl (pa_cons (pe_m1 F.slot_str_join F.type_str_join mt_join pe_str (pv 4)) (pa_cons (pe_m1 F.slot_str_join F.type_str_join mt_join pe_str (pv 5)) pa_nil)) (by rfl))
      (pss_cons (ps_par (i := 8) (j := 9) (by rfl) sclaw.nd rfl rfl (by decide) rfl rfl (pa_cons (pe_make T.mk_SettingsFile G_SettingsFile___init__ (hr.mono (by decide)) (by rfl) T.g_SettingsFile T.b_SettingsFile___init__ .nil pass0 (pa_cons (pv 6) pa_nil)) (pa_cons (pe_make T.mk_SettingsFile G_SettingsFile___init__ (hr.mono (by decide)) (by rfl) T.g_SettingsFile T.b_SettingsFile___init__ .nil pass0 (pa_cons (pv 7) pa_nil)) pa_nil)) (by rfl))
      (pss_cons (ps_set (i := 10) sclaw.nd rfl (.inl rfl) (pe_cmpR op_eq (pv 6) (pv 7) (nomark _)))
      (pss_cons (ps_if (pt_cmpR (op_neD hr.units) (pe_lst (pa_cons (pe_cmpR (op_eqOwn T.eqc_SettingsFile G_SettingsFile___eq__ (hr.mono (by decide)) T.b_SettingsFile___eq__) (pv 8) (pv 9) (nomark _)) (pa_cons (pe_cmpR (op_neOwn T.eqc_SettingsFile G_SettingsFile___eq__ (hr.mono (by decide)) T.b_SettingsFile___eq__) (pv 8) (pv 9) (nomark _)) (pa_cons (pe_cmpR (op_eqOwn T.eqc_SettingsFile G_SettingsFile___eq__ (hr.mono (by decide)) T.b_SettingsFile___eq__) (pv 9) (pv 8) (nomark _)) pa_nil)))) (pe_lst (pa_cons (pv 10) (pa_cons (pe_not (pv 10)) (pa_cons (pv 10) pa_nil)))) (nomark _)) (pss_one (ps_ret pe_bl)) pss_nil)
      (pss_one (ps_if (PW.pt (pw_or (pt_not (pt_val (pe_call G__law_unlike (hr.mono (by decide)) (by rfl) T.g__law_unlike T.F__law_unlike.kp T.b__law_unlike .nil pass0 (pa_cons (pv 8) (pa_cons (pv 6) pa_nil))))) (pw_or (pt_not (pt_cmpR (op_eqOwn T.eqc_SettingsFile G_SettingsFile___eq__ (hr.mono (by decide)) T.b_SettingsFile___eq__) (pe_make T.mk_SettingsFile G_SettingsFile___init__ (hr.mono (by decide)) (by rfl) T.g_SettingsFile T.b_SettingsFile___init__ .nil pass0 (pa_cons (pe_callTy (call_strOwn T.me_SettingsFile___str__ G_SettingsFile___str__ (hr.mono (by decide)) T.b_SettingsFile___str__) (by rfl) T.m_str (by decide +kernel) (pa_cons (pv 9) pa_nil)) pa_nil)) (pv 9) (nomark _))) (pw_or1 (pt_cmpR op_ne (pe_callTy (call_strOwn T.me_SettingsFile___str__ G_SettingsFile___str__ (hr.mono (by decide)) T.b_SettingsFile___str__) (by rfl) T.m_str (by decide +kernel) (pa_cons (pv 8) pa_nil)) (pv 6) (nomark _)))))) (pss_one (ps_ret pe_bl)) pss_nil))))))))))))
      (pss_one (ps_ret (pe_and (pe_cmpR (op_eqOwn T.eqc_SettingsFile G_SettingsFile___eq__ (hr.mono (by decide)) T.b_SettingsFile___eq__) (pe_make T.mk_SettingsFile G_SettingsFile___init__ (hr.mono (by decide)) (by rfl) T.g_SettingsFile T.b_SettingsFile___init__ .nil pass0 (pa_cons pe_str pa_nil)) (pe_make T.mk_SettingsFile G_SettingsFile___init__ (hr.mono (by decide)) (by rfl) T.g_SettingsFile T.b_SettingsFile___init__ .nil pass0 (pa_cons pe_str pa_nil)) (nomark _)) (pe_one (pe_cmpR (op_neOwn T.eqc_SettingsFile G_SettingsFile___eq__ (hr.mono (by decide)) T.b_SettingsFile___eq__) (pe_make T.mk_SettingsFile G_SettingsFile___init__ (hr.mono (by decide)) (by rfl) T.g_SettingsFile T.b_SettingsFile___init__ .nil pass0 (pa_cons pe_str pa_nil)) (pe_make T.mk_SettingsFile G_SettingsFile___init__ (hr.mono (by decide)) (by rfl) T.g_SettingsFile T.b_SettingsFile___init__ .nil pass0 (pa_cons pe_str pa_nil)) (nomark _))))))), ?_⟩
    refine ⟨.ref a, rfl, a, _, rfl, .inl hS, _, _, rfl, _, _, rfl, ?_⟩
    obtain ⟨M, hM, M1, M4⟩ : ∃ M : Int, (if (if (((ns.map V.int).length : Nat) : Int) < 4 then (((ns.map V.int).length : Nat) : Int) else 4) > 1 then (if (((ns.map V.int).length : Nat) : Int) < 4 then (((ns.map V.int).length : Nat) : Int) else 4) else 1) = M ∧ 0 ≤ M ∧ M ≤ 4 := by
      refine ⟨_, rfl, ?_, ?_⟩
      · split <;> split <;> omega
      · split <;> split <;> omega
    refine ⟨M, congrArg (fun z => [V.int z]) hM, by omega, by omega, for_it walk_range (fun _ σ H3 => ∃ y1 y2 y3 y4 y5 y6 y7 y8 y9 y10, σ = [some (.ref a), y1, y2, y3, y4, y5, y6, y7, y8, y9, y10] ∧ SqL K H3 a (ns.map V.int)) ?_ (fun _ _ _ _ _ => trivial) ?_ ?_⟩
    · exact ⟨none, none, none, none, none, none, none, none, none, none, rfl, hS⟩
    · rintro i x σ H1' H1 hi ⟨y1, y2, y3, y4, y5, y6, y7, y8, y9, y10, rfl, hS1⟩ ⟨rfl, rfl⟩
      refine ⟨.ref a, rfl, .int (0 + (i : Int)), rfl, a, _, ns, rfl, hS1, hl, by omega, by omega, fun H2 b s2 nb b2 => ?_⟩
      have hold := held_of hS1 s2 nb
      refine ⟨12, rfl, by decide, by decide, for_it walk_range (fun _ σ H3 => ∃ y1 y3 y4 y5 y6 y7 y8 y9 y10, σ = [some (.ref a), y1, some (.ref b), y3, y4, y5, y6, y7, y8, y9, y10] ∧ Bag H3 b ∧ Kept b H2 H3) ?_ (fun _ _ _ _ _ => trivial) ?_ ?_⟩
      · exact ⟨_, _, _, _, _, _, _, _, _, rfl, b2, fun _ _ _ e => e⟩
      · rintro j x σ H3' H3 hj ⟨z1, z3, z4, z5, z6, z7, z8, z9, z10, rfl, b3, k3⟩ ⟨rfl, rfl⟩
        -- the lines, changed
        refine ⟨.ref b, rfl, b, rfl, b3, fun H4 ls pl gd g77 k4 b4 npl hpl => ?_⟩
        refine ⟨.ref b, rfl, .ref pl, rfl, b, pl, ls, rfl, b4, hpl, b3.ne npl, gd, g77, fun H5 ys po gdo k5 b5 npo hpo => ?_⟩
        have hpl5 := k5 _ _ (b3.ne npl) hpl
        have gd1 : Good 60 ls := gd.mono (by decide)
        have s1 := joined_len (lines := ls) fun z hz => (alph_ok z (gd1.al z hz)).1
        have s2' := joined_len (lines := ys) fun z hz => (alph_ok z (gdo.al z hz)).1
        have l1 := gd1.len
        have l2 := gdo.len
        refine ⟨⟨_, rfl⟩, .ref pl, rfl, _, pl, ls, rfl, rfl, .inl (SqL.of hpl5), (by show (ls.map (·.length)).sum + ls.length * 1 ≤ 16777216; omega), ?_⟩
        refine ⟨⟨_, rfl⟩, .ref po, rfl, _, po, ys, rfl, rfl, .inl (SqL.of hpo), (by show (ys.map (·.length)).sum + ys.length * 1 ≤ 16777216; omega), _, _, rfl, ?_⟩
        obtain ⟨f1, o1⟩ := text_ok gd1
        obtain ⟨f2, o2⟩ := text_ok gdo
        show _
        generalize Txt.join lf ls = t at o1 ⊢
        generalize Txt.join lf ys = u at o2 ⊢
        -- the two files
        refine ⟨.str t, rfl, fun x dx nx ndx nex => ⟨H5, x, dx, t, f1, rfl, rfl, nx, ndx, nex, o1.tlen, o1.rl, o1.rz, o1.run, fun H6 A p6 => ⟨rfl, ?_⟩⟩⟩
        refine ⟨.str u, rfl, fun y dy ny ndy ney => ⟨H6, y, dy, u, f2, rfl, rfl, ny, ndy, ney, o2.tlen, o2.rl, o2.rz, o2.run, fun H7 B p7 => ⟨rfl, _, _, rfl, ?_⟩⟩⟩
        have px := p6.more p7.same
        have s7 : Same H5 H7 := p6.same.trans p7.same
        refine ⟨.str t, rfl, .str u, rfl, rfl, ?_⟩
        rw [eq_str]
        have ec : decide (u = t) = decide (t = u) := decide_eq_decide.mpr ⟨Eq.symm, Eq.symm⟩
        generalize edc : decide (t = u) = c at ec ⊢
        refine ⟨.ref x, rfl, .ref y, rfl, x, _, _, rfl, px.ob, .inl ⟨y, _, _, rfl, p7.ob⟩, H5, x, t, _, f1, A, .ref y, rfl, px, .inl ⟨H6, y, u, _, f2, B, rfl, p7, _, rfl, ?_⟩⟩
        refine ⟨.ref x, rfl, .ref y, rfl, x, _, _, rfl, px.ob, .inl ⟨y, _, _, rfl, p7.ob⟩, H5, x, t, _, f1, A, .ref y, rfl, px, .inl ⟨H6, y, u, _, f2, B, rfl, p7, _, rfl, ?_⟩⟩
        refine ⟨.ref y, rfl, .ref x, rfl, y, _, _, rfl, p7.ob, .inl ⟨x, _, _, rfl, px.ob⟩, H6, y, u, _, f2, B, .ref x, rfl, p7, .inl ⟨H5, x, t, _, f1, A, rfl, px, _, rfl, ?_⟩⟩
        rw [edc, ec]
        refine ⟨(by show 3 ≤ sizeLine; decide), fun a1 na1 => ⟨.bl c, rfl, .bl c, rfl, c, rfl, .bl c, rfl, (by show 3 ≤ sizeLine; decide), fun a2 na2 => ?_⟩⟩
        refine ⟨.list [.bool c, .bool (!c), .bool c], .list [.bool c, .bool (!c), .bool c], .lst (SqL.of (same_new na2 _ _ upd_same)) (.cons (.bl _) (.cons (.bl _) (.cons (.bl _) .nil))), .lst (SqL.of upd_same) (.cons (.bl _) (.cons (.bl _) (.cons (.bl _) .nil))), sh3 _ _ _, sh3 _ _ _, _, rfl, ?_⟩
        rw [eq3]
        refine iteF ?_
        -- nothing else, once more, the text
        refine ⟨.ref x, rfl, .str t, rfl, H5, x, t, _, f1, A, rfl, px.more ((same_new na1).trans (same_new na2)), o1.nd, o1.sl, fun H9 s9 => ⟨true, rfl, iteF ?_⟩⟩
        have s89 : Same H7 H9 := ((same_new na1).trans (same_new na2)).trans s9
        have p9 := p7.more s89
        refine ⟨.ref y, rfl, y, _, _, rfl, p9.ob, H6, y, u, _, f2, B, rfl, p9, _, rfl, fun z dz nz ndz nez => ⟨H9, z, dz, u, f2, rfl, rfl, nz, ndz, nez, o2.tlen, o2.rl, o2.rz, o2.run, fun H10 C p10 => ⟨rfl, ?_⟩⟩⟩
        have py := p9.more p10.same
        refine ⟨.ref y, rfl, z, _, _, rfl, p10.ob, .inl ⟨y, _, _, rfl, py.ob⟩, H9, z, u, _, f2, C, .ref y, rfl, p10, .inl ⟨H6, y, u, _, f2, B, rfl, py, _, rfl, _, rfl, ?_⟩⟩
        refine (if_neg (by simp)).mpr ?_
        have pz := px.more (s89.trans p10.same)
        refine ⟨.ref x, rfl, x, _, _, rfl, pz.ob, H5, x, t, _, f1, A, rfl, pz, _, rfl, .str t, rfl, rfl, _, rfl, ?_⟩
        refine (if_neg (by simp)).mpr ?_
        have sEnd : Same H5 H10 := s7.trans (s89.trans p10.same)
        exact ⟨_, _, _, _, _, _, _, _, _, rfl, b5.same sEnd, k3.trans (k4.trans (k5.trans (Kept.same sEnd)))⟩
      · rintro σ H3 ⟨z1, z3, z4, z5, z6, z7, z8, z9, z10, rfl, b3, k3⟩
        exact ⟨_, _, _, _, _, _, _, _, _, _, rfl, hold H3 k3⟩
    · rintro σ H3 ⟨y1, y2, y3, y4, y5, y6, y7, y8, y9, y10, rfl, hS3⟩
      obtain ⟨fa, oa⟩ := text_a
      obtain ⟨fb, ob⟩ := text_b
      have o0 := text_0
      intro x dx nx ndx nex
      refine ⟨H3, x, dx, "", fs0, rfl, rfl, nx, ndx, nex, o0.tlen, o0.rl, o0.rz, o0.run, fun H5 A p5 => ⟨rfl, ?_⟩⟩
      intro y dy ny ndy ney
      refine ⟨H5, y, dy, "", fs0, rfl, rfl, ny, ndy, ney, o0.tlen, o0.rl, o0.rz, o0.run, fun H6 B p6 => ⟨rfl, ?_⟩⟩
      have px := p5.more p6.same
      refine ⟨x, _, _, rfl, px.ob, .inl ⟨y, _, _, rfl, p6.ob⟩, H3, x, "", _, fs0, A, .ref y, rfl, px, .inl ⟨H5, y, "", _, fs0, B, rfl, p6, _, rfl, _, rfl, (if_pos (by simp)).mpr ?_⟩⟩
      intro x2 dx2 nx2 ndx2 nex2
      refine ⟨H6, x2, dx2, "[a]", fa, rfl, rfl, nx2, ndx2, nex2, oa.tlen, oa.rl, oa.rz, oa.run, fun H7 A2 p7 => ⟨rfl, ?_⟩⟩
      intro y2 dy2 ny2 ndy2 ney2
      refine ⟨H7, y2, dy2, "[a]\n", fb, rfl, rfl, ny2, ndy2, ney2, ob.tlen, ob.rl, ob.rz, ob.run, fun H8 B2 p8 => ⟨rfl, ?_⟩⟩
      have px2 := p7.more p8.same
      refine ⟨x2, _, _, rfl, px2.ob, .inl ⟨y2, _, _, rfl, p8.ob⟩, H6, x2, "[a]", _, fa, A2, .ref y2, rfl, px2, .inl ⟨H7, y2, "[a]\n", _, fb, B2, rfl, p8, _, rfl, ?_⟩⟩
      have e : decide (("[a]" : Str) = "[a]\n") = false := by decide +kernel
      rw [e]
      exact q _
end
end K07

set_option Elab.async false
set_option linter.all false
set_option maxRecDepth 100000
namespace K07
open PySem PySem.Spec PyProof.Rows L2 My
/-! ### the end -/
def top_mk {h : Heap} {K : PySem.W.Frag} {mg : Str → Option Value} (X : K.In h) (G : h.Ns mainGlobals mg)
    {C0 : Addr} (aC0 : PySem.W.nsIn K mainGlobals "SettingsFile" = some (some (.ref C0))) (pg0 : PySem.W.plainGet K C0 Str.empty = true) (hd0 : PySem.W.hasDictIn K C0 = true) (po0 : PySem.W.plainOver K C0 = true) (sa0 : PySem.W.findIn K (.ref C0) "__setattr__" = some (some (.builtin "object.__setattr__"))) (mk0 : PySem.W.makesIn K C0 = true) (kc0 : PySem.W.keepIn K (.ref C0) = true)
    (nb0 : PySem.W.findIn K (.ref C0) "__bool__" = some none)
    (ne0 : PySem.W.findIn K (.ref C0) "__ne__" = some (some (.builtin "object.__ne__"))) (ro0 : PySem.W.mroIn K C0 (.type "object") = some true) (ca0 : PySem.W.findIn K (.ref C0) "__class__" = some (some (.builtin "object.__class__"))) (cg0 : PySem.W.specialIn K (.builtin "object.__class__") "__get__" = some (some (.builtin "getset_descriptor.__get__"))) (ck0 : PySem.W.takesIn K (.builtin "object.__class__") = some true)
    {ldd0 : Option Addr} {lcd0 : ClassData} {lsl0 : Array (Option Value)} (lc0 : K.lookup C0 = some ⟨.type "type", ldd0, .cls lcd0, lsl0⟩)
    (mo0_NoneType : PySem.W.mroIn K C0 (.type "NoneType") = some false)
    (mo0_bool : PySem.W.mroIn K C0 (.type "bool") = some false)
    (mo0_int : PySem.W.mroIn K C0 (.type "int") = some false)
    (mo0_str : PySem.W.mroIn K C0 (.type "str") = some false)
    (mo0_list : PySem.W.mroIn K C0 (.type "list") = some false)
    (mo0_tuple : PySem.W.mroIn K C0 (.type "tuple") = some false)
    (na0_0 : PySem.W.findIn K (.ref C0) "text" = some none)
    (na0_1 : PySem.W.findIn K (.ref C0) "rows" = some none)
    (na0_2 : PySem.W.findIn K (.ref C0) "headers" = some none)
    (na0_3 : PySem.W.findIn K (.ref C0) "settings_read" = some none)
    (na0_4 : PySem.W.findIn K (.ref C0) "kept_read" = some none)
    (na0_5 : PySem.W.findIn K (.ref C0) "blocks" = some none)
    (na0_6 : PySem.W.findIn K (.ref C0) "loose" = some none)
    {f0 : Addr} {od0 an0 : Option Addr} {sl0 : Array (Option Value)} {oc0 kV0 dc0 pm0 cd0 ct0 : Value} (a0 : PySem.W.nsIn K mainGlobals "is_made_of" = some (some (.ref f0))) (l0 : K.lookup f0 = some ⟨oc0, od0, .func (PySem.W.fnOf "is_made_of" "is_made_of" (defArgs s_is_made_of) (defBody s_is_made_of) (defScope s_is_made_of) .none kV0 dc0 pm0 an0 cd0 ct0), sl0⟩) (c0 : PySem.W.codeIn K cd0 "is_made_of" = true) (k0 : PySem.W.keepIn K (.ref f0) = true)
    {f1 : Addr} {od1 an1 : Option Addr} {sl1 : Array (Option Value)} {oc1 kV1 dc1 pm1 cd1 ct1 : Value} (a1 : PySem.W.nsIn K mainGlobals "is_name" = some (some (.ref f1))) (l1 : K.lookup f1 = some ⟨oc1, od1, .func (PySem.W.fnOf "is_name" "is_name" (defArgs s_is_name) (defBody s_is_name) (defScope s_is_name) .none kV1 dc1 pm1 an1 cd1 ct1), sl1⟩) (c1 : PySem.W.codeIn K cd1 "is_name" = true) (k1 : PySem.W.keepIn K (.ref f1) = true)
    {f2 : Addr} {od2 an2 : Option Addr} {sl2 : Array (Option Value)} {oc2 kV2 dc2 pm2 cd2 ct2 : Value} (a2 : PySem.W.nsIn K mainGlobals "is_place" = some (some (.ref f2))) (l2 : K.lookup f2 = some ⟨oc2, od2, .func (PySem.W.fnOf "is_place" "is_place" (defArgs s_is_place) (defBody s_is_place) (defScope s_is_place) .none kV2 dc2 pm2 an2 cd2 ct2), sl2⟩) (c2 : PySem.W.codeIn K cd2 "is_place" = true) (k2 : PySem.W.keepIn K (.ref f2) = true)
    {f3 : Addr} {od3 an3 : Option Addr} {sl3 : Array (Option Value)} {oc3 kV3 dc3 pm3 cd3 ct3 : Value} (a3 : PySem.W.nsIn K mainGlobals "is_value" = some (some (.ref f3))) (l3 : K.lookup f3 = some ⟨oc3, od3, .func (PySem.W.fnOf "is_value" "is_value" (defArgs s_is_value) (defBody s_is_value) (defScope s_is_value) .none kV3 dc3 pm3 an3 cd3 ct3), sl3⟩) (c3 : PySem.W.codeIn K cd3 "is_value" = true) (k3 : PySem.W.keepIn K (.ref f3) = true)
    {f4 : Addr} {od4 an4 : Option Addr} {sl4 : Array (Option Value)} {oc4 kV4 dc4 pm4 cd4 ct4 : Value} (a4 : PySem.W.nsIn K mainGlobals "is_release_word" = some (some (.ref f4))) (l4 : K.lookup f4 = some ⟨oc4, od4, .func (PySem.W.fnOf "is_release_word" "is_release_word" (defArgs s_is_release_word) (defBody s_is_release_word) (defScope s_is_release_word) .none kV4 dc4 pm4 an4 cd4 ct4), sl4⟩) (c4 : PySem.W.codeIn K cd4 "is_release_word" = true) (k4 : PySem.W.keepIn K (.ref f4) = true)
    {f5 : Addr} {od5 an5 : Option Addr} {sl5 : Array (Option Value)} {oc5 kV5 dc5 pm5 cd5 ct5 : Value} (a5 : PySem.W.nsIn K mainGlobals "is_header" = some (some (.ref f5))) (l5 : K.lookup f5 = some ⟨oc5, od5, .func (PySem.W.fnOf "is_header" "is_header" (defArgs s_is_header) (defBody s_is_header) (defScope s_is_header) .none kV5 dc5 pm5 an5 cd5 ct5), sl5⟩) (c5 : PySem.W.codeIn K cd5 "is_header" = true) (k5 : PySem.W.keepIn K (.ref f5) = true)
    {f6 : Addr} {od6 an6 : Option Addr} {sl6 : Array (Option Value)} {oc6 kV6 dc6 pm6 cd6 ct6 : Value} (a6 : PySem.W.nsIn K mainGlobals "is_loose" = some (some (.ref f6))) (l6 : K.lookup f6 = some ⟨oc6, od6, .func (PySem.W.fnOf "is_loose" "is_loose" (defArgs s_is_loose) (defBody s_is_loose) (defScope s_is_loose) .none kV6 dc6 pm6 an6 cd6 ct6), sl6⟩) (c6 : PySem.W.codeIn K cd6 "is_loose" = true) (k6 : PySem.W.keepIn K (.ref f6) = true)
    {f7 : Addr} {od7 an7 : Option Addr} {sl7 : Array (Option Value)} {oc7 kV7 dc7 pm7 cd7 ct7 : Value} (a7 : PySem.W.nsIn K mainGlobals "read_setting" = some (some (.ref f7))) (l7 : K.lookup f7 = some ⟨oc7, od7, .func (PySem.W.fnOf "read_setting" "read_setting" (defArgs s_read_setting) (defBody s_read_setting) (defScope s_read_setting) .none kV7 dc7 pm7 an7 cd7 ct7), sl7⟩) (c7 : PySem.W.codeIn K cd7 "read_setting" = true) (k7 : PySem.W.keepIn K (.ref f7) = true)
    {f8 : Addr} {od8 an8 : Option Addr} {sl8 : Array (Option Value)} {oc8 kV8 dc8 pm8 cd8 ct8 : Value} (a8 : PySem.W.nsIn K mainGlobals "read_kept" = some (some (.ref f8))) (l8 : K.lookup f8 = some ⟨oc8, od8, .func (PySem.W.fnOf "read_kept" "read_kept" (defArgs s_read_kept) (defBody s_read_kept) (defScope s_read_kept) .none kV8 dc8 pm8 an8 cd8 ct8), sl8⟩) (c8 : PySem.W.codeIn K cd8 "read_kept" = true) (k8 : PySem.W.keepIn K (.ref f8) = true)
    {f9 : Addr} {od9 an9 : Option Addr} {sl9 : Array (Option Value)} {oc9 kV9 dc9 pm9 cd9 ct9 : Value} (a9 : PySem.W.nsIn K mainGlobals "_law_bag" = some (some (.ref f9))) (l9 : K.lookup f9 = some ⟨oc9, od9, .func (PySem.W.fnOf "_law_bag" "_law_bag" (defArgs s_L_bag) (defBody s_L_bag) (defScope s_L_bag) .none kV9 dc9 pm9 an9 cd9 ct9), sl9⟩) (c9 : PySem.W.codeIn K cd9 "_law_bag" = true) (k9 : PySem.W.keepIn K (.ref f9) = true)
    {f10 : Addr} {od10 an10 : Option Addr} {sl10 : Array (Option Value)} {oc10 kV10 dc10 pm10 cd10 ct10 : Value} (a10 : PySem.W.nsIn K mainGlobals "_law_take" = some (some (.ref f10))) (l10 : K.lookup f10 = some ⟨oc10, od10, .func (PySem.W.fnOf "_law_take" "_law_take" (defArgs s_L_take) (defBody s_L_take) (defScope s_L_take) .none kV10 dc10 pm10 an10 cd10 ct10), sl10⟩) (c10 : PySem.W.codeIn K cd10 "_law_take" = true) (k10 : PySem.W.keepIn K (.ref f10) = true)
    {f11 : Addr} {od11 an11 : Option Addr} {sl11 : Array (Option Value)} {oc11 kV11 dc11 pm11 cd11 ct11 : Value} (a11 : PySem.W.nsIn K mainGlobals "_law_of" = some (some (.ref f11))) (l11 : K.lookup f11 = some ⟨oc11, od11, .func (PySem.W.fnOf "_law_of" "_law_of" (defArgs s_L_of) (defBody s_L_of) (defScope s_L_of) .none kV11 dc11 pm11 an11 cd11 ct11), sl11⟩) (c11 : PySem.W.codeIn K cd11 "_law_of" = true) (k11 : PySem.W.keepIn K (.ref f11) = true)
    {f12 : Addr} {od12 an12 : Option Addr} {sl12 : Array (Option Value)} {oc12 kV12 dc12 pm12 cd12 ct12 : Value} (a12 : PySem.W.nsIn K mainGlobals "_law_lines" = some (some (.ref f12))) (l12 : K.lookup f12 = some ⟨oc12, od12, .func (PySem.W.fnOf "_law_lines" "_law_lines" (defArgs s_L_lines) (defBody s_L_lines) (defScope s_L_lines) .none kV12 dc12 pm12 an12 cd12 ct12), sl12⟩) (c12 : PySem.W.codeIn K cd12 "_law_lines" = true) (k12 : PySem.W.keepIn K (.ref f12) = true)
    {f13 : Addr} {od13 an13 : Option Addr} {sl13 : Array (Option Value)} {oc13 kV13 dc13 pm13 cd13 ct13 : Value} (a13 : PySem.W.nsIn K mainGlobals "_law_changed" = some (some (.ref f13))) (l13 : K.lookup f13 = some ⟨oc13, od13, .func (PySem.W.fnOf "_law_changed" "_law_changed" (defArgs s_L_changed) (defBody s_L_changed) (defScope s_L_changed) .none kV13 dc13 pm13 an13 cd13 ct13), sl13⟩) (c13 : PySem.W.codeIn K cd13 "_law_changed" = true) (k13 : PySem.W.keepIn K (.ref f13) = true)
    {f14 : Addr} {od14 an14 : Option Addr} {sl14 : Array (Option Value)} {oc14 kV14 dc14 pm14 cd14 ct14 : Value} (a14 : PySem.W.nsIn K mainGlobals "_law_unlike" = some (some (.ref f14))) (l14 : K.lookup f14 = some ⟨oc14, od14, .func (PySem.W.fnOf "_law_unlike" "_law_unlike" (defArgs s_L_unlike) (defBody s_L_unlike) (defScope s_L_unlike) .none kV14 dc14 pm14 an14 cd14 ct14), sl14⟩) (c14 : PySem.W.codeIn K cd14 "_law_unlike" = true) (k14 : PySem.W.keepIn K (.ref f14) = true)
    {f15 : Addr} {od15 an15 : Option Addr} {sl15 : Array (Option Value)} {oc15 kV15 dc15 pm15 cd15 ct15 : Value} (a15 : PySem.W.nsIn K mainGlobals "law" = some (some (.ref f15))) (l15 : K.lookup f15 = some ⟨oc15, od15, .func (PySem.W.fnOf "law" "law" (defArgs s_law) (defBody s_law) (defScope s_law) .none kV15 dc15 pm15 an15 cd15 ct15), sl15⟩) (c15 : PySem.W.codeIn K cd15 "law" = true) (k15 : PySem.W.keepIn K (.ref f15) = true)
    {f16 : Addr} {od16 an16 : Option Addr} {sl16 : Array (Option Value)} {oc16 kV16 dc16 pm16 cd16 ct16 : Value} (a16 : PySem.W.findIn K (.ref C0) "__init__" = some (some (.ref f16))) (i16 : PySem.W.isFn K (.ref f16) = true) (l16 : K.lookup f16 = some ⟨oc16, od16, .func (PySem.W.fnOf "__init__" "SettingsFile.__init__" (defArgs s_SettingsFile___init__) (defBody s_SettingsFile___init__) (defScope s_SettingsFile___init__) .none kV16 dc16 pm16 an16 cd16 ct16), sl16⟩) (c16 : PySem.W.codeIn K cd16 "SettingsFile.__init__" = true) (k16 : PySem.W.keepIn K (.ref f16) = true)
    {f17 : Addr} {od17 an17 : Option Addr} {sl17 : Array (Option Value)} {oc17 kV17 dc17 pm17 cd17 ct17 : Value} (a17 : PySem.W.findIn K (.ref C0) "take" = some (some (.ref f17))) (i17 : PySem.W.isFn K (.ref f17) = true) (l17 : K.lookup f17 = some ⟨oc17, od17, .func (PySem.W.fnOf "take" "SettingsFile.take" (defArgs s_SettingsFile_take) (defBody s_SettingsFile_take) (defScope s_SettingsFile_take) .none kV17 dc17 pm17 an17 cd17 ct17), sl17⟩) (c17 : PySem.W.codeIn K cd17 "SettingsFile.take" = true) (k17 : PySem.W.keepIn K (.ref f17) = true)
    {f18 : Addr} {od18 an18 : Option Addr} {sl18 : Array (Option Value)} {oc18 kV18 dc18 pm18 cd18 ct18 : Value} (a18 : PySem.W.findIn K (.ref C0) "take_kept" = some (some (.ref f18))) (i18 : PySem.W.isFn K (.ref f18) = true) (l18 : K.lookup f18 = some ⟨oc18, od18, .func (PySem.W.fnOf "take_kept" "SettingsFile.take_kept" (defArgs s_SettingsFile_take_kept) (defBody s_SettingsFile_take_kept) (defScope s_SettingsFile_take_kept) .none kV18 dc18 pm18 an18 cd18 ct18), sl18⟩) (c18 : PySem.W.codeIn K cd18 "SettingsFile.take_kept" = true) (k18 : PySem.W.keepIn K (.ref f18) = true)
    {f19 : Addr} {od19 an19 : Option Addr} {sl19 : Array (Option Value)} {oc19 kV19 dc19 pm19 cd19 ct19 : Value} (a19 : PySem.W.findIn K (.ref C0) "take_header" = some (some (.ref f19))) (i19 : PySem.W.isFn K (.ref f19) = true) (l19 : K.lookup f19 = some ⟨oc19, od19, .func (PySem.W.fnOf "take_header" "SettingsFile.take_header" (defArgs s_SettingsFile_take_header) (defBody s_SettingsFile_take_header) (defScope s_SettingsFile_take_header) .none kV19 dc19 pm19 an19 cd19 ct19), sl19⟩) (c19 : PySem.W.codeIn K cd19 "SettingsFile.take_header" = true) (k19 : PySem.W.keepIn K (.ref f19) = true)
    {f20 : Addr} {od20 an20 : Option Addr} {sl20 : Array (Option Value)} {oc20 kV20 dc20 pm20 cd20 ct20 : Value} (a20 : PySem.W.findIn K (.ref C0) "take_setting" = some (some (.ref f20))) (i20 : PySem.W.isFn K (.ref f20) = true) (l20 : K.lookup f20 = some ⟨oc20, od20, .func (PySem.W.fnOf "take_setting" "SettingsFile.take_setting" (defArgs s_SettingsFile_take_setting) (defBody s_SettingsFile_take_setting) (defScope s_SettingsFile_take_setting) .none kV20 dc20 pm20 an20 cd20 ct20), sl20⟩) (c20 : PySem.W.codeIn K cd20 "SettingsFile.take_setting" = true) (k20 : PySem.W.keepIn K (.ref f20) = true)
    {f21 : Addr} {od21 an21 : Option Addr} {sl21 : Array (Option Value)} {oc21 kV21 dc21 pm21 cd21 ct21 : Value} (a21 : PySem.W.findIn K (.ref C0) "close_block" = some (some (.ref f21))) (i21 : PySem.W.isFn K (.ref f21) = true) (l21 : K.lookup f21 = some ⟨oc21, od21, .func (PySem.W.fnOf "close_block" "SettingsFile.close_block" (defArgs s_SettingsFile_close_block) (defBody s_SettingsFile_close_block) (defScope s_SettingsFile_close_block) .none kV21 dc21 pm21 an21 cd21 ct21), sl21⟩) (c21 : PySem.W.codeIn K cd21 "SettingsFile.close_block" = true) (k21 : PySem.W.keepIn K (.ref f21) = true)
    {p22 : Addr} {rs22 : List Value} (a22 : PySem.W.findIn K (.ref C0) "lines" = some (some (.ref p22))) (pg_22 : PySem.W.specialIn K (.ref p22) "__get__" = some (some (.builtin "property.__get__"))) (pt_22 : PySem.W.takesIn K (.ref p22) = some true)
    {f22 : Addr} {od22 an22 : Option Addr} {sl22 : Array (Option Value)} {oc22 kV22 dc22 pm22 cd22 ct22 : Value} (pr_22 : PySem.W.recIn K p22 "property" = some (.ref f22 :: rs22)) (l22 : K.lookup f22 = some ⟨oc22, od22, .func (PySem.W.fnOf "lines" "SettingsFile.lines" (defArgs s_SettingsFile_lines) (defBody s_SettingsFile_lines) (defScope s_SettingsFile_lines) .none kV22 dc22 pm22 an22 cd22 ct22), sl22⟩) (c22 : PySem.W.codeIn K cd22 "SettingsFile.lines" = true) (k22 : PySem.W.keepIn K (.ref f22) = true)
    {f23 : Addr} {od23 an23 : Option Addr} {sl23 : Array (Option Value)} {oc23 kV23 dc23 pm23 cd23 ct23 : Value} (a23 : PySem.W.findIn K (.ref C0) "sections" = some (some (.ref f23))) (i23 : PySem.W.isFn K (.ref f23) = true) (l23 : K.lookup f23 = some ⟨oc23, od23, .func (PySem.W.fnOf "sections" "SettingsFile.sections" (defArgs s_SettingsFile_sections) (defBody s_SettingsFile_sections) (defScope s_SettingsFile_sections) .none kV23 dc23 pm23 an23 cd23 ct23), sl23⟩) (c23 : PySem.W.codeIn K cd23 "SettingsFile.sections" = true) (k23 : PySem.W.keepIn K (.ref f23) = true)
    {f24 : Addr} {od24 an24 : Option Addr} {sl24 : Array (Option Value)} {oc24 kV24 dc24 pm24 cd24 ct24 : Value} (a24 : PySem.W.findIn K (.ref C0) "pairs" = some (some (.ref f24))) (i24 : PySem.W.isFn K (.ref f24) = true) (l24 : K.lookup f24 = some ⟨oc24, od24, .func (PySem.W.fnOf "pairs" "SettingsFile.pairs" (defArgs s_SettingsFile_pairs) (defBody s_SettingsFile_pairs) (defScope s_SettingsFile_pairs) .none kV24 dc24 pm24 an24 cd24 ct24), sl24⟩) (c24 : PySem.W.codeIn K cd24 "SettingsFile.pairs" = true) (k24 : PySem.W.keepIn K (.ref f24) = true)
    {f25 : Addr} {od25 an25 : Option Addr} {sl25 : Array (Option Value)} {oc25 kV25 dc25 pm25 cd25 ct25 : Value} (a25 : PySem.W.findIn K (.ref C0) "__len__" = some (some (.ref f25))) (i25 : PySem.W.isFn K (.ref f25) = true) (l25 : K.lookup f25 = some ⟨oc25, od25, .func (PySem.W.fnOf "__len__" "SettingsFile.__len__" (defArgs s_SettingsFile___len__) (defBody s_SettingsFile___len__) (defScope s_SettingsFile___len__) .none kV25 dc25 pm25 an25 cd25 ct25), sl25⟩) (c25 : PySem.W.codeIn K cd25 "SettingsFile.__len__" = true) (k25 : PySem.W.keepIn K (.ref f25) = true)
    {f26 : Addr} {od26 an26 : Option Addr} {sl26 : Array (Option Value)} {oc26 kV26 dc26 pm26 cd26 ct26 : Value} (a26 : PySem.W.findIn K (.ref C0) "__contains__" = some (some (.ref f26))) (i26 : PySem.W.isFn K (.ref f26) = true) (l26 : K.lookup f26 = some ⟨oc26, od26, .func (PySem.W.fnOf "__contains__" "SettingsFile.__contains__" (defArgs s_SettingsFile___contains__) (defBody s_SettingsFile___contains__) (defScope s_SettingsFile___contains__) .none kV26 dc26 pm26 an26 cd26 ct26), sl26⟩) (c26 : PySem.W.codeIn K cd26 "SettingsFile.__contains__" = true) (k26 : PySem.W.keepIn K (.ref f26) = true)
    {f27 : Addr} {od27 an27 : Option Addr} {sl27 : Array (Option Value)} {oc27 kV27 dc27 pm27 cd27 ct27 : Value} (a27 : PySem.W.findIn K (.ref C0) "__eq__" = some (some (.ref f27))) (i27 : PySem.W.isFn K (.ref f27) = true) (l27 : K.lookup f27 = some ⟨oc27, od27, .func (PySem.W.fnOf "__eq__" "SettingsFile.__eq__" (defArgs s_SettingsFile___eq__) (defBody s_SettingsFile___eq__) (defScope s_SettingsFile___eq__) .none kV27 dc27 pm27 an27 cd27 ct27), sl27⟩) (c27 : PySem.W.codeIn K cd27 "SettingsFile.__eq__" = true) (k27 : PySem.W.keepIn K (.ref f27) = true)
    {f28 : Addr} {od28 an28 : Option Addr} {sl28 : Array (Option Value)} {oc28 kV28 dc28 pm28 cd28 ct28 : Value} (a28 : PySem.W.findIn K (.ref C0) "__str__" = some (some (.ref f28))) (i28 : PySem.W.isFn K (.ref f28) = true) (l28 : K.lookup f28 = some ⟨oc28, od28, .func (PySem.W.fnOf "__str__" "SettingsFile.__str__" (defArgs s_SettingsFile___str__) (defBody s_SettingsFile___str__) (defScope s_SettingsFile___str__) .none kV28 dc28 pm28 an28 cd28 ct28), sl28⟩) (c28 : PySem.W.codeIn K cd28 "SettingsFile.__str__" = true) (k28 : PySem.W.keepIn K (.ref f28) = true)
    {t0 : Tok} (q0 : PySem.W.nsIn K mainGlobals "LONGEST_NAME" = some (some (.int 8 t0)))
    {t1 : Tok} (q1 : PySem.W.nsIn K mainGlobals "LETTERS" = some (some (.str "abcdefghijklmnopqrstuvwxyz" t1)))
    {t2 : Tok} (q2 : PySem.W.nsIn K mainGlobals "LONGEST_VALUE" = some (some (.int 12 t2)))
    {t3 : Tok} (q3 : PySem.W.nsIn K mainGlobals "DIGITS" = some (some (.str "0123456789" t3)))
    {t4 : Tok} (q4 : PySem.W.nsIn K mainGlobals "LONGEST_RELEASE" = some (some (.int 2 t4)))
    {t5 : Tok} (q5 : PySem.W.nsIn K mainGlobals "KEPT_MARK" = some (some (.str "#~" t5)))
    (z0 : PySem.W.nsIn K mainGlobals "len" = some none)
    (z1 : PySem.W.nsIn K mainGlobals "isinstance" = some none)
    (z2 : PySem.W.nsIn K mainGlobals "str" = some none)
    (z3 : PySem.W.nsIn K mainGlobals "all" = some none)
    (z4 : PySem.W.nsIn K mainGlobals "int" = some none)
    (z5 : PySem.W.nsIn K mainGlobals "enumerate" = some none)
    (z6 : PySem.W.nsIn K mainGlobals "abs" = some none)
    (z7 : PySem.W.nsIn K mainGlobals "list" = some none)
    (z8 : PySem.W.nsIn K mainGlobals "range" = some none)
    (z9 : PySem.W.nsIn K mainGlobals "max" = some none)
    (z10 : PySem.W.nsIn K mainGlobals "min" = some none) : Top K mg := {
    C_SettingsFile := C0, cl_SettingsFile := ⟨pg0, hd0, po0, sa0⟩, g_SettingsFile := PySem.W.mg_of X G aC0,
    nb_SettingsFile := nb0,
    ne_SettingsFile := ne0, ro_SettingsFile := ro0, ca_SettingsFile := ca0, cg_SettingsFile := cg0, ct_SettingsFile := ck0,
    mo_SettingsFile_NoneType := mo0_NoneType, ki_SettingsFile_NoneType := kit_off lc0 (l := ["NoneType", "object"]) (by decide +kernel),
    mo_SettingsFile_bool := mo0_bool, ki_SettingsFile_bool := kit_off lc0 (l := ["bool", "int", "object"]) (by decide +kernel),
    mo_SettingsFile_int := mo0_int, ki_SettingsFile_int := kit_off lc0 (l := ["int", "object"]) (by decide +kernel),
    mo_SettingsFile_str := mo0_str, ki_SettingsFile_str := kit_off lc0 (l := ["str", "object"]) (by decide +kernel),
    mo_SettingsFile_list := mo0_list, ki_SettingsFile_list := kit_off lc0 (l := ["list", "object"]) (by decide +kernel),
    mo_SettingsFile_tuple := mo0_tuple, ki_SettingsFile_tuple := kit_off lc0 (l := ["tuple", "object"]) (by decide +kernel),
    no_SettingsFile_text := na0_0,
    no_SettingsFile_rows := na0_1,
    no_SettingsFile_headers := na0_2,
    no_SettingsFile_settings_read := na0_3,
    no_SettingsFile_kept_read := na0_4,
    no_SettingsFile_blocks := na0_5,
    no_SettingsFile_loose := na0_6,
    f_is_made_of := f0, d_is_made_of := _, F_is_made_of := fun_mk (st := s_is_made_of) l0 c0 k0, b_is_made_of := (fun_mk (st := s_is_made_of) l0 c0 k0).binds (ps := ["thing", "characters", "most"]) (fun _ _ _ _ _ _ us hl => match us, hl with | [_, _, _], _ => rfl), g_is_made_of := PySem.W.mg_of X G a0,
    f_is_name := f1, d_is_name := _, F_is_name := fun_mk (st := s_is_name) l1 c1 k1, b_is_name := (fun_mk (st := s_is_name) l1 c1 k1).binds (ps := ["thing"]) (fun _ _ _ _ _ _ us hl => match us, hl with | [_], _ => rfl), g_is_name := PySem.W.mg_of X G a1,
    f_is_place := f2, d_is_place := _, F_is_place := fun_mk (st := s_is_place) l2 c2 k2, b_is_place := (fun_mk (st := s_is_place) l2 c2 k2).binds (ps := ["thing"]) (fun _ _ _ _ _ _ us hl => match us, hl with | [_], _ => rfl), g_is_place := PySem.W.mg_of X G a2,
    f_is_value := f3, d_is_value := _, F_is_value := fun_mk (st := s_is_value) l3 c3 k3, b_is_value := (fun_mk (st := s_is_value) l3 c3 k3).binds (ps := ["thing"]) (fun _ _ _ _ _ _ us hl => match us, hl with | [_], _ => rfl), g_is_value := PySem.W.mg_of X G a3,
    f_is_release_word := f4, d_is_release_word := _, F_is_release_word := fun_mk (st := s_is_release_word) l4 c4 k4, b_is_release_word := (fun_mk (st := s_is_release_word) l4 c4 k4).binds (ps := ["thing"]) (fun _ _ _ _ _ _ us hl => match us, hl with | [_], _ => rfl), g_is_release_word := PySem.W.mg_of X G a4,
    f_is_header := f5, d_is_header := _, F_is_header := fun_mk (st := s_is_header) l5 c5 k5, b_is_header := (fun_mk (st := s_is_header) l5 c5 k5).binds (ps := ["line"]) (fun _ _ _ _ _ _ us hl => match us, hl with | [_], _ => rfl), g_is_header := PySem.W.mg_of X G a5,
    f_is_loose := f6, d_is_loose := _, F_is_loose := fun_mk (st := s_is_loose) l6 c6 k6, b_is_loose := (fun_mk (st := s_is_loose) l6 c6 k6).binds (ps := ["line"]) (fun _ _ _ _ _ _ us hl => match us, hl with | [_], _ => rfl), g_is_loose := PySem.W.mg_of X G a6,
    f_read_setting := f7, d_read_setting := _, F_read_setting := fun_mk (st := s_read_setting) l7 c7 k7, b_read_setting := (fun_mk (st := s_read_setting) l7 c7 k7).binds (ps := ["line"]) (fun _ _ _ _ _ _ us hl => match us, hl with | [_], _ => rfl), g_read_setting := PySem.W.mg_of X G a7,
    f_read_kept := f8, d_read_kept := _, F_read_kept := fun_mk (st := s_read_kept) l8 c8 k8, b_read_kept := (fun_mk (st := s_read_kept) l8 c8 k8).binds (ps := ["line"]) (fun _ _ _ _ _ _ us hl => match us, hl with | [_], _ => rfl), g_read_kept := PySem.W.mg_of X G a8,
    f__law_bag := f9, d__law_bag := _, F__law_bag := fun_mk (st := s_L_bag) l9 c9 k9, b__law_bag := (fun_mk (st := s_L_bag) l9 c9 k9).binds (ps := ["_law_script", "_law_at"]) (fun _ _ _ _ _ _ us hl => match us, hl with | [_, _], _ => rfl), g__law_bag := PySem.W.mg_of X G a9,
    f__law_take := f10, d__law_take := _, F__law_take := fun_mk (st := s_L_take) l10 c10 k10, b__law_take := (fun_mk (st := s_L_take) l10 c10 k10).binds (ps := ["_law_bag_here", "_law_many"]) (fun _ _ _ _ _ _ us hl => match us, hl with | [_, _], _ => rfl), g__law_take := PySem.W.mg_of X G a10,
    f__law_of := f11, d__law_of := _, F__law_of := fun_mk (st := s_L_of) l11 c11 k11, b__law_of := (fun_mk (st := s_L_of) l11 c11 k11).binds (ps := ["_law_bag_here", "_law_some"]) (fun _ _ _ _ _ _ us hl => match us, hl with | [_, _], _ => rfl), g__law_of := PySem.W.mg_of X G a11,
    f__law_lines := f12, d__law_lines := _, F__law_lines := fun_mk (st := s_L_lines) l12 c12 k12, b__law_lines := (fun_mk (st := s_L_lines) l12 c12 k12).binds (ps := ["_law_bag_here"]) (fun _ _ _ _ _ _ us hl => match us, hl with | [_], _ => rfl), g__law_lines := PySem.W.mg_of X G a12,
    f__law_changed := f13, d__law_changed := _, F__law_changed := fun_mk (st := s_L_changed) l13 c13 k13, b__law_changed := (fun_mk (st := s_L_changed) l13 c13 k13).binds (ps := ["_law_bag_here", "_law_lines_here"]) (fun _ _ _ _ _ _ us hl => match us, hl with | [_, _], _ => rfl), g__law_changed := PySem.W.mg_of X G a13,
    f__law_unlike := f14, d__law_unlike := _, F__law_unlike := fun_mk (st := s_L_unlike) l14 c14 k14, b__law_unlike := (fun_mk (st := s_L_unlike) l14 c14 k14).binds (ps := ["_law_file", "_law_whole"]) (fun _ _ _ _ _ _ us hl => match us, hl with | [_, _], _ => rfl), g__law_unlike := PySem.W.mg_of X G a14,
    f_law := f15, d_law := _, F_law := fun_mk (st := s_law) l15 c15 k15, b_law := (fun_mk (st := s_law) l15 c15 k15).binds (ps := ["_law_script"]) (fun _ _ _ _ _ _ us hl => match us, hl with | [_], _ => rfl), g_law := PySem.W.mg_of X G a15,
    f_SettingsFile___init__ := f16, d_SettingsFile___init__ := _, F_SettingsFile___init__ := fun_mk (st := s_SettingsFile___init__) l16 c16 k16, b_SettingsFile___init__ := (fun_mk (st := s_SettingsFile___init__) l16 c16 k16).binds (ps := ["self", "text"]) (fun _ _ _ _ _ _ us hl => match us, hl with | [_, _], _ => rfl), mk_SettingsFile := ⟨mk0, a16, i16, kc0⟩,
    f_SettingsFile_take := f17, d_SettingsFile_take := _, F_SettingsFile_take := fun_mk (st := s_SettingsFile_take) l17 c17 k17, b_SettingsFile_take := (fun_mk (st := s_SettingsFile_take) l17 c17 k17).binds (ps := ["self", "line"]) (fun _ _ _ _ _ _ us hl => match us, hl with | [_, _], _ => rfl), me_SettingsFile_take := ⟨a17, i17, k17⟩,
    f_SettingsFile_take_kept := f18, d_SettingsFile_take_kept := _, F_SettingsFile_take_kept := fun_mk (st := s_SettingsFile_take_kept) l18 c18 k18, b_SettingsFile_take_kept := (fun_mk (st := s_SettingsFile_take_kept) l18 c18 k18).binds (ps := ["self", "line"]) (fun _ _ _ _ _ _ us hl => match us, hl with | [_, _], _ => rfl), me_SettingsFile_take_kept := ⟨a18, i18, k18⟩,
    f_SettingsFile_take_header := f19, d_SettingsFile_take_header := _, F_SettingsFile_take_header := fun_mk (st := s_SettingsFile_take_header) l19 c19 k19, b_SettingsFile_take_header := (fun_mk (st := s_SettingsFile_take_header) l19 c19 k19).binds (ps := ["self", "name"]) (fun _ _ _ _ _ _ us hl => match us, hl with | [_, _], _ => rfl), me_SettingsFile_take_header := ⟨a19, i19, k19⟩,
    f_SettingsFile_take_setting := f20, d_SettingsFile_take_setting := _, F_SettingsFile_take_setting := fun_mk (st := s_SettingsFile_take_setting) l20 c20 k20, b_SettingsFile_take_setting := (fun_mk (st := s_SettingsFile_take_setting) l20 c20 k20).binds (ps := ["self", "key", "value"]) (fun _ _ _ _ _ _ us hl => match us, hl with | [_, _, _], _ => rfl), me_SettingsFile_take_setting := ⟨a20, i20, k20⟩,
    f_SettingsFile_close_block := f21, d_SettingsFile_close_block := _, F_SettingsFile_close_block := fun_mk (st := s_SettingsFile_close_block) l21 c21 k21, b_SettingsFile_close_block := (fun_mk (st := s_SettingsFile_close_block) l21 c21 k21).binds (ps := ["self", "thing"]) (fun _ _ _ _ _ _ us hl => match us, hl with | [_, _], _ => rfl), me_SettingsFile_close_block := ⟨a21, i21, k21⟩,
    f_SettingsFile_lines := f22, d_SettingsFile_lines := _, F_SettingsFile_lines := fun_mk (st := s_SettingsFile_lines) l22 c22 k22, b_SettingsFile_lines := (fun_mk (st := s_SettingsFile_lines) l22 c22 k22).binds (ps := ["self"]) (fun _ _ _ _ _ _ us hl => match us, hl with | [_], _ => rfl), p_SettingsFile_lines := p22, pr_SettingsFile_lines := ⟨a22, pg_22, pt_22, rs22, pr_22⟩,
    f_SettingsFile_sections := f23, d_SettingsFile_sections := _, F_SettingsFile_sections := fun_mk (st := s_SettingsFile_sections) l23 c23 k23, b_SettingsFile_sections := (fun_mk (st := s_SettingsFile_sections) l23 c23 k23).binds (ps := ["self"]) (fun _ _ _ _ _ _ us hl => match us, hl with | [_], _ => rfl), me_SettingsFile_sections := ⟨a23, i23, k23⟩,
    f_SettingsFile_pairs := f24, d_SettingsFile_pairs := _, F_SettingsFile_pairs := fun_mk (st := s_SettingsFile_pairs) l24 c24 k24, b_SettingsFile_pairs := (fun_mk (st := s_SettingsFile_pairs) l24 c24 k24).binds (ps := ["self"]) (fun _ _ _ _ _ _ us hl => match us, hl with | [_], _ => rfl), me_SettingsFile_pairs := ⟨a24, i24, k24⟩,
    f_SettingsFile___len__ := f25, d_SettingsFile___len__ := _, F_SettingsFile___len__ := fun_mk (st := s_SettingsFile___len__) l25 c25 k25, b_SettingsFile___len__ := (fun_mk (st := s_SettingsFile___len__) l25 c25 k25).binds (ps := ["self"]) (fun _ _ _ _ _ _ us hl => match us, hl with | [_], _ => rfl), me_SettingsFile___len__ := ⟨a25, i25, k25⟩,
    f_SettingsFile___contains__ := f26, d_SettingsFile___contains__ := _, F_SettingsFile___contains__ := fun_mk (st := s_SettingsFile___contains__) l26 c26 k26, b_SettingsFile___contains__ := (fun_mk (st := s_SettingsFile___contains__) l26 c26 k26).binds (ps := ["self", "x"]) (fun _ _ _ _ _ _ us hl => match us, hl with | [_, _], _ => rfl), me_SettingsFile___contains__ := ⟨a26, i26, k26⟩,
    f_SettingsFile___eq__ := f27, d_SettingsFile___eq__ := _, F_SettingsFile___eq__ := fun_mk (st := s_SettingsFile___eq__) l27 c27 k27, b_SettingsFile___eq__ := (fun_mk (st := s_SettingsFile___eq__) l27 c27 k27).binds (ps := ["self", "other"]) (fun _ _ _ _ _ _ us hl => match us, hl with | [_, _], _ => rfl), me_SettingsFile___eq__ := ⟨a27, i27, k27⟩,
    f_SettingsFile___str__ := f28, d_SettingsFile___str__ := _, F_SettingsFile___str__ := fun_mk (st := s_SettingsFile___str__) l28 c28 k28, b_SettingsFile___str__ := (fun_mk (st := s_SettingsFile___str__) l28 c28 k28).binds (ps := ["self"]) (fun _ _ _ _ _ _ us hl => match us, hl with | [_], _ => rfl), me_SettingsFile___str__ := ⟨a28, i28, k28⟩,
    t_LONGEST_NAME := t0, g_LONGEST_NAME := PySem.W.mg_of X G q0,
    t_LETTERS := t1, g_LETTERS := PySem.W.mg_of X G q1,
    t_LONGEST_VALUE := t2, g_LONGEST_VALUE := PySem.W.mg_of X G q2,
    t_DIGITS := t3, g_DIGITS := PySem.W.mg_of X G q3,
    t_LONGEST_RELEASE := t4, g_LONGEST_RELEASE := PySem.W.mg_of X G q4,
    t_KEPT_MARK := t5, g_KEPT_MARK := PySem.W.mg_of X G q5,
    m_len := PySem.W.mg_none_of X G z0,
    m_isinstance := PySem.W.mg_none_of X G z1,
    m_str := PySem.W.mg_none_of X G z2,
    m_all := PySem.W.mg_none_of X G z3,
    m_int := PySem.W.mg_none_of X G z4,
    m_enumerate := PySem.W.mg_none_of X G z5,
    m_abs := PySem.W.mg_none_of X G z6,
    m_list := PySem.W.mg_none_of X G z7,
    m_range := PySem.W.mg_none_of X G z8,
    m_max := PySem.W.mg_none_of X G z9,
    m_min := PySem.W.mg_none_of X G z10 }
theorem all_mk {l : PySem.W.OpenLaw} {w : World} {K : PySem.W.Frag} {h : Heap} {mg : Str → Option Value} {fa : Addr} (X : K.In h) (G : h.Ns mainGlobals mg) (hfa : mg "law" = some (.ref fa))
    {C0 : Addr} (aC0 : PySem.W.nsIn K mainGlobals "SettingsFile" = some (some (.ref C0))) (pg0 : PySem.W.plainGet K C0 Str.empty = true) (hd0 : PySem.W.hasDictIn K C0 = true) (po0 : PySem.W.plainOver K C0 = true) (sa0 : PySem.W.findIn K (.ref C0) "__setattr__" = some (some (.builtin "object.__setattr__"))) (mk0 : PySem.W.makesIn K C0 = true) (kc0 : PySem.W.keepIn K (.ref C0) = true)
    (nb0 : PySem.W.findIn K (.ref C0) "__bool__" = some none)
    (ne0 : PySem.W.findIn K (.ref C0) "__ne__" = some (some (.builtin "object.__ne__"))) (ro0 : PySem.W.mroIn K C0 (.type "object") = some true) (ca0 : PySem.W.findIn K (.ref C0) "__class__" = some (some (.builtin "object.__class__"))) (cg0 : PySem.W.specialIn K (.builtin "object.__class__") "__get__" = some (some (.builtin "getset_descriptor.__get__"))) (ck0 : PySem.W.takesIn K (.builtin "object.__class__") = some true)
    {ldd0 : Option Addr} {lcd0 : ClassData} {lsl0 : Array (Option Value)} (lc0 : K.lookup C0 = some ⟨.type "type", ldd0, .cls lcd0, lsl0⟩)
    (mo0_NoneType : PySem.W.mroIn K C0 (.type "NoneType") = some false)
    (mo0_bool : PySem.W.mroIn K C0 (.type "bool") = some false)
    (mo0_int : PySem.W.mroIn K C0 (.type "int") = some false)
    (mo0_str : PySem.W.mroIn K C0 (.type "str") = some false)
    (mo0_list : PySem.W.mroIn K C0 (.type "list") = some false)
    (mo0_tuple : PySem.W.mroIn K C0 (.type "tuple") = some false)
    (na0_0 : PySem.W.findIn K (.ref C0) "text" = some none)
    (na0_1 : PySem.W.findIn K (.ref C0) "rows" = some none)
    (na0_2 : PySem.W.findIn K (.ref C0) "headers" = some none)
    (na0_3 : PySem.W.findIn K (.ref C0) "settings_read" = some none)
    (na0_4 : PySem.W.findIn K (.ref C0) "kept_read" = some none)
    (na0_5 : PySem.W.findIn K (.ref C0) "blocks" = some none)
    (na0_6 : PySem.W.findIn K (.ref C0) "loose" = some none)
    {f0 : Addr} {od0 an0 : Option Addr} {sl0 : Array (Option Value)} {oc0 kV0 dc0 pm0 cd0 ct0 : Value} (a0 : PySem.W.nsIn K mainGlobals "is_made_of" = some (some (.ref f0))) (l0 : K.lookup f0 = some ⟨oc0, od0, .func (PySem.W.fnOf "is_made_of" "is_made_of" (defArgs s_is_made_of) (defBody s_is_made_of) (defScope s_is_made_of) .none kV0 dc0 pm0 an0 cd0 ct0), sl0⟩) (c0 : PySem.W.codeIn K cd0 "is_made_of" = true) (k0 : PySem.W.keepIn K (.ref f0) = true)
    {f1 : Addr} {od1 an1 : Option Addr} {sl1 : Array (Option Value)} {oc1 kV1 dc1 pm1 cd1 ct1 : Value} (a1 : PySem.W.nsIn K mainGlobals "is_name" = some (some (.ref f1))) (l1 : K.lookup f1 = some ⟨oc1, od1, .func (PySem.W.fnOf "is_name" "is_name" (defArgs s_is_name) (defBody s_is_name) (defScope s_is_name) .none kV1 dc1 pm1 an1 cd1 ct1), sl1⟩) (c1 : PySem.W.codeIn K cd1 "is_name" = true) (k1 : PySem.W.keepIn K (.ref f1) = true)
    {f2 : Addr} {od2 an2 : Option Addr} {sl2 : Array (Option Value)} {oc2 kV2 dc2 pm2 cd2 ct2 : Value} (a2 : PySem.W.nsIn K mainGlobals "is_place" = some (some (.ref f2))) (l2 : K.lookup f2 = some ⟨oc2, od2, .func (PySem.W.fnOf "is_place" "is_place" (defArgs s_is_place) (defBody s_is_place) (defScope s_is_place) .none kV2 dc2 pm2 an2 cd2 ct2), sl2⟩) (c2 : PySem.W.codeIn K cd2 "is_place" = true) (k2 : PySem.W.keepIn K (.ref f2) = true)
    {f3 : Addr} {od3 an3 : Option Addr} {sl3 : Array (Option Value)} {oc3 kV3 dc3 pm3 cd3 ct3 : Value} (a3 : PySem.W.nsIn K mainGlobals "is_value" = some (some (.ref f3))) (l3 : K.lookup f3 = some ⟨oc3, od3, .func (PySem.W.fnOf "is_value" "is_value" (defArgs s_is_value) (defBody s_is_value) (defScope s_is_value) .none kV3 dc3 pm3 an3 cd3 ct3), sl3⟩) (c3 : PySem.W.codeIn K cd3 "is_value" = true) (k3 : PySem.W.keepIn K (.ref f3) = true)
    {f4 : Addr} {od4 an4 : Option Addr} {sl4 : Array (Option Value)} {oc4 kV4 dc4 pm4 cd4 ct4 : Value} (a4 : PySem.W.nsIn K mainGlobals "is_release_word" = some (some (.ref f4))) (l4 : K.lookup f4 = some ⟨oc4, od4, .func (PySem.W.fnOf "is_release_word" "is_release_word" (defArgs s_is_release_word) (defBody s_is_release_word) (defScope s_is_release_word) .none kV4 dc4 pm4 an4 cd4 ct4), sl4⟩) (c4 : PySem.W.codeIn K cd4 "is_release_word" = true) (k4 : PySem.W.keepIn K (.ref f4) = true)
    {f5 : Addr} {od5 an5 : Option Addr} {sl5 : Array (Option Value)} {oc5 kV5 dc5 pm5 cd5 ct5 : Value} (a5 : PySem.W.nsIn K mainGlobals "is_header" = some (some (.ref f5))) (l5 : K.lookup f5 = some ⟨oc5, od5, .func (PySem.W.fnOf "is_header" "is_header" (defArgs s_is_header) (defBody s_is_header) (defScope s_is_header) .none kV5 dc5 pm5 an5 cd5 ct5), sl5⟩) (c5 : PySem.W.codeIn K cd5 "is_header" = true) (k5 : PySem.W.keepIn K (.ref f5) = true)
    {f6 : Addr} {od6 an6 : Option Addr} {sl6 : Array (Option Value)} {oc6 kV6 dc6 pm6 cd6 ct6 : Value} (a6 : PySem.W.nsIn K mainGlobals "is_loose" = some (some (.ref f6))) (l6 : K.lookup f6 = some ⟨oc6, od6, .func (PySem.W.fnOf "is_loose" "is_loose" (defArgs s_is_loose) (defBody s_is_loose) (defScope s_is_loose) .none kV6 dc6 pm6 an6 cd6 ct6), sl6⟩) (c6 : PySem.W.codeIn K cd6 "is_loose" = true) (k6 : PySem.W.keepIn K (.ref f6) = true)
    {f7 : Addr} {od7 an7 : Option Addr} {sl7 : Array (Option Value)} {oc7 kV7 dc7 pm7 cd7 ct7 : Value} (a7 : PySem.W.nsIn K mainGlobals "read_setting" = some (some (.ref f7))) (l7 : K.lookup f7 = some ⟨oc7, od7, .func (PySem.W.fnOf "read_setting" "read_setting" (defArgs s_read_setting) (defBody s_read_setting) (defScope s_read_setting) .none kV7 dc7 pm7 an7 cd7 ct7), sl7⟩) (c7 : PySem.W.codeIn K cd7 "read_setting" = true) (k7 : PySem.W.keepIn K (.ref f7) = true)
    {f8 : Addr} {od8 an8 : Option Addr} {sl8 : Array (Option Value)} {oc8 kV8 dc8 pm8 cd8 ct8 : Value} (a8 : PySem.W.nsIn K mainGlobals "read_kept" = some (some (.ref f8))) (l8 : K.lookup f8 = some ⟨oc8, od8, .func (PySem.W.fnOf "read_kept" "read_kept" (defArgs s_read_kept) (defBody s_read_kept) (defScope s_read_kept) .none kV8 dc8 pm8 an8 cd8 ct8), sl8⟩) (c8 : PySem.W.codeIn K cd8 "read_kept" = true) (k8 : PySem.W.keepIn K (.ref f8) = true)
    {f9 : Addr} {od9 an9 : Option Addr} {sl9 : Array (Option Value)} {oc9 kV9 dc9 pm9 cd9 ct9 : Value} (a9 : PySem.W.nsIn K mainGlobals "_law_bag" = some (some (.ref f9))) (l9 : K.lookup f9 = some ⟨oc9, od9, .func (PySem.W.fnOf "_law_bag" "_law_bag" (defArgs s_L_bag) (defBody s_L_bag) (defScope s_L_bag) .none kV9 dc9 pm9 an9 cd9 ct9), sl9⟩) (c9 : PySem.W.codeIn K cd9 "_law_bag" = true) (k9 : PySem.W.keepIn K (.ref f9) = true)
    {f10 : Addr} {od10 an10 : Option Addr} {sl10 : Array (Option Value)} {oc10 kV10 dc10 pm10 cd10 ct10 : Value} (a10 : PySem.W.nsIn K mainGlobals "_law_take" = some (some (.ref f10))) (l10 : K.lookup f10 = some ⟨oc10, od10, .func (PySem.W.fnOf "_law_take" "_law_take" (defArgs s_L_take) (defBody s_L_take) (defScope s_L_take) .none kV10 dc10 pm10 an10 cd10 ct10), sl10⟩) (c10 : PySem.W.codeIn K cd10 "_law_take" = true) (k10 : PySem.W.keepIn K (.ref f10) = true)
    {f11 : Addr} {od11 an11 : Option Addr} {sl11 : Array (Option Value)} {oc11 kV11 dc11 pm11 cd11 ct11 : Value} (a11 : PySem.W.nsIn K mainGlobals "_law_of" = some (some (.ref f11))) (l11 : K.lookup f11 = some ⟨oc11, od11, .func (PySem.W.fnOf "_law_of" "_law_of" (defArgs s_L_of) (defBody s_L_of) (defScope s_L_of) .none kV11 dc11 pm11 an11 cd11 ct11), sl11⟩) (c11 : PySem.W.codeIn K cd11 "_law_of" = true) (k11 : PySem.W.keepIn K (.ref f11) = true)
    {f12 : Addr} {od12 an12 : Option Addr} {sl12 : Array (Option Value)} {oc12 kV12 dc12 pm12 cd12 ct12 : Value} (a12 : PySem.W.nsIn K mainGlobals "_law_lines" = some (some (.ref f12))) (l12 : K.lookup f12 = some ⟨oc12, od12, .func (PySem.W.fnOf "_law_lines" "_law_lines" (defArgs s_L_lines) (defBody s_L_lines) (defScope s_L_lines) .none kV12 dc12 pm12 an12 cd12 ct12), sl12⟩) (c12 : PySem.W.codeIn K cd12 "_law_lines" = true) (k12 : PySem.W.keepIn K (.ref f12) = true)
    {f13 : Addr} {od13 an13 : Option Addr} {sl13 : Array (Option Value)} {oc13 kV13 dc13 pm13 cd13 ct13 : Value} (a13 : PySem.W.nsIn K mainGlobals "_law_changed" = some (some (.ref f13))) (l13 : K.lookup f13 = some ⟨oc13, od13, .func (PySem.W.fnOf "_law_changed" "_law_changed" (defArgs s_L_changed) (defBody s_L_changed) (defScope s_L_changed) .none kV13 dc13 pm13 an13 cd13 ct13), sl13⟩) (c13 : PySem.W.codeIn K cd13 "_law_changed" = true) (k13 : PySem.W.keepIn K (.ref f13) = true)
    {f14 : Addr} {od14 an14 : Option Addr} {sl14 : Array (Option Value)} {oc14 kV14 dc14 pm14 cd14 ct14 : Value} (a14 : PySem.W.nsIn K mainGlobals "_law_unlike" = some (some (.ref f14))) (l14 : K.lookup f14 = some ⟨oc14, od14, .func (PySem.W.fnOf "_law_unlike" "_law_unlike" (defArgs s_L_unlike) (defBody s_L_unlike) (defScope s_L_unlike) .none kV14 dc14 pm14 an14 cd14 ct14), sl14⟩) (c14 : PySem.W.codeIn K cd14 "_law_unlike" = true) (k14 : PySem.W.keepIn K (.ref f14) = true)
    {f15 : Addr} {od15 an15 : Option Addr} {sl15 : Array (Option Value)} {oc15 kV15 dc15 pm15 cd15 ct15 : Value} (a15 : PySem.W.nsIn K mainGlobals "law" = some (some (.ref f15))) (l15 : K.lookup f15 = some ⟨oc15, od15, .func (PySem.W.fnOf "law" "law" (defArgs s_law) (defBody s_law) (defScope s_law) .none kV15 dc15 pm15 an15 cd15 ct15), sl15⟩) (c15 : PySem.W.codeIn K cd15 "law" = true) (k15 : PySem.W.keepIn K (.ref f15) = true)
    {f16 : Addr} {od16 an16 : Option Addr} {sl16 : Array (Option Value)} {oc16 kV16 dc16 pm16 cd16 ct16 : Value} (a16 : PySem.W.findIn K (.ref C0) "__init__" = some (some (.ref f16))) (i16 : PySem.W.isFn K (.ref f16) = true) (l16 : K.lookup f16 = some ⟨oc16, od16, .func (PySem.W.fnOf "__init__" "SettingsFile.__init__" (defArgs s_SettingsFile___init__) (defBody s_SettingsFile___init__) (defScope s_SettingsFile___init__) .none kV16 dc16 pm16 an16 cd16 ct16), sl16⟩) (c16 : PySem.W.codeIn K cd16 "SettingsFile.__init__" = true) (k16 : PySem.W.keepIn K (.ref f16) = true)
    {f17 : Addr} {od17 an17 : Option Addr} {sl17 : Array (Option Value)} {oc17 kV17 dc17 pm17 cd17 ct17 : Value} (a17 : PySem.W.findIn K (.ref C0) "take" = some (some (.ref f17))) (i17 : PySem.W.isFn K (.ref f17) = true) (l17 : K.lookup f17 = some ⟨oc17, od17, .func (PySem.W.fnOf "take" "SettingsFile.take" (defArgs s_SettingsFile_take) (defBody s_SettingsFile_take) (defScope s_SettingsFile_take) .none kV17 dc17 pm17 an17 cd17 ct17), sl17⟩) (c17 : PySem.W.codeIn K cd17 "SettingsFile.take" = true) (k17 : PySem.W.keepIn K (.ref f17) = true)
    {f18 : Addr} {od18 an18 : Option Addr} {sl18 : Array (Option Value)} {oc18 kV18 dc18 pm18 cd18 ct18 : Value} (a18 : PySem.W.findIn K (.ref C0) "take_kept" = some (some (.ref f18))) (i18 : PySem.W.isFn K (.ref f18) = true) (l18 : K.lookup f18 = some ⟨oc18, od18, .func (PySem.W.fnOf "take_kept" "SettingsFile.take_kept" (defArgs s_SettingsFile_take_kept) (defBody s_SettingsFile_take_kept) (defScope s_SettingsFile_take_kept) .none kV18 dc18 pm18 an18 cd18 ct18), sl18⟩) (c18 : PySem.W.codeIn K cd18 "SettingsFile.take_kept" = true) (k18 : PySem.W.keepIn K (.ref f18) = true)
    {f19 : Addr} {od19 an19 : Option Addr} {sl19 : Array (Option Value)} {oc19 kV19 dc19 pm19 cd19 ct19 : Value} (a19 : PySem.W.findIn K (.ref C0) "take_header" = some (some (.ref f19))) (i19 : PySem.W.isFn K (.ref f19) = true) (l19 : K.lookup f19 = some ⟨oc19, od19, .func (PySem.W.fnOf "take_header" "SettingsFile.take_header" (defArgs s_SettingsFile_take_header) (defBody s_SettingsFile_take_header) (defScope s_SettingsFile_take_header) .none kV19 dc19 pm19 an19 cd19 ct19), sl19⟩) (c19 : PySem.W.codeIn K cd19 "SettingsFile.take_header" = true) (k19 : PySem.W.keepIn K (.ref f19) = true)
    {f20 : Addr} {od20 an20 : Option Addr} {sl20 : Array (Option Value)} {oc20 kV20 dc20 pm20 cd20 ct20 : Value} (a20 : PySem.W.findIn K (.ref C0) "take_setting" = some (some (.ref f20))) (i20 : PySem.W.isFn K (.ref f20) = true) (l20 : K.lookup f20 = some ⟨oc20, od20, .func (PySem.W.fnOf "take_setting" "SettingsFile.take_setting" (defArgs s_SettingsFile_take_setting) (defBody s_SettingsFile_take_setting) (defScope s_SettingsFile_take_setting) .none kV20 dc20 pm20 an20 cd20 ct20), sl20⟩) (c20 : PySem.W.codeIn K cd20 "SettingsFile.take_setting" = true) (k20 : PySem.W.keepIn K (.ref f20) = true)
    {f21 : Addr} {od21 an21 : Option Addr} {sl21 : Array (Option Value)} {oc21 kV21 dc21 pm21 cd21 ct21 : Value} (a21 : PySem.W.findIn K (.ref C0) "close_block" = some (some (.ref f21))) (i21 : PySem.W.isFn K (.ref f21) = true) (l21 : K.lookup f21 = some ⟨oc21, od21, .func (PySem.W.fnOf "close_block" "SettingsFile.close_block" (defArgs s_SettingsFile_close_block) (defBody s_SettingsFile_close_block) (defScope s_SettingsFile_close_block) .none kV21 dc21 pm21 an21 cd21 ct21), sl21⟩) (c21 : PySem.W.codeIn K cd21 "SettingsFile.close_block" = true) (k21 : PySem.W.keepIn K (.ref f21) = true)
    {p22 : Addr} {rs22 : List Value} (a22 : PySem.W.findIn K (.ref C0) "lines" = some (some (.ref p22))) (pg_22 : PySem.W.specialIn K (.ref p22) "__get__" = some (some (.builtin "property.__get__"))) (pt_22 : PySem.W.takesIn K (.ref p22) = some true)
    {f22 : Addr} {od22 an22 : Option Addr} {sl22 : Array (Option Value)} {oc22 kV22 dc22 pm22 cd22 ct22 : Value} (pr_22 : PySem.W.recIn K p22 "property" = some (.ref f22 :: rs22)) (l22 : K.lookup f22 = some ⟨oc22, od22, .func (PySem.W.fnOf "lines" "SettingsFile.lines" (defArgs s_SettingsFile_lines) (defBody s_SettingsFile_lines) (defScope s_SettingsFile_lines) .none kV22 dc22 pm22 an22 cd22 ct22), sl22⟩) (c22 : PySem.W.codeIn K cd22 "SettingsFile.lines" = true) (k22 : PySem.W.keepIn K (.ref f22) = true)
    {f23 : Addr} {od23 an23 : Option Addr} {sl23 : Array (Option Value)} {oc23 kV23 dc23 pm23 cd23 ct23 : Value} (a23 : PySem.W.findIn K (.ref C0) "sections" = some (some (.ref f23))) (i23 : PySem.W.isFn K (.ref f23) = true) (l23 : K.lookup f23 = some ⟨oc23, od23, .func (PySem.W.fnOf "sections" "SettingsFile.sections" (defArgs s_SettingsFile_sections) (defBody s_SettingsFile_sections) (defScope s_SettingsFile_sections) .none kV23 dc23 pm23 an23 cd23 ct23), sl23⟩) (c23 : PySem.W.codeIn K cd23 "SettingsFile.sections" = true) (k23 : PySem.W.keepIn K (.ref f23) = true)
    {f24 : Addr} {od24 an24 : Option Addr} {sl24 : Array (Option Value)} {oc24 kV24 dc24 pm24 cd24 ct24 : Value} (a24 : PySem.W.findIn K (.ref C0) "pairs" = some (some (.ref f24))) (i24 : PySem.W.isFn K (.ref f24) = true) (l24 : K.lookup f24 = some ⟨oc24, od24, .func (PySem.W.fnOf "pairs" "SettingsFile.pairs" (defArgs s_SettingsFile_pairs) (defBody s_SettingsFile_pairs) (defScope s_SettingsFile_pairs) .none kV24 dc24 pm24 an24 cd24 ct24), sl24⟩) (c24 : PySem.W.codeIn K cd24 "SettingsFile.pairs" = true) (k24 : PySem.W.keepIn K (.ref f24) = true)
    {f25 : Addr} {od25 an25 : Option Addr} {sl25 : Array (Option Value)} {oc25 kV25 dc25 pm25 cd25 ct25 : Value} (a25 : PySem.W.findIn K (.ref C0) "__len__" = some (some (.ref f25))) (i25 : PySem.W.isFn K (.ref f25) = true) (l25 : K.lookup f25 = some ⟨oc25, od25, .func (PySem.W.fnOf "__len__" "SettingsFile.__len__" (defArgs s_SettingsFile___len__) (defBody s_SettingsFile___len__) (defScope s_SettingsFile___len__) .none kV25 dc25 pm25 an25 cd25 ct25), sl25⟩) (c25 : PySem.W.codeIn K cd25 "SettingsFile.__len__" = true) (k25 : PySem.W.keepIn K (.ref f25) = true)
    {f26 : Addr} {od26 an26 : Option Addr} {sl26 : Array (Option Value)} {oc26 kV26 dc26 pm26 cd26 ct26 : Value} (a26 : PySem.W.findIn K (.ref C0) "__contains__" = some (some (.ref f26))) (i26 : PySem.W.isFn K (.ref f26) = true) (l26 : K.lookup f26 = some ⟨oc26, od26, .func (PySem.W.fnOf "__contains__" "SettingsFile.__contains__" (defArgs s_SettingsFile___contains__) (defBody s_SettingsFile___contains__) (defScope s_SettingsFile___contains__) .none kV26 dc26 pm26 an26 cd26 ct26), sl26⟩) (c26 : PySem.W.codeIn K cd26 "SettingsFile.__contains__" = true) (k26 : PySem.W.keepIn K (.ref f26) = true)
    {f27 : Addr} {od27 an27 : Option Addr} {sl27 : Array (Option Value)} {oc27 kV27 dc27 pm27 cd27 ct27 : Value} (a27 : PySem.W.findIn K (.ref C0) "__eq__" = some (some (.ref f27))) (i27 : PySem.W.isFn K (.ref f27) = true) (l27 : K.lookup f27 = some ⟨oc27, od27, .func (PySem.W.fnOf "__eq__" "SettingsFile.__eq__" (defArgs s_SettingsFile___eq__) (defBody s_SettingsFile___eq__) (defScope s_SettingsFile___eq__) .none kV27 dc27 pm27 an27 cd27 ct27), sl27⟩) (c27 : PySem.W.codeIn K cd27 "SettingsFile.__eq__" = true) (k27 : PySem.W.keepIn K (.ref f27) = true)
    {f28 : Addr} {od28 an28 : Option Addr} {sl28 : Array (Option Value)} {oc28 kV28 dc28 pm28 cd28 ct28 : Value} (a28 : PySem.W.findIn K (.ref C0) "__str__" = some (some (.ref f28))) (i28 : PySem.W.isFn K (.ref f28) = true) (l28 : K.lookup f28 = some ⟨oc28, od28, .func (PySem.W.fnOf "__str__" "SettingsFile.__str__" (defArgs s_SettingsFile___str__) (defBody s_SettingsFile___str__) (defScope s_SettingsFile___str__) .none kV28 dc28 pm28 an28 cd28 ct28), sl28⟩) (c28 : PySem.W.codeIn K cd28 "SettingsFile.__str__" = true) (k28 : PySem.W.keepIn K (.ref f28) = true)
    {t0 : Tok} (q0 : PySem.W.nsIn K mainGlobals "LONGEST_NAME" = some (some (.int 8 t0)))
    {t1 : Tok} (q1 : PySem.W.nsIn K mainGlobals "LETTERS" = some (some (.str "abcdefghijklmnopqrstuvwxyz" t1)))
    {t2 : Tok} (q2 : PySem.W.nsIn K mainGlobals "LONGEST_VALUE" = some (some (.int 12 t2)))
    {t3 : Tok} (q3 : PySem.W.nsIn K mainGlobals "DIGITS" = some (some (.str "0123456789" t3)))
    {t4 : Tok} (q4 : PySem.W.nsIn K mainGlobals "LONGEST_RELEASE" = some (some (.int 2 t4)))
    {t5 : Tok} (q5 : PySem.W.nsIn K mainGlobals "KEPT_MARK" = some (some (.str "#~" t5)))
    (z0 : PySem.W.nsIn K mainGlobals "len" = some none)
    (z1 : PySem.W.nsIn K mainGlobals "isinstance" = some none)
    (z2 : PySem.W.nsIn K mainGlobals "str" = some none)
    (z3 : PySem.W.nsIn K mainGlobals "all" = some none)
    (z4 : PySem.W.nsIn K mainGlobals "int" = some none)
    (z5 : PySem.W.nsIn K mainGlobals "enumerate" = some none)
    (z6 : PySem.W.nsIn K mainGlobals "abs" = some none)
    (z7 : PySem.W.nsIn K mainGlobals "list" = some none)
    (z8 : PySem.W.nsIn K mainGlobals "range" = some none)
    (z9 : PySem.W.nsIn K mainGlobals "max" = some none)
    (z10 : PySem.W.nsIn K mainGlobals "min" = some none) :
    ∃ fd : FuncData, (∀ (s : Shared) (v : Value), BindsTo s fd ⟨[v], []⟩ [("_law_script", v)]) ∧ ∀ base : Heap, K.In base → base.Ns mainGlobals mg → FnOk l.prog w K mg base CX0 9 fa fd ["_law_script"] (sp_law K) := by
  have e := hfa.symm.trans (PySem.W.mg_of X G a15)
  cases e
  exact ⟨_, fun s v => .of_eq rfl, fun base _ _ => ok_law (top_mk X G aC0 pg0 hd0 po0 sa0 mk0 kc0 nb0 ne0 ro0 ca0 cg0 ck0 lc0 mo0_NoneType mo0_bool mo0_int mo0_str mo0_list mo0_tuple na0_0 na0_1 na0_2 na0_3 na0_4 na0_5 na0_6 a0 l0 c0 k0 a1 l1 c1 k1 a2 l2 c2 k2 a3 l3 c3 k3 a4 l4 c4 k4 a5 l5 c5 k5 a6 l6 c6 k6 a7 l7 c7 k7 a8 l8 c8 k8 a9 l9 c9 k9 a10 l10 c10 k10 a11 l11 c11 k11 a12 l12 c12 k12 a13 l13 c13 k13 a14 l14 c14 k14 a15 l15 c15 k15 a16 i16 l16 c16 k16 a17 i17 l17 c17 k17 a18 i18 l18 c18 k18 a19 i19 l19 c19 k19 a20 i20 l20 c20 k20 a21 i21 l21 c21 k21 a22 pg_22 pt_22 pr_22 l22 c22 k22 a23 i23 l23 c23 k23 a24 i24 l24 c24 k24 a25 i25 l25 c25 k25 a26 i26 l26 c26 k26 a27 i27 l27 c27 k27 a28 i28 l28 c28 k28 q0 q1 q2 q3 q4 q5 z0 z1 z2 z3 z4 z5 z6 z7 z8 z9 z10)⟩
end K07
open PySem PySem.W PyProof.Rows
set_option maxHeartbeats 0 in
theorem PySem.Challenge.cw_settingsmerge_k07_equal_files_holds : PySem.Challenge.rw_settingsmerge_k07_equal_files.Holds := by
  w_on; o_law; k_head; (case hw => w_witness2)
  k_fill
  refine L2.walk_of (l := PySem.Challenge.rw_settingsmerge_k07_equal_files) (n := 63) (k := 9) (x := "_law_script") (CX := fun _ => L2.CX0) (sp := fun w => K07.sp_law _) rfl (by decide) rfl ⟨rfl, by decide, by decide⟩ (fun w h Y => PySem.W.kIn_of Y) ?F (fun _ _ a ns hl _ hS => ⟨a, ns, rfl, hS, hl, fun _ => rfl⟩) (fun _ _ _ _ _ h => h)
  case F =>
    intro w mg fa h KX G hmg
    refine' K07.all_mk KX G hmg ?aC0 ?pg0 ?hd0 ?po0 ?sa0 ?mk0 ?kc0 ?nb0 ?ne0 ?ro0 ?ca0 ?cg0 ?ck0 ?lc0 ?mo0_NoneType ?mo0_bool ?mo0_int ?mo0_str ?mo0_list ?mo0_tuple ?na0_0 ?na0_1 ?na0_2 ?na0_3 ?na0_4 ?na0_5 ?na0_6 ?a0 ?l0 ?c0 ?k0 ?a1 ?l1 ?c1 ?k1 ?a2 ?l2 ?c2 ?k2 ?a3 ?l3 ?c3 ?k3 ?a4 ?l4 ?c4 ?k4 ?a5 ?l5 ?c5 ?k5 ?a6 ?l6 ?c6 ?k6 ?a7 ?l7 ?c7 ?k7 ?a8 ?l8 ?c8 ?k8 ?a9 ?l9 ?c9 ?k9 ?a10 ?l10 ?c10 ?k10 ?a11 ?l11 ?c11 ?k11 ?a12 ?l12 ?c12 ?k12 ?a13 ?l13 ?c13 ?k13 ?a14 ?l14 ?c14 ?k14 ?a15 ?l15 ?c15 ?k15 ?a16 ?i16 ?l16 ?c16 ?k16 ?a17 ?i17 ?l17 ?c17 ?k17 ?a18 ?i18 ?l18 ?c18 ?k18 ?a19 ?i19 ?l19 ?c19 ?k19 ?a20 ?i20 ?l20 ?c20 ?k20 ?a21 ?i21 ?l21 ?c21 ?k21 ?a22 ?pg_22 ?pt_22 ?pr_22 ?l22 ?c22 ?k22 ?a23 ?i23 ?l23 ?c23 ?k23 ?a24 ?i24 ?l24 ?c24 ?k24 ?a25 ?i25 ?l25 ?c25 ?k25 ?a26 ?i26 ?l26 ?c26 ?k26 ?a27 ?i27 ?l27 ?c27 ?k27 ?a28 ?i28 ?l28 ?c28 ?k28 ?q0 ?q1 ?q2 ?q3 ?q4 ?q5 ?z0 ?z1 ?z2 ?z3 ?z4 ?z5 ?z6 ?z7 ?z8 ?z9 ?z10
    (case aC0 => k_is); (case pg0 => k_is); (case hd0 => k_is); (case po0 => k_is); (case sa0 => k_is); (case mk0 => k_is); (case kc0 => k_is); (case nb0 => k_is); (case ne0 => k_is); (case ro0 => k_is); (case ca0 => k_is); (case cg0 => k_is); (case ck0 => k_is); (case lc0 => k_is); (case mo0_NoneType => k_is); (case mo0_bool => k_is); (case mo0_int => k_is); (case mo0_str => k_is); (case mo0_list => k_is); (case mo0_tuple => k_is); (case na0_0 => k_is); (case na0_1 => k_is); (case na0_2 => k_is); (case na0_3 => k_is); (case na0_4 => k_is); (case na0_5 => k_is); (case na0_6 => k_is); (case a0 => k_is); (case l0 => k_is); (case c0 => k_is); (case k0 => k_is); (case a1 => k_is); (case l1 => k_is); (case c1 => k_is); (case k1 => k_is); (case a2 => k_is); (case l2 => k_is); (case c2 => k_is); (case k2 => k_is); (case a3 => k_is); (case l3 => k_is); (case c3 => k_is); (case k3 => k_is); (case a4 => k_is); (case l4 => k_is); (case c4 => k_is); (case k4 => k_is); (case a5 => k_is); (case l5 => k_is); (case c5 => k_is); (case k5 => k_is); (case a6 => k_is); (case l6 => k_is); (case c6 => k_is); (case k6 => k_is); (case a7 => k_is); (case l7 => k_is); (case c7 => k_is); (case k7 => k_is); (case a8 => k_is); (case l8 => k_is); (case c8 => k_is); (case k8 => k_is); (case a9 => k_is); (case l9 => k_is); (case c9 => k_is); (case k9 => k_is); (case a10 => k_is); (case l10 => k_is); (case c10 => k_is); (case k10 => k_is); (case a11 => k_is); (case l11 => k_is); (case c11 => k_is); (case k11 => k_is); (case a12 => k_is); (case l12 => k_is); (case c12 => k_is); (case k12 => k_is); (case a13 => k_is); (case l13 => k_is); (case c13 => k_is); (case k13 => k_is); (case a14 => k_is); (case l14 => k_is); (case c14 => k_is); (case k14 => k_is); (case a15 => k_is); (case l15 => k_is); (case c15 => k_is); (case k15 => k_is); (case a16 => k_is); (case i16 => k_is); (case l16 => k_is); (case c16 => k_is); (case k16 => k_is); (case a17 => k_is); (case i17 => k_is); (case l17 => k_is); (case c17 => k_is); (case k17 => k_is); (case a18 => k_is); (case i18 => k_is); (case l18 => k_is); (case c18 => k_is); (case k18 => k_is); (case a19 => k_is); (case i19 => k_is); (case l19 => k_is); (case c19 => k_is); (case k19 => k_is); (case a20 => k_is); (case i20 => k_is); (case l20 => k_is); (case c20 => k_is); (case k20 => k_is); (case a21 => k_is); (case i21 => k_is); (case l21 => k_is); (case c21 => k_is); (case k21 => k_is); (case a22 => k_is); (case pg_22 => k_is); (case pt_22 => k_is); (case pr_22 => k_is); (case l22 => k_is); (case c22 => k_is); (case k22 => k_is); (case a23 => k_is); (case i23 => k_is); (case l23 => k_is); (case c23 => k_is); (case k23 => k_is); (case a24 => k_is); (case i24 => k_is); (case l24 => k_is); (case c24 => k_is); (case k24 => k_is); (case a25 => k_is); (case i25 => k_is); (case l25 => k_is); (case c25 => k_is); (case k25 => k_is); (case a26 => k_is); (case i26 => k_is); (case l26 => k_is); (case c26 => k_is); (case k26 => k_is); (case a27 => k_is); (case i27 => k_is); (case l27 => k_is); (case c27 => k_is); (case k27 => k_is); (case a28 => k_is); (case i28 => k_is); (case l28 => k_is); (case c28 => k_is); (case k28 => k_is); (case q0 => k_is); (case q1 => k_is); (case q2 => k_is); (case q3 => k_is); (case q4 => k_is); (case q5 => k_is); (case z0 => k_is); (case z1 => k_is); (case z2 => k_is); (case z3 => k_is); (case z4 => k_is); (case z5 => k_is); (case z6 => k_is); (case z7 => k_is); (case z8 => k_is); (case z9 => k_is); (case z10 => k_is)


