import PyProof.Rows.All
import Wide.All
import OpenK.AllK
import Wide.FinOn
import HandS.ForMost
import HandS.Walk
import HandS.IsInst
import HandS.Style
import KE.KCallOwn
import HandS.GenBody
import HandS.GenYield
import HandS.GenList
import PyProof.GenComp
import HandS.DictSub
import HandS.Small
import HandS.Property
import HandS.More
import HandS.WordsDict
import HandS.ExcInit
import KE.KExcInit
import HandS.ExcIs
import HandS.ExcField
import HandS.HotCalls
import HandS.EndTab
import KE.KNestM
import HandS.MakeKwOnly
import HandS.RaiseMore
import HandS.WordsExc
import HandS.TupSets
import HandS.SetFor
import HandS.Strs
import HandS.SortOrd
import HandS.Deep
import KE.KExcLine
import PySem.Challenge.RW_settingsmerge_k06_lookups_of_any_object
set_option Elab.async false
set_option linter.all false
set_option maxRecDepth 100000
/-! words of my own over the hand layer: repr of data, a text times a number, calls by keywords alone, defs that may ask for a repr -/
namespace My
open PySem PySem.Spec PyProof.Rows L2
section
variable {X : Cx}
/-- repr(x), x any data, where no other repr is under way -/
theorem call_repr (hg : X.A.guards = some []) (hu : X.A.units + 64 < cLine) : CallR X (.builtin "repr") (fun xs H Q => ∃ x d, xs = [x] ∧ Dp X.K H x d ∧ d.showable = true ∧ d.hasDict = false ∧ d.depth ≤ 8 ∧ d.shown.length ≤ sizeLine ∧ Q (.str d.shown) H) := by
  intro pins s σ H xs us Q I rr h
  obtain ⟨x, d, rfl, hd, hs, hn, hp, hz, q⟩ := h
  obtain ⟨u, rfl, ru⟩ := vals1 rr
  obtain ⟨as, rd⟩ := Dp.reads I d x u hd ru
  cases hd with
  | non =>
    cases (show u = Value.none from ru)
    exact PySem.P.repr_of_none ⟨.str _, H, I.tok _, ⟨_, rfl⟩, q⟩
  | bl b =>
    cases (show u = Value.bool b from ru)
    refine PySem.P.repr_of_bool ⟨.str _, H, I.tok _, ⟨_, rfl⟩, ?_⟩
    have e : (PyData.bool b).shown = (if b then ("True" : Str) else "False") := by cases b <;> rfl
    rw [e] at q
    cases b <;> exact q
  | int i =>
    obtain ⟨t, rfl⟩ := (show ∃ t, u = Value.int i t from ru)
    exact PySem.P.repr_of_int (of_decide_eq_true (by simpa [PyData.showable] using hs)) ⟨.str _, H, I.tok _, ⟨_, rfl⟩, q⟩
  | str z =>
    obtain ⟨t, rfl⟩ := (show ∃ t, u = Value.str z t from ru)
    exact PySem.P.repr_of_str ⟨.str _, H, I.tok _, ⟨_, rfl⟩, q⟩ hz
  | @lst a xs ds hS hA =>
    cases (show u = Value.ref a from ru)
    exact repr_of_reads' rd hs (PyData.noDict_hsm hn) hg (by omega) (fun _ _ e => e) (fun h' u tk hk => ⟨.str _, H, I.kept hk, ⟨_, rfl⟩, q⟩) hz
  | @tup a xs ds hS hA =>
    cases (show u = Value.ref a from ru)
    exact repr_of_reads' rd hs (PyData.noDict_hsm hn) hg (by omega) (fun _ _ e => e) (fun h' u tk hk => ⟨.str _, H, I.kept hk, ⟨_, rfl⟩, q⟩) hz
/-- a text n times, n from 2 to 1000 -/
theorem op_mulS : OpR X (binaryOp .Mult) (fun x y H Q => ∃ (z : Str) (n : Int), x = .str z ∧ y = .int n ∧ 2 ≤ n ∧ n ≤ 1000 ∧ 1 ≤ z.length ∧ z.length ≤ 1000 ∧ PySem.Builtin.Str.tooLong (z.length * n.toNat) = false ∧
    (⟨(List.replicate n.toNat z.cps).foldl (· ++ ·) #[]⟩ : Str).length ≤ sizeLine ∧ Q (.str ⟨(List.replicate n.toNat z.cps).foldl (· ++ ·) #[]⟩) H) := by
  intro pins s σ H x y v u Q I rx ry h
  obtain ⟨z, n, rfl, rfl, h1, h2, h3, h4, h5, h6, q⟩ := h
  obtain ⟨t, rfl⟩ := (show ∃ t, v = Value.str z t from rx)
  obtain ⟨t', rfl⟩ := (show ∃ t, u = Value.int n t from ry)
  have e0 : ¬ n < 1 := by omega
  have e1 : (n == 1 || z.length == 0) = false := by
    rw [Bool.or_eq_false_iff]
    exact ⟨beq_eq_false_iff_ne.mpr (by omega), beq_eq_false_iff_ne.mpr (by omega)⟩
  refine PySem.P.mul_str (by
      rw [decide_eq_false (show ¬ n < -(2 ^ 63 : Int) by omega), decide_eq_false (show ¬ n ≥ 2 ^ 63 by omega)]; rfl) (fun _ _ => ?_) (fun _ _ => h5) ?_
  · have : (1000 : Int) ≤ (2 ^ 63 - 1) / n := by
      rw [Int.le_ediv_iff_mul_le (by omega)]
      omega
    omega
  · rw [if_neg e0, if_neg (by rw [e1]; exact Bool.false_ne_true)]
    exact ⟨h6, ⟨.str _, H, I.tok _, ⟨_, rfl⟩, q⟩⟩
end

/-! ### a list against the empty list -/
section
variable {X : Cx}
theorem isL {pins : List (Addr × Obj)} {σ : L2.St} {H : Hp} {s : Shared} {a : Addr} {xs : List V} (I : Inv X pins σ H s) (h : SqL X.K H a xs) : ∃ its : Array Value, its.size = xs.length ∧ s.heap.IsList a its := by
  obtain ⟨its, r, ⟨o, n, h1, h2, _, h4⟩, _⟩ := I.list h
  exact ⟨its.toArray, r.length.symm, o, h1, h2, n, h4⟩
theorem op_eqNil (hu : X.A.units < cLine) : OpR X (compareOp .Eq) (fun x y H Q => ∃ (a b : Addr) (xs : List V), x = .ref a ∧ y = .ref b ∧ SqL X.K H a xs ∧ SqL X.K H b [] ∧ Q (.bl xs.isEmpty) H) := by
  intro pins s σ H x y v u Q I rx ry h
  obtain ⟨a, b, xs, rfl, rfl, h1, h2, q⟩ := h
  cases (show v = Value.ref a from rx)
  cases (show u = Value.ref b from ry)
  obtain ⟨i1, z1, l1⟩ := isL I h1
  obtain ⟨i2, z2, l2⟩ := isL I h2
  cases xs with
  | nil =>
    have zz : i1.size = i2.size := by rw [z1, z2]
    refine PySem.SeqAt.eq_listAt (e := fun _ => true) l1 l2 zz hu (fun j h3 _ => ?_) ?_
    · rw [z1] at h3
      cases h3
    · rw [z1]
      exact ⟨.bl true, H, I, rfl, q⟩
  | cons y ys =>
    refine PySem.SeqAt.eq_list_lengthsAt l1 l2 ?_ hu ⟨.bl false, H, I, rfl, q⟩
    rw [z1, z2]
    rfl
end

/-! ### a call by keywords alone -/
/-- all parameters are given by name -/
def KB0 (K : PySem.W.Frag) (fd : FuncData) (ps : List Str) : Prop := ∀ (s : Shared) (ws : List Value), K.In s.heap → ws.length = ps.length → BindsTo s fd ⟨[], ps.zip ws⟩ (ps.zip ws)
def tCallK0 (sp : Sp) (tk : TA) : TE := fun σ H Q => tk σ H fun zs H1 => sp zs H1 Q E0
section
variable {X : Cx} {k : Nat} {f : Addr} {fd : FuncData} {ps : List Str} {sp : Sp} {x : Str} {p pos : Pos} {kws : List Keyword} {tk : TA}
theorem pe_callK0 (F : FnOk X.prog X.w X.K X.mg X.base CX0 k f fd ps sp) (hr : Room k X.A) (hg : Gl X x) (hm : X.mg x = some (.ref f)) (hk : PySem.W.keepIn X.K (.ref f) = true) (hb : KB0 X.K fd ps) (hkw : PK X kws tk)
    (hall : (backToKw pos (keywordEach kws X.env)).all (·.1.isSome) = true := by rfl) (hks : (backToKw pos (keywordEach kws X.env)).filterMap (·.1) = ps := by rfl) (hdb : (x == ("__debug__" : Str)) = false := by decide)
    (hpl : ((backTo pos (starEach [] X.env)).any (·.1) || (backToKw pos (keywordEach kws X.env)).any (·.1.isNone)) = false := by rfl) :
    PE X (.Call (.Name x p) [] kws pos) (tCallK0 sp tk) := by
  constructor
  intro pins s σ H Q I h
  apply wpAny_Call_Name_kw
  apply ld_glob I hg hm _ hdb
  apply PySem.W.callWith_KW0 (h₀ := X.base) I.ok.mod.kin hk hall _ hpl
  apply thn (hkw.run pos pins s σ H _ I h)
  rintro ws s2 ⟨zs, H2, I2, rz, q2⟩
  refine ⟨I2.kIn, ?_⟩
  have hl : ws.length = ps.length := rz.length.symm.trans (F.len _ _ _ _ q2)
  have go := F.run X.A X.stack s2 H2 ⟨[], ps.zip ws⟩ ws zs Q E0 hr I2.env0 (hb s2 ws I2.kIn hl) rz q2
  rw [hks]
  refine wpAny_call (codeAny_mono go fun r s' hq => ?_)
  match r, hq with
  | .error _, hq => exact False.elim hq
  | .ok (.ret _), hq => exact I2.after hq
  | .ok .next, hq => exact False.elim hq
  | .ok .brk, hq => exact False.elim hq
  | .ok .cont, hq => exact False.elim hq
end

/-! ### defs that may ask for a repr: no repr is under way -/
structure FnG (P : Program) (w : World) (K : PySem.W.Frag) (mg : Str → Option Value) (base : Heap) (k : Nat) (f : Addr) (fd : FuncData) (ps : List Str) (sp : Sp) : Prop where
  len : ∀ vs H Q E, sp vs H Q E → vs.length = ps.length
  run : ∀ (A : Around) (outer : List Env) (s : Shared) (H : Hp) (args : Args) (us : List Value) (vs : List V) (Q : VK) (E : XK), Room k A → A.guards = some [] → Env0 P w K mg base A outer s H →
    BindsTo s fd args (ps.zip us) → Vals vs us → sp vs H Q E → codeAny (model P w) A (.call (.ref f) args) (CR CX0 outer P w H s Q E) s
section
variable {P : Program} {w : World} {K : PySem.W.Frag} {mg : Str → Option Value} {base : Heap}
theorem Fun.okG {x qual : Str} {st : Stmt} {f : Addr} {fd : FuncData} {N ps : List Str} {k : Nat} {sp : Sp} (F : Fun K x qual st f fd) (S : FnScope N ps (defScope st)) (len : ∀ vs H Q E, sp vs H Q E → vs.length = ps.length)
    (hbody : ∀ (cdv : Value) (A : Around) (outer : List Env) (s : Shared) (H : Hp) (vs : List V) (Q : VK) (E : XK), Room k (A.deeper (envOfC qual (defScope st) s.heap.objs.size f cdv)) → A.guards = some [] → sp vs H Q E →
      ∃ t, PSs (cxOf CX0 P w K mg base N qual (defScope st) f cdv A outer s H E).nox (defBody st) t ∧ t { nx := fun _ H' => Q .non H', rt := Q } (start N vs) H) : FnG P w K mg base (k + 1) f fd ps sp := by
  obtain ⟨c0, d0, v0, e0, p0, n0, cv, t0, l0, rfl, hl0, hc0⟩ := F.ex
  constructor
  · exact len
  intro A outer s H args us vs Q E hr hgd en hb rv hsp
  have hlen := len _ _ _ _ hsp
  have hkept : ∀ b o, base.get? b = some o → s.heap.get? b = some o := fun b o e => (en.bs b o e).1
  have hK : K.In s.heap := en.mod.kin.keeps hkept
  have hlim : s.heap.NoLimit := en.mod.nolimit.keeps hkept
  have hpar : ∀ y ∈ ps.zip us, (defScope st).names.lookup y.1 = some .local ∨ ((defScope st).names.lookup y.1 = some .cell ∧ ((cellsFrom (s.heap.objs.size + 1) (defScope st).names []).lookup y.1).isSome = true) := by
    rintro ⟨n, v⟩ hy
    rcases S.par n (List.of_mem_zip hy).1 with q | q
    · exact Or.inl q
    · exact Or.inr ⟨q, PySem.W.cellsFrom_some _ _ _ (Or.inl q)⟩
  apply codeAny_call_function hr.depth (hK _ _ hl0) rfl S.co S.gen rfl (PySem.W.codeRec_of hK hc0)
  apply hb
  apply wpAny_newFunctionEnv_cells S.kind hpar
  rintro env he s1 inC
  subst he
  refine ⟨hlim.keeps inC.toInCall.keep, codeAny_func ?_⟩
  obtain ⟨t, ht, hq⟩ := hbody cv A outer s H vs Q E (hr.deeper _) hgd hsp
  have I := inv_start (CX := CX0) (E := E) S hr.hd en hlen rv inC
  refine wpAny_mono (ht.nox.run [] s1 (start N vs) H _ I hq) ?_ (fun _ _ z => z)
  intro fl s' hs
  match fl, hs with
  | .ret u, ⟨v, σ', H', J, r2, q⟩ => exact ⟨v, H', J.os, J.bare, J.base, J.hok, r2, q⟩
  | .next, ⟨σ', H', J, q⟩ => exact ⟨V.non, H', J.os, J.bare, J.base, J.hok, rfl, q⟩
  | .brk, ⟨_, _, _, q⟩ => exact False.elim q
  | .cont, ⟨_, _, _, q⟩ => exact False.elim q
end
section
variable {X : Cx} {k : Nat} {f : Addr} {fd : FuncData} {ps : List Str} {sp : Sp} {x : Str} {p pos : Pos} {e : Expr} {es : List Expr} {t : TA}
/-- f(e, ..) of such a def -/
theorem pe_callG (F : FnG X.prog X.w X.K X.mg X.base k f fd ps sp) (hgd : X.A.guards = some []) (hr : Room k X.A) (hg : Gl X x) (hm : X.mg x = some (.ref f)) (hk : PySem.W.keepIn X.K (.ref f) = true) (hb : Binds X.K fd ps []) (ha : PA X (e :: es) t)
    (hdb : (x == ("__debug__" : Str)) = false := by decide) (he : starEach (e :: es) X.env = (false, eval e X.env) :: starEach es X.env := by rfl) (hpl : (backTo pos (starEach es X.env)).any (·.1) = false := by rfl) :
    PE X (.Call (.Name x p) (e :: es) [] pos) (tCall sp [] E0 t) := by
  constructor
  intro pins s σ H Q I h
  apply wpAny_Call_Name_kw
  apply ld_glob I hg hm _ hdb
  refine PySem.W.callWith_K (h₀ := X.base) I.ok.mod.kin hk ?_ he hpl
  apply thn (ha.run pos pins s σ H _ I h)
  rintro us s1 ⟨vs, H1, I1, r, q⟩
  refine ⟨I1.kIn, ?_⟩
  have r2 : Vals (vs ++ []) (us ++ []) := r.append .nil
  have hl : (us ++ []).length = ps.length := by rw [← r2.length]; exact F.len _ _ _ _ q
  have go := F.run X.A X.stack s1 H1 ⟨us, []⟩ (us ++ []) (vs ++ []) Q E0 hr hgd I1.env0 (hb s1 us I1.kIn hl) r2 q
  refine wpAny_call (codeAny_mono go fun r s' hq => ?_)
  match r, hq with
  | .error _, hq => exact False.elim hq
  | .ok (.ret _), hq => exact I1.after hq
  | .ok .next, hq => exact False.elim hq
  | .ok .brk, hq => exact False.elim hq
  | .ok .cont, hq => exact False.elim hq
end

/-! ### a method called by keywords alone -/
def KM0 (K : PySem.W.Frag) (fd : FuncData) (ps : List Str) : Prop := ∀ (s : Shared) (u : Value) (ws : List Value), K.In s.heap → ws.length + 1 = ps.length → BindsTo s fd ⟨[u], (ps.drop 1).zip ws⟩ (ps.zip (u :: ws))
def tMethK0 (C : Addr) (m : Str) (sp : Sp) (ta : TE) (tk : TA) : TE := fun σ H Q => ta σ H fun x H1 => ∃ a dx fs, x = .ref a ∧ H1 a = some (.ins C dx fs) ∧ fs.lookup m = none ∧ tk σ H1 fun zs H2 => sp (x :: zs) H2 Q E0
section
variable {X : Cx} {k : Nat} {f C : Addr} {fd : FuncData} {ps : List Str} {sp : Sp} {m : Str} {apos pos : Pos} {o : Expr} {kws : List Keyword} {ta : TE} {tk : TA}
theorem pe_methK0 {pl : Sem Bool} (he : PE X o ta) (c : Cls X.K C) (hm : Meth X.K C m f) (F : FnOk X.prog X.w X.K X.mg X.base CX0 k f fd ps sp) (hr : Room k X.A) (hb : KM0 X.K fd ps) (hkw : PK X kws tk)
    (hall : (backToKw pos (keywordEach kws X.env)).all (·.1.isSome) = true := by rfl) (hks : (backToKw pos (keywordEach kws X.env)).filterMap (·.1) = ps.drop 1 := by rfl)
    (hpl : ((backTo pos (starEach [] X.env)).any (·.1) || (backToKw pos (keywordEach kws X.env)).any (·.1.isNone)) = false := by rfl)
    (ht : eval (.Call (.Attribute o m apos) [] kws pos) X.env = (do
      let ov ← eval o X.env
      standAt apos.atName
      let (f, first) ← holding [ov] (getMethod ov m pl)
      callWith pos f first (backTo pos (starEach [] X.env)) (backToKw pos (keywordEach kws X.env))) := by rfl) :
    PE X (.Call (.Attribute o m apos) [] kws pos) (tMethK0 C m sp ta tk) := by
  constructor
  intro pins s σ H Q I h
  apply PySem.W.methodCall_KW (pl := pl) _ ht
  apply thn (he.run pins s σ H _ I h)
  rintro u s1 ⟨x, H1, I1, rx, a, dx, fs, rfl, ea, l, q⟩
  have eu : u = Value.ref a := rx
  subst eu
  apply getmeth_ok I1 ea c hm l
  apply PySem.W.callWith_KW0 (h₀ := X.base) (first := [.ref a]) I1.ok.mod.kin hm.kp hall _ hpl
  apply thn (hkw.run pos pins s1 σ H1 _ I1 q)
  rintro ws s2 ⟨zs, H2, I2, rz, q2⟩
  refine ⟨I2.kIn, ?_⟩
  have hl : ws.length + 1 = ps.length := by
    rw [← rz.length]
    exact F.len _ _ _ _ q2
  have rz2 : Vals (V.ref a :: zs) (Value.ref a :: ws) := .cons rfl rz
  have go := F.run X.A X.stack s2 H2 ⟨[.ref a], (ps.drop 1).zip ws⟩ (.ref a :: ws) (.ref a :: zs) Q E0 hr I2.env0 (hb s2 (.ref a) ws I2.kIn hl) rz2 q2
  rw [hks]
  refine wpAny_call (codeAny_mono go fun r s' hq => ?_)
  match r, hq with
  | .error _, hq => exact False.elim hq
  | .ok (.ret _), hq => exact I2.after hq
  | .ok .next, hq => exact False.elim hq
  | .ok .brk, hq => exact False.elim hq
  | .ok .cont, hq => exact False.elim hq
end

/-! ### the end of a law whose def may ask for a repr -/
section
variable {P : Program} {w : World} {K : PySem.W.Frag} {mg mb : Str → Option Value} {k : Nat} {fa a : Addr} {fd : FuncData} {x : Str} {sp : Sp} {s₁ : Shared} {vs : List Value} {ns : List Int} {H : Hp}
/-- what is tracked is the script at most: the state at the law's call -/
theorem env_law (KX : K.In s₁.heap) (hns : s₁.heap.Ns mainGlobals mg) (hb : s₁.heap.Ns builtinsNs mb) (hbb : ∀ x : Str, x ≠ "__name__" → mb x = bootBuiltins x) (hlim : s₁.heap.NoLimit) (hg : s₁.gens = #[])
    (ha : s₁.heap.get? a = some { cls := .type "list", data := .seq vs.toArray }) (hA : ∀ b, H b ≠ none → b = a) (hK : H a ≠ none → K.lookup a = none) (hok : HOk P w H s₁.heap) :
    K.In (hidT s₁.heap H) ∧ (hidT s₁.heap H).Ns mainGlobals mg ∧ Env0 P w K mg (hidT s₁.heap H) callerA [] s₁ H := by
  have free : ∀ {b : Addr} {o : Obj}, s₁.heap.get? b = some o → (∀ es ep, o.data = .dict es ep → False) ∨ H b = none := by
    intro b o e
    by_cases hb : H b = none
    · exact Or.inr hb
    · left
      intro es ep hd
      have := hA b hb
      subst this
      rw [ha] at e
      cases e
      cases hd
  have nsOf : ∀ {b : Addr} {m : Str → Option Value}, s₁.heap.Ns b m → (hidT s₁.heap H).Ns b m := by
    rintro b m ⟨o, es, ep, e, hd, rest⟩
    rcases free e with z | z
    · exact (z es ep hd).elim
    · exact ⟨o, es, ep, hidT_get e z, hd, rest⟩
  have kIn : K.In (hidT s₁.heap H) := by
    intro b o e
    refine hidT_get (KX b o e) ?_
    by_cases hb : H b = none
    · exact hb
    · have := hA b hb
      subst this
      rw [hK hb] at e
      cases e
  have md : Mod K mg (hidT s₁.heap H) := by
    obtain ⟨mc, h1, h2⟩ := hlim
    exact ⟨kIn, nsOf hns, ⟨mb, nsOf hb, hbb⟩, ⟨mc, nsOf h1, h2⟩⟩
  refine ⟨kIn, nsOf hns, ⟨rfl, md, fun b o e => of_hidT e, Nat.le_of_eq (hidT_size _ _), trivial, ?_, hok, .of_eq hg⟩⟩
  intro b z
  cases (show b ∈ ([] : List Addr) from z)
/-- the law's own call -/
theorem law_callG (KX : K.In s₁.heap) (hns : s₁.heap.Ns mainGlobals mg) (hb : s₁.heap.Ns builtinsNs mb) (hbb : ∀ x : Str, x ≠ "__name__" → mb x = bootBuiltins x) (hlim : s₁.heap.NoLimit) (hg : s₁.gens = #[])
    (ha : s₁.heap.get? a = some { cls := .type "list", data := .seq vs.toArray }) (hi : IntsAre vs ns) (hl : ns.length ≤ sizeLine) (hr : Room k callerA)
    (F : ∀ base : Heap, K.In base → base.Ns mainGlobals mg → FnG P w K mg base k fa fd [x] sp) (hbind : ∀ (s : Shared) (u : Value), BindsTo s fd ⟨[u], []⟩ [(x, u)])
    (hsp : ∀ H : Hp, Only H → SqL K H a (ns.map V.int) → sp [.ref a] H (fun v _ => v = .bl true) fun _ _ _ => False) :
    codeAny (model P w) callerA (.call (.ref fa) ⟨[.ref a], []⟩) (fun r s' => r = .ok (.ret (.bool true)) ∧ OldK s₁.heap s'.heap ∧ s'.os = s₁.os ∧ AllBare s'.gens) s₁ := by
  have main : ∀ H : Hp, Only H → SqL K H a (ns.map V.int) → HOk P w H s₁.heap → (∀ b, H b ≠ none → b = a) → (H a ≠ none → K.lookup a = none) →
      codeAny (model P w) callerA (.call (.ref fa) ⟨[.ref a], []⟩) (fun r s' => r = .ok (.ret (.bool true)) ∧ OldK s₁.heap s'.heap ∧ s'.os = s₁.os ∧ AllBare s'.gens) s₁ := by
    intro H only seq hok hA hK
    obtain ⟨k1, k2, en⟩ := env_law KX hns hb hbb hlim hg ha hA hK hok
    have go := (F _ k1 k2).run callerA [] s₁ H ⟨[.ref a], []⟩ [.ref a] [.ref a] (fun v _ => v = .bl true) (fun _ _ _ => False) hr rfl en (hbind s₁ (.ref a)) (.cons rfl .nil) (hsp H only seq)
    refine codeAny_mono go fun r s' hq => ?_
    match r, hq with
    | .error _, hq => exact False.elim hq
    | .ok .next, hq => exact False.elim hq
    | .ok .brk, hq => exact False.elim hq
    | .ok .cont, hq => exact False.elim hq
    | .ok (.ret u), ⟨v, H', os, bare, un, hok', ru, ev⟩ =>
      have ev' : v = .bl true := ev
      subst ev'
      have eu : u = Value.bool true := ru
      subst eu
      refine ⟨rfl, OldK.of_keep ?_, os, bare⟩
      intro b o e
      rcases only b with z | ⟨ob, xs, z⟩
      · exact un.keep b o e z (by intro z2; cases (show b ∈ ([] : List Addr) from z2)) (by intro z2; cases z2)
      · have after := (hok' b _ (un.frzs b ob _ z)).1
        have ahead := (hok b _ z).1
        rw [e] at ahead
        cases ahead
        exact after
  have rv := vals_ints hi
  cases hk : K.lookup a with
  | some o =>
    have e := KX a o hk
    rw [ha] at e
    cases e
    refine main (fun _ => none) (fun _ => Or.inl rfl) (Or.inr ⟨_, vs.toArray, _, hk, rfl, rfl, rfl, ?_, ?_⟩) ?_ (fun b z => absurd rfl z) (fun z => absurd rfl z)
    · rw [List.size_toArray, hi.length]
      exact hl
    · simpa using rv
    · intro b u z
      cases (show (none : Option HO) = some u from z)
  | none =>
    let H0 : Hp := fun b => if b = a then some (.frz { cls := .type "list", data := .seq vs.toArray } (.lst (ns.map V.int))) else none
    have at0 : H0 a = some (.frz { cls := .type "list", data := .seq vs.toArray } (.lst (ns.map V.int))) := if_pos rfl
    have off : ∀ b, b ≠ a → H0 b = none := fun b h => if_neg h
    refine main H0 ?_ (Or.inl (Or.inr ⟨_, at0⟩)) ?_ ?_ (fun _ => hk)
    · intro b
      by_cases h : b = a
      · subst h
        exact Or.inr ⟨_, _, at0⟩
      · exact Or.inl (off b h)
    · intro b u z
      by_cases h : b = a
      · subst h
        rw [at0] at z
        cases z
        refine ⟨ha, ?_, vs, _, rv, ha⟩
        rw [List.length_map]
        exact hl
      · rw [off b h] at z
        cases z
    · intro b z
      by_cases h : b = a
      · exact h
      · exact absurd (off b h) z
end
/-- the goal that the head leaves, by the law's promise -/
theorem walk_ofG {l : PySem.W.OpenLaw} {n k : Nat} {q : Program} {loose : List Str} {XP : (Str → Option Value) → Heap → Prop} {YP : World → Heap → Prop} {d : DefRec} {K : Params → PySem.W.Frag} {sp : World → Sp} {x : Str}
    (hn : l.most = some n) (hn2 : n ≤ sizeLine) (hdf : d.params.defaults = []) (hr : Room k callerA) (hY : ∀ (w : World) (h : Heap), YP w h → (K w.params).In h)
    (F : ∀ (w : World) (mg : Str → Option Value) (fa : Addr) (h : Heap), (K w.params).In h → h.Ns mainGlobals mg → mg d.name = some (.ref fa) →
      ∃ fd : FuncData, (∀ (s : Shared) (u : Value), BindsTo s fd ⟨[u], []⟩ [(x, u)]) ∧ ∀ base : Heap, (K w.params).In base → base.Ns mainGlobals mg → FnG l.prog w (K w.params) mg base k fa fd [x] (sp w))
    (hsp : ∀ (w : World) (H : Hp) (a : Addr) (ns : List Int), ns.length ≤ n → Only H → SqL (K w.params) H a (ns.map V.int) → sp w [.ref a] H (fun v _ => v = .bl true) fun _ _ _ => False) :
    PySem.W.WalkO q loose XP YP l.row.toRowW d [] (fun f vs => PySem.call f vs) := by
  apply Att.attach_call hn hdf
  intro w s₀ s₁ mg mb fa o pm cd doc a vs ns G Y ho hd hcd hmg hobj hints hlen hgens
  obtain ⟨fd, hb, hF⟩ := F w mg fa _ (hY w _ Y) G.T.g hmg
  exact law_callG (hY w _ Y) G.T.g G.T.b G.T.builtins G.T.nolimit hgens hobj hints (Nat.le_trans hlen hn2) hr hF hb (fun H h1 h2 => hsp w H a ns hlen h1 h2)
end My
set_option Elab.async false
set_option linter.all false
set_option maxRecDepth 100000
/-! own __contains__, __len__, __str__ read by in, not in, len, str -/
namespace My
open PySem PySem.Spec PyProof.Rows L2
section
variable {X : Cx} {k : Nat} {f C : Addr} {fd : FuncData} {ps : List Str} {sp : Sp}
/-- the def at f is called with these values, one C call deeper or not -/
theorem run_own {pins : List (Addr × Obj)} {σ : L2.St} {H : Hp} {s : Shared} {us : List Value} {vs : List V} {Q : VK} {A : Around} (F : FnOk X.prog X.w X.K X.mg X.base CX0 k f fd ps sp) (hr : Room k A) (en : Env0 X.prog X.w X.K X.mg X.base A X.stack s H) (hb : Binds X.K fd ps [])
    (I : Inv X pins σ H s) (r : Vals vs us) (h : sp vs H Q E0) {R : Value → Shared → Prop} (hR : ∀ u s', EP X pins σ Q u s' → R u s') : wpAny (model X.prog X.w) A (call (.ref f) us) R X.xe s := by
  have r2 : Vals (vs ++ []) (us ++ []) := r.append .nil
  have h2 : sp (vs ++ []) H Q E0 := by rw [List.append_nil]; exact h
  have hl : (us ++ []).length = ps.length := by rw [← r2.length]; exact F.len _ _ _ _ h2
  have go := F.run A X.stack s H ⟨us, []⟩ (us ++ []) (vs ++ []) Q E0 hr en (hb s us I.kIn hl) r2 h2
  refine wpAny_call (codeAny_mono go fun r s' hq => ?_)
  match r, hq with
  | .error _, hq => exact False.elim hq
  | .ok (.ret u), hq => exact hR u s' (I.after hq)
  | .ok .next, hq => exact False.elim hq
  | .ok .brk, hq => exact False.elim hq
  | .ok .cont, hq => exact False.elim hq
theorem inst_of {pins : List (Addr × Obj)} {σ : L2.St} {H : Hp} {s : Shared} {a dx : Addr} {fs : List (Str × V)} (I : Inv X pins σ H s) (e : H a = some (.ins C dx fs)) : ∃ od, PySem.W.InstAt s.heap a (PySem.W.instObj C dx) C (some od) := by
  obtain ⟨mA, O, _⟩ := ins_get I.hok e
  obtain ⟨od, J, _⟩ := O.look
  exact ⟨od, J⟩
/-- x in o, o an instance whose class tells it -/
def rInOwn (C : Addr) (sp : Sp) (neg : Bool) : R2 := fun x y H Q => ∃ a dx fs, y = .ref a ∧ H a = some (.ins C dx fs) ∧ sp [.ref a, x] H (fun v H' => ∃ b, v = .bl b ∧ Q (.bl (if neg then !b else b)) H') E0
theorem op_inOwn (m : Meth X.K C "__contains__" f) (F : FnOk X.prog X.w X.K X.mg X.base CX0 k f fd ps sp) (hr : Room k X.A) (hb : Binds X.K fd ps []) : OpR X (compareOp .In) (rInOwn C sp false) := by
  intro pins s σ H x y v u Q I rx ry h
  obtain ⟨a, dx, fs, rfl, ea, hsp⟩ := h
  cases (show u = Value.ref a from ry)
  obtain ⟨od, J⟩ := inst_of I ea
  obtain ⟨mm, Fm⟩ := I.fr
  refine PySem.W.in_K Fm I.mod.kin J m.at_ m.fn (run_own F hr I.env0 hb I (vs := [.ref a, x]) (.cons rfl (.cons rx .nil)) hsp fun u s' hu => ?_)
  obtain ⟨z, H', I', rz, b, rfl, q⟩ := hu
  cases (show u = Value.bool b from rz)
  exact wpAny_truthy_bool ⟨.bl b, H', I', rfl, q⟩
theorem op_notInOwn (m : Meth X.K C "__contains__" f) (F : FnOk X.prog X.w X.K X.mg X.base CX0 k f fd ps sp) (hr : Room k X.A) (hb : Binds X.K fd ps []) : OpR X (compareOp .NotIn) (rInOwn C sp true) := by
  intro pins s σ H x y v u Q I rx ry h
  obtain ⟨a, dx, fs, rfl, ea, hsp⟩ := h
  cases (show u = Value.ref a from ry)
  obtain ⟨od, J⟩ := inst_of I ea
  obtain ⟨mm, Fm⟩ := I.fr
  refine PySem.W.notIn_K Fm I.mod.kin J m.at_ m.fn (run_own F hr I.env0 hb I (vs := [.ref a, x]) (.cons rfl (.cons rx .nil)) hsp fun u s' hu => ?_)
  obtain ⟨z, H', I', rz, b, rfl, q⟩ := hu
  cases (show u = Value.bool b from rz)
  exact wpAny_truthy_bool ⟨.bl (!b), H', I', rfl, q⟩
/-- len(o) -/
theorem call_lenOwn (m : Meth X.K C "__len__" f) (F : FnOk X.prog X.w X.K X.mg X.base CX0 k f fd ps sp) (hr : Room (k + 1) X.A) (hb : Binds X.K fd ps []) :
    CallR X (.builtin "len") (fun xs H Q => ∃ a dx fs, xs = [.ref a] ∧ H a = some (.ins C dx fs) ∧ sp [.ref a] H (fun v H' => ∃ n : Int, v = .int n ∧ 0 ≤ n ∧ n ≤ 1000000 ∧ Q (.int n) H') E0) := by
  intro pins s σ H xs us Q I r h
  obtain ⟨a, dx, fs, rfl, ea, hsp⟩ := h
  obtain ⟨u, rfl, ru⟩ := vals1 r
  cases (show u = Value.ref a from ru)
  obtain ⟨od, J⟩ := inst_of I ea
  obtain ⟨mm, Fm⟩ := I.fr
  refine PySem.W.len_K Fm I.mod.kin J m.at_ m.fn (run_own F hr.in1 I.env0.in1 hb I (vs := [.ref a]) (.cons rfl .nil) hsp fun u s' hu => ?_)
  obtain ⟨z, H', I', rz, n, rfl, n0, n1, q⟩ := hu
  obtain ⟨t, rfl⟩ := (show ∃ t, u = Value.int n t from rz)
  exact ⟨⟨by omega, by omega⟩, ⟨.int n, H', I'.tok _, ⟨_, rfl⟩, q⟩⟩
/-- str(o) -/
theorem call_strOwn (m : Meth X.K C "__str__" f) (F : FnOk X.prog X.w X.K X.mg X.base CX0 k f fd ps sp) (hr : Room (k + 2) X.A) (hb : Binds X.K fd ps []) :
    CallR X (.type "str") (fun xs H Q => ∃ a dx fs, xs = [.ref a] ∧ H a = some (.ins C dx fs) ∧ sp [.ref a] H (fun v H' => ∃ z : Str, v = .str z ∧ Q (.str z) H') E0) := by
  intro pins s σ H xs us Q I r h
  obtain ⟨a, dx, fs, rfl, ea, hsp⟩ := h
  obtain ⟨u, rfl, ru⟩ := vals1 r
  cases (show u = Value.ref a from ru)
  obtain ⟨od, J⟩ := inst_of I ea
  refine PySem.W.kso_call (by have := hr.un; show X.A.units + 1 + 1 < cLine; omega) I.kIn J m.at_ m.fn (run_own F hr.in1.in1 I.env0.in1.in1 hb I (vs := [.ref a]) (.cons rfl .nil) hsp fun u s' hu => ?_)
  obtain ⟨z, H', I', rz, y, rfl, q⟩ := hu
  obtain ⟨t, rfl⟩ := (show ∃ t, u = Value.str y t from rz)
  exact ⟨.str y, H', I', ⟨_, rfl⟩, q⟩
end
end My
set_option Elab.async false
set_option linter.all false
set_option maxRecDepth 100000
set_option maxHeartbeats 1000000
/-! for inside a generator -/
namespace My
open PySem PySem.Spec PyProof.Rows L2 GenW
section
variable {M : Model} {A : Around} {R : GenEnd} {Y : Protocol} {n : Nat} {s₀ : Shared} {c : Code} {fs : List Frame} {s : Shared} {env : Env}
  {K : Flow → Sem PySem.Fin} {J : Value → Sem PySem.Fin} {gd : Bool → Bool} {lv : List Value → List Value}
theorem seg_For {target iter : Expr} {body orelse : List Stmt} {pos : Pos} (hs : ∀ x, foldedSetIterable iter env x = pure x)
    (h : wpAny M (A.over c fs) (eval iter env) (fun x s1 => wpAny M (A.over c fs) (pyIter x) (fun it s2 => ∀ p, Seg M A R Y n s₀ (.forLoop target it body orelse env) (M.den (.forLoop target it body orelse env))
      (.ret (fun r => ((match r with | .ok f => (.pure f : Sem Flow) | .error e => .raise e).onRaise (cameBack env)).wrap K J gd lv) none (gd false) (lv []) c p [] :: fs) s2)
      (fun x s' => Seg M A R Y n s₀ c (J x) fs s') s1) (fun x s' => Seg M A R Y n s₀ c (J x) fs s') s) :
    Seg M A R Y n s₀ c ((exec (.For target iter body orelse pos) env).wrap K J gd lv) fs s := by
  rw [exec_For]
  refine seg_bind_wrap (wpAny_standAt ?_)
  refine seg_bind_wrap (wpAny_mono h (fun x s1 h1 => ?_) fun _ _ h' => h')
  refine seg_bind_wrap (wpAny_of_eq (hs x) ?_)
  refine seg_bind_wrap (wpAny_standAt ?_)
  refine seg_bind_wrap (wpAny_holding (wpAny_mono h1 (fun it s2 h2 => ?_) fun _ _ h' => h'))
  exact seg_call h2
end
section
variable {prog : Program} {w : World} {A : Around} {R : GenEnd} {Y : Protocol} {n : Nat} {s₀ : Shared} {fs : List Frame} {s : Shared} {env : Env}
/-- what a loop's code does with an exception -/
abbrev noted (env : Env) (x : Value) : Sem PySem.Fin := (do noteFrame x env; theTreesLotGoes x : Sem Unit).wrap (fun _ => .raise x) .raise id id
theorem noted_eq (x : Value) : ((do noteFrame x env; theTreesLotGoes x : Sem Unit).bind fun _ => (.raise x : Sem PySem.Fin)) = noted env x := by
  first | exact Sem.bind_eq_wrap _ _ | rw [Sem.bind_eq_wrap]
theorem seg_forLoop {target : Expr} {it : Value} {body orelse : List Stmt}
    (h : wpAny (model prog w) (A.over (.forLoop target it body orelse env) fs) (pyNext it) (fun r s1 => match r with
      | none => Seg (model prog w) A R Y n s₀ (.forLoop target it body orelse env) (.pure (.again (.block orelse env))) fs s1
      | some v => wpAny (model prog w) (A.over (.forLoop target it body orelse env) fs) (letOwnedTupleGo target it v) (fun _ s2 =>
          wpAny (model prog w) (A.over (.forLoop target it body orelse env) fs) (assign target env v) (fun _ s3 =>
            Seg (model prog w) A R Y n s₀ (.forLoop target it body orelse env) ((execs body env).wrap (fun f => match f with
              | .next | .cont => .pure (.again (.forLoop target it body orelse env))
              | .brk => .pure (.done .next)
              | .ret v => .pure (.done (.ret v))) (noted env) id id) fs s3)
            (fun x s' => Seg (model prog w) A R Y n s₀ (.forLoop target it body orelse env) (noted env x) fs s') s2)
          (fun x s' => Seg (model prog w) A R Y n s₀ (.forLoop target it body orelse env) (noted env x) fs s') s1)
      (fun x s' => Seg (model prog w) A R Y n s₀ (.forLoop target it body orelse env) (noted env x) fs s') s) :
    Seg (model prog w) A R Y n s₀ (.forLoop target it body orelse env) ((model prog w).den (.forLoop target it body orelse env)) fs s := by
  show Seg _ A R Y n s₀ _ ((forTurn target it body orelse env).onRaise (fun x => do noteFrame x env; theTreesLotGoes x)) fs s
  unfold forTurn
  rw [Sem.onRaise_eq_wrap]
  refine seg_bind_wrap (wpAny_standAt ?_)
  refine seg_bind_wrap (wpAny_onRaise (wpAny_mono h (fun r s1 h1 => ?_) fun x s' hx => wpAny_standAt ?_))
  · cases r with
    | none => exact h1
    | some v =>
      refine seg_bind_wrap (wpAny_mono h1 (fun _ s2 h2 => ?_) fun x s' hx => ?_)
      · refine seg_bind_wrap (wpAny_mono h2 (fun _ s3 h3 => ?_) fun x s' hx => ?_)
        · rw [Sem.bind_eq_wrap', Sem.wrap_wrap]
          rw [Sem.wrap_congr (execs body env) _ _ (K' := fun f => match f with
              | .next | .cont => .pure (.again (.forLoop target it body orelse env))
              | .brk => .pure (.done .next)
              | .ret v => .pure (.done (.ret v))) (H' := noted env)
            (fun f => by cases f <;> rfl) (fun e => by exact noted_eq e)]
          exact h3
        · rw [noted_eq]; exact hx
      · rw [noted_eq]; exact hx
  · rw [noted_eq]; exact hx
theorem seg_blockNil {env' : Env} {k : Result → Sem PySem.Fin} {hh g l c₁ p₁ kp} (h : Seg (model prog w) A R Y n s₀ c₁ (k (.ok .next)) fs s) :
    Seg (model prog w) A R Y n s₀ (.block [] env') ((model prog w).den (.block [] env')) (.ret k hh g l c₁ p₁ kp :: fs) s := by
  show Seg _ A R Y n s₀ _ (do return PySem.Fin.done (← (execs [] env').onRaise (fun x => do noteFrame x env'; theTreesLotGoes x))) _ s
  exact seg_leaf (.ok .next) h
end
section
variable {X : Cx} {tg : Expr}
/-- for in a generator: W: the invariant by the turn, a measure, and what is out -/
def tGFor (wi : TI) (g : TG) (tb : TGn) : TGn := fun D ys σ H => wi σ H fun J H1 => ∃ W : Nat → Nat → List V → L2.St → Hp → Prop, (∃ m, W 0 m ys σ H1) ∧ ∀ i m ys σ H, W i m ys σ H →
  (J.stop i H ∧ D.nx ys σ H) ∨ (J.go i H ∧ ∃ N : List V → L2.St → Hp → Prop, (∀ ys' σ' H', N ys' σ' H' → ∃ m', m' < m ∧ W (i + 1) m' ys' σ' H') ∧ ∀ x H', J.yld i H x H' → g x σ H' fun σ2 H2 => tb { D with nx := N, ct := N, bk := D.nx } ys σ2 H2)
theorem gs_for {iter : Expr} {body : List Stmt} {wi : TI} {g : TG} {tb : TGn} {pos : Pos} (hp : PassesOwn (model X.prog X.w) X.A X.env X.xe) (hc : X.calm = true) (hi : PI X tg iter wi) (hg : PG X tg g) (hb : GSs X body tb)
    (hs : ∀ x, foldedSetIterable iter X.env x = pure x := by intro _; rfl) : GS X (.For tg iter body [] pos) (tGFor wi g tb) := by
  refine ⟨fun A S ip R n ys s₀ c fs K J gd lv s σ H D gg hn k hI ht => ?_⟩
  obtain ⟨acc, cc, rr, I⟩ := hI
  refine seg_For hs ?_
  rw [gg.over]
  refine wpAny_mono (hi.run _ s σ H _ I ht) (fun v s1 h1 => wpAny_mono h1 (fun itv s2 h2 p => ?_) fun x s' hx => k.exc n s₀ x s' hx) fun x s' hx => k.exc n s₀ x s' hx
  obtain ⟨it, fp, tn, Jt, H2, e, I2, T, st2, f2, W, ⟨m0, w0⟩, turn⟩ := h2
  subst e
  have gl := fun (kk : Result → Sem PySem.Fin) => gc_loop (k := kk) (c' := .forLoop tg (.ref it) body [] X.env) (l := lv []) (kp := []) (p := p) gg rfl rfl
  have nS : ∀ b ∈ fp, b ≠ S := fun b hb e => (f2 b hb).2.2.2.2.2 (S, lstObj acc cc) (List.mem_append_right _ List.mem_cons_self) e.symm
  have stat : ∀ {H' : Hp} {acc' : Array Value} {cc' : Nat}, (∀ b ∈ fp, H' b = none) → ∀ b ∈ fp, FpOk X ((S, lstObj acc' cc') :: ip) H' b := fun {H' acc' cc'} hn b hb => by
    obtain ⟨z1, z2, z3, z4, z5, z6⟩ := f2 b hb
    refine ⟨hn b hb, z2, z3, z4, z5, fun q hq => ?_⟩
    rcases List.mem_append.mp hq with hq | hq
    · exact z6 q (List.mem_append_left _ hq)
    · rcases List.mem_cons.mp hq with rfl | hq
      · exact z6 (S, lstObj acc cc) (List.mem_append_right _ List.mem_cons_self)
      · exact z6 q (List.mem_append_right _ (List.mem_cons_of_mem _ hq))
  have loop : ∀ (m i n : Nat) (ys : List V) (s₀ s : Shared) (σ : L2.St) (H : Hp), n + ys.length = sizeLine → W i m ys σ H → GI X S ip ys σ H s → tn i s.heap → (∀ b ∈ fp, H b = none) →
      Seg (model X.prog X.w) A R (GY X S) n s₀ (.forLoop tg (.ref it) body [] X.env) ((model X.prog X.w).den (.forLoop tg (.ref it) body [] X.env))
        (.ret (fun r => ((match r with | .ok f => (.pure f : Sem Flow) | .error e => .raise e).onRaise (cameBack X.env)).wrap K J gd lv) none (gd false) (lv []) c p [] :: fs) s := by
    intro m
    induction m using Nat.strongRecOn with
    | ind m ih =>
      intro i n ys s₀ s3 σ3 H3 hn w3 hI3 st3 fr3
      have ee : ∀ (n : Nat) (s₀ : Shared) (x : Value) (s' : Shared), X.xe x s' → Seg (model X.prog X.w) A R (GY X S) n s₀ (.forLoop tg (.ref it) body [] X.env) (noted X.env x)
          (.ret (fun r => ((match r with | .ok f => (.pure f : Sem Flow) | .error e => .raise e).onRaise (cameBack X.env)).wrap K J gd lv) none (gd false) (lv []) c p [] :: fs) s' := fun n s₀ x s' hx => by
        refine seg_wrap ?_
        rw [(gl _).over]
        refine wpAny_bind (wpAny_mono (hp x s' hx) (fun _ s'' hcb => wpAny_theTreesLotGoes ?_) fun y s'' hcb => ?_)
        · exact seg_leaf (.error x) (seg_cameBack gg k hcb)
        · exact seg_leaf (.error y) (seg_cameBack gg k hcb)
      obtain ⟨acc3, c3, r3, I3⟩ := hI3
      refine seg_forLoop ?_
      rw [(gl _).over]
      rcases turn i m ys σ3 H3 w3 with ⟨stop, qn⟩ | ⟨go, N, hN, step⟩
      · refine wpAny_mono (T.done X rfl rfl rfl hc i _ s3 σ3 H3 X.xe I3 (stat fr3) st3 stop) (fun r s4 ⟨hr, I4⟩ => ?_) fun x s' hx => ee n s₀ x s' hx
        subst hr
        exact seg_again rfl (seg_blockNil (k.ok n ys s₀ s4 .next hn ⟨σ3, H3, ⟨acc3, c3, r3, I4⟩, qn⟩))
      · refine wpAny_mono (T.item X rfl rfl rfl hc i _ s3 σ3 H3 X.xe I3 (stat fr3) st3 go) (fun r s4 ⟨u, hr, h4⟩ => ?_) fun x s' hx => ee n s₀ x s' hx
        subst hr
        refine wpAny_mono h4 (fun _ s5 ⟨x, H5, I5, r5, y5, st5, fr5⟩ => ?_) fun x s' hx => ee n s₀ x s' hx
        have I5' := I5.pinned (stat fr5) (T.obj _ _ st5)
        refine wpAny_mono (hg.run _ s5 σ3 H5 x u _ I5' r5 (step x H5 y5)) (fun _ s6 ⟨σ6, H6, I6, q6⟩ => ?_) fun x s' hx => ee n s₀ x s' hx
        have g2 : GC X S (ip ++ pinsAt fp s5.heap) A (.forLoop tg (.ref it) body [] X.env) (.ret (fun r => ((match r with | .ok f => (.pure f : Sem Flow) | .error e => .raise e).onRaise (cameBack X.env)).wrap K J gd lv) none (gd false) (lv []) c p [] :: fs) id :=
          let z := gl _
          { pn := z.pn, apart := z.apart, over := z.over, split := z.split, guard := z.guard, gd := z.gd, ip := fun q hq => (List.mem_append.mp hq).elim (fun h => z.ip q h) fun h => nS _ (of_pinsAt h).1 }
        refine hb.run A S (ip ++ pinsAt fp s5.heap) R n ys s₀ _ _ _ _ id id s6 σ6 H6 { D with nx := N, ct := N, bk := D.nx } g2 hn ⟨fun n' ys' s₀' s7 f hn' hs => ?_, fun n' s₀' x s7 hx => ee n' s₀' x s7 hx⟩ ⟨acc3, c3, r3, I6⟩ q6
        have un : ∀ {ys' : List V} {σ7 : L2.St} {H7 : Hp}, GI X S (ip ++ pinsAt fp s5.heap) ys' σ7 H7 s7 → GI X S ip ys' σ7 H7 s7 := fun ⟨a7, c7, r7, I7⟩ => ⟨a7, c7, r7, Inv.unpinned (pins := (S, lstObj a7 c7) :: ip) I7⟩
        have again : ∀ {σ7 : L2.St} {H7 : Hp}, GI X S (ip ++ pinsAt fp s5.heap) ys' σ7 H7 s7 → N ys' σ7 H7 → Seg (model X.prog X.w) A R (GY X S) n' s₀' (.forLoop tg (.ref it) body [] X.env) (.pure (.again (.forLoop tg (.ref it) body [] X.env)))
            (.ret (fun r => ((match r with | .ok f => (.pure f : Sem Flow) | .error e => .raise e).onRaise (cameBack X.env)).wrap K J gd lv) none (gd false) (lv []) c p [] :: fs) s7 := fun {σ7 H7} G7 n7 => by
          obtain ⟨m', hm, w7⟩ := hN ys' σ7 H7 n7
          obtain ⟨a7, c7, r7, I7⟩ := id G7
          have at7 : ∀ b ∈ fp, ∀ o, s5.heap.get? b = some o → (b, o) ∈ X.pn ++ ((S, lstObj a7 c7) :: (ip ++ pinsAt fp s5.heap)) := fun b hb o e => List.mem_append_right _ (List.mem_cons_of_mem _ (List.mem_append_right _ (mem_pinsAt hb e)))
          refine seg_again rfl (ih m' hm (i + 1) n' ys' s₀' s7 σ7 H7 hn' w7 (un G7) (T.keep _ _ _ st5 fun b hb o e => (I7.pin (b, o) (at7 b hb o e)).1) fun b hb => ?_)
          obtain ⟨o, e, d⟩ := T.obj _ _ st5 b hb
          exact (I7.pin (b, o) (at7 b hb o e)).2.1
        cases f with
        | next => obtain ⟨σ7, H7, G7, n7⟩ := hs; exact again G7 n7
        | cont => obtain ⟨σ7, H7, G7, n7⟩ := hs; exact again G7 n7
        | brk => obtain ⟨σ7, H7, G7, n7⟩ := hs; exact seg_leaf (.ok .next) (k.ok n' ys' s₀' s7 .next hn' ⟨σ7, H7, un G7, n7⟩)
        | ret v => obtain ⟨x7, σ7, H7, G7, r7, q7⟩ := hs; exact seg_leaf (.ok (.ret v)) (k.ok n' ys' s₀' s7 (.ret v) hn' ⟨x7, σ7, H7, un G7, r7, q7⟩)
  exact loop m0 0 n ys s₀ s2 σ H2 hn w0 ⟨acc, cc, rr, I2⟩ st2 fun b hb => (f2 b hb).1
end
end My
set_option Elab.async false
set_option linter.all false
set_option maxRecDepth 100000
set_option maxHeartbeats 1000000
/-! the truth of an object with its own __len__; a lock in a generator; a generator def by its body -/
namespace My
open PySem PySem.Spec PyProof.Rows L2 GenW
section
variable {X : Cx} {k : Nat} {f C : Addr} {fd : FuncData} {ps : List Str} {sp : Sp} {ta : TE} {a : Expr} {pos : Pos}
theorem special_noX {M : Model} {A : Around} {E : Value → Shared → Prop} {s : Shared} {K : PySem.W.Frag} {a : Addr} {ox : Obj} {C : Addr} {name : Str} {args : List Value} {Q : Option Value → Shared → Prop} (X : K.In s.heap) (I : PySem.W.InstAt s.heap a ox C dd) (hf : PySem.W.findIn K (.ref C) name = some none) (h : Q none s) : wpAny M A (callSpecial? (.ref a) name args) Q E s := by
  unfold callSpecial? specialOf
  exact wpAny_bind (wpAny_bind (I.type.here ((PySem.W.looks_findIn X hf).here (wpAny_pure h))))
/-- what the truth of o wants: no __bool__, __len__ by the def at f -/
abbrev LenSp (C : Addr) (sp : Sp) (x : V) (H : Hp) (Q : Bool → Hp → Prop) : Prop := ∃ a dx fs, x = .ref a ∧ H a = some (.ins C dx fs) ∧ sp [.ref a] H (fun v H' => ∃ n : Int, v = .int n ∧ 0 ≤ n ∧ n ≤ 1000000 ∧ Q (n != 0) H') E0
theorem truthy_own (hno : PySem.W.findIn X.K (.ref C) "__bool__" = some none) (m : Meth X.K C "__len__" f) (F : FnOk X.prog X.w X.K X.mg X.base CX0 k f fd ps sp) (hb : Binds X.K fd ps [])
    {A : Around} (hr : Room (k + 1) A) {pins : List (Addr × Obj)} {σ : L2.St} {H : Hp} {s : Shared} {x : V} {u : Value} {Q : Bool → Hp → Prop} {R : Bool → Shared → Prop} (hen : Env0 X.prog X.w X.K X.mg X.base A X.stack s H)
    (I : Inv X pins σ H s) (rx : RelV x u) (h : LenSp C sp x H Q) (hR : ∀ b H' s', Inv X pins σ H' s' → Q b H' → R b s') : wpAny (model X.prog X.w) A (truthy u) R X.xe s := by
  obtain ⟨a, dx, fs, rfl, ea, hsp⟩ := h
  cases (show u = Value.ref a from rx)
  obtain ⟨od, J⟩ := inst_of I ea
  obtain ⟨mm, Fm⟩ := I.fr
  have key : wpAny (model X.prog X.w) A (runValue (.builtin "len" ⟨[.ref a], []⟩)) (fun r s' => ∃ n t H', r = .int n t ∧ Inv X pins σ H' s' ∧ Q (n != 0) H') X.xe s := by
    refine wpAny_runValue (codeAny_builtin entry_len ?_)
    rw [Around.under_plainId plain_len _]
    unfold Builtin.«len»
    refine wpAny_bind (m := oneArg "len" _) (wpAny_pure ?_)
    refine wpAny_bind (m := callSpecial? (.ref a) (Str.ofString "__len__")) (PySem.W.special_fn (I.mod.kin.keeps Fm.keep) J m.at_ (beq_iff_eq.mp m.fn) (run_own F hr.in1 hen.in1 hb I (vs := [.ref a]) (.cons rfl .nil) hsp fun u s' hu => ?_))
    obtain ⟨z, H', I', rz, n, rfl, n0, n1, q⟩ := hu
    obtain ⟨t, rfl⟩ := (show ∃ t, u = Value.int n t from rz)
    refine wpAny_bind (wpAny_holding (wpAny_pure ?_))
    refine wpAny_bind (wpAny_letGo ?_)
    show wpAny _ _ (if n < 0 then _ else _) _ _ _
    rw [if_neg (by omega)]
    show wpAny _ _ (if n ≥ 2 ^ 63 then _ else _) _ _ _
    rw [if_neg (by omega)]
    exact wpAny_bind (wpAny_mkInt (wpAny_pure ⟨n, _, H', rfl, I'.tok _, q⟩))
  have hspe : ∀ {Q' : Option Value → Shared → Prop}, Q' (some (.ref f)) s → wpAny (model X.prog X.w) A (specialOf (.ref a) "__len__") Q' X.xe s := fun q => by
    unfold specialOf
    exact wpAny_bind (J.type.here ((PySem.W.looks_findIn I.kIn m.at_).here q))
  unfold truthy
  first
    | refine wpAny_bind (special_noX (name := Str.ofString "__bool__") I.kIn J hno ?_)
    | refine wpAny_bind (wpAny_pure (wpAny_bind (special_noX (name := Str.ofString "__bool__") I.kIn J hno ?_)))
  first
    | refine wpAny_bind (hspe ?_)
    | refine wpAny_bind (wpAny_pure (wpAny_bind (hspe ?_)))
  first
    | exact wpAny_bind (wpAny_mono key (fun r s' h' => by obtain ⟨n, t, H', rfl, I', q⟩ := h'; exact wpAny_pure (hR _ H' s' I' q)) fun _ _ e => e)
    | exact wpAny_bind (wpAny_pure (wpAny_bind (wpAny_mono key (fun r s' h' => by obtain ⟨n, t, H', rfl, I', q⟩ := h'; exact wpAny_pure (hR _ H' s' I' q)) fun _ _ e => e)))
/-- not o -/
def tNotOwn (C : Addr) (sp : Sp) (ta : TE) : TE := fun σ H Q => ta σ H fun x H1 => LenSp C sp x H1 fun b H2 => Q (.bl (!b)) H2
theorem pe_notOwn (hno : PySem.W.findIn X.K (.ref C) "__bool__" = some none) (m : Meth X.K C "__len__" f) (F : FnOk X.prog X.w X.K X.mg X.base CX0 k f fd ps sp) (hr : Room (k + 1) X.A) (hb : Binds X.K fd ps []) (ha : PE X a ta) : PE X (.UnaryOp .Not a pos) (tNotOwn C sp ta) := by
  refine ⟨fun pins s σ H Q I h => ?_⟩
  refine UnaryOp_ (thn (ha.run pins s σ H _ I h) fun v s1 ⟨x, H1, I1, r1, q1⟩ => ?_)
  exact not_of (truthy_own hno m F hb hr I1.env0 I1 r1 q1 fun b H' s' I' q => ⟨.bl (!b), H', I', rfl, q⟩)
/-- bool(o) -/
theorem call_boolOwn (hno : PySem.W.findIn X.K (.ref C) "__bool__" = some none) (m : Meth X.K C "__len__" f) (F : FnOk X.prog X.w X.K X.mg X.base CX0 k f fd ps sp) (hr : Room (k + 3) X.A) (hb : Binds X.K fd ps []) :
    CallR X (.type "bool") (fun xs H Q => ∃ x, xs = [x] ∧ LenSp C sp x H fun b H' => Q (.bl b) H') := by
  intro pins s σ H xs us Q I r h
  obtain ⟨x, rfl, h⟩ := h
  obtain ⟨u, rfl, ru⟩ := vals1 r
  refine callType_codes (T := "bool") (Bi := Builtin.«object.__init__») (Q₁ := fun r s₁ => ∃ b, r = .bool b ∧ EP X pins σ Q (.bool b) s₁) PySem.F.called_bool (PySem.F.typeCall_bool_1 _) PySem.F.entry_object_init ?_ ?_
  · refine codeAny_of_tree ?_
    show wpAny _ X.A.in1.in1 (do checkBuiltinCall "bool.__new__" ⟨[.type "bool", u], []⟩; again (.builtin "bool.__new__" ⟨[.type "bool", u], []⟩)) _ _ s
    refine wpAny_bind (wpAny_of_eq (PySem.F.newCall_bool_1 _) (wpAny_pure ⟨plainId_quiet (by decide +kernel) _, codeAny_builtin PySem.F.entry_bool_new ?_⟩))
    rw [Around.under_plainId (by decide +kernel) _]
    have f1 := PySem.F.conv_sub_bool
    have tr : wpAny (model X.prog X.w) X.A.in1.in1 (truthy u) (fun b s' => EP X pins σ Q (.bool b) s') X.xe s := truthy_own hno m F hb hr.in1.in1 I.env0.in1.in1 I ru h fun b H' s' I' q => ⟨.bl b, H', I', rfl, q⟩
    unfold Builtin.«bool.__new__»
    repeat (any_goals (first | assumption | (with_reducible refine wpAny_mono tr (fun b s' hb' => ?_) fun _ _ e => e) | wp_step))
    all_goals first | exact ⟨_, rfl, _, rfl, hb'⟩ | exact ⟨_, rfl, hb'⟩ | skip
  · rintro obj s₁ ⟨b, rfl, hq⟩
    exact ⟨PySem.typeIs_bool _ _, PySem.F.args_object_init_2 _ _, object_init_meets PySem.F.called_bool.init.lookup PySem.F.called_bool.made (by decide) X.prog X.w X.A.in1 _ s₁ ⟨PySem.typeIs_bool _ _, rfl, hq⟩⟩
end
section
variable {X : Cx}
def tGLock (t : TGn) : TGn := fun D ys σ H => ∃ d u, H d = some u ∧ Mut (some u) ∧ ∀ od, t ⟨fun ys' σ' H' => H' d = some (.frz od u) ∧ D.nx ys' σ' (upd H' d u), fun ys' v H' => H' d = some (.frz od u) ∧ D.rt ys' v (upd H' d u), fun ys' σ' H' => H' d = some (.frz od u) ∧ D.bk ys' σ' (upd H' d u), fun ys' σ' H' => H' d = some (.frz od u) ∧ D.ct ys' σ' (upd H' d u)⟩ ys σ (upd H d (.frz od u))
theorem gs_lock {st : Stmt} {t : TGn} (h : GS X st t) : GS X st (tGLock t) := by
  refine ⟨fun A S ip R n ys s₀ c fs K J gd lv s σ H D g hn k hI ht => ?_⟩
  obtain ⟨d, u, hd, mu, ht⟩ := ht
  obtain ⟨acc, cc, r, I⟩ := hI
  have nf := I.nofrz hd mu
  obtain ⟨od, I1⟩ := I.lock hd mu
  refine h.run A S ip R n ys s₀ c fs K J gd lv s σ _ _ g hn ⟨fun n' ys' s₀' s' f hn' hs => ?_, k.exc⟩ ⟨acc, cc, r, I1⟩ (ht od)
  have un : ∀ {ys' : List V} {σ' : L2.St} {H' : Hp}, GI X S ip ys' σ' H' s' → H' d = some (.frz od u) → GI X S ip ys' σ' (upd H' d u) s' := fun ⟨a7, c7, r7, I7⟩ e => ⟨a7, c7, r7, I7.unlock e nf⟩
  cases f with
  | next => obtain ⟨σ', H', G, e, q⟩ := hs; exact k.ok n' ys' s₀' s' .next hn' ⟨σ', _, un G e, q⟩
  | brk => obtain ⟨σ', H', G, e, q⟩ := hs; exact k.ok n' ys' s₀' s' .brk hn' ⟨σ', _, un G e, q⟩
  | cont => obtain ⟨σ', H', G, e, q⟩ := hs; exact k.ok n' ys' s₀' s' .cont hn' ⟨σ', _, un G e, q⟩
  | ret v => obtain ⟨x, σ', H', G, rr, e, q⟩ := hs; exact k.ok n' ys' s₀' s' (.ret v) hn' ⟨x, σ', _, un G e, rr, q⟩
theorem gss_one {st : Stmt} {t : TGn} (h : GS X st t) : GSs X [st] (tGThen t tG0) := gss_cons h gss_nil
end
section
variable {P : Program} {w : World} {K : PySem.W.Frag} {mg : Str → Option Value} {base : Heap}
/-- a generator def by its body -/
theorem Fun.okY {x qual : Str} {st : Stmt} {f : Addr} {fd : FuncData} {N ps : List Str} {k : Nat} {sp : SpG} (F : Fun K x qual st f fd) (S : GScope N ps (defScope st)) (len : ∀ vs H Q E, sp vs H Q E → vs.length = ps.length)
    (hbody : ∀ (cdv : Value) (A : Around) (outer : List Env) (s : Shared) (H : Hp) (vs : List V) (Q : List V → Hp → Prop) (E : XK) (pn : List (Addr × Obj)), Room k (A.deeper (envOfC qual (defScope st) s.heap.objs.size f cdv)) → sp vs H Q E →
      ∃ t, GSs (gcxOf P w K mg base N qual (defScope st) f cdv A outer s H E pn) (defBody st) t ∧ t { nx := fun ys _ H' => Q ys H', rt := fun ys v H' => v = .non ∧ Q ys H' } [] (start N vs) H) : GFn P w K mg base (k + 1) f fd ps sp := by
  obtain ⟨oc, od, kV, doc, pm, an, cdv, ct, osl, rfl, lk, hcd⟩ := F.ex
  exact gfn_of lk hcd S len fun A outer s H vs Q E pn hr hsp => hbody cdv A outer s H vs Q E pn hr hsp
end
/-- no exception at all -/
theorem noStop0 {K : PySem.W.Frag} : NoStop K E0 := fun _ _ _ h => h.elim
theorem passE0 {X : Cx} : Passes (CX X.prog X.w) X E0 := fun _ _ _ _ _ _ _ h => by
  obtain ⟨_, _, _, _, _, _, _, _, _, _, _, _, w⟩ := h
  exact w.elim
end My
set_option Elab.async false
set_option linter.all false
set_option maxRecDepth 100000
set_option maxHeartbeats 2000000
/-! own errors with fields over any built-in error (LookupError, IndexError, RuntimeError, ..) -/
namespace My
open PySem PySem.Spec PyProof.Rows L2
/-- what the written part says of such a class; bmB: the built-in's own line of classes -/
structure OexB (K : PySem.W.Frag) (C : Addr) (B newId initId : String) (bmB : List Value) : Prop where
  fb : ExcBaseFacts B newId initId bmB
  sf : StoreFacts B bmB "object.__setattr__" "object"
  ini : PySem.W.excInitIn K C bmB newId = true
  ovr : PySem.W.excOver K C bmB = true
  dic : PySem.W.hasDictIn K C = true
  sa : PySem.W.findIn K (.ref C) "__setattr__" = some (some (.builtin "object.__setattr__"))
  exC : PySem.W.subIn K (.ref C) (.type "BaseException") = some true
  tyC : PySem.W.typeIn K (.ref C) = some (.type "type")
  kC : PySem.W.keepIn K (.ref C) = true
section
open Builtin Builtin.ObjectAttr
variable {prog : Program} {w : World} {A : Around} {R : Result → Shared → Prop} {hp : Heap} {g : Array GenState} {d : Drawn} {t : Nat} {os : OsState} {K : PySem.W.Frag} {C : Addr} {B newId initId : String} {bmB : List Value}
/-- the first field: the object gets its dict -/
theorem put_first {name : Str} {tk : Tok} {v : Value} {x : Addr} {fv : Array Value} (T : OexB K C B newId initId bmB) (X : K.In hp) (hx : hp.get? x = some { cls := .ref C, data := .fields fv }) (ha : PySem.W.findIn K (.ref C) name = some none)
    (hq : ∀ h' tk' dx, (∀ b o, b ≠ x → hp.get? b = some o → h'.get? b = some o) → hp.objs.size ≤ dx → dx ≠ x → h'.get? x = some { cls := .ref C, dict := some dx, data := .fields fv } → h'.Ns1 dx (fun y => if y = name then some v else none) → R (.ok (.ret .none)) ⟨h', g, d, tk', os⟩) :
    codeAny (model prog w) A (.call (.builtin "object.__setattr__") ⟨[.ref x, .str name tk, v], []⟩) R ⟨hp, g, d, t, os⟩ := by
  obtain ⟨cd, hcd, hh⟩ := PySem.W.any_some T.dic
  have inst : PySem.W.InstAt hp x { cls := .ref C, data := .fields fv } C none := ⟨hx, rfl, rfl, trivial⟩
  have xne : x ≠ hp.objs.size := Nat.ne_of_lt (Heap.lt_size hx)
  have look : PySem.W.Looks (model prog w) hp (classData C) cd := PySem.W.looks_clsIn X hcd
  refine PySem.W.osa_openX (s := ⟨hp, g, d, t, os⟩) (r := none) T.sf X inst T.ovr (by unfold PySem.W.takerIn; rw [ha]; rfl) fun b => ?_
  show wpAny _ _ (storeInOwnDict (.ref x) (.ref C) (.str name tk) name v b) _ _ _
  obtain ⟨c1, c2, c3, c4, c5, c6, c7, c8, c9, c10, c11⟩ := cd
  have hh : c6 = true := hh
  subst hh
  unfold storeInOwnDict ownDictForStores
  repeat (first | with_reducible refine PySem.HandSPX.store_in_new ?_ ?_ | with_reducible refine wpAny_loadPart_at hx ?_ | with_reducible refine look.at ?_ | wp_step)
  · exact ⟨_, #[], _, (Heap.get?_update_ne _ _ _ _ xne.symm).trans (Heap.get?_push_at rfl rfl), rfl, fun e he => absurd he (by simp), fun _ => rfl⟩
  · intro h' tk' ns sb
    refine hq h' tk' hp.objs.size (fun c o hc ho => ?_) (Nat.le_refl _) xne.symm ?_ ns
    · exact (sb.2 c (Nat.ne_of_lt (Heap.lt_size ho))).trans ((Heap.get?_update_ne _ _ _ _ hc).trans (Heap.get?_push_of_some _ ho))
    · exact (sb.2 x xne).trans (Heap.get?_update_self _ (Heap.get?_push_of_some _ hx) rfl)
/-- a further field -/
theorem put_more {name : Str} {tk : Tok} {v : Value} {x dx : Addr} {fv : Array Value} {m0 : Str → Option Value} {nl : List Str} (T : OexB K C B newId initId bmB) (X : K.In hp) (hx : hp.get? x = some { cls := .ref C, dict := some dx, data := .fields fv }) (hns : hp.Ns1 dx m0) (hw : Within m0 nl) (hz : nl.length ≤ 1000) (ha : PySem.W.findIn K (.ref C) name = some none)
    (hq : ∀ h' tk', (∀ b o, b ≠ dx → hp.get? b = some o → h'.get? b = some o) → h'.Ns1 dx (fun y => if y = name then some v else m0 y) → R (.ok (.ret .none)) ⟨h', g, d, tk', os⟩) :
    codeAny (model prog w) A (.call (.builtin "object.__setattr__") ⟨[.ref x, .str name tk, v], []⟩) R ⟨hp, g, d, t, os⟩ := by
  obtain ⟨cd, hcd, hh⟩ := PySem.W.any_some T.dic
  obtain ⟨oD, _, _, hoD, _, _⟩ := hns.count hw
  have inst : PySem.W.InstAt hp x { cls := .ref C, dict := some dx, data := .fields fv } C (some oD) := ⟨hx, rfl, rfl, hoD⟩
  have look : PySem.W.Looks (model prog w) hp (classData C) cd := PySem.W.looks_clsIn X hcd
  refine PySem.W.osa_openX (s := ⟨hp, g, d, t, os⟩) (r := none) T.sf X inst T.ovr (by unfold PySem.W.takerIn; rw [ha]; rfl) fun b => ?_
  show wpAny _ _ (storeInOwnDict (.ref x) (.ref C) (.str name tk) name v b) _ _ _
  obtain ⟨c1, c2, c3, c4, c5, c6, c7, c8, c9, c10, c11⟩ := cd
  have hh : c6 = true := hh
  subst hh
  unfold storeInOwnDict ownDictForStores
  repeat (first | with_reducible refine PySem.OEX.store_in_old hns hw hz ?_ | with_reducible refine wpAny_loadPart_at hx ?_ | with_reducible refine look.at ?_ | wp_step)
  intro h' tk' ns sb
  exact hq h' tk' (fun c o hc ho => (sb.2 c hc).trans ho) ns
end
section
variable {X : Cx} {pins : List (Addr × Obj)} {σ : L2.St} {H : Hp} {s : Shared} {a C dx : Addr} {f : Str} {y : V} {u : Value} {fs : List (Str × V)} {Q : Unit → Shared → Prop} {E : Value → Shared → Prop} {A : Around} {B newId initId : String} {bmB : List Value}
/-- self.f = y, the first one -/
theorem set_first (T : OexB X.K C B newId initId bmB) (I : Inv X pins σ H s) (e : H a = some (exo a C none)) (hno : PySem.W.findIn X.K (.ref C) f = some none) (ry : RelV y u)
    (h : ∀ dx s', H dx = none → dx ≠ a → Inv X pins σ (upd (upd H dx (exd dx [(f, y)])) a (exo a C (some dx))) s' → Q () s') : wpAny (model X.prog X.w) A (setAttr (.ref a) f u) Q E s := by
  obtain ⟨t1, ho⟩ := exo_at I.hok e
  obtain ⟨hp, gg, dd, t, os⟩ := s
  refine PySem.W.set_plain I.kIn (ox := { cls := .ref C, dict := none, data := .fields #[.ref t1, .none, .none, .none, .bool false, .none] }) (od := none) ⟨ho, rfl, rfl, trivial⟩ T.sa ?_
  refine put_first T I.kIn ho hno fun h' tk' dx k dn dne hx hn => ?_
  have free : H dx = none := I.hok.fresh dn
  have young : ∀ {b : Addr} {o : Obj}, hp.get? b = some o → b ≠ dx := fun q => Nat.ne_of_lt (Nat.lt_of_lt_of_le (Heap.lt_size q) dn)
  have other : ∀ {b : Addr}, H b = none → b ≠ a := fun n z => by rw [z, e] at n; cases n
  have both : ∀ {b : Addr} {o : HO}, H b = some o → exo a C none ≠ o → (upd (upd H dx (exd dx [(f, y)])) a (exo a C (some dx))) b = some o := fun q n => by
    rw [upd_ne (at_ne e q n), upd_ne (ne_of_none q free)]
    exact q
  have U : Un X.fs [] H (upd (upd H dx (exd dx [(f, y)])) a (exo a C (some dx))) hp h' :=
    { keep := fun b o q n _ _ => k b o (other n) q
      slot := fun b o q n _ _ => ⟨o.slots, k b o (other n) q⟩
      free := fun b o q n _ => by rw [upd_ne (other n), upd_ne (young q)]; exact n
      there := fun b o q _ => by
        by_cases z : b = a
        · subst z; exact ⟨_, hx⟩
        · exact ⟨o, k b o z q⟩
      tups := fun b xs q => both q exo_tup
      frzs := fun b o v q => both q exo_frz
      tbls := fun b ps q => ⟨#[], by rw [both q exo_tbl]; simp⟩ }
  refine h dx _ free dne (I.un (t' := tk') U fun b o q => ?_)
  by_cases z : b = a
  · subst z
    rw [upd_same] at q
    cases q
    exact exo_ok hx
  rw [upd_ne z] at q
  by_cases z2 : b = dx
  · subst z2
    rw [upd_same] at q
    cases q
    exact exd_ok hn (relO_put (fs := []) ry fun _ => True.intro)
  rw [upd_ne z2] at q
  refine (I.hok b o q).stay (fun c v hc z3 => k c v ?_ z3) (fun c hc => both hc exo_own) fun c xs hc => both hc exo_tup
  rcases hc with hc | hc
  · rw [hc]; exact z
  · exact at_ne e hc exo_own
/-- self.f = y, a further one -/
theorem set_more (T : OexB X.K C B newId initId bmB) (I : Inv X pins σ H s) (e : H a = some (exo a C (some dx))) (ed : H dx = some (exd dx fs)) (hl : fs.length ≤ 900) (hno : PySem.W.findIn X.K (.ref C) f = some none) (ry : RelV y u)
    (h : ∀ s', Inv X pins σ (upd H dx (exd dx ((f, y) :: fs))) s' → Q () s') : wpAny (model X.prog X.w) A (setAttr (.ref a) f u) Q E s := by
  obtain ⟨t1, ho⟩ := exo_at I.hok e
  obtain ⟨mA, hns, rel⟩ := exd_at I.hok ed
  have hw := within_of rel
  obtain ⟨hp, gg, dd, t, os⟩ := s
  obtain ⟨oD, _, _, hoD, _, _⟩ := hns.count hw
  refine PySem.W.set_plain I.kIn (ox := { cls := .ref C, dict := some dx, data := .fields #[.ref t1, .none, .none, .none, .bool false, .none] }) (od := some oD) ⟨ho, rfl, rfl, hoD⟩ T.sa ?_
  refine put_more T I.kIn ho hns hw (by rw [List.length_map]; omega) hno fun h' tk' k hn => ?_
  have there : ∃ o, h'.get? dx = some o := let ⟨o, _, _, e', _⟩ := hn; ⟨o, e'⟩
  exact h _ (I.write (t' := tk') (x := dx) (e := dx) (o := exd dx ((f, y) :: fs)) (by rw [ed]; trivial) (.inl rfl) k there (exd_ok hn (relO_put ry rel)))
end
/-- self.f = e in such a class's __init__ -/
def tOstB (K : PySem.W.Frag) (f : Str) (to te : TE) : TS := fun D σ H => te σ H fun y H1 => to σ H1 fun x H2 => ∃ (a C : Addr) (B newId initId : String) (bmB : List Value), x = .ref a ∧ OexB K C B newId initId bmB ∧ PySem.W.findIn K (.ref C) f = some none ∧
  ((H2 a = some (exo a C none) ∧ ∀ dx, H2 dx = none → dx ≠ a → D.nx σ (upd (upd H2 dx (exd dx [(f, y)])) a (exo a C (some dx)))) ∨
    ∃ (dx : Addr) (fs : List (Str × V)), H2 a = some (exo a C (some dx)) ∧ H2 dx = some (exd dx fs) ∧ fs.length ≤ 900 ∧ D.nx σ (upd H2 dx (exd dx ((f, y) :: fs))))
section
variable {X : Cx} {o e : Expr} {to te : TE} {f : Str} {p p' pos : Pos} {es : List Expr} {ta : TA} {B newId initId : String} {bmB : List Value}
theorem ps_ostB (ho : PE X o to) (he : PE X e te) (hs : swapsWith e (some (.Attribute o f p')) pos.line X.env = pure false := by rfl) : PS X (.Assign [.Attribute o f p'] e pos) (tOstB X.K f to te) := by
  refine ⟨fun pins s σ H D I h => ?_⟩
  refine plainObj_wpAny_Assign_Attribute (thn (he.run pins s σ H _ I h) fun v s1 ⟨y, H1, I1, r1, q1⟩ => thn (ho.run pins s1 σ H1 _ I1 q1) fun u s2 hu => ?_) hs
  obtain ⟨x, H2, I2, r2, a, C, B, n, i, bm, rfl, T, hno, q⟩ := hu
  cases (show u = Value.ref a from r2)
  rcases q with ⟨ea, q⟩ | ⟨dx, fs, ea, ed, hl, q⟩
  · exact set_first T I2 ea hno r1 fun dx s' n ne J => ⟨σ, _, J, q dx n ne⟩
  · exact set_more T I2 ea ed hl hno r1 fun s' J => ⟨σ, _, J, q⟩
/-- C(e, ..): its own __init__ keeps sp -/
theorem pmk_oexB {x : Str} {C fI : Addr} {k : Nat} {fd : FuncData} {ps : List Str} {sp : Sp} (T : OexB X.K C B newId initId bmB) (iC : PySem.W.findIn X.K (.ref C) "__init__" = some (some (.ref fI))) (tI : PySem.W.typeIn X.K (.ref fI) = some (.type "function"))
    (F1 : FnOk X.prog X.w X.K X.mg X.base CX0 k fI fd ps sp) (hr : Room (k + 1) X.A) (hb : Binds X.K fd ps []) (hg : Gl X x) (hm : X.mg x = some (.ref C)) (ha : PA X (e :: es) ta)
    (hdb : (x == ("__debug__" : Str)) = false := by decide) (he : starEach (e :: es) X.env = (false, eval e X.env) :: starEach es X.env := by rfl) (hpl : (backTo pos (starEach es X.env)).any (·.1) = false := by rfl) :
    PMk X (.Call (.Name x p) (e :: es) [] pos) (tMkO C sp [] ta) := by
  intro pins s σ H Q I h
  refine wpAny_Call_Name_kw (ld_glob I hg hm ?_ hdb)
  refine PySem.W.callWith_K (h₀ := X.base) I.ok.mod.kin T.kC (thn (ha.run pos pins s σ H _ I h) fun us s1 ⟨vs, H1, I1, r1, hz, q1⟩ => ⟨I1.kIn, ?_⟩) he hpl
  show wpAny _ _ (call (.ref C) us) _ _ _
  obtain ⟨nm, N, qn, bs, bm, hdct, sn, sub, ab, col, dd, k0, k1, k2, k3, k5, hC, hT⟩ := PySem.W.excInit_of I1.kIn T.ini
  obtain ⟨hp, gg, dr, tk, os⟩ := s1
  have up1 : hp.objs.size ≤ hp.objs.size + 1 := Nat.le_succ _
  have hq := q1 (hp.objs.size + 1) (I1.hok.fresh up1)
  have kk : ∀ b o, hp.get? b = some o → ((hp.push (PySem.W.kdv_tup us)).push (PySem.HandSPX.excO C hp.objs.size)).get? b = some o := fun b o q => Heap.get?_push_of_some _ (Heap.get?_push_of_some _ q)
  have at1 : ((hp.push (PySem.W.kdv_tup us)).push (PySem.HandSPX.excO C hp.objs.size)).get? (hp.objs.size + 1) = some (PySem.HandSPX.excO C hp.objs.size) := by heap_get
  have I2 : Inv X pins σ (upd H1 (hp.objs.size + 1) (exo (hp.objs.size + 1) C none)) ⟨(hp.push (PySem.W.kdv_tup us)).push (PySem.HandSPX.excO C hp.objs.size), gg, dr, tk, os⟩ := I1.laid (t' := tk) (o := exo (hp.objs.size + 1) C none) kk up1 (exo_ok at1)
  have r2 : Vals (V.ref (hp.objs.size + 1) :: (vs ++ [])) (Value.ref (hp.objs.size + 1) :: (us ++ [])) := .cons rfl (r1.append .nil)
  have hl : (Value.ref (hp.objs.size + 1) :: us ++ []).length = ps.length := by
    have := r2.length
    rw [F1.len _ _ _ _ hq] at this
    exact this.symm
  have few : us.length ≤ sizeLine := by
    rw [← Paired.length r1, sizeLine_eq]
    omega
  refine wpAny_call (PySem.HandSPX.call_own T.fb hT hC (PySem.W.looks_findIn I1.kIn iC) (fun self => PySem.W.bind_fn I1.kIn self tI) few (codeAny_mono (F1.run _ X.stack _ _ ⟨Value.ref (hp.objs.size + 1) :: us, []⟩ (Value.ref (hp.objs.size + 1) :: (us ++ [])) _ _ (fun _ _ _ => False) (hr.make C us []) (I2.env0.make C us []) (by rw [← List.cons_append]; exact hb _ (Value.ref (hp.objs.size + 1) :: us) I2.kIn hl) r2 hq) fun r s' z => ?_))
  match r, z with
  | .error _, z => exact z.elim
  | .ok .next, z => exact z.elim
  | .ok .brk, z => exact z.elim
  | .ok .cont, z => exact z.elim
  | .ok (.ret u), z =>
    obtain ⟨v, H2, os2, bare2, un2, hok2, rv, ev, dA, fs, ea, ed, hd1, q2⟩ := z
    subst ev
    obtain ⟨h2, g2, d2, t2, os'⟩ := s'
    exact ⟨rv, mk_end (raises_own T.exC T.tyC) I1 up1 kk un2 hok2 os2 bare2 ea ed hd1 q2⟩
end
end My
set_option Elab.async false
set_option linter.all false
set_option maxRecDepth 100000
set_option maxHeartbeats 4000000
/-! isinstance(e, c) and isinstance(e, (c, ..)), e a caught error that has fields. -/
namespace My
open PySem PySem.Spec PySem.Calls PyProof.Rows PySem.W L2
section
variable {prog : Program} {w : World} {A : Around} {E : Value → Shared → Prop} {s : Shared} {K : Frag} {x D : Addr} {ox : Obj} {od : Option Obj}
/-- what e.__class__ is, whatever e's own dict holds -/
theorem class_of {Q : Option Value → Shared → Prop} (T : ExcC K D) (X : K.In s.heap) (I : InstAt s.heap x ox D od) (h : Q (some (.ref D)) { s with toks := s.toks + 1 }) : wpAny (model prog w) A (getAttr? (.ref x) "__class__") Q E s := by
  have found : findObj K D od "__class__" = some (.bind (.builtin "getset_descriptor.__get__") (.builtin "object.__class__")) := by
    obtain ⟨cd, hc, _⟩ := any_some T.hd
    unfold findObj
    rw [hc, Option.bind_some, T.ha, Option.bind_some]
    simp [T.hn, T.ht]
  obtain ⟨hp, g, d, t, os⟩ := s
  have ty := I.type (M := model prog w)
  have isE : Looks (model prog w) hp (isInstance (.ref x) (.type "BaseException")) true := ty.andThen (looks_subIn X T.hs)
  have ne : (Value.builtin "BaseException.__getattribute__" == Value.builtin "object.__getattribute__") = false := by decide +kernel
  unfold getAttr? getAttrBy? getAttrBy
  refine wpAny_bind (wpAny_mkText (wpAny_bind (wpAny_attempt (wpAny_holding (wpAny_bind (ty.at (wpAny_bind ((looks_findIn (M := model prog w) X T.hg).at ?_))))))))
  dsimp only
  rw [if_neg (by rw [ne, Bool.and_false]; exact Bool.false_ne_true)]
  unfold getAttrByItsOwn hookBefore
  refine wpAny_bind ?_
  rw [if_pos (show onTheHeap (Value.ref D) = true from rfl)]
  refine (looks_findIn (M := model prog w) X T.hk).at (wpAny_bind (wpAny_attempt (wpAny_holding ?_)))
  unfold callGetattribute
  rw [if_neg (by show ¬ (false && onTheHeap (Value.builtin "BaseException.__getattribute__")) = true; exact Bool.false_ne_true)]
  unfold boundAndCalled
  rw [PySem.F.excAttr_ValueError.ga.bind (.ref x)]
  refine wpAny_bind (wpAny_pure ?_)
  refine (wpAny_call (codeAny_call_builtin PySem.F.excAttr_ValueError.ga.plain PySem.F.entry_bexc_ga ?_) : wpAny _ _ (call (.builtin "BaseException.__getattribute__") [.ref x, .str "__class__" t]) _ _ _)
  refine @check_slot (model prog w) _ _ ⟨hp, g, d, t + 1, os⟩ "BaseException.__getattribute__" "BaseException" "__getattribute__" (.ref x) [.str "__class__" t] [] _ (by decide +kernel) (by decide +kernel) isE (PySem.F.args_bexc_ga (.ref x) (.str "__class__" t)) ?_
  unfold Builtin.«object.__getattribute__»
  refine wpAny_bind (wpAny_of_eq (a := ((Value.ref x : Value), [Value.str "__class__" t])) (by first | rfl | (simp only [slotArgs]; rfl)) ?_)
  refine wpAny_bind (wpAny_pure (wpAny_bind (ty.at (wpAny_bind ((looks_find (M := model prog w) X I found).at ?_)))))
  refine (wpAny_bind (wpAny_holding (wpAny_call (class_get (s := ⟨hp, g, d, t + 1, os⟩) X I T.hm ?_))) : wpAny _ _ (holding [Value.builtin "object.__class__"] (call (.builtin "getset_descriptor.__get__") [.builtin "object.__class__", .ref x, .ref D]) >>= ret) _ _ _)
  refine wpAny_pure ?_
  show wpAny _ _ (handedOut (.ref D)) _ _ _
  rw [handedOut_of (v := .ref D) rfl]
  first
    | exact wpAny_pure (wpAny_pure h)
    | exact wpAny_pure h
    | exact wpAny_pure (wpAny_bind (wpAny_pure (wpAny_pure h)))
/-- an error, with or without fields, for isinstance -/
theorem kit_err (T : ExcC K D) : KitX K (.ref x) (.ref D) (fun h => ∃ od, InstAt h x ox D od) := by
  have Z := handS_kitx_exc (x := x) (ox := ox) T.hg T.hk T.hs T.hd T.ha T.hn T.ht T.hm
  obtain ⟨cd, hc, _⟩ := any_some T.hd
  refine ⟨fun M h _ ⟨od, I⟩ => I.type, fun M h X _ => ?_, Z.ne, fun X ⟨od, I⟩ k => class_of T X I k⟩
  unfold clsIn at hc
  split at hc
  · rename_i c' d' cd' sl' ho
    intro A' Q' E' s' k q
    unfold isType loadHead
    exact wpAny_bind (wpAny_loadPart (k _ _ (X _ _ ho)) (wpAny_pure q))
  · cases hc
end
section
variable {X : Cx}
theorem inst_err {a D : Addr} {oe : Obj} {d : Option Addr} {pn pins : List (Addr × Obj)} {σ : L2.St} {H : Hp} {s : Shared} (I : Inv (X.suite a ((a, oe) :: pn)) pins σ H s) (hz : Zc (.ref D) d oe) (hf : ∃ vs, oe.data = .fields vs)
    (hd : ∀ dd, d = some dd → ∃ fs, H dd = some (.xd fs)) : ∃ od, InstAt s.heap a oe D od := by
  obtain ⟨ha, _⟩ := I.pin (a, oe) (List.mem_append_left _ List.mem_cons_self)
  obtain ⟨vs, hv⟩ := hf
  have nc : notCls oe = true := by unfold notCls; rw [hv] <;> rfl
  cases d with
  | none => exact ⟨none, ha, hz.1, nc, by rw [hz.2]; trivial⟩
  | some dd =>
    obtain ⟨fs, ea⟩ := hd dd rfl
    have hx : ObjOk X.prog X.w H s.heap dd (.xd fs) := I.hok dd _ ea
    obtain ⟨mA, hns, _⟩ := hx
    obtain ⟨od, ho, _⟩ := lookIn_ns hns
    exact ⟨some od, ha, hz.1, nc, by rw [hz.2]; exact ho⟩
/-- isinstance(e, c), e the caught error -/
def rIsF (K : Frag) (D a : Addr) (d : Option Addr) : List V → Hp → VK → Prop := fun xs H Q => ∃ (c : V) (cv : Value) (b : Bool), xs = [.ref a, c] ∧ (∀ u, RelV c u → u = cv) ∧ kitOne K (.ref D) cv = some b ∧ (∀ dd, d = some dd → ∃ fs, H dd = some (.xd fs)) ∧ Q (.bl b) H
theorem call_isF {a D : Addr} {oe : Obj} {d : Option Addr} {pn : List (Addr × Obj)} (C : ExcC X.K D) (hz : Zc (.ref D) d oe) (hf : ∃ vs, oe.data = .fields vs) : CallR (X.suite a ((a, oe) :: pn)) (.builtin "isinstance") (rIsF X.K D a d) := by
  intro pins s σ H xs us Q I r h
  obtain ⟨c, cv, b, rfl, hcv, e, hd, q⟩ := h
  cases r with
  | cons rx rr =>
  cases rr with
  | cons rt rr =>
  cases rr
  cases rx
  rw [hcv _ rt]
  exact kia_one (kit_err C) I.kIn (inst_err I hz hf hd) e (fun z => nomatch z) fun tk => ⟨.bl b, H, I.kept (t' := tk) fun _ _ z => z, rfl, q⟩
/-- isinstance(e, (c1, c2, ..)), the classes in a tuple that the block has just made -/
def rIsFT (K : Frag) (D a : Addr) (d : Option Addr) : List V → Hp → VK → Prop := fun xs H Q => ∃ (t : Addr) (cs : List V) (cv : List Value) (b : Bool), xs = [.ref a, .ref t] ∧ SqT K H t cs ∧ (∀ us, Vals cs us → us = cv) ∧ kitAny K (.ref D) cv = some b ∧ (∀ dd, d = some dd → ∃ fs, H dd = some (.xd fs)) ∧ Q (.bl b) H
theorem call_isFT {a D : Addr} {oe : Obj} {d : Option Addr} {pn : List (Addr × Obj)} (C : ExcC X.K D) (hz : Zc (.ref D) d oe) (hf : ∃ vs, oe.data = .fields vs) : CallR (X.suite a ((a, oe) :: pn)) (.builtin "isinstance") (rIsFT X.K D a d) := by
  intro pins s σ H xs us Q I r h
  obtain ⟨t, cs, cv, b, rfl, ht, hcv, e, hd, q⟩ := h
  cases r with
  | cons rx rr =>
  cases rr with
  | cons rt rr =>
  cases rr
  cases rx
  cases rt
  obtain ⟨its, rv, pl, _⟩ := I.tuple ht
  have ei := hcv its rv
  subst ei
  obtain ⟨o, ho, hc, n, hd2⟩ := (pl : s.heap.IsTuple t its.toArray)
  obtain ⟨oc, od, oda, osl⟩ := o
  dsimp only at hc hd2
  subst hc hd2
  exact kia_tup (kit_err C) I.kIn (inst_err I hz hf hd) ho e (fun z => nomatch z) fun tk => ⟨.bl b, H, I.kept (t' := tk) fun _ _ z => z, rfl, q⟩
end
end My
set_option Elab.async false
set_option linter.all false
set_option maxRecDepth 100000
set_option maxHeartbeats 2000000
/-! own `in`, `not in` within an except suite. -/
namespace My
open PySem PySem.Spec PyProof.Rows L2 L2H
section
variable {X : Cx} {k : Nat} {f C : Addr} {fd : FuncData} {ps : List Str} {sp : Sp}
theorem run_ownH {pins : List (Addr × Obj)} {σ : L2.St} {H : Hp} {s : Shared} {us : List Value} {vs : List V} {Q : VK} (F : FnH X.prog X.w X.K X.mg X.base CX0 k f fd ps sp) (hr : RoomH k X.A) (hc : HotC X) (hb : Binds X.K fd ps [])
    (I : Inv X pins σ H s) (r : Vals vs us) (h : sp vs H Q E0) {R : Value → Shared → Prop} (hR : ∀ u s', EP X pins σ Q u s' → R u s') : wpAny (model X.prog X.w) X.A (call (.ref f) us) R X.xe s := by
  refine wpAny_mono (run_fnH (E := fun _ => E0) F hr hc hb (fun _ _ _ _ _ _ hq => False.elim hq) I r h) hR (fun _ _ z => z)
theorem op_inOwnH (m : Meth X.K C "__contains__" f) (F : FnH X.prog X.w X.K X.mg X.base CX0 k f fd ps sp) (hr : RoomH k X.A) (hc : HotC X) (hb : Binds X.K fd ps []) : OpR X (compareOp .In) (rInOwn C sp false) := by
  intro pins s σ H x y v u Q I rx ry h
  obtain ⟨a, dx, fs, rfl, ea, hsp⟩ := h
  cases (show u = Value.ref a from ry)
  obtain ⟨od, J⟩ := inst_of I ea
  obtain ⟨mm, Fm⟩ := I.fr
  refine PySem.W.in_K Fm I.mod.kin J m.at_ m.fn (run_ownH F hr hc hb I (vs := [.ref a, x]) (.cons rfl (.cons rx .nil)) hsp fun u s' hu => ?_)
  obtain ⟨z, H', I', rz, b, rfl, q⟩ := hu
  cases (show u = Value.bool b from rz)
  exact wpAny_truthy_bool ⟨.bl b, H', I', rfl, q⟩
theorem op_notInOwnH (m : Meth X.K C "__contains__" f) (F : FnH X.prog X.w X.K X.mg X.base CX0 k f fd ps sp) (hr : RoomH k X.A) (hc : HotC X) (hb : Binds X.K fd ps []) : OpR X (compareOp .NotIn) (rInOwn C sp true) := by
  intro pins s σ H x y v u Q I rx ry h
  obtain ⟨a, dx, fs, rfl, ea, hsp⟩ := h
  cases (show u = Value.ref a from ry)
  obtain ⟨od, J⟩ := inst_of I ea
  obtain ⟨mm, Fm⟩ := I.fr
  refine PySem.W.notIn_K Fm I.mod.kin J m.at_ m.fn (run_ownH F hr hc hb I (vs := [.ref a, x]) (.cons rfl (.cons rx .nil)) hsp fun u s' hu => ?_)
  obtain ⟨z, H', I', rz, b, rfl, q⟩ := hu
  cases (show u = Value.bool b from rz)
  exact wpAny_truthy_bool ⟨.bl (!b), H', I', rfl, q⟩
end
section
variable {X : Cx} {o e : Expr} {to te : TE} {f : Str} {p p' pos : Pos} {es : List Expr} {ta : TA} {B newId initId : String} {bmB : List Value}
/-- the same error, made where nothing is handled: its context is None -/
theorem pmk_oexBN {x : Str} {C fI : Addr} {k : Nat} {fd : FuncData} {ps : List Str} {sp : Sp} (T : OexB X.K C B newId initId bmB) (iC : PySem.W.findIn X.K (.ref C) "__init__" = some (some (.ref fI))) (tI : PySem.W.typeIn X.K (.ref fI) = some (.type "function"))
    (F1 : FnOk X.prog X.w X.K X.mg X.base CX0 k fI fd ps sp) (hr : Room (k + 1) X.A) (hb : Binds X.K fd ps []) (hg : Gl X x) (hm : X.mg x = some (.ref C)) (ha : PA X (e :: es) ta)
    (hdb : (x == ("__debug__" : Str)) = false := by decide) (he : starEach (e :: es) X.env = (false, eval e X.env) :: starEach es X.env := by rfl) (hpl : (backTo pos (starEach es X.env)).any (·.1) = false := by rfl) :
    L2N.PMk X (.Call (.Name x p) (e :: es) [] pos) (tMkO C sp [] ta) := by
  intro pins s σ H Q I h
  refine wpAny_Call_Name_kw (ld_glob I hg hm ?_ hdb)
  refine PySem.W.callWith_K (h₀ := X.base) I.ok.mod.kin T.kC (thn (ha.run pos pins s σ H _ I h) fun us s1 ⟨vs, H1, I1, r1, hz, q1⟩ => ⟨I1.kIn, ?_⟩) he hpl
  show wpAny _ _ (call (.ref C) us) _ _ _
  obtain ⟨nm, N, qn, bs, bm, hdct, sn, sub, ab, col, dd, k0, k1, k2, k3, k5, hC, hT⟩ := PySem.W.excInit_of I1.kIn T.ini
  obtain ⟨hp, gg, dr, tk, os⟩ := s1
  have up1 : hp.objs.size ≤ hp.objs.size + 1 := Nat.le_succ _
  have hq := q1 (hp.objs.size + 1) (I1.hok.fresh up1)
  have kk : ∀ b o, hp.get? b = some o → ((hp.push (PySem.W.kdv_tup us)).push (PySem.HandSPX.excO C hp.objs.size)).get? b = some o := fun b o q => Heap.get?_push_of_some _ (Heap.get?_push_of_some _ q)
  have at1 : ((hp.push (PySem.W.kdv_tup us)).push (PySem.HandSPX.excO C hp.objs.size)).get? (hp.objs.size + 1) = some (PySem.HandSPX.excO C hp.objs.size) := by heap_get
  have I2 : Inv X pins σ (upd H1 (hp.objs.size + 1) (exo (hp.objs.size + 1) C none)) ⟨(hp.push (PySem.W.kdv_tup us)).push (PySem.HandSPX.excO C hp.objs.size), gg, dr, tk, os⟩ := I1.laid (t' := tk) (o := exo (hp.objs.size + 1) C none) kk up1 (exo_ok at1)
  have r2 : Vals (V.ref (hp.objs.size + 1) :: (vs ++ [])) (Value.ref (hp.objs.size + 1) :: (us ++ [])) := .cons rfl (r1.append .nil)
  have hl : (Value.ref (hp.objs.size + 1) :: us ++ []).length = ps.length := by
    have := r2.length
    rw [F1.len _ _ _ _ hq] at this
    exact this.symm
  have few : us.length ≤ sizeLine := by
    rw [← Paired.length r1, sizeLine_eq]
    omega
  refine wpAny_call (PySem.HandSPX.call_own T.fb hT hC (PySem.W.looks_findIn I1.kIn iC) (fun self => PySem.W.bind_fn I1.kIn self tI) few (codeAny_mono (F1.run _ X.stack _ _ ⟨Value.ref (hp.objs.size + 1) :: us, []⟩ (Value.ref (hp.objs.size + 1) :: (us ++ [])) _ _ (fun _ _ _ => False) (hr.make C us []) (I2.env0.make C us []) (by rw [← List.cons_append]; exact hb _ (Value.ref (hp.objs.size + 1) :: us) I2.kIn hl) r2 hq) fun r s' z => ?_))
  match r, z with
  | .error _, z => exact z.elim
  | .ok .next, z => exact z.elim
  | .ok .brk, z => exact z.elim
  | .ok .cont, z => exact z.elim
  | .ok (.ret u), z =>
    obtain ⟨v, H2, os2, bare2, un2, hok2, rv, ev, dA, fs, ea, ed, hd1, q2⟩ := z
    subst ev
    obtain ⟨h2, g2, d2, t2, os'⟩ := s'
    obtain ⟨t0, G, J, kG, ge, hoe, na⟩ := mk_end0 (d2 := d2) (t2 := t2) I1 up1 kk un2 hok2 os2 bare2 ea ed hd1
    exact ⟨rv, hp.objs.size + 1, _, _, ⟨G, g2, d2, t2, os'⟩, _, .ref C, some dA, rfl, J, kG, ge, hoe, ⟨rfl, rfl, fun vs hv => by cases hv; rfl⟩, rfl, rfl, na, rfl, bare2, raises_own T.exC T.tyC, q2⟩
end
section
variable {P : Program} {w : World} {K : PySem.W.Frag} {mg : Str → Option Value} {base : Heap} {x qual : Str} {st : Stmt} {f : Addr} {fd : FuncData} {N ps : List Str} {k : Nat} {sp : Sp}
/-- a def that may raise an error whose context is None -/
theorem okN (F : Fun K x qual st f fd) (S : FnScope N ps (defScope st)) (len : ∀ vs H Q E, sp vs H Q E → vs.length = ps.length)
    (body : ∀ (cdv : Value) (A : Around) (outer : List Env) (s : Shared) (H : Hp) (vs : List V) (Q : VK) (E : XK), Room k (A.deeper (envOfC qual (defScope st) s.heap.objs.size f cdv)) → sp vs H Q E →
      ∃ t, PSs (cxOf (L2N.CX P w) P w K mg base N qual (defScope st) f cdv A outer s H E) (defBody st) t ∧ t { nx := fun _ H' => Q .non H', rt := Q } (L2.start N vs) H) : FnOk P w K mg base (L2N.CX P w) (k + 1) f fd ps sp := by
  obtain ⟨oc, od, kV, doc, pm, an, cdv, ct, osl, e, lk, hcd⟩ := F.ex
  subst e
  exact fn_of lk hcd S len (body cdv)
/-- a def that is called within an except suite and raises nothing -/
theorem okH (F : Fun K x qual st f fd) (S : FnScope N ps (defScope st)) (len : ∀ vs H Q E, sp vs H Q E → vs.length = ps.length)
    (body : ∀ (cdv : Value) (A : Around) (outer : List Env) (s : Shared) (H : Hp) (vs : List V) (Q : VK) (E : XK) (p : Addr × Obj), Hot1 A p → RoomH k (A.deeper (envOfC qual (defScope st) s.heap.objs.size f cdv)) → sp vs H Q E →
      ∃ t, PSs (cxH CX0 P w K mg base N qual (defScope st) f cdv A outer s H E p) (defBody st) t ∧ t { nx := fun _ H' => Q .non H', rt := Q } (L2.start N vs) H) : FnH P w K mg base CX0 (k + 1) f fd ps sp := by
  obtain ⟨oc, od, kV, doc, pm, an, cdv, ct, osl, e, lk, hcd⟩ := F.ex
  subst e
  exact fn_ofH lk hcd S len (body cdv)
end
section
variable {X : Cx} {CX : CXT} {k : Nat} {f C : Addr} {fd : FuncData} {ps : List Str} {sp : Sp} {E : L2.St → XK} {m : Str} {pos apos : Pos} {e o : Expr} {es : List Expr} {ta : TE} {t : TA}
/-- o.m(e, ..) in a try: m may raise -/
theorem pe_methA {pl : Sem Bool} (he : PE X o ta) (c : Cls X.K C) (hm : Meth X.K C m f) (F : FnOk X.prog X.w X.K X.mg X.base CX k f fd ps sp) (hr : Room k X.A) (hb : Binds X.K fd ps []) (hx : ∀ σ, PassesAt CX X σ (E σ)) (ha : PA X (e :: es) t)
    (hst : starEach (e :: es) X.env = (false, eval e X.env) :: starEach es X.env := by rfl) (hpl : (backTo pos (starEach es X.env)).any (·.1) = false := by rfl)
    (ht : eval (.Call (.Attribute o m apos) (e :: es) [] pos) X.env = (do
      let ov ← eval o X.env
      standAt apos.atName
      let (f, first) ← holding [ov] (getMethod ov m pl)
      callWith pos f first (backTo pos (starEach (e :: es) X.env)) (backToKw pos (keywordEach [] X.env))) := by rfl) :
    PE X (.Call (.Attribute o m apos) (e :: es) [] pos) (tMethH C m sp E ta t) := by
  refine ⟨fun pins s σ H Q I h => ?_⟩
  refine PySem.W.methodCall_KW (pl := pl) (thn (he.run pins s σ H _ I h) fun u s1 hh => ?_) ht
  obtain ⟨x, H1, I1, rx, a, dx, fs, rfl, ea, l, q⟩ := hh
  cases (show u = Value.ref a from rx)
  refine getmeth_ok I1 ea c hm l (PySem.W.callWith_K (first := [.ref a]) (h₀ := X.base) I.ok.mod.kin hm.kp (thn (ha.run pos pins s1 σ H1 _ I1 q) fun us s2 hu => ?_) hst hpl)
  obtain ⟨vs, H2, I2, r, q2⟩ := hu
  exact ⟨I2.kIn, run_fnS (us := .ref a :: us) (vs := .ref a :: vs) F hr hb (hx σ) I2 (.cons rfl r) q2⟩
end
end My
set_option Elab.async false
set_option linter.all false
set_option maxRecDepth 100000
set_option maxHeartbeats 4000000
/-! isinstance of a caught error: the class told in the reading; the facts of other classes. -/
namespace My
open PySem PySem.Spec PySem.Calls PyProof.Rows PySem.W L2
theorem kit_other {K : Frag} {E C2 : Addr} {dd : Option Addr} {cd : ClassData} {sl : Array (Option Value)} (lc : K.lookup C2 = some ⟨.type "type", dd, .cls cd, sl⟩) (se : subIn K (.ref E) (.ref E) = some true) (sb : subIn K (.ref E) (.ref C2) = some false) : kitOne K (.ref E) (.ref C2) = some false := by
  have ne : ¬ ((Value.ref E == Value.ref C2) = true) := fun z => by
    have z : Value.ref E = Value.ref C2 := beq_iff_eq.mp z
    rw [← z, se] at sb
    cases sb
  have a1 : clsIn K C2 = some cd := by unfold clsIn; rw [lc]
  have a2 : typeIn K (.ref C2) = some (.type "type") := by show (K.lookup C2).map (·.cls) = _; rw [lc]; rfl
  unfold kitOne
  rw [if_neg ne]
  show (if ((clsIn K C2).isSome && typeIn K (.ref C2) == some (.type "type")) = true then subIn K (.ref E) (.ref C2) else none) = some false
  rw [a1, a2, if_pos (by simp)]
  exact sb
theorem kit_base {K : Frag} {E : Addr} {T : String} {b : Bool} (hm : kitMeta T = true) (sb : subIn K (.ref E) (.type T) = some b) : kitOne K (.ref E) (.type T) = some b := by
  unfold kitOne
  rw [if_neg (by simp)]
  show (if kitMeta T = true then subIn K (.ref E) (.type T) else none) = some b
  rw [if_pos hm]
  exact sb
section
variable {X : Cx}
def rIsG (K : Frag) (D : Addr) (cls : Value) (a : Addr) (d : Option Addr) : List V → Hp → VK → Prop := fun xs H Q => cls = .ref D ∧ rIsF K D a d xs H Q
theorem call_isG {a D : Addr} {oe : Obj} {cls : Value} {d : Option Addr} {pn : List (Addr × Obj)} (C : ExcC X.K D) (hz : Zc cls d oe) (hf : ∃ vs, oe.data = .fields vs) : CallR (X.suite a ((a, oe) :: pn)) (.builtin "isinstance") (rIsG X.K D cls a d) := by
  intro pins s σ H xs us Q I r h
  obtain ⟨rfl, h⟩ := h
  exact call_isF C hz hf pins s σ H xs us Q I r h
def rIsGT (K : Frag) (D : Addr) (cls : Value) (a : Addr) (d : Option Addr) : List V → Hp → VK → Prop := fun xs H Q => cls = .ref D ∧ rIsFT K D a d xs H Q
theorem call_isGT {a D : Addr} {oe : Obj} {cls : Value} {d : Option Addr} {pn : List (Addr × Obj)} (C : ExcC X.K D) (hz : Zc cls d oe) (hf : ∃ vs, oe.data = .fields vs) : CallR (X.suite a ((a, oe) :: pn)) (.builtin "isinstance") (rIsGT X.K D cls a d) := by
  intro pins s σ H xs us Q I r h
  obtain ⟨rfl, h⟩ := h
  exact call_isFT C hz hf pins s σ H xs us Q I r h
end
end My
set_option Elab.async false
set_option linter.all false
set_option maxRecDepth 100000
set_option maxHeartbeats 2000000
/-! The end of a law that asks for a repr and makes lambdas: the tables of code objects are tracked. -/
namespace My
open PySem PySem.Spec PyProof.Rows L2 LamX
section
variable {P : Program} {w : World} {K : PySem.W.Frag} {mg : Str → Option Value} {base : Heap}
/-- a def whose code object is known -/
theorem Fun.okGC {x qual : Str} {st : Stmt} {f c : Addr} {fd : FuncData} {N ps : List Str} {k : Nat} {sp : Sp} (F : Fun K x qual st f fd) (hcode : fd.code = .ref c) (S : FnScope N ps (defScope st)) (len : ∀ vs H Q E, sp vs H Q E → vs.length = ps.length)
    (hbody : ∀ (A : Around) (outer : List Env) (s : Shared) (H : Hp) (vs : List V) (Q : VK) (E : XK), Room k (A.deeper (envOfC qual (defScope st) s.heap.objs.size f (.ref c))) → A.guards = some [] → sp vs H Q E →
      ∃ t, PSs (cxOf CX0 P w K mg base N qual (defScope st) f (.ref c) A outer s H E).nox (defBody st) t ∧ t { nx := fun _ H' => Q .non H', rt := Q } (start N vs) H) : FnG P w K mg base (k + 1) f fd ps sp := by
  obtain ⟨c0, d0, v0, e0, p0, n0, cv, t0, l0, rfl, hl0, hc0⟩ := F.ex
  have ecv : cv = .ref c := hcode
  subst ecv
  constructor
  · exact len
  intro A outer s H args us vs Q E hr hgd en hb rv hsp
  have hlen := len _ _ _ _ hsp
  have hkept : ∀ b o, base.get? b = some o → s.heap.get? b = some o := fun b o e => (en.bs b o e).1
  have hK : K.In s.heap := en.mod.kin.keeps hkept
  have hlim : s.heap.NoLimit := en.mod.nolimit.keeps hkept
  have hpar : ∀ y ∈ ps.zip us, (defScope st).names.lookup y.1 = some .local ∨ ((defScope st).names.lookup y.1 = some .cell ∧ ((cellsFrom (s.heap.objs.size + 1) (defScope st).names []).lookup y.1).isSome = true) := by
    rintro ⟨n, v⟩ hy
    rcases S.par n (List.of_mem_zip hy).1 with q | q
    · exact Or.inl q
    · exact Or.inr ⟨q, PySem.W.cellsFrom_some _ _ _ (Or.inl q)⟩
  apply codeAny_call_function hr.depth (hK _ _ hl0) rfl S.co S.gen rfl (PySem.W.codeRec_of hK hc0)
  apply hb
  apply wpAny_newFunctionEnv_cells S.kind hpar
  rintro env he s1 inC
  subst he
  refine ⟨hlim.keeps inC.toInCall.keep, codeAny_func ?_⟩
  obtain ⟨t, ht, hq⟩ := hbody A outer s H vs Q E (hr.deeper _) hgd hsp
  have I := inv_start (CX := CX0) (E := E) S hr.hd en hlen rv inC
  refine wpAny_mono (ht.nox.run [] s1 (start N vs) H _ I hq) ?_ (fun _ _ z => z)
  intro fl s' hs
  match fl, hs with
  | .ret u, ⟨v, σ', H', J, r2, q⟩ => exact ⟨v, H', J.os, J.bare, J.base, J.hok, r2, q⟩
  | .next, ⟨σ', H', J, q⟩ => exact ⟨V.non, H', J.os, J.bare, J.base, J.hok, rfl, q⟩
  | .brk, ⟨_, _, _, q⟩ => exact False.elim q
  | .cont, ⟨_, _, _, q⟩ => exact False.elim q
end
section
variable {X : Cx} {CX : CXT} {k : Nat} {f C : Addr} {fd : FuncData} {ps : List Str} {sp : Sp} {m : Str} {apos pos : Pos} {o : Expr} {kws : List Keyword} {ta : TE} {tk : TA}
/-- o.m(x=..) of a method that may raise, and does not here -/
theorem pe_methKX {pl : Sem Bool} (he : PE X o ta) (c : Cls X.K C) (hm : Meth X.K C m f) (F : FnOk X.prog X.w X.K X.mg X.base CX k f fd ps sp) (hx : Passes CX X E0) (hr : Room k X.A) (hb : KM0 X.K fd ps) (hkw : PK X kws tk)
    (hall : (backToKw pos (keywordEach kws X.env)).all (·.1.isSome) = true := by rfl) (hks : (backToKw pos (keywordEach kws X.env)).filterMap (·.1) = ps.drop 1 := by rfl)
    (hpl : ((backTo pos (starEach [] X.env)).any (·.1) || (backToKw pos (keywordEach kws X.env)).any (·.1.isNone)) = false := by rfl)
    (ht : eval (.Call (.Attribute o m apos) [] kws pos) X.env = (do
      let ov ← eval o X.env
      standAt apos.atName
      let (f, first) ← holding [ov] (getMethod ov m pl)
      callWith pos f first (backTo pos (starEach [] X.env)) (backToKw pos (keywordEach kws X.env))) := by rfl) :
    PE X (.Call (.Attribute o m apos) [] kws pos) (tMethK0 C m sp ta tk) := by
  constructor
  intro pins s σ H Q I h
  apply PySem.W.methodCall_KW (pl := pl) _ ht
  apply thn (he.run pins s σ H _ I h)
  rintro u s1 ⟨x, H1, I1, rx, a, dx, fs, rfl, ea, l, q⟩
  have eu : u = Value.ref a := rx
  subst eu
  apply getmeth_ok I1 ea c hm l
  apply PySem.W.callWith_KW0 (h₀ := X.base) (first := [.ref a]) I1.ok.mod.kin hm.kp hall _ hpl
  apply thn (hkw.run pos pins s1 σ H1 _ I1 q)
  rintro ws s2 ⟨zs, H2, I2, rz, q2⟩
  refine ⟨I2.kIn, ?_⟩
  have hl : ws.length + 1 = ps.length := by
    rw [← rz.length]
    exact F.len _ _ _ _ q2
  have rz2 : Vals (V.ref a :: zs) (Value.ref a :: ws) := .cons rfl rz
  have go := F.run X.A X.stack s2 H2 ⟨[.ref a], (ps.drop 1).zip ws⟩ (.ref a :: ws) (.ref a :: zs) Q E0 hr I2.env0 (hb s2 (.ref a) ws I2.kIn hl) rz2 q2
  rw [hks]
  refine wpAny_call (codeAny_mono go fun r s' hq => ?_)
  match r, hq with
  | .error e, hq => exact hx _ _ _ _ e s' I2 hq
  | .ok (.ret _), hq => exact I2.after hq
  | .ok .next, hq => exact False.elim hq
  | .ok .brk, hq => exact False.elim hq
  | .ok .cont, hq => exact False.elim hq
end
section
variable {P : Program} {w : World} {K : PySem.W.Frag} {mg mb : Str → Option Value} {k : Nat} {fa a : Addr} {fd : FuncData} {x : Str} {sp : Sp} {s₁ : Shared} {vs : List Value} {ns : List Int} {H : Hp} {cs : List (Addr × Addr)}
/-- what is tracked: the script and the tables -/
theorem env_lawT (KX : K.In s₁.heap) (hns : s₁.heap.Ns mainGlobals mg) (hb : s₁.heap.Ns builtinsNs mb) (hbb : ∀ x : Str, x ≠ "__name__" → mb x = bootBuiltins x) (hlim : s₁.heap.NoLimit) (hg : s₁.gens = #[])
    (tabs : ∀ p ∈ cs, s₁.heap.get? p.2 = some (PySem.W.tabObj #[])) (none_ : ∀ p ∈ cs, K.lookup p.2 = none) (codes : ∀ p ∈ cs, PySem.W.CodeHd s₁.heap p.1 p.2)
    (mods : ∃ bm ob, mg "__builtins__" = some (.ref bm) ∧ bm ≠ builtinsNs ∧ s₁.heap.get? bm = some ob ∧ ob.cls = .type "module" ∧ ob.dict = some builtinsNs ∧ ob.data = .plain)
    (ha : s₁.heap.get? a = some { cls := .type "list", data := .seq vs.toArray }) (hA : ∀ b, H b ≠ none → b = a ∨ ∃ p ∈ cs, b = p.2) (hK : H a ≠ none → K.lookup a = none) (hok : HOk P w H s₁.heap) :
    K.In (hidT s₁.heap H) ∧ (hidT s₁.heap H).Ns mainGlobals mg ∧ (∀ p ∈ cs, TabB (hidT s₁.heap H) mg p.1 p.2) ∧ Env0 P w K mg (hidT s₁.heap H) callerA [] s₁ H := by
  have free : ∀ {b : Addr} {o : Obj}, s₁.heap.get? b = some o → ¬ (∃ q n, o.data = .seq q n) → ¬ o.data = .fields #[] → H b = none := by
    intro b o e n1 n2
    by_cases hb : H b = none
    · exact hb
    · exfalso
      rcases hA b hb with z | ⟨p, hp, z⟩
      · rw [z, ha] at e
        cases e
        exact n1 ⟨_, _, rfl⟩
      · rw [z, tabs p hp] at e
        cases e
        exact n2 rfl
  have nsOf : ∀ {b : Addr} {m : Str → Option Value}, s₁.heap.Ns b m → (hidT s₁.heap H).Ns b m := by
    rintro b m ⟨o, es, ep, e, hd, rest⟩
    refine ⟨o, es, ep, hidT_get e (free e ?_ ?_), hd, rest⟩
    · rintro ⟨q, n, z⟩
      rw [hd] at z
      cases z
    · intro z
      rw [hd] at z
      cases z
  have kIn : K.In (hidT s₁.heap H) := by
    intro b o e
    refine hidT_get (KX b o e) ?_
    by_cases hb : H b = none
    · exact hb
    · exfalso
      rcases hA b hb with z | ⟨p, hp, z⟩
      · rw [z] at hb e
        rw [hK hb] at e
        cases e
      · rw [z, none_ p hp] at e
        cases e
  have md : Mod K mg (hidT s₁.heap H) := by
    obtain ⟨mc, h1, h2⟩ := hlim
    exact ⟨kIn, nsOf hns, ⟨mb, nsOf hb, hbb⟩, ⟨mc, nsOf h1, h2⟩⟩
  refine ⟨kIn, nsOf hns, fun p hp => ?_, ⟨rfl, md, fun b o e => of_hidT e, Nat.le_of_eq (hidT_size _ _), trivial, ?_, hok, .of_eq hg⟩⟩
  · constructor
    · obtain ⟨o, us, r⟩ := codes p hp
      obtain ⟨f1, f2, f3, f4, f5, f6, f7, g1, g2, g3, g4, g⟩ := r
      refine ⟨o, us, f1, f2, f3, f4, f5, f6, f7, hidT_get g1 (free g1 ?_ ?_), g2, g3, g4, g⟩
      · rintro ⟨q, n, z⟩
        rw [g3] at z
        cases z
      · intro z
        rw [g3] at z
        have z : us = #[] := by injection z
        rw [z] at g4
        cases g4
    · obtain ⟨bm, ob, m1, m2, m3, m4, m5, m6⟩ := mods
      refine ⟨bm, ob, m1, m2, ?_, ?_, hidT_get m3 (free m3 ?_ ?_), m4, m5, m6⟩
      · intro z
        obtain ⟨o, es, ep, e, hd, _⟩ := hns
        rw [← z, m3] at e
        cases e
        rw [m6] at hd
        cases hd
      · intro z
        have t := tabs p hp
        rw [← z, m3] at t
        cases t
        cases m6
      · rintro ⟨q, n, z⟩
        rw [m6] at z
        cases z
      · intro z
        rw [m6] at z
        cases z
    · intro z
      obtain ⟨o, es, ep, e, hd, _⟩ := hns
      rw [z, tabs p hp] at e
      cases e
      cases hd
  · intro b z
    cases (show b ∈ ([] : List Addr) from z)
/-- the law's own call -/
theorem law_callTG (KX : K.In s₁.heap) (hns : s₁.heap.Ns mainGlobals mg) (hb : s₁.heap.Ns builtinsNs mb) (hbb : ∀ x : Str, x ≠ "__name__" → mb x = bootBuiltins x) (hlim : s₁.heap.NoLimit) (hg : s₁.gens = #[])
    (tabs : ∀ p ∈ cs, s₁.heap.get? p.2 = some (PySem.W.tabObj #[])) (none_ : ∀ p ∈ cs, K.lookup p.2 = none) (codes : ∀ p ∈ cs, PySem.W.CodeHd s₁.heap p.1 p.2)
    (mods : ∃ bm ob, mg "__builtins__" = some (.ref bm) ∧ bm ≠ builtinsNs ∧ s₁.heap.get? bm = some ob ∧ ob.cls = .type "module" ∧ ob.dict = some builtinsNs ∧ ob.data = .plain)
    (ha : s₁.heap.get? a = some { cls := .type "list", data := .seq vs.toArray }) (hi : IntsAre vs ns) (hl : ns.length ≤ sizeLine) (hr : Room k callerA)
    (F : ∀ base : Heap, K.In base → base.Ns mainGlobals mg → (∀ p ∈ cs, TabB base mg p.1 p.2) → FnG P w K mg base k fa fd [x] sp) (hbind : ∀ (s : Shared) (u : Value), BindsTo s fd ⟨[u], []⟩ [(x, u)])
    (hsp : ∀ H : Hp, (∀ p ∈ cs, H p.2 = some (.tbl #[])) → SqL K H a (ns.map V.int) → sp [.ref a] H (fun v _ => v = .bl true) fun _ _ _ => False) :
    codeAny (model P w) callerA (.call (.ref fa) ⟨[.ref a], []⟩) (fun r s' => r = .ok (.ret (.bool true)) ∧ OldK s₁.heap s'.heap ∧ s'.os = s₁.os ∧ AllBare s'.gens) s₁ := by
  have at_ : ∀ p ∈ cs, p.2 ≠ a := by
    intro p hp z
    have t := tabs p hp
    rw [z, ha] at t
    cases t
  have main : ∀ H : Hp, (∀ p ∈ cs, H p.2 = some (.tbl #[])) → (∀ b, H b ≠ none → (b = a ∧ ∃ o xs, H b = some (.frz o (.lst xs))) ∨ ∃ p ∈ cs, b = p.2) → SqL K H a (ns.map V.int) → HOk P w H s₁.heap → (H a ≠ none → K.lookup a = none) →
      codeAny (model P w) callerA (.call (.ref fa) ⟨[.ref a], []⟩) (fun r s' => r = .ok (.ret (.bool true)) ∧ OldK s₁.heap s'.heap ∧ s'.os = s₁.os ∧ AllBare s'.gens) s₁ := by
    intro H tt only seq hok hK
    obtain ⟨k1, k2, k3, en⟩ := env_lawT KX hns hb hbb hlim hg tabs none_ codes mods ha (fun b z => (only b z).imp (fun y => y.1) id) hK hok
    have go := (F _ k1 k2 k3).run callerA [] s₁ H ⟨[.ref a], []⟩ [.ref a] [.ref a] (fun v _ => v = .bl true) (fun _ _ _ => False) hr rfl en (hbind s₁ (.ref a)) (.cons rfl .nil) (hsp H tt seq)
    refine codeAny_mono go fun r s' hq => ?_
    match r, hq with
    | .error _, hq => exact False.elim hq
    | .ok .next, hq => exact False.elim hq
    | .ok .brk, hq => exact False.elim hq
    | .ok .cont, hq => exact False.elim hq
    | .ok (.ret u), ⟨v, H', os, bare, un, hok', ru, ev⟩ =>
      have ev' : v = .bl true := ev
      subst ev'
      have eu : u = Value.bool true := ru
      subst eu
      have later : ∀ p ∈ cs, ∃ more : Array Value, s'.heap.get? p.2 = some (PySem.W.tabObj more) := by
        intro p hp
        obtain ⟨more, z⟩ := un.tbls p.2 #[] (tt p hp)
        exact ⟨_, hok' p.2 _ z⟩
      have keep : ∀ b o, (¬ ∃ p ∈ cs, b = p.2) → s₁.heap.get? b = some o → s'.heap.get? b = some o := by
        intro b o nb e
        by_cases z : H b = none
        · exact un.keep b o e z (by intro z2; cases (show b ∈ ([] : List Addr) from z2)) (by intro z2; cases z2)
        · rcases only b z with ⟨_, ob, xs, z⟩ | z
          · have after := (hok' b _ (un.frzs b ob _ z)).1
            have ahead := (hok b _ z).1
            rw [e] at ahead
            cases ahead
            exact after
          · exact absurd z nb
      refine ⟨rfl, ⟨fun b o e => ?_, fun b o e => ?_⟩, os, bare⟩
      · by_cases nb : ∃ p ∈ cs, b = p.2
        · obtain ⟨p, hp, rfl⟩ := nb
          obtain ⟨more, hm⟩ := later p hp
          rw [tabs p hp] at e
          cases e
          refine .inr (.inl ⟨((codes p hp).tab (tabs p hp)).isCodeTable, rfl, #[], more, rfl, ?_⟩)
          rw [Array.empty_append]
          exact hm
        · exact .inl (keep b o nb e)
      · by_cases nb : ∃ p ∈ cs, b = p.2
        · obtain ⟨p, hp, rfl⟩ := nb
          obtain ⟨more, hm⟩ := later p hp
          exact ⟨_, hm⟩
        · exact ⟨o, keep b o nb e⟩
  have rv := vals_ints hi
  classical
  let T0 : Hp := fun b => if ∃ p ∈ cs, b = p.2 then some (.tbl #[]) else none
  have t1 : ∀ p ∈ cs, T0 p.2 = some (.tbl #[]) := fun p hp => if_pos ⟨p, hp, rfl⟩
  have t2 : ∀ b, (¬ ∃ p ∈ cs, b = p.2) → T0 b = none := fun b h => if_neg h
  have ta : ¬ ∃ p ∈ cs, a = p.2 := fun ⟨p, hp, z⟩ => at_ p hp z.symm
  have tOk : ∀ b u, T0 b = some u → u = .tbl #[] ∧ ∃ p ∈ cs, b = p.2 := by
    intro b u z
    by_cases h : ∃ p ∈ cs, b = p.2
    · have : T0 b = some (.tbl #[]) := if_pos h
      rw [this] at z
      cases z
      exact ⟨rfl, h⟩
    · rw [t2 b h] at z
      cases z
  cases hk : K.lookup a with
  | some o =>
    have e := KX a o hk
    rw [ha] at e
    cases e
    refine main T0 t1 ?_ (Or.inr ⟨_, vs.toArray, _, hk, rfl, rfl, rfl, ?_, ?_⟩) ?_ (fun z => absurd (t2 a ta) z)
    · intro b z
      cases hz : T0 b with
      | none => exact absurd hz z
      | some u => exact .inr (tOk b u hz).2
    · rw [List.size_toArray, hi.length]
      exact hl
    · simpa using rv
    · intro b u z
      obtain ⟨rfl, p, hp, rfl⟩ := tOk b u z
      exact tabs p hp
  | none =>
    let H0 : Hp := fun b => if b = a then some (.frz { cls := .type "list", data := .seq vs.toArray } (.lst (ns.map V.int))) else T0 b
    have at0 : H0 a = some (.frz { cls := .type "list", data := .seq vs.toArray } (.lst (ns.map V.int))) := if_pos rfl
    have off : ∀ b, b ≠ a → H0 b = T0 b := fun b h => if_neg h
    refine main H0 (fun p hp => by rw [off _ (at_ p hp)]; exact t1 p hp) ?_ (Or.inl (Or.inr ⟨_, at0⟩)) ?_ (fun _ => hk)
    · intro b z
      by_cases h : b = a
      · rw [h]
        exact .inl ⟨rfl, _, _, at0⟩
      · rw [off b h] at z
        cases hz : T0 b with
        | none => exact absurd hz z
        | some u => exact .inr (tOk b u hz).2
    · intro b u z
      by_cases h : b = a
      · rw [h, at0] at z
        cases z
        rw [h]
        refine ⟨ha, ?_, vs, _, rv, ha⟩
        rw [List.length_map]
        exact hl
      · rw [off b h] at z
        obtain ⟨rfl, p, hp, rfl⟩ := tOk b u z
        exact tabs p hp
end
/-- the goal that the head leaves, by the law's promise; xs: the defs that make lambdas -/
theorem walk_ofTG {l : PySem.W.OpenLaw} {n k : Nat} {q : Program} {loose : List Str} {XP : (Str → Option Value) → Heap → Prop} {YP : World → Heap → Prop} {d : DefRec} {K : Params → PySem.W.Frag} {sp : World → List (Addr × Addr) → Sp} {x : Str}
    (hn : l.most = some n) (hn2 : n ≤ sizeLine) (hdf : d.params.defaults = []) (hr : Room k callerA) (hY : ∀ (w : World) (h : Heap), YP w h → (K w.params).In h)
    (F : ∀ (w : World) (mg : Str → Option Value) (fa : Addr) (h : Heap), (K w.params).In h → h.Ns mainGlobals mg → mg d.name = some (.ref fa) →
      ∃ (fd : FuncData) (cs : List (Addr × Addr)), (∀ p ∈ cs, ∃ (x : Str) (r : DefRec), (recsOf q).find? (fun e => e.name == x) = some r ∧ PySem.W.tabIn (K w.params) x = some p) ∧ (∀ p ∈ cs, (K w.params).lookup p.2 = none) ∧ (∀ (s : Shared) (u : Value), BindsTo s fd ⟨[u], []⟩ [(x, u)]) ∧
        (∀ (H : Hp) (a : Addr) (ns : List Int), ns.length ≤ n → (∀ p ∈ cs, H p.2 = some (.tbl #[])) → SqL (K w.params) H a (ns.map V.int) → sp w cs [.ref a] H (fun v _ => v = .bl true) fun _ _ _ => False) ∧
        ∀ base : Heap, (K w.params).In base → base.Ns mainGlobals mg → (∀ p ∈ cs, TabB base mg p.1 p.2) → FnG l.prog w (K w.params) mg base k fa fd [x] (sp w cs)) :
    PySem.W.WalkO q loose XP YP l.row.toRowW d [] (fun f vs => PySem.call f vs) := by
  apply Att.attach_call hn hdf
  intro w s₀ s₁ mg mb fa o pm cd doc a vs ns G Y ho hd hcd hmg hobj hints hlen hgens
  have KX := hY w _ Y
  obtain ⟨fd, cs, h1, h2, hb, hsp, hF⟩ := F w mg fa _ KX G.T.g hmg
  have both : ∀ p ∈ cs, PySem.W.CodeHd s₁.heap p.1 p.2 ∧ s₁.heap.get? p.2 = some (PySem.W.tabObj #[]) := by
    intro p hp
    obtain ⟨y, r, e1, e2⟩ := h1 p hp
    exact PySem.W.tab_of G.T KX e1 e2
  exact law_callTG KX G.T.g G.T.b G.T.builtins G.T.nolimit hgens (fun p hp => (both p hp).2) h2 (fun p hp => (both p hp).1) G.T.bmain hobj hints (Nat.le_trans hlen hn2) hr hF hb (fun H h1 h2 => hsp H a ns hlen h1 h2)
end My
set_option Elab.async false
set_option linter.all false
set_option maxRecDepth 100000
/-! what does not hang on the text of a law: bags of numbers, plain texts, names, places, values, data that repr shows -/
namespace My
open PySem PySem.Spec PyProof.Rows L2
/-- the law's bag of numbers -/
def Bag (H : Hp) (b : Addr) : Prop := ∃ n m : Int, H b = some (.lst [.int n, .int m]) ∧ 0 ≤ n ∧ 0 ≤ m ∧ m < 2147483648
/-- only the bag may have changed -/
def Kept (b : Addr) (H H' : Hp) : Prop := ∀ x o, x ≠ b → H x = some o → H' x = some o
/-- two ways that go on alike -/
theorem ite_via {c A B C : Prop} [Decidable c] (ha : c → C → A) (hb : ¬ c → C → B) (h : C) : if c then A else B := by
  by_cases e : c
  · rw [if_pos e]; exact ha e h
  · rw [if_neg e]; exact hb e h
theorem same_new {H : Hp} {p : Addr} {o : HO} (h : H p = none) : Same H (upd H p o) := fun b x e => by
  rw [upd_ne (ne_of_none e h)]
  exact e
theorem Bag.same {H H' : Hp} {b : Addr} (h : Bag H b) (s : Same H H') : Bag H' b := by
  obtain ⟨n, m, e, r⟩ := h
  exact ⟨n, m, s _ _ e, r⟩
theorem cut_ints (ns : List Int) (lo hi : Option Int) : ∃ ms : List Int, cutV (ns.map V.int) lo hi = ms.map V.int ∧ ms.length ≤ ns.length := by
  refine ⟨(ns.drop (HT.sIx ns.length 0 lo)).take (HT.sIx ns.length ns.length hi - HT.sIx ns.length 0 lo), ?_, ?_⟩
  · unfold cutV
    rw [List.length_map, List.map_take, List.map_drop]
  · rw [List.length_take, List.length_drop]
    omega
/-! ### names, places, values -/
abbrev letters : Str := "abcdefghijklmnopqrstuvwxyz"
/-- a text of 1 to most of these signs -/
def madeOf (cs : Str) (most : Int) (z : Str) : Bool := decide (1 ≤ z.length) && (decide ((z.length : Int) ≤ most) && z.cps.toList.all fun c => decide (c ∈ cs.cps.toList))
def ofText (f : Str → Bool) : V → Bool
  | .str z => f z
  | _ => false
/-- what is asked about: a text of no great length, or no text at all -/
def Ask (K : PySem.W.Frag) (H : Hp) (v : V) : Prop := (∃ z, v = .str z ∧ z.length ≤ 1000) ∨ ((∀ f, ofText f v = false) ∧ ∃ t, TyX K H v (.type t) ∧ kitB t "str" = some false)
theorem Ask.text {K : PySem.W.Frag} {H : Hp} {z : Str} (h : z.length ≤ 1000) : Ask K H (.str z) := .inl ⟨z, rfl, h⟩
theorem len1000 {n : Nat} (h : n ≤ 1000) : n ≤ sizeLine := Nat.le_of_lt (small1000 h)
theorem take_all_map {α β : Type} (f : α → β) (l : List α) (i : Nat) (x : α) (h : l[i]? = some x) : (l.take (i + 1)).map f = (l.take i).map f ++ [f x] := by
  rw [List.take_add_one, h, List.map_append]
  rfl
def nameS : Str → Bool := madeOf letters 8
/-- the text up to the first dot and behind it -/
def dot : Str := "."
def placeS (z : Str) : Bool := nameS (Txt.partition z dot).1 && nameS (Txt.partition z dot).2.2
abbrev valueSigns : Str := letters ++ "0123456789" ++ "-"
def valueS (z : Str) : Bool := madeOf valueSigns 12 z && !Txt.startswith z "-"
theorem part_len (z : Str) : (Txt.partition z dot).1.length ≤ z.length ∧ (Txt.partition z dot).2.2.length ≤ z.length := ⟨(fact_partition z dot).1, (fact_partition z dot).2.2⟩
def oddL (cs : Str) (l : List Nat) : List Nat := l.filter fun c => !decide (c ∈ cs.cps.toList)
theorem oddL_len (cs : Str) (l : List Nat) : (oddL cs l).length ≤ l.length := List.length_filter_le _ _
theorem oddL_nil (cs : Str) (l : List Nat) : (oddL cs l).isEmpty = l.all fun c => decide (c ∈ cs.cps.toList) := by
  unfold oddL
  induction l with
  | nil => rfl
  | cons c r ih =>
    rw [List.filter_cons, List.all_cons]
    cases h : decide (c ∈ cs.cps.toList) with
    | false => rfl
    | true => rw [Bool.true_and, ← ih]; rfl
theorem oddL_take {cs : Str} {l : List Nat} {i c : Nat} (h : l[i]? = some c) : oddL cs (l.take (i + 1)) = oddL cs (l.take i) ++ (if (!decide (c ∈ cs.cps.toList)) = true then [c] else []) := by
  unfold oddL
  rw [List.take_add_one, h, List.filter_append]
  congr 1
  show List.filter _ [c] = _
  rw [List.filter_cons, List.filter_nil]
/-! ### a place by its first dot, and by all its dots -/
theorem name_free {a : Str} (h : nameS a = true) : 46 ∉ TL.tl a := by
  unfold nameS madeOf at h
  rw [Bool.and_eq_true, Bool.and_eq_true] at h
  intro hm
  have h2 := List.all_eq_true.mp h.2.2 46 hm
  exact absurd (of_decide_eq_true h2) (by decide)
theorem name_empty : nameS Str.empty = false := by decide
theorem tl_dot : TL.tl dot = 46 :: [] := by decide
/-- by all its dots -/
def placeL : List Str → Bool
  | [a, b] => nameS a && nameS b
  | _ => false
theorem place_of (z : Str) : placeS z = placeL (Txt.split z dot) := by
  have hd : dot = (⟨#[46]⟩ : Str) := by decide
  have two : ∀ p q : Str, Str.join dot [p, q] = p ++ dot ++ q := fun p q => rfl
  by_cases hp : placeS z = true
  · have h1 := hp
    unfold placeS at h1
    rw [Bool.and_eq_true] at h1
    rcases partition_whole z dot with ⟨e, _⟩ | ⟨i, e, _⟩
    · rw [e] at h1
      exact absurd h1.2 (by rw [name_empty]; exact Bool.false_ne_true)
    · have sum := PySem.StrLaws.partition_sum z dot
      have mid : (Txt.partition z dot).2.1 = dot := by rw [e]
      rw [mid] at sum
      have back := TL.split_join (y := dot) tl_dot (by decide +kernel) (parts := [(Txt.partition z dot).1, (Txt.partition z dot).2.2]) (by simp) (fun p hm => by
        rcases List.mem_cons.mp hm with rfl | hm
        · exact name_free h1.1
        · cases List.mem_singleton.mp hm
          exact name_free h1.2)
      rw [TL.join_eq, two, sum] at back
      rw [back, hp]
      show true = (nameS _ && nameS _)
      rw [h1.1, h1.2]
      rfl
  · have hf : placeS z = false := eq_false_of_ne_true hp
    rw [hf]
    cases hs : Txt.split z dot with
    | nil => rfl
    | cons p r =>
      cases r with
      | nil => rfl
      | cons q r2 =>
        cases r2 with
        | cons _ _ => rfl
        | nil =>
          have sum := PySem.StrLaws.join_split z dot
          rw [hs, two] at sum
          have fr := PySem.StrLaws.split_free z 46
          rw [← hd, hs] at fr
          have e := TL.partition_app (y := dot) tl_dot (a := p) (b := q) (fr p (List.mem_cons_self ..))
          rw [sum] at e
          unfold placeS at hf
          rw [e] at hf
          exact hf.symm
theorem split_short (z : Str) : ∀ a ∈ Txt.split z dot, a.length ≤ z.length := fun a h => part_short h
/-! ### values: the same signs in another order -/
abbrev lawSigns : Str := "0123456789-abcdefghijklmnopqrstuvwxyz"
theorem signs_iff (c : Nat) : c ∈ lawSigns.cps.toList ↔ c ∈ valueSigns.cps.toList := by
  have h1 : ∀ x ∈ lawSigns.cps.toList, x ∈ valueSigns.cps.toList := by decide
  have h2 : ∀ x ∈ valueSigns.cps.toList, x ∈ lawSigns.cps.toList := by decide
  exact ⟨h1 c, h2 c⟩
theorem value_of (z : Str) : valueS z = ((oddL lawSigns z.cps.toList).isEmpty && ((decide ((1 : Int) ≤ (z.length : Int)) && decide ((z.length : Int) ≤ 12)) && !Txt.startswith z "-")) := by
  rw [oddL_nil]
  unfold valueS madeOf
  have e : (z.cps.toList.all fun c => decide (c ∈ lawSigns.cps.toList)) = z.cps.toList.all fun c => decide (c ∈ valueSigns.cps.toList) := by
    congr 1
    funext c
    exact decide_eq_decide.mpr (signs_iff c)
  rw [e, show decide ((1 : Int) ≤ (z.length : Int)) = decide (1 ≤ z.length) from decide_eq_decide.mpr (by omega)]
  cases decide (1 ≤ z.length) <;> cases decide ((z.length : Int) ≤ 12) <;> cases (z.cps.toList.all fun c => decide (c ∈ valueSigns.cps.toList)) <;> cases Txt.startswith z "-" <;> rfl
def dueOf (v : V) : List V := [.bl (ofText nameS v), .bl (ofText placeS v), .bl (ofText valueS v)]
/-! ### texts of at most n plain signs -/
structure Plain (n : Nat) (z : Str) : Prop where
  len : z.length ≤ n
  small : ∀ c ∈ TL.tl z, c < 128
theorem Plain.mono {n m : Nat} {z : Str} (h : Plain n z) (l : n ≤ m) : Plain m z := ⟨Nat.le_trans h.len l, h.small⟩
theorem len_tl (z : Str) : z.length = (TL.tl z).length := rfl
theorem Plain.app {n m : Nat} {a b : Str} (h : Plain n a) (g : Plain m b) : Plain (n + m) (a ++ b) := by
  have h1 := h.len
  have h2 := g.len
  refine ⟨?_, ?_⟩
  · rw [len_tl] at h1 h2 ⊢
    rw [TL.tl_append, List.length_append]
    omega
  · intro c hc
    rw [TL.tl_append] at hc
    rcases List.mem_append.mp hc with x | x
    · exact h.small c x
    · exact g.small c x
theorem Plain.cut {n : Nat} {z : Str} (h : Plain n z) (lo hi : Option Int) : Plain n (cutS z lo hi) := by
  have h1 := h.len
  constructor
  · rw [len_tl] at h1 ⊢
    show ((List.take _ (List.drop _ z.cps.toList)).toArray.toList).length ≤ n
    rw [List.length_take, List.length_drop]
    have : z.cps.toList.length = (TL.tl z).length := rfl
    omega
  · intro c hc
    have hc : c ∈ List.take (HT.sIx z.length z.length hi - HT.sIx z.length 0 lo) (List.drop (HT.sIx z.length 0 lo) z.cps.toList) := hc
    exact h.small c (List.mem_of_mem_drop (List.mem_of_mem_take hc))
theorem plain_joinL : ∀ {l : List Str}, (∀ y ∈ l, Plain 1 y) → (TL.joinL [] (l.map TL.tl)).length ≤ l.length ∧ ∀ c ∈ TL.joinL [] (l.map TL.tl), c < 128
  | [], _ => ⟨Nat.le_refl _, fun _ h => by cases h⟩
  | [y], h => ⟨(h y (by simp)).len, (h y (by simp)).small⟩
  | y :: y2 :: r, h => by
    have ih := plain_joinL (l := y2 :: r) fun z hz => h z (List.mem_cons_of_mem _ hz)
    have h1 := (h y (by simp)).len
    have h2 := (h y (by simp)).small
    show (TL.tl y ++ ([] ++ TL.joinL [] ((y2 :: r).map TL.tl))).length ≤ _ ∧ ∀ c ∈ TL.tl y ++ ([] ++ TL.joinL [] ((y2 :: r).map TL.tl)), c < 128
    rw [List.nil_append]
    constructor
    · rw [List.length_append, List.length_cons]
      have := ih.1
      rw [len_tl] at h1
      omega
    · intro c hc
      rcases List.mem_append.mp hc with x | x
      · exact h2 c x
      · exact ih.2 c x
theorem plain_join {l : List Str} (h : ∀ y ∈ l, Plain 1 y) : Plain l.length (Txt.join "" l) := by
  have e : TL.tl (Txt.join "" l) = TL.joinL [] (l.map TL.tl) := by rw [TL.join_eq, TL.tl_join]; rfl
  have q := plain_joinL h
  rw [← e] at q
  exact ⟨q.1, q.2⟩
theorem mem_joinL {S : List Nat} {c : Nat} {p : List Nat} : ∀ {ps : List (List Nat)}, p ∈ ps → c ∈ p → c ∈ TL.joinL S ps
  | [q], h, hc => by
    cases List.mem_singleton.mp h
    exact hc
  | q :: q2 :: r, h, hc => by
    show c ∈ q ++ (S ++ TL.joinL S (q2 :: r))
    rcases List.mem_cons.mp h with rfl | h
    · exact List.mem_append_left _ hc
    · exact List.mem_append_right _ (List.mem_append_right _ (mem_joinL h hc))
theorem Plain.part {n : Nat} {z a : Str} (h : Plain n z) (ha : a ∈ Txt.split z dot) : Plain n a := by
  refine ⟨Nat.le_trans (split_short z a ha) h.len, fun c hc => h.small c ?_⟩
  have e := PySem.StrLaws.join_split z dot
  rw [← e, TL.tl_join]
  exact mem_joinL (List.mem_map_of_mem ha) hc
theorem sum_len {l : List Str} (h : ∀ y ∈ l, Plain 1 y) : (l.map (·.length)).sum ≤ l.length := by
  induction l with
  | nil => exact Nat.le_refl _
  | cons y r ih =>
    have h1 := (h y (by simp)).len
    have h2 := ih fun z hz => h z (List.mem_cons_of_mem _ hz)
    rw [List.map_cons, List.sum_cons, List.length_cons]
    omega
/-! ### heaps of which the bag may have changed -/
theorem Kept.refl (b : Addr) (H : Hp) : Kept b H H := fun _ _ _ h => h
theorem Kept.trans {b : Addr} {H H1 H2 : Hp} (a : Kept b H H1) (c : Kept b H1 H2) : Kept b H H2 := fun x o h e => c x o h (a x o h e)
theorem Kept.same {b : Addr} {H H' : Hp} (h : Same H H') : Kept b H H' := fun x o _ e => h x o e
theorem Kept.new {b : Addr} {H : Hp} {p : Addr} {o : HO} (h : H p = none) : Kept b H (upd H p o) := Kept.same (same_new h)
theorem Kept.at {b : Addr} {H : Hp} {o : HO} : Kept b H (upd H b o) := fun x o h e => by
  rw [upd_ne h]
  exact e
theorem Bag.at {H : Hp} {b : Addr} {n m : Int} (n0 : 0 ≤ n) (m0 : 0 ≤ m) (m1 : m < 2147483648) : Bag (upd H b (.lst [.int n, .int m])) b := ⟨n, m, upd_same, n0, m0, m1⟩
theorem Bag.ne {H : Hp} {b p : Addr} (h : Bag H b) (hp : H p = none) : p ≠ b := by
  obtain ⟨n, m, e, _⟩ := h
  exact (ne_of_none e hp).symm
theorem Bag.new {H : Hp} {b p : Addr} {o : HO} (h : Bag H b) (hp : H p = none) : Bag (upd H p o) b := h.same (same_new hp)
theorem Kept.free {b p : Addr} {H H' : Hp} (k : Kept b H H') (hb : Bag H' b) (h : H' p = none) : H p = none := by
  have ne := hb.ne h
  cases e : H p with
  | none => rfl
  | some o =>
    rw [k p o ne e] at h
    cases h
/-- a comprehension of drawn texts of one sign -/
theorem lc_draw {n i : Nat} {te : TE} {vs : List Nat} {σ : L2.St} {H1 : Hp} {D b : Addr} {Qd : Hp → Prop} (hb : Bag H1 b) (nD : H1 D = none) (hn : n ≤ 1000) (hσ : ∀ x, wipe ((wipe σ vs).set i (some x)) vs = wipe σ vs)
    (hte : ∀ (x : V) (H3 : Hp) (Q' : V → Hp → Prop), Bag H3 b → (∀ y H4, Plain 1 y → Kept b H3 H4 → Bag H4 b → Q' (.str y) H4) → te ((wipe σ vs).set i (some x)) H3 Q')
    (hd : ∀ (ys : List Str) (H3 : Hp), ys.length = n → (∀ y ∈ ys, Plain 1 y) → Kept b H1 H3 → Bag H3 b → H3 D = some (.lst (ys.map V.str)) → Qd H3) :
    ∃ W : Nat → Nat → Hp → Prop, (∃ m, W 0 m (upd H1 D (.lst []))) ∧ ∀ j m H, W j m H →
      ((Itr 0 n).stop j H ∧ Qd H) ∨ ((Itr 0 n).go j H ∧ ∃ Nx : Hp → Prop, (∀ H', Nx H' → ∃ m', m' < m ∧ W (j + 1) m' H') ∧ ∀ x H', (Itr 0 n).yld j H x H' → gName i x (wipe σ vs) H' fun σ2 H2 => wipe σ2 vs = wipe σ vs ∧ tYes σ2 H2 fun c H3 =>
        if c = true then te σ2 H3 fun y H4 => ∃ acc, H4 D = some (.lst acc) ∧ acc.length < sizeLine ∧ Nx (upd H4 D (.lst (acc ++ [y]))) else Nx H3) := by
  refine lc_it walk_range (fun j H3 => ∃ ys : List Str, ys.length = j ∧ (∀ y ∈ ys, Plain 1 y) ∧ Kept b H1 H3 ∧ Bag H3 b ∧ H3 D = some (.lst (ys.map V.str))) ?_ (fun _ _ _ _ => trivial) ?_ ?_
  · exact ⟨[], rfl, (fun _ h => by cases h), Kept.new nD, hb.new nD, upd_same⟩
  · rintro j x H3 H4 hj ⟨ys, l, hp, k, hb3, d3⟩ ⟨rfl, rfl⟩
    refine ⟨hσ _, ?_⟩
    simp only [tYes, if_true]
    refine hte _ _ _ hb3 fun y H5 hy k5 b5 => ?_
    have nDb : D ≠ b := hb.ne nD
    have d5 := k5 D _ nDb d3
    refine ⟨_, d5, ?_, ys ++ [y], ?_, ?_, ?_, ?_, ?_⟩
    · rw [List.length_map]
      exact small1000 (by omega)
    · rw [List.length_append, l]
      rfl
    · intro z hz
      rcases List.mem_append.mp hz with x | x
      · exact hp z x
      · cases List.mem_singleton.mp x
        exact hy
    · intro x o hx e
      rw [upd_ne (ne_of_none e nD)]
      exact (k.trans k5) x o hx e
    · obtain ⟨n5, m5, e5, r5⟩ := b5
      exact ⟨n5, m5, by rw [upd_ne nDb.symm]; exact e5, r5⟩
    · rw [upd_same, List.map_append]
      rfl
  · rintro H3 ⟨ys, l, hp, k, hb3, d3⟩
    exact hd ys H3 l hp k hb3 d3
theorem plain_all {n : Nat} {cs : List Str} (h : (cs.all fun y => decide (y.length ≤ n) && y.cps.toList.all fun c => decide (c < 128)) = true) : ∀ y ∈ cs, Plain n y := fun y hy => by
  have h1 := List.all_eq_true.mp h y hy
  rw [Bool.and_eq_true] at h1
  exact ⟨of_decide_eq_true h1.1, fun c hc => of_decide_eq_true (List.all_eq_true.mp h1.2 c hc)⟩
/-! ### things that are asked about -/
/-- data that repr can show -/
structure Shows (d : PyData) : Prop where
  s : d.showable = true
  n : d.hasDict = false
  p : d.depth ≤ 8
  z : d.shown.length ≤ sizeLine
def Thing (K : PySem.W.Frag) (H : Hp) (v : V) : Prop := Ask K H v ∧ ∃ d, Dp K H v d ∧ Shows d
theorem shows_str {n : Nat} {z : Str} (h : Plain n z) (hn : n ≤ 1000) : Shows (.str z) := by
  refine ⟨rfl, rfl, Nat.zero_le _, ?_⟩
  have h1 := PySem.StrLaws.reprText_len z fun c hc => Nat.lt_trans (h.small c hc) (by decide)
  have h2 := h.len
  have h3 : (100000 : Nat) ≤ sizeLine := by decide
  show (reprText z).length ≤ sizeLine
  omega
theorem texts_show {l : List Str} (h : ∀ y ∈ l, Plain 50 y) : PyData.showableAll (l.map .str) = true ∧ PyData.hasDictAll (l.map .str) = false ∧ PyData.depthAll (l.map .str) = 0 ∧ PyData.leavesShortAll 8 (l.map .str) = true ∧ PyData.bulkAll (l.map .str) ≤ 51 * l.length := by
  induction l with
  | nil => exact ⟨rfl, rfl, rfl, rfl, Nat.le_refl _⟩
  | cons y r ih =>
    obtain ⟨h1, h2, h3, h4, h5⟩ := ih fun z hz => h z (List.mem_cons_of_mem _ hz)
    have hy := h y (by simp)
    have hl := hy.len
    refine ⟨?_, ?_, ?_, ?_, ?_⟩
    · show (true && PyData.showableAll (r.map .str)) = true
      rw [h1]; rfl
    · show (false || PyData.hasDictAll (r.map .str)) = false
      rw [h2]; rfl
    · show max 0 (PyData.depthAll (r.map .str)) = 0
      rw [h3]; rfl
    · show ((PyData.str y).leavesShort 8 && PyData.leavesShortAll 8 (r.map .str)) = true
      rw [h4, Bool.and_true]
      have : ∀ c ∈ y.cps.toList, c < 16 ^ 8 := fun c hc => Nat.lt_trans (hy.small c hc) (by decide)
      simpa only [PyData.leavesShort, List.all_eq_true, decide_eq_true_eq] using this
    · show y.cps.size + 1 + PyData.bulkAll (r.map .str) ≤ 51 * (r.length + 1)
      have : y.length = y.cps.size := rfl
      omega
theorem shows_list {l : List Str} (h : ∀ y ∈ l, Plain 50 y) (hl : l.length ≤ 1000) : Shows (.list (l.map .str)) := by
  obtain ⟨h1, h2, h3, h4, h5⟩ := texts_show h
  refine ⟨h1, h2, by show PyData.depthAll (l.map .str) + 1 ≤ 8; omega, ?_⟩
  have b := PyData.shown_le_bulk 8 (by decide) (.list (l.map .str)) h4
  have e : (PyData.list (l.map .str)).bulk = PyData.bulkAll (l.map .str) := rfl
  have h6 : (1000000 : Nat) ≤ sizeLine := by decide
  rw [e] at b
  omega
theorem shows_tuple {l : List Str} (h : ∀ y ∈ l, Plain 50 y) (hl : l.length ≤ 1000) : Shows (.tuple (l.map .str)) := by
  obtain ⟨h1, h2, h3, h4, h5⟩ := texts_show h
  refine ⟨h1, h2, by show PyData.depthAll (l.map .str) + 1 ≤ 8; omega, ?_⟩
  have b := PyData.shown_le_bulk 8 (by decide) (.tuple (l.map .str)) h4
  have e : (PyData.tuple (l.map .str)).bulk = PyData.bulkAll (l.map .str) := rfl
  have h6 : (1000000 : Nat) ≤ sizeLine := by decide
  rw [e] at b
  omega
theorem dp_strs {K : PySem.W.Frag} {H : Hp} : ∀ l : List Str, DpAll K H (l.map V.str) (l.map .str)
  | [] => .nil
  | y :: r => .cons (.str y) (dp_strs r)
section
variable {K : PySem.W.Frag} {H H' : Hp} {v : V}
mutual
theorem Dp.same (s : Same H H') : ∀ {v : V} {d : PyData}, Dp K H v d → Dp K H' v d
  | _, _, .non => .non
  | _, _, .bl b => .bl b
  | _, _, .int i => .int i
  | _, _, .str x => .str x
  | _, _, .lst h a => .lst (s.seq h) (DpAll.same s a)
  | _, _, .tup h a => .tup (by
      rcases h with (h | ⟨o, h⟩) | h
      · exact .inl (.inl (s _ _ h))
      · exact .inl (.inr ⟨o, s _ _ h⟩)
      · exact .inr h) (DpAll.same s a)
theorem DpAll.same (s : Same H H') : ∀ {vs : List V} {ds : List PyData}, DpAll K H vs ds → DpAll K H' vs ds
  | _, _, .nil => .nil
  | _, _, .cons h a => .cons (Dp.same s h) (DpAll.same s a)
end
end
/-- a kind that is told by values that stand in the heap, or by the value alone -/
inductive Kind (H : Hp) : V → String → Prop where
  | non : Kind H .non "NoneType"
  | bl (b : Bool) : Kind H (.bl b) "bool"
  | int (i : Int) : Kind H (.int i) "int"
  | lst {a : Addr} {xs : List V} (e : H a = some (.lst xs)) : Kind H (.ref a) "list"
  | tup {a : Addr} {xs : List V} (e : H a = some (.tup xs)) : Kind H (.ref a) "tuple"
theorem Kind.ask {K : PySem.W.Frag} {H : Hp} {v : V} {t : String} (k : Kind H v t) : Ask K H v := by
  cases k with
  | non => exact .inr ⟨fun _ => rfl, _, .base .non, by decide +kernel⟩
  | bl b => exact .inr ⟨fun _ => rfl, _, .base (.bl b), by decide +kernel⟩
  | int i => exact .inr ⟨fun _ => rfl, _, .base (.int i), by decide +kernel⟩
  | lst e => exact .inr ⟨fun _ => rfl, _, .base (.lst e), by decide +kernel⟩
  | tup e => exact .inr ⟨fun _ => rfl, _, .base (.tup e), by decide +kernel⟩
/-- asked about again, behind more -/
def Ask' (K : PySem.W.Frag) (H : Hp) (v : V) : Prop := (∃ z, v = .str z ∧ z.length ≤ 1000) ∨ ∃ t, Kind H v t
theorem Ask'.ask {K : PySem.W.Frag} {H : Hp} {v : V} (h : Ask' K H v) : Ask K H v := by
  rcases h with h | ⟨t, h⟩
  · exact .inl h
  · exact h.ask
theorem Ask'.same {K : PySem.W.Frag} {H H' : Hp} {v : V} (h : Ask' K H v) (s : Same H H') : Ask' K H' v := by
  rcases h with h | ⟨t, h⟩
  · exact .inl h
  · cases h with
    | non => exact .inr ⟨_, .non⟩
    | bl b => exact .inr ⟨_, .bl b⟩
    | int i => exact .inr ⟨_, .int i⟩
    | lst e => exact .inr ⟨_, .lst (s _ _ e)⟩
    | tup e => exact .inr ⟨_, .tup (s _ _ e)⟩
theorem step_new {H : Hp} {b p : Addr} {o : HO} (hb : Bag H b) (np : H p = none) : ∃ H2, upd H p o = H2 ∧ H2 p = some o ∧ Kept b H H2 ∧ Bag H2 b ∧ p ≠ b :=
  ⟨_, rfl, upd_same, Kept.new np, hb.new np, hb.ne np⟩
def Held (K : PySem.W.Frag) (p a : Addr) (xs : List V) (H : Hp) : Prop := SqL K H a xs ∧ ∀ H', Kept p H H' → SqL K H' a xs
theorem held_of {K : PySem.W.Frag} {H H1 : Hp} {p a : Addr} {xs : List V} (h : SqL K H a xs) (s : Same H H1) (np : H p = none) : ∀ H', Kept p H1 H' → SqL K H' a xs := by
  intro H' k
  rcases h with (h | ⟨o, h⟩) | h
  · exact .inl (.inl (k _ _ (ne_of_none h np) (s _ _ h)))
  · exact .inl (.inr ⟨o, k _ _ (ne_of_none h np) (s _ _ h)⟩)
  · exact .inr h
end My
set_option Elab.async false
set_option linter.all false
set_option maxRecDepth 100000
/-! own == and != of an instance with an object of any plain kind, and == from the other side -/
namespace My
open PySem PySem.Spec PyProof.Rows L2
/-- the plain kinds -/
inductive KindS (H : Hp) : V → String → Prop where
  | non : KindS H .non "NoneType"
  | bl (b : Bool) : KindS H (.bl b) "bool"
  | int (i : Int) : KindS H (.int i) "int"
  | str (z : Str) : KindS H (.str z) "str"
  | lst {a : Addr} {xs : List V} (e : H a = some (.lst xs)) : KindS H (.ref a) "list"
  | tup {a : Addr} {xs : List V} (e : H a = some (.tup xs)) : KindS H (.ref a) "tuple"
def plainKinds : List String := ["NoneType", "bool", "int", "str", "list", "tuple"]
/-- what the written part says of a class with an own == -/
structure EqC (K : PySem.W.Frag) (C f : Addr) : Prop where
  eq : Meth K C "__eq__" f
  ne : PySem.W.findIn K (.ref C) "__ne__" = some (some (.builtin "object.__ne__"))
  mro : PySem.W.mroIn K C (.type "object") = some true
  off : ∀ T ∈ plainKinds, PySem.W.mroIn K C (.type T) = some false
theorem sub_off {K : PySem.W.Frag} {C : Addr} {T : String} {l : List String} (e : fastBuiltinMro T = some (l.map Value.type)) : PySem.W.subIn K (.type T) (.ref C) = some false := by
  show (fastBuiltinMro T).map (·.contains (.ref C)) = some false
  rw [e]
  show some ((l.map Value.type).contains (.ref C)) = some false
  congr 1
  clear e
  induction l with
  | nil => rfl
  | cons a r ih =>
    rw [List.map_cons, List.contains_cons]
    rw [ih, Bool.or_false]
    first
      | rfl
      | simp
theorem kit_off {K : PySem.W.Frag} {C : Addr} {T : String} {dd : Option Addr} {cd : ClassData} {sl : Array (Option Value)} {l : List String} (lc : K.lookup C = some ⟨.type "type", dd, .cls cd, sl⟩) (e : fastBuiltinMro T = some (l.map Value.type)) :
    PySem.W.kitOne K (.type T) (.ref C) = some false := by
  have h1 : PySem.W.clsIn K C = some cd := by
    unfold PySem.W.clsIn
    rw [lc]
  have h2 : PySem.W.typeIn K (.ref C) = some (.type "type") := by
    show (K.lookup C).map (·.cls) = _
    rw [lc]
    rfl
  unfold PySem.W.kitOne
  rw [if_neg (by simp)]
  show (if ((PySem.W.clsIn K C).isSome && PySem.W.typeIn K (.ref C) == some (.type "type")) = true then PySem.W.subIn K (.type T) (.ref C) else none) = some false
  rw [h1, h2, if_pos (by simp)]
  exact sub_off e
section
variable {X : Cx} {k : Nat} {f C : Addr} {fd : FuncData} {ps : List Str} {sp : Sp} {pins : List (Addr × Obj)} {σ : L2.St} {H : Hp} {s : Shared}
theorem KindS.typeIs {v : V} {u : Value} {T : String} (I : Inv X pins σ H s) (r : RelV v u) (k : KindS H v T) : s.TypeIs u T := by
  cases k with
  | non => cases (show u = Value.none from r); rfl
  | bl b => cases (show u = Value.bool b from r); rfl
  | int i => obtain ⟨t, q⟩ := (show ∃ t, u = Value.int i t from r); cases q; rfl
  | str z => obtain ⟨t, q⟩ := (show ∃ t, u = Value.str z t from r); cases q; rfl
  | lst e =>
    rename_i a xs
    cases (show u = Value.ref a from r)
    obtain ⟨its, _, pl, _⟩ := I.list (SqL.of (K := X.K) e)
    obtain ⟨o, h1, h2, _⟩ := pl.isList
    exact ⟨o, h1, h2⟩
  | tup e =>
    rename_i a xs
    cases (show u = Value.ref a from r)
    obtain ⟨its, _, ⟨o, h1, h2, _⟩, _⟩ := I.tuple (SqT.of (K := X.K) e)
    exact ⟨o, h1, h2⟩
theorem KindS.sub {v : V} {T : String} {K : PySem.W.Frag} (k : KindS H v T) : PySem.W.subIn K (.type T) (.ref C) = some false := by
  cases k with
  | non => exact sub_off (l := ["NoneType", "object"]) (by decide +kernel)
  | bl b => exact sub_off (l := ["bool", "int", "object"]) (by decide +kernel)
  | int i => exact sub_off (l := ["int", "object"]) (by decide +kernel)
  | str z => exact sub_off (l := ["str", "object"]) (by decide +kernel)
  | lst e => exact sub_off (l := ["list", "object"]) (by decide +kernel)
  | tup e => exact sub_off (l := ["tuple", "object"]) (by decide +kernel)
theorem KindS.mem {v : V} {T : String} (k : KindS H v T) : T ∈ plainKinds := by cases k <;> decide
/-- an instance of the class, or an object of a plain kind -/
def Oth (C : Addr) (H : Hp) (y : V) : Prop := (∃ b dy gs, y = .ref b ∧ H b = some (.ins C dy gs)) ∨ ∃ T, KindS H y T
theorem oth_looks {y : V} {u : Value} (I : Inv X pins σ H s) (r : RelV y u) (o : Oth C H y) : ∃ tb, PySem.W.Looks (model X.prog X.w) s.heap (typeOf u) tb ∧ PySem.W.notFirst X.K C tb = true := by
  rcases o with ⟨b, dy, gs, rfl, e⟩ | ⟨T, k⟩
  · cases (show u = Value.ref b from r)
    obtain ⟨od, J⟩ := inst_of I e
    exact ⟨.ref C, J.type, by simp [PySem.W.notFirst]⟩
  · refine ⟨.type T, fun A Q E s' keep q => ?_, by unfold PySem.W.notFirst; rw [k.sub]; simp⟩
    have t := k.typeIs I r
    refine wpAny_typeOf ?_ q
    cases u with
    | ref a => obtain ⟨o, h1, h2⟩ := t; exact ⟨o, keep _ _ h1, h2⟩
    | _ => exact t
/-- x == y (x != y), x an instance of the class at C -/
def rEqOwn (C : Addr) (sp : Sp) (neg : Bool) : R2 := fun x y H Q => ∃ a dx fs, x = .ref a ∧ H a = some (.ins C dx fs) ∧ Oth C H y ∧ sp [x, y] H (fun v H' => ∃ b, v = .bl b ∧ Q (.bl (if neg then !b else b)) H') E0
theorem op_eqOwn (c : EqC X.K C f) (F : FnOk X.prog X.w X.K X.mg X.base CX0 k f fd ps sp) (hr : Room k X.A) (hb : Binds X.K fd ps []) : OpR X (compareOp .Eq) (rEqOwn C sp false) := by
  intro pins s σ H x y v u Q I rx ry h
  obtain ⟨a, dx, fs, rfl, ea, ho, hsp⟩ := h
  cases (show v = Value.ref a from rx)
  obtain ⟨od, J⟩ := inst_of I ea
  obtain ⟨mm, Fm⟩ := I.fr
  obtain ⟨tb, hl, hn⟩ := oth_looks I ry ho
  show wpAny _ _ (richCompare .Eq (.ref a) u) _ _ _
  refine PySem.W.cmp_K (op := .Eq) hr.units0 Fm I.mod.kin J hl hn c.eq.at_ c.eq.fn (run_own F hr I.env0 hb I (vs := [.ref a, y]) (.cons rfl (.cons ry .nil)) hsp fun u' s' hu => ?_)
  obtain ⟨z, H', I', rz, b, rfl, q⟩ := hu
  cases (show u' = Value.bool b from rz)
  exact ⟨.bl b, H', I', rfl, q⟩
theorem ifBound_ne {M : Model} {A : Around} {E : Value → Shared → Prop} {K : PySem.W.Frag} {a : Addr} {ox : Obj} {od : Option Obj} {args : List Value} {Q : Option Value → Shared → Prop} (kin : K.In s.heap) (J : PySem.W.InstAt s.heap a ox C od) (hs : PySem.W.findIn K (.ref C) "__ne__" = some (some (.builtin "object.__ne__")))
    (h : wpAny M A (call (.builtin "object.__ne__") (.ref a :: args)) (fun v => Q (some v)) E s) : wpAny M A (callSpecialIfBound? (.ref a) "__ne__" args) Q E s := by
  have fin : wpAny M A (call (.builtin "object.__ne__") ([.ref a] ++ args) >>= fun v => pure (some v)) Q E s := wpAny_bind (wpAny_mono h (fun v s' q => wpAny_pure q) fun _ _ q => q)
  simp only [callSpecialIfBound?, bindSpecialIfBound?]
  refine wpAny_holding (wpAny_bind (wpAny_bind (wpAny_bind (J.type.here ((PySem.W.looks_findIn kin hs).here (wpAny_bind (wpAny_askSetting (wpAny_ite ?_))))))))
  split
  · exact wpAny_bind (wpAny_of_eq (PySem.F.cmp_object.ne.bind _) (wpAny_pure (by exact fin)))
  · exact wpAny_tryCatch (wpAny_bind (wpAny_of_eq (PySem.F.cmp_object.ne.bind _) (wpAny_pure (by exact fin))))
theorem op_neOwn (c : EqC X.K C f) (F : FnOk X.prog X.w X.K X.mg X.base CX0 k f fd ps sp) (hr : Room (k + 1) X.A) (hb : Binds X.K fd ps []) : OpR X (compareOp .NotEq) (rEqOwn C sp true) := by
  intro pins s σ H x y v u Q I rx ry h
  obtain ⟨a, dx, fs, rfl, ea, ho, hsp⟩ := h
  cases (show v = Value.ref a from rx)
  obtain ⟨od, J⟩ := inst_of I ea
  obtain ⟨mm, Fm⟩ := I.fr
  obtain ⟨tb, hl, hn⟩ := oth_looks I ry ho
  have un := hr.un
  have one : wpAny (model X.prog X.w) X.A (tryCompare (.ref a) "__ne__" u) (fun r s' => ∃ w, r = some w ∧ EP X pins σ Q w s') X.xe s := by
    unfold tryCompare
    refine wpAny_bind (ifBound_ne I.kIn J c.ne (wpAny_call (codeAny_call_builtin PySem.F.cmp_object.ne.plain PySem.F.cmpEntry_ne (PySem.W.check_slot PySem.F.cmpKind_ne PySem.F.cmpSplit_ne (J.type.andThen (PySem.W.looks_mroIn I.kIn c.mro)) (PySem.F.cmpArgs_ne _ _) ?_))))
    unfold Builtin.«object.__ne__»
    have en := I.env0.in1
    have own : wpAny (model X.prog X.w) X.A.in1 (callSpecialIfBound? (.ref a) "__eq__" [u]) (fun r s' => ∃ b, r = some (.bool b) ∧ EP X pins σ Q (.bool (!b)) s') X.xe s :=
      PySem.W.ifBound_K I.kIn J c.eq.at_ c.eq.fn (run_own F hr.in1 en hb I (vs := [.ref a, y]) (.cons rfl (.cons ry .nil)) hsp fun u' s' hu => by
        obtain ⟨z, H', I', rz, b, rfl, q⟩ := hu
        cases (show u' = Value.bool b from rz)
        exact ⟨b, rfl, .bl (!b), H', I', rfl, q⟩)
    repeat (first
      | with_reducible refine wpAny_cRoomFor (by show X.A.units + 1 < cLine; omega) ?_
      | (refine wpAny_bind (m := callSpecialIfBound? (.ref a) (Str.ofString "__eq__") [u]) (wpAny_mono own (fun r s' hq => ?_) fun _ _ q => q))
      | wp_step)
    obtain ⟨b, rfl, q⟩ := hq
    exact wpAny_bind (wpAny_truthy_bool (wpAny_pure (wpAny_pure ⟨_, rfl, q⟩)))
  show wpAny _ _ (richCompare .NotEq (.ref a) u) _ _ _
  simp only [richCompare, cmpInfo_NotEq, oneThing_ref]
  refine wpAny_holding (wpAny_bind (wpAny_cRoomFor hr.units0 (wpAny_bind (J.type.here (wpAny_bind (hl.here ?_))))))
  generalize tryCompare (.ref a) (Str.ofString "__ne__") u = tc at one ⊢
  generalize EP X pins σ Q = R at one ⊢
  have fin : ∀ (m : Sem Value), wpAny (model X.prog X.w) X.A (tc >>= fun d => match d with | some v => pure v | _ => m) R X.xe s := fun m =>
    wpAny_bind (wpAny_mono one (fun r s' z => by obtain ⟨w, rfl, z⟩ := z; exact wpAny_pure z) fun _ _ z => z)
  split
  · rename_i q
    have e : PySem.W.subIn X.K tb (.ref C) = some false := by
      rcases Bool.or_eq_true_iff.mp hn with e | e
      · rw [beq_iff_eq.mp e] at q; simp at q
      · exact beq_iff_eq.mp e
    refine wpAny_bind ((PySem.W.looks_subIn I.kIn e).here ?_)
    simp only [Bool.false_eq_true, if_false]
    exact fin _
  · refine wpAny_bind (wpAny_pure ?_)
    simp only [Bool.false_eq_true, if_false]
    exact fin _
/-! ### from the other side -/
theorem str_off {M : Model} {A : Around} {E : Value → Shared → Prop} {a dx : Addr} {od : Option Obj} {z : Str} {t : Tok} {Q : PySem.Fin → Shared → Prop} (J : PySem.W.InstAt s.heap a (PySem.W.instObj C dx) C od) (h : Q (.done (.ret .notImplemented)) s) :
    wpAny M A (Builtin.«str.__eq__» ⟨[.str z t, .ref a], []⟩) Q E s := by
  unfold Builtin.«str.__eq__» Builtin.Str.strCompare Builtin.Str.strSlot
  repeat (first | with_reducible refine wpAny_load J.at_ ?_ | wp_step)
  exact h
theorem int_off {M : Model} {A : Around} {E : Value → Shared → Prop} {a dx : Addr} {od : Option Obj} {z : Int} {t : Tok} {Q : PySem.Fin → Shared → Prop} (J : PySem.W.InstAt s.heap a (PySem.W.instObj C dx) C od) (h : Q (.done (.ret .notImplemented)) s) :
    wpAny M A (Builtin.«int.__eq__» ⟨[.int z t, .ref a], []⟩) Q E s := by
  show wpAny M A (Builtin.Int.intBinary "__eq__" (fun x y => ret (.bool (x == y))) false ⟨[.int z t, .ref a], []⟩) Q E s
  unfold Builtin.Int.intBinary
  repeat (first | with_reducible refine wpAny_load J.at_ ?_ | wp_step)
  exact h
theorem bool_off {M : Model} {A : Around} {E : Value → Shared → Prop} {a dx : Addr} {od : Option Obj} {z : Bool} {Q : PySem.Fin → Shared → Prop} (J : PySem.W.InstAt s.heap a (PySem.W.instObj C dx) C od) (h : Q (.done (.ret .notImplemented)) s) :
    wpAny M A (Builtin.«int.__eq__» ⟨[.bool z, .ref a], []⟩) Q E s := by
  show wpAny M A (Builtin.Int.intBinary "__eq__" (fun x y => ret (.bool (x == y))) false ⟨[.bool z, .ref a], []⟩) Q E s
  unfold Builtin.Int.intBinary
  repeat (first | with_reducible refine wpAny_load J.at_ ?_ | wp_step)
  exact h
theorem inst_off {K : PySem.W.Frag} {prog : Program} {w : World} {A : Around} {E : Value → Shared → Prop} {a dx : Addr} {od : Option Obj} {T : String} {Q' : Bool → Shared → Prop} (kin : K.In s.heap) (J : PySem.W.InstAt s.heap a (PySem.W.instObj C dx) C od) (off : PySem.W.mroIn K C (.type T) = some false)
    (h : Q' false s) : wpAny (model prog w) A (isInstance (.ref a) (.type T)) Q' E s := by
  have L : PySem.W.Looks (model prog w) s.heap (isInstance (.ref a) (.type T)) false := J.type.andThen (PySem.W.looks_mroIn kin off)
  exact L.here h
theorem list_off {K : PySem.W.Frag} {prog : Program} {w : World} {A : Around} {E : Value → Shared → Prop} {a l dx : Addr} {od : Option Obj} {Q : PySem.Fin → Shared → Prop} (kin : K.In s.heap) (J : PySem.W.InstAt s.heap a (PySem.W.instObj C dx) C od) (off : PySem.W.mroIn K C (.type "list") = some false)
    (h : Q (.done (.ret .notImplemented)) s) : wpAny (model prog w) A (Builtin.«list.__eq__» ⟨[.ref l, .ref a], []⟩) Q E s := by
  show wpAny _ _ (isInstance (.ref a) (.type "list") >>= _) _ _ s
  refine wpAny_bind (inst_off kin J off ?_)
  simp only [Bool.not_false, if_true]
  repeat (first | exact h | wp_step)
theorem tup_off {K : PySem.W.Frag} {prog : Program} {w : World} {A : Around} {E : Value → Shared → Prop} {a l dx : Addr} {od : Option Obj} {Q : PySem.Fin → Shared → Prop} (kin : K.In s.heap) (J : PySem.W.InstAt s.heap a (PySem.W.instObj C dx) C od) (off : PySem.W.mroIn K C (.type "tuple") = some false)
    (h : Q (.done (.ret .notImplemented)) s) : wpAny (model prog w) A (Builtin.«tuple.__eq__» ⟨[.ref l, .ref a], []⟩) Q E s := by
  show wpAny _ _ (isInstance (.ref a) (.type "tuple") >>= _) _ _ s
  refine wpAny_bind (inst_off kin J off ?_)
  simp only [Bool.not_false, if_true]
  repeat (first | exact h | wp_step)
/-- an object of a plain kind declines -/
theorem declines {v : V} {u : Value} {T : String} {a dx : Addr} {fs : List (Str × V)} {Q : Option Value → Shared → Prop} {E : Value → Shared → Prop} {A : Around} (c : EqC X.K C f) (I : Inv X pins σ H s) (ea : H a = some (.ins C dx fs)) (r : RelV v u) (kd : KindS H v T) (h : Q none s) :
    wpAny (model X.prog X.w) A (tryCompare u "__eq__" (.ref a)) Q E s := by
  have hT := kd.typeIs I r
  obtain ⟨od, J⟩ := inst_of I ea
  cases kd with
  | non =>
    cases (show u = Value.none from r)
    exact wpAny_tryCompare_declines hT PySem.F.slot_NoneType_eq (wpAny_call_entry PySem.F.slot_NoneType_eq hT PySem.F.entry_NoneType_eq (wpAny_pure ⟨_, rfl, rfl, h⟩) (PySem.F.args_NoneType_eq_2 _ _))
  | bl b =>
    cases (show u = Value.bool b from r)
    exact wpAny_tryCompare_declines hT PySem.F.slot_bool_eq (wpAny_call_entry PySem.F.slot_bool_eq hT PySem.F.entry_int_eq (bool_off J ⟨_, rfl, rfl, h⟩) (PySem.F.args_int_eq_2 _ _))
  | int i =>
    obtain ⟨t, q⟩ := (show ∃ t, u = Value.int i t from r)
    cases q
    exact wpAny_tryCompare_declines hT PySem.F.slot_int_eq (wpAny_call_entry PySem.F.slot_int_eq hT PySem.F.entry_int_eq (int_off J ⟨_, rfl, rfl, h⟩) (PySem.F.args_int_eq_2 _ _))
  | str z =>
    obtain ⟨t, q⟩ := (show ∃ t, u = Value.str z t from r)
    cases q
    exact wpAny_tryCompare_declines hT PySem.F.slot_str_eq (wpAny_call_entry PySem.F.slot_str_eq hT PySem.F.entry_str_eq (str_off J ⟨_, rfl, rfl, h⟩) (PySem.F.args_str_eq_2 _ _))
  | lst e =>
    rename_i l xs
    cases (show u = Value.ref l from r)
    exact wpAny_tryCompare_declines hT PySem.F.slot_list_eq (wpAny_call_entry PySem.F.slot_list_eq hT PySem.F.entry_list_eq (list_off I.kIn J (c.off _ (by decide)) ⟨_, rfl, rfl, h⟩) (PySem.F.args_list_eq_2 _ _))
  | tup e =>
    rename_i l xs
    cases (show u = Value.ref l from r)
    exact wpAny_tryCompare_declines hT PySem.F.slot_tuple_eq (wpAny_call_entry PySem.F.slot_tuple_eq hT PySem.F.entry_tuple_eq (tup_off I.kIn J (c.off _ (by decide)) ⟨_, rfl, rfl, h⟩) (PySem.F.args_tuple_eq_2 _ _))
/-- x == o, x of a plain kind, o an instance: o's own == is asked -/
def rEqOwnR (C : Addr) (sp : Sp) : R2 := fun x y H Q => ∃ a dx fs T, y = .ref a ∧ H a = some (.ins C dx fs) ∧ KindS H x T ∧ sp [y, x] H (fun v H' => ∃ b, v = .bl b ∧ Q (.bl b) H') E0
theorem op_eqOwnR (c : EqC X.K C f) (F : FnOk X.prog X.w X.K X.mg X.base CX0 k f fd ps sp) (hr : Room k X.A) (hb : Binds X.K fd ps []) : OpR X (compareOp .Eq) (rEqOwnR C sp) := by
  intro pins s σ H x y v u Q I rx ry h
  obtain ⟨a, dx, fs, T, rfl, ea, kd, hsp⟩ := h
  cases (show u = Value.ref a from ry)
  obtain ⟨od, J⟩ := inst_of I ea
  have hT := kd.typeIs I rx
  have two : wpAny (model X.prog X.w) X.A (tryCompare (.ref a) "__eq__" v) (fun r s' => ∃ w, r = some w ∧ EP X pins σ Q w s') X.xe s := by
    unfold tryCompare
    refine wpAny_bind (PySem.W.ifBound_K I.kIn J c.eq.at_ c.eq.fn (run_own F hr I.env0 hb I (vs := [.ref a, x]) (.cons rfl (.cons rx .nil)) hsp fun u' s' hu => ?_))
    obtain ⟨z, H', I', rz, b, rfl, q⟩ := hu
    cases (show u' = Value.bool b from rz)
    exact wpAny_pure ⟨_, rfl, .bl b, H', I', rfl, q⟩
  have one : ∀ (Q' : Option Value → Shared → Prop), Q' none s → wpAny (model X.prog X.w) X.A (tryCompare v "__eq__" (.ref a)) Q' X.xe s := fun Q' h' => declines c I ea rx kd h'
  show wpAny _ _ (richCompare .Eq v (.ref a)) _ _ _
  simp only [richCompare, cmpInfo_Eq, hT.oneThing_none]
  refine wpAny_holding (wpAny_bind (wpAny_cRoomFor hr.units0 (wpAny_bind (wpAny_typeOf hT (wpAny_bind (J.type.here ?_))))))
  generalize tryCompare (.ref a) (Str.ofString "__eq__") v = tc2 at two ⊢
  generalize tryCompare v (Str.ofString "__eq__") (.ref a) = tc1 at one ⊢
  generalize EP X pins σ Q = R at two ⊢
  have ne : (Value.type T != Value.ref C) = true := by simp
  rw [if_pos ne]
  refine wpAny_bind ((PySem.W.looks_mroIn I.kIn (c.off T kd.mem)).here ?_)
  simp only [Bool.false_eq_true, if_false, Bool.not_false, if_true]
  refine wpAny_bind (one _ ?_)
  exact wpAny_bind (wpAny_mono two (fun r s' z => by obtain ⟨w, rfl, z⟩ := z; exact wpAny_pure z) fun _ _ z => z)
end
end My
set_option Elab.async false
set_option linter.all false
set_option maxRecDepth 100000
namespace K06
open PySem PySem.Spec PyProof.Rows L2 My
/-! ### the text -/
def topS (i : Nat) : Stmt := PySem.Challenge.pw_settingsmerge_k06_lookups_of_any_object.main.body.getD i (.Pass ⟨0, 0, 0, 0⟩)
abbrev s_is_made_of : Stmt := topS 13
abbrev N_is_made_of : List Str := ["thing", "characters", "most", "character"]
theorem scis_made_of : FnScope N_is_made_of ["thing", "characters", "most"] (defScope s_is_made_of) := ⟨rfl, rfl, rfl, by decide +kernel, rfl, by decide +kernel, by decide +kernel⟩
abbrev s_is_name : Stmt := topS 14
abbrev N_is_name : List Str := ["thing"]
theorem scis_name : FnScope N_is_name ["thing"] (defScope s_is_name) := ⟨rfl, rfl, rfl, by decide +kernel, rfl, by decide +kernel, by decide +kernel⟩
abbrev s_is_place : Stmt := topS 15
abbrev N_is_place : List Str := ["thing", "section", "dot", "key"]
theorem scis_place : FnScope N_is_place ["thing"] (defScope s_is_place) := ⟨rfl, rfl, rfl, by decide +kernel, rfl, by decide +kernel, by decide +kernel⟩
abbrev s_is_value : Stmt := topS 16
abbrev N_is_value : List Str := ["thing"]
theorem scis_value : FnScope N_is_value ["thing"] (defScope s_is_value) := ⟨rfl, rfl, rfl, by decide +kernel, rfl, by decide +kernel, by decide +kernel⟩
abbrev s_is_release_word : Stmt := topS 17
abbrev N_is_release_word : List Str := ["thing"]
theorem scis_release_word : FnScope N_is_release_word ["thing"] (defScope s_is_release_word) := ⟨rfl, rfl, rfl, by decide +kernel, rfl, by decide +kernel, by decide +kernel⟩
abbrev s_is_header : Stmt := topS 18
abbrev N_is_header : List Str := ["line"]
theorem scis_header : FnScope N_is_header ["line"] (defScope s_is_header) := ⟨rfl, rfl, rfl, by decide +kernel, rfl, by decide +kernel, by decide +kernel⟩
abbrev s_is_loose : Stmt := topS 19
abbrev N_is_loose : List Str := ["line"]
theorem scis_loose : FnScope N_is_loose ["line"] (defScope s_is_loose) := ⟨rfl, rfl, rfl, by decide +kernel, rfl, by decide +kernel, by decide +kernel⟩
abbrev s_read_setting : Stmt := topS 20
abbrev N_read_setting : List Str := ["line", "key", "equals", "value"]
theorem scread_setting : FnScope N_read_setting ["line"] (defScope s_read_setting) := ⟨rfl, rfl, rfl, by decide +kernel, rfl, by decide +kernel, by decide +kernel⟩
abbrev s_read_kept : Stmt := topS 21
abbrev N_read_kept : List Str := ["line", "mark", "gap", "rest", "word", "named", "place", "equals", "value"]
theorem scread_kept : FnScope N_read_kept ["line"] (defScope s_read_kept) := ⟨rfl, rfl, rfl, by decide +kernel, rfl, by decide +kernel, by decide +kernel⟩
abbrev s_L_bag : Stmt := topS 24
abbrev N_L_bag : List Str := ["_law_script", "_law_at", "_law_cell", "_law_blend", "_law_k", "_law_each"]
theorem scL_bag : FnScope N_L_bag ["_law_script", "_law_at"] (defScope s_L_bag) := ⟨rfl, rfl, rfl, by decide +kernel, rfl, by decide +kernel, by decide +kernel⟩
abbrev s_L_take : Stmt := topS 25
abbrev N_L_take : List Str := ["_law_bag_here", "_law_many", "_law_digit"]
theorem scL_take : FnScope N_L_take ["_law_bag_here", "_law_many"] (defScope s_L_take) := ⟨rfl, rfl, rfl, by decide +kernel, rfl, by decide +kernel, by decide +kernel⟩
abbrev s_L_of : Stmt := topS 26
abbrev N_L_of : List Str := ["_law_bag_here", "_law_some"]
theorem scL_of : FnScope N_L_of ["_law_bag_here", "_law_some"] (defScope s_L_of) := ⟨rfl, rfl, rfl, by decide +kernel, rfl, by decide +kernel, by decide +kernel⟩
abbrev s_L_raised : Stmt := topS 27
abbrev N_L_raised : List Str := ["_law_deed", "e"]
theorem scL_raised : FnScope N_L_raised ["_law_deed"] (defScope s_L_raised) := ⟨rfl, rfl, rfl, by decide +kernel, rfl, by decide +kernel, by decide +kernel⟩
abbrev s_L_object : Stmt := topS 28
abbrev N_L_object : List Str := ["_law_bag_here", "_law_names", "_law_one", "_law_spot", "_law_sign", "_law_more", "_law_less", "_law_some"]
theorem scL_object : FnScope N_L_object ["_law_bag_here", "_law_names"] (defScope s_L_object) := ⟨rfl, rfl, rfl, by decide +kernel, rfl, by decide +kernel, by decide +kernel⟩
abbrev s_L_is_right : Stmt := topS 29
abbrev N_L_is_right : List Str := ["_law_file", "_law_what", "_law_worths", "_law_heads", "_law_is_there", "_law_found", "_law_both"]
theorem scL_is_right : FnScope N_L_is_right ["_law_file", "_law_what", "_law_worths", "_law_heads"] (defScope s_L_is_right) := ⟨rfl, rfl, rfl, by decide +kernel, rfl, by decide +kernel, by decide +kernel⟩
abbrev s_law : Stmt := topS 30
abbrev N_law : List Str := ["_law_script", "_law_at", "_law_bag_here", "_law_lines", "_law_worths", "_law_heads", "_law_head", "_law_key", "_law_file", "_law_names", "_law_turn"]
theorem sclaw : FnScope N_law ["_law_script"] (defScope s_law) := ⟨rfl, rfl, rfl, by decide +kernel, rfl, by decide +kernel, by decide +kernel⟩
abbrev s_SettingsFile___init__ : Stmt := inClass (topS 22) 0
abbrev N_SettingsFile___init__ : List Str := ["self", "text", "at", "line", "kind"]
theorem scSettingsFile___init__ : FnScope N_SettingsFile___init__ ["self", "text"] (defScope s_SettingsFile___init__) := ⟨rfl, rfl, rfl, by decide +kernel, rfl, by decide +kernel, by decide +kernel⟩
abbrev s_SettingsFile_take : Stmt := inClass (topS 22) 1
abbrev N_SettingsFile_take : List Str := ["self", "line", "setting", "key", "value"]
theorem scSettingsFile_take : FnScope N_SettingsFile_take ["self", "line"] (defScope s_SettingsFile_take) := ⟨rfl, rfl, rfl, by decide +kernel, rfl, by decide +kernel, by decide +kernel⟩
abbrev s_SettingsFile_take_kept : Stmt := inClass (topS 22) 2
abbrev N_SettingsFile_take_kept : List Str := ["self", "line", "kept", "release", "place", "value"]
theorem scSettingsFile_take_kept : FnScope N_SettingsFile_take_kept ["self", "line"] (defScope s_SettingsFile_take_kept) := ⟨rfl, rfl, rfl, by decide +kernel, rfl, by decide +kernel, by decide +kernel⟩
abbrev s_SettingsFile_take_header : Stmt := inClass (topS 22) 3
abbrev N_SettingsFile_take_header : List Str := ["self", "name"]
theorem scSettingsFile_take_header : FnScope N_SettingsFile_take_header ["self", "name"] (defScope s_SettingsFile_take_header) := ⟨rfl, rfl, rfl, by decide +kernel, rfl, by decide +kernel, by decide +kernel⟩
abbrev s_SettingsFile_take_setting : Stmt := inClass (topS 22) 4
abbrev N_SettingsFile_take_setting : List Str := ["self", "key", "value", "place"]
theorem scSettingsFile_take_setting : FnScope N_SettingsFile_take_setting ["self", "key", "value"] (defScope s_SettingsFile_take_setting) := ⟨rfl, rfl, rfl, by decide +kernel, rfl, by decide +kernel, by decide +kernel⟩
abbrev s_SettingsFile_close_block : Stmt := inClass (topS 22) 5
abbrev N_SettingsFile_close_block : List Str := ["self", "thing"]
theorem scSettingsFile_close_block : FnScope N_SettingsFile_close_block ["self", "thing"] (defScope s_SettingsFile_close_block) := ⟨rfl, rfl, rfl, by decide +kernel, rfl, by decide +kernel, by decide +kernel⟩
abbrev s_SettingsFile_value : Stmt := inClass (topS 22) 9
abbrev N_SettingsFile_value : List Str := ["self", "place"]
theorem scSettingsFile_value : FnScope N_SettingsFile_value ["self", "place"] (defScope s_SettingsFile_value) := ⟨rfl, rfl, rfl, by decide +kernel, rfl, by decide +kernel, by decide +kernel⟩
abbrev s_SettingsFile_block : Stmt := inClass (topS 22) 11
abbrev N_SettingsFile_block : List Str := ["self", "thing"]
theorem scSettingsFile_block : FnScope N_SettingsFile_block ["self", "thing"] (defScope s_SettingsFile_block) := ⟨rfl, rfl, rfl, by decide +kernel, rfl, by decide +kernel, by decide +kernel⟩
abbrev s_SettingsFile___contains__ : Stmt := inClass (topS 22) 15
abbrev N_SettingsFile___contains__ : List Str := ["self", "x"]
theorem scSettingsFile___contains__ : FnScope N_SettingsFile___contains__ ["self", "x"] (defScope s_SettingsFile___contains__) := ⟨rfl, rfl, rfl, by decide +kernel, rfl, by decide +kernel, by decide +kernel⟩
abbrev s_NoPlace___init__ : Stmt := inClass (topS 3) 0
abbrev N_NoPlace___init__ : List Str := ["self", "place"]
theorem scNoPlace___init__ : FnScope N_NoPlace___init__ ["self", "place"] (defScope s_NoPlace___init__) := ⟨rfl, rfl, rfl, by decide +kernel, rfl, by decide +kernel, by decide +kernel⟩
/-! ### what the top has written -/
structure Top (K : PySem.W.Frag) (mg : Str → Option Value) where
  C_SettingsFile : Addr
  cl_SettingsFile : Cls K C_SettingsFile
  g_SettingsFile : mg "SettingsFile" = some (.ref C_SettingsFile)
  nb_SettingsFile : PySem.W.findIn K (.ref C_SettingsFile) "__bool__" = some none
  no_SettingsFile_text : NoAttr K C_SettingsFile "text"
  no_SettingsFile_rows : NoAttr K C_SettingsFile "rows"
  no_SettingsFile_headers : NoAttr K C_SettingsFile "headers"
  no_SettingsFile_settings_read : NoAttr K C_SettingsFile "settings_read"
  no_SettingsFile_kept_read : NoAttr K C_SettingsFile "kept_read"
  no_SettingsFile_blocks : NoAttr K C_SettingsFile "blocks"
  no_SettingsFile_loose : NoAttr K C_SettingsFile "loose"
  C_NoPlace : Addr
  g_NoPlace : mg "NoPlace" = some (.ref C_NoPlace)
  ox_NoPlace : OexB K C_NoPlace "LookupError" "LookupError.__new__" "LookupError.__init__" [.type "LookupError", .type "Exception", .type "BaseException", .type "object"]
  ec_NoPlace : ExcC K C_NoPlace
  xm_NoPlace : PySem.W.exmOne K (.ref C_NoPlace) (.ref C_NoPlace) = some true
  nf_NoPlace_place : PySem.W.findIn K (.ref C_NoPlace) "place" = some none
  C_NoSlot : Addr
  g_NoSlot : mg "NoSlot" = some (.ref C_NoSlot)
  ko_NoPlace_NoSlot : PySem.W.kitOne K (.ref C_NoPlace) (.ref C_NoSlot) = some false
  C_NoChain : Addr
  g_NoChain : mg "NoChain" = some (.ref C_NoChain)
  ko_NoPlace_NoChain : PySem.W.kitOne K (.ref C_NoPlace) (.ref C_NoChain) = some false
  C_BadText : Addr
  g_BadText : mg "BadText" = some (.ref C_BadText)
  ko_NoPlace_BadText : PySem.W.kitOne K (.ref C_NoPlace) (.ref C_BadText) = some false
  kt_NoPlace_LookupError : PySem.W.kitOne K (.ref C_NoPlace) (.type "LookupError") = some true
  f_is_made_of : Addr
  d_is_made_of : FuncData
  F_is_made_of : Fun K "is_made_of" "is_made_of" s_is_made_of f_is_made_of d_is_made_of
  b_is_made_of : Binds K d_is_made_of ["thing", "characters", "most"] []
  g_is_made_of : mg "is_made_of" = some (.ref f_is_made_of)
  f_is_name : Addr
  d_is_name : FuncData
  F_is_name : Fun K "is_name" "is_name" s_is_name f_is_name d_is_name
  b_is_name : Binds K d_is_name ["thing"] []
  g_is_name : mg "is_name" = some (.ref f_is_name)
  f_is_place : Addr
  d_is_place : FuncData
  F_is_place : Fun K "is_place" "is_place" s_is_place f_is_place d_is_place
  b_is_place : Binds K d_is_place ["thing"] []
  g_is_place : mg "is_place" = some (.ref f_is_place)
  f_is_value : Addr
  d_is_value : FuncData
  F_is_value : Fun K "is_value" "is_value" s_is_value f_is_value d_is_value
  b_is_value : Binds K d_is_value ["thing"] []
  g_is_value : mg "is_value" = some (.ref f_is_value)
  f_is_release_word : Addr
  d_is_release_word : FuncData
  F_is_release_word : Fun K "is_release_word" "is_release_word" s_is_release_word f_is_release_word d_is_release_word
  b_is_release_word : Binds K d_is_release_word ["thing"] []
  g_is_release_word : mg "is_release_word" = some (.ref f_is_release_word)
  f_is_header : Addr
  d_is_header : FuncData
  F_is_header : Fun K "is_header" "is_header" s_is_header f_is_header d_is_header
  b_is_header : Binds K d_is_header ["line"] []
  g_is_header : mg "is_header" = some (.ref f_is_header)
  f_is_loose : Addr
  d_is_loose : FuncData
  F_is_loose : Fun K "is_loose" "is_loose" s_is_loose f_is_loose d_is_loose
  b_is_loose : Binds K d_is_loose ["line"] []
  g_is_loose : mg "is_loose" = some (.ref f_is_loose)
  f_read_setting : Addr
  d_read_setting : FuncData
  F_read_setting : Fun K "read_setting" "read_setting" s_read_setting f_read_setting d_read_setting
  b_read_setting : Binds K d_read_setting ["line"] []
  g_read_setting : mg "read_setting" = some (.ref f_read_setting)
  f_read_kept : Addr
  d_read_kept : FuncData
  F_read_kept : Fun K "read_kept" "read_kept" s_read_kept f_read_kept d_read_kept
  b_read_kept : Binds K d_read_kept ["line"] []
  g_read_kept : mg "read_kept" = some (.ref f_read_kept)
  f__law_bag : Addr
  d__law_bag : FuncData
  F__law_bag : Fun K "_law_bag" "_law_bag" s_L_bag f__law_bag d__law_bag
  b__law_bag : Binds K d__law_bag ["_law_script", "_law_at"] []
  g__law_bag : mg "_law_bag" = some (.ref f__law_bag)
  f__law_take : Addr
  d__law_take : FuncData
  F__law_take : Fun K "_law_take" "_law_take" s_L_take f__law_take d__law_take
  b__law_take : Binds K d__law_take ["_law_bag_here", "_law_many"] []
  g__law_take : mg "_law_take" = some (.ref f__law_take)
  f__law_of : Addr
  d__law_of : FuncData
  F__law_of : Fun K "_law_of" "_law_of" s_L_of f__law_of d__law_of
  b__law_of : Binds K d__law_of ["_law_bag_here", "_law_some"] []
  g__law_of : mg "_law_of" = some (.ref f__law_of)
  f__law_raised : Addr
  d__law_raised : FuncData
  F__law_raised : Fun K "_law_raised" "_law_raised" s_L_raised f__law_raised d__law_raised
  b__law_raised : Binds K d__law_raised ["_law_deed"] []
  g__law_raised : mg "_law_raised" = some (.ref f__law_raised)
  f__law_object : Addr
  d__law_object : FuncData
  F__law_object : Fun K "_law_object" "_law_object" s_L_object f__law_object d__law_object
  b__law_object : Binds K d__law_object ["_law_bag_here", "_law_names"] []
  g__law_object : mg "_law_object" = some (.ref f__law_object)
  f__law_is_right : Addr
  d__law_is_right : FuncData
  F__law_is_right : Fun K "_law_is_right" "_law_is_right" s_L_is_right f__law_is_right d__law_is_right
  b__law_is_right : Binds K d__law_is_right ["_law_file", "_law_what", "_law_worths", "_law_heads"] []
  cc__law_is_right : Addr
  pp__law_is_right : Addr
  co__law_is_right : d__law_is_right.code = .ref cc__law_is_right
  ti__law_is_right : PySem.W.tabIn K "_law_is_right" = some (cc__law_is_right, pp__law_is_right)
  np__law_is_right : K.lookup pp__law_is_right = none
  g__law_is_right : mg "_law_is_right" = some (.ref f__law_is_right)
  f_law : Addr
  d_law : FuncData
  F_law : Fun K "law" "law" s_law f_law d_law
  b_law : Binds K d_law ["_law_script"] []
  g_law : mg "law" = some (.ref f_law)
  f_SettingsFile___init__ : Addr
  d_SettingsFile___init__ : FuncData
  F_SettingsFile___init__ : Fun K "__init__" "SettingsFile.__init__" s_SettingsFile___init__ f_SettingsFile___init__ d_SettingsFile___init__
  b_SettingsFile___init__ : Binds K d_SettingsFile___init__ ["self", "text"] []
  mk_SettingsFile : Mk K C_SettingsFile f_SettingsFile___init__
  f_SettingsFile_take : Addr
  d_SettingsFile_take : FuncData
  F_SettingsFile_take : Fun K "take" "SettingsFile.take" s_SettingsFile_take f_SettingsFile_take d_SettingsFile_take
  b_SettingsFile_take : Binds K d_SettingsFile_take ["self", "line"] []
  me_SettingsFile_take : Meth K C_SettingsFile "take" f_SettingsFile_take
  f_SettingsFile_take_kept : Addr
  d_SettingsFile_take_kept : FuncData
  F_SettingsFile_take_kept : Fun K "take_kept" "SettingsFile.take_kept" s_SettingsFile_take_kept f_SettingsFile_take_kept d_SettingsFile_take_kept
  b_SettingsFile_take_kept : Binds K d_SettingsFile_take_kept ["self", "line"] []
  me_SettingsFile_take_kept : Meth K C_SettingsFile "take_kept" f_SettingsFile_take_kept
  f_SettingsFile_take_header : Addr
  d_SettingsFile_take_header : FuncData
  F_SettingsFile_take_header : Fun K "take_header" "SettingsFile.take_header" s_SettingsFile_take_header f_SettingsFile_take_header d_SettingsFile_take_header
  b_SettingsFile_take_header : Binds K d_SettingsFile_take_header ["self", "name"] []
  me_SettingsFile_take_header : Meth K C_SettingsFile "take_header" f_SettingsFile_take_header
  f_SettingsFile_take_setting : Addr
  d_SettingsFile_take_setting : FuncData
  F_SettingsFile_take_setting : Fun K "take_setting" "SettingsFile.take_setting" s_SettingsFile_take_setting f_SettingsFile_take_setting d_SettingsFile_take_setting
  b_SettingsFile_take_setting : Binds K d_SettingsFile_take_setting ["self", "key", "value"] []
  me_SettingsFile_take_setting : Meth K C_SettingsFile "take_setting" f_SettingsFile_take_setting
  f_SettingsFile_close_block : Addr
  d_SettingsFile_close_block : FuncData
  F_SettingsFile_close_block : Fun K "close_block" "SettingsFile.close_block" s_SettingsFile_close_block f_SettingsFile_close_block d_SettingsFile_close_block
  b_SettingsFile_close_block : Binds K d_SettingsFile_close_block ["self", "thing"] []
  me_SettingsFile_close_block : Meth K C_SettingsFile "close_block" f_SettingsFile_close_block
  f_SettingsFile_value : Addr
  d_SettingsFile_value : FuncData
  F_SettingsFile_value : Fun K "value" "SettingsFile.value" s_SettingsFile_value f_SettingsFile_value d_SettingsFile_value
  b_SettingsFile_value : Binds K d_SettingsFile_value ["self", "place"] []
  me_SettingsFile_value : Meth K C_SettingsFile "value" f_SettingsFile_value
  kb_SettingsFile_value : KM0 K d_SettingsFile_value ["self", "place"]
  f_SettingsFile_block : Addr
  d_SettingsFile_block : FuncData
  F_SettingsFile_block : Fun K "block" "SettingsFile.block" s_SettingsFile_block f_SettingsFile_block d_SettingsFile_block
  b_SettingsFile_block : Binds K d_SettingsFile_block ["self", "thing"] []
  me_SettingsFile_block : Meth K C_SettingsFile "block" f_SettingsFile_block
  f_SettingsFile___contains__ : Addr
  d_SettingsFile___contains__ : FuncData
  F_SettingsFile___contains__ : Fun K "__contains__" "SettingsFile.__contains__" s_SettingsFile___contains__ f_SettingsFile___contains__ d_SettingsFile___contains__
  b_SettingsFile___contains__ : Binds K d_SettingsFile___contains__ ["self", "x"] []
  me_SettingsFile___contains__ : Meth K C_SettingsFile "__contains__" f_SettingsFile___contains__
  f_NoPlace___init__ : Addr
  d_NoPlace___init__ : FuncData
  F_NoPlace___init__ : Fun K "__init__" "NoPlace.__init__" s_NoPlace___init__ f_NoPlace___init__ d_NoPlace___init__
  b_NoPlace___init__ : Binds K d_NoPlace___init__ ["self", "place"] []
  ei_NoPlace : PySem.W.findIn K (.ref C_NoPlace) "__init__" = some (some (.ref f_NoPlace___init__))
  et_NoPlace : PySem.W.typeIn K (.ref f_NoPlace___init__) = some (.type "function")
  t_LONGEST_NAME : Tok
  g_LONGEST_NAME : mg "LONGEST_NAME" = some (.int 8 t_LONGEST_NAME)
  t_LETTERS : Tok
  g_LETTERS : mg "LETTERS" = some (.str "abcdefghijklmnopqrstuvwxyz" t_LETTERS)
  t_LONGEST_VALUE : Tok
  g_LONGEST_VALUE : mg "LONGEST_VALUE" = some (.int 12 t_LONGEST_VALUE)
  t_DIGITS : Tok
  g_DIGITS : mg "DIGITS" = some (.str "0123456789" t_DIGITS)
  t_LONGEST_RELEASE : Tok
  g_LONGEST_RELEASE : mg "LONGEST_RELEASE" = some (.int 2 t_LONGEST_RELEASE)
  t_KEPT_MARK : Tok
  g_KEPT_MARK : mg "KEPT_MARK" = some (.str "#~" t_KEPT_MARK)
  m_LookupError : mg "LookupError" = none
  m_len : mg "len" = none
  m_isinstance : mg "isinstance" = none
  m_str : mg "str" = none
  m_all : mg "all" = none
  m_int : mg "int" = none
  m_enumerate : mg "enumerate" = none
  m_abs : mg "abs" = none
  m_repr : mg "repr" = none
  m_list : mg "list" = none
  m_range : mg "range" = none
  m_max : mg "max" = none
  m_min : mg "min" = none
end K06

set_option Elab.async false
set_option linter.all false
set_option maxRecDepth 100000
/-! files of settings: what their lines are worth, and how such a file stands in the heap -/
namespace My
open PySem PySem.Spec PyProof.Rows L2
abbrev digits : Str := "0123456789"
abbrev markS : Str := "#~"
abbrev eqS : Str := " = "
abbrev spaceS : Str := " "
def relW (z : Str) : Bool := madeOf digits 2 z && (decide (z = "0") || !Txt.startswith z "0")
def looseS (z : Str) : Bool := decide (z = "") || (Txt.startswith z "#" && !Txt.startswith z markS)
def headOf (z : Str) : Str := cutS z (some 1) (some (-1))
def headS (z : Str) : Bool := Txt.startswith z "[" && (Txt.endswith z "]" && nameS (headOf z))
def setS (z : Str) : Option (Str × Str) := if (nameS (Txt.partition z eqS).1 && valueS (Txt.partition z eqS).2.2) = true then some ((Txt.partition z eqS).1, (Txt.partition z eqS).2.2) else none
def intOf (z : Str) : Int := (PySem.intText? z).getD 0
abbrev kp1 (z : Str) := Txt.partition z spaceS
abbrev kp2 (z : Str) := Txt.partition (kp1 z).2.2 spaceS
abbrev kp3 (z : Str) := Txt.partition (kp2 z).2.2 eqS
def keptS (z : Str) : Option (Int × Str × Option Str) :=
  if (decide ((kp1 z).1 = markS) && (relW (kp2 z).1 && placeS (kp3 z).1)) = true then
    (if (kp3 z).2.1 = "" then some (intOf (kp2 z).1, (kp3 z).1, none) else if valueS (kp3 z).2.2 = true then some (intOf (kp2 z).1, (kp3 z).1, some (kp3 z).2.2) else none)
  else none
theorem int_of_rel {z : Str} (h : relW z = true) : PySem.intText? z = some (intOf z) ∧ z.length ≤ 640 := by
  unfold relW madeOf at h
  simp only [Bool.and_eq_true, decide_eq_true_eq] at h
  obtain ⟨⟨h1, h2, h3⟩, _⟩ := h
  have hall : ∀ c ∈ z.cps.toList, c ∈ digits.cps.toList := fun c hc => of_decide_eq_true (List.all_eq_true.mp h3 c hc)
  refine ⟨?_, by omega⟩
  have key : (PySem.intText? z).isSome = true := by
    obtain ⟨cps⟩ := z
    have hl : cps.toList.length = (⟨cps⟩ : Str).length := rfl
    have e : cps = cps.toList.toArray := by simp
    rw [e]
    have hall' : ∀ c ∈ cps.toList, c ∈ digits.cps.toList := hall
    generalize cps.toList = l at *
    match l, hl, hall' with
    | [], hl, _ => simp at hl; omega
    | [a], _, ha =>
      have all1 : ∀ a ∈ digits.cps.toList, (PySem.intText? ⟨[a].toArray⟩).isSome = true := by decide +kernel
      exact all1 a (ha a (by simp))
    | [a, b], _, ha =>
      have all2 : ∀ a ∈ digits.cps.toList, ∀ b ∈ digits.cps.toList, (PySem.intText? ⟨[a, b].toArray⟩).isSome = true := by decide +kernel
      exact all2 a (ha a (by simp)) b (ha b (by simp))
    | _ :: _ :: _ :: r, hl, _ => simp at hl; omega
  unfold intOf
  obtain ⟨n, hn⟩ := Option.isSome_iff_exists.mp key
  rw [hn]
  rfl
/-- what is known of the lines that were read -/
structure FS where
  headers : List Str
  settings : List (Str × Str)
  kept : List ((Int × Str) × Option Str)
  blocks : List (Str × List Str)
  loose : List Str
  deriving DecidableEq
def fs0 : FS := ⟨[], [], [], [], []⟩
/-- one line; none where the text is no file -/
def stepF (fs : FS) (z : Str) : Option FS :=
  if looseS z = true then some { fs with loose := fs.loose ++ [z] }
  else if Txt.startswith z markS = true then
    (match keptS z with
    | none => none
    | some (r, p, v) => if (r, p) ∈ fs.kept.map (·.1) then none else some { fs with kept := fs.kept ++ [((r, p), v)] })
  else if headS z = true then
    (if headOf z ∈ fs.headers then none else some { fs with headers := fs.headers ++ [headOf z], blocks := fs.blocks ++ [(headOf z, fs.loose)], loose := [] })
  else (match setS z with
    | none => none
    | some (k, v) => (match fs.headers.getLast? with
      | none => none
      | some h => if h ++ "." ++ k ∈ fs.settings.map (·.1) then none else some { fs with settings := fs.settings ++ [(h ++ "." ++ k, v)], blocks := fs.blocks ++ [(h ++ "." ++ k, fs.loose)], loose := [] }))
def runF : FS → List Str → Option FS
  | fs, [] => some fs
  | fs, z :: r => (stepF fs z).bind fun fs' => runF fs' r
theorem runF_app (fs : FS) (a b : List Str) : runF fs (a ++ b) = (runF fs a).bind fun fs' => runF fs' b := by
  induction a generalizing fs with
  | nil => rfl
  | cons z r ih =>
    show (stepF fs z).bind (fun fs' => runF fs' (r ++ b)) = ((stepF fs z).bind fun fs' => runF fs' r).bind fun fs' => runF fs' b
    cases stepF fs z with
    | none => rfl
    | some fs' => exact ih fs'
/-- names, places: no block's name is met twice -/
structure FsOk (fs : FS) : Prop where
  hn : ∀ h ∈ fs.headers, nameS h = true
  sd : ∀ p ∈ fs.settings.map (·.1), 46 ∈ TL.tl p
  bk : ∀ p ∈ fs.blocks.map (·.1), p ∈ fs.headers ∨ p ∈ fs.settings.map (·.1)
theorem fs0_ok : FsOk fs0 := ⟨by simp [fs0], by simp [fs0], by simp [fs0]⟩
theorem dot_in (h k : Str) : 46 ∈ TL.tl (h ++ "." ++ k) := by
  rw [TL.tl_append, TL.tl_append]
  exact List.mem_append_left _ (List.mem_append_right _ (by decide))
theorem FsOk.newHead {fs : FS} (o : FsOk fs) {n : Str} (hn : nameS n = true) (h : n ∉ fs.headers) : n ∉ fs.blocks.map (·.1) := fun hb => by
  rcases o.bk n hb with x | x
  · exact h x
  · exact name_free hn (o.sd n x)
theorem FsOk.newPlace {fs : FS} (o : FsOk fs) {p : Str} (hd : 46 ∈ TL.tl p) (h : p ∉ fs.settings.map (·.1)) : p ∉ fs.blocks.map (·.1) := fun hb => by
  rcases o.bk p hb with x | x
  · exact name_free (o.hn p x) hd
  · exact h x
theorem FsOk.step {fs fs' : FS} {z : Str} (o : FsOk fs) (h : stepF fs z = some fs') : FsOk fs' := by
  unfold stepF at h
  split at h
  · cases h
    exact ⟨o.hn, o.sd, o.bk⟩
  split at h
  · split at h
    · cases h
    · split at h
      · cases h
      · cases h
        exact ⟨o.hn, o.sd, o.bk⟩
  split at h
  · rename_i hh
    split at h
    · cases h
    · cases h
      have hn : nameS (headOf z) = true := by
        unfold headS at hh
        simp only [Bool.and_eq_true] at hh
        exact hh.2.2
      refine ⟨?_, o.sd, ?_⟩
      · intro x hx
        rcases List.mem_append.mp hx with x2 | x2
        · exact o.hn x x2
        · cases List.mem_singleton.mp x2
          exact hn
      · intro p hp
        rw [List.map_append] at hp
        rcases List.mem_append.mp hp with x2 | x2
        · rcases o.bk p x2 with y | y
          · exact .inl (List.mem_append_left _ y)
          · exact .inr y
        · cases List.mem_singleton.mp x2
          exact .inl (List.mem_append_right _ (List.mem_singleton.mpr rfl))
  split at h
  · cases h
  split at h
  · cases h
  split at h
  · cases h
  · cases h
    refine ⟨o.hn, ?_, ?_⟩
    · intro p hp
      rw [List.map_append] at hp
      rcases List.mem_append.mp hp with x2 | x2
      · exact o.sd p x2
      · cases List.mem_singleton.mp x2
        exact dot_in _ _
    · intro p hp
      rw [List.map_append] at hp
      rcases List.mem_append.mp hp with x2 | x2
      · rcases o.bk p x2 with y | y
        · exact .inl y
        · exact .inr (by rw [List.map_append]; exact List.mem_append_left _ y)
      · cases List.mem_singleton.mp x2
        refine .inr ?_
        rw [List.map_append]
        exact List.mem_append_right _ (List.mem_singleton.mpr rfl)
/-! ### the heap -/
def optV : Option Str → V
  | none => .non
  | some v => .str v
def flds1 (t : Str) : List (Str × V) := putF "text" (.str t) []
def flds2 (t : Str) (r : Addr) : List (Str × V) := putF "rows" (.ref r) (flds1 t)
def flds3 (t : Str) (r h : Addr) : List (Str × V) := putF "headers" (.ref h) (flds2 t r)
def flds4 (t : Str) (r h s : Addr) : List (Str × V) := putF "settings_read" (.ref s) (flds3 t r h)
def flds5 (t : Str) (r h s k : Addr) : List (Str × V) := putF "kept_read" (.ref k) (flds4 t r h s)
def flds6 (t : Str) (r h s k b : Addr) : List (Str × V) := putF "blocks" (.ref b) (flds5 t r h s k)
def flds (t : Str) (r h s k b l : Addr) : List (Str × V) := putF "loose" (.ref l) (flds6 t r h s k b)
theorem putF_same (f : Str) (u v : V) : ∀ fs : List (Str × V), putF f v (putF f u fs) = putF f v fs
  | [] => by
    show (if f = f then [(f, v)] else _) = [(f, v)]
    rw [if_pos rfl]
  | (g, x) :: r => by
    show putF f v (if g = f then (g, u) :: r else (g, x) :: putF f u r) = if g = f then (g, v) :: r else (g, x) :: putF f v r
    by_cases e : g = f
    · rw [if_pos e, if_pos e]
      show (if g = f then (g, v) :: r else _) = _
      rw [if_pos e]
    · rw [if_neg e, if_neg e]
      show (if g = f then _ else (g, x) :: putF f v (putF f u r)) = _
      rw [if_neg e, putF_same f u v r]
theorem flds_reloose (t : Str) (r h s k b l l' : Addr) : putF "loose" (.ref l') (flds t r h s k b l) = flds t r h s k b l' := putF_same _ _ _ _
theorem putF_len (f : Str) (v : V) : ∀ fs : List (Str × V), (putF f v fs).length ≤ fs.length + 1
  | [] => Nat.le_refl _
  | (g, x) :: r => by
    show (if g = f then (g, v) :: r else (g, x) :: putF f v r).length ≤ _
    split
    · simp
    · have := putF_len f v r
      simp only [List.length_cons]
      omega
theorem flds_len (t : Str) (r h s k b l : Addr) : (flds t r h s k b l).length < 1000 := by
  have h1 := putF_len "text" (.str t) []
  have h2 := putF_len "rows" (.ref r) (flds1 t)
  have h3 := putF_len "headers" (.ref h) (flds2 t r)
  have h4 := putF_len "settings_read" (.ref s) (flds3 t r h)
  have h5 := putF_len "kept_read" (.ref k) (flds4 t r h s)
  have h6 := putF_len "blocks" (.ref b) (flds5 t r h s k)
  have h7 := putF_len "loose" (.ref l) (flds6 t r h s k b)
  unfold flds
  unfold flds6 at h7 ⊢
  unfold flds5 at h6 h7 ⊢
  unfold flds4 at h5 h6 h7 ⊢
  unfold flds3 at h4 h5 h6 h7 ⊢
  unfold flds2 at h3 h4 h5 h6 h7 ⊢
  unfold flds1 at h2 h3 h4 h5 h6 h7 ⊢
  simp only [List.length_nil] at h1
  omega
section
variable (t : Str) (r h s k b l : Addr)
theorem f_loose : (flds t r h s k b l).lookup ("loose" : Str) = some (V.ref l) := by unfold flds; rw [lookup_putF, if_pos rfl]
theorem f_blocks : (flds t r h s k b l).lookup ("blocks" : Str) = some (V.ref b) := by
  unfold flds flds6
  rw [lookup_putF, if_neg (by decide +kernel), lookup_putF, if_pos rfl]
theorem f_kept : (flds t r h s k b l).lookup ("kept_read" : Str) = some (V.ref k) := by
  unfold flds flds6 flds5
  rw [lookup_putF, if_neg (by decide +kernel), lookup_putF, if_neg (by decide +kernel), lookup_putF, if_pos rfl]
theorem f_settings : (flds t r h s k b l).lookup ("settings_read" : Str) = some (V.ref s) := by
  unfold flds flds6 flds5 flds4
  rw [lookup_putF, if_neg (by decide +kernel), lookup_putF, if_neg (by decide +kernel), lookup_putF, if_neg (by decide +kernel), lookup_putF, if_pos rfl]
theorem f_headers : (flds t r h s k b l).lookup ("headers" : Str) = some (V.ref h) := by
  unfold flds flds6 flds5 flds4 flds3
  rw [lookup_putF, if_neg (by decide +kernel), lookup_putF, if_neg (by decide +kernel), lookup_putF, if_neg (by decide +kernel), lookup_putF, if_neg (by decide +kernel), lookup_putF, if_pos rfl]
theorem f_rows : (flds t r h s k b l).lookup ("rows" : Str) = some (V.ref r) := by
  unfold flds flds6 flds5 flds4 flds3 flds2
  rw [lookup_putF, if_neg (by decide +kernel), lookup_putF, if_neg (by decide +kernel), lookup_putF, if_neg (by decide +kernel), lookup_putF, if_neg (by decide +kernel), lookup_putF, if_neg (by decide +kernel), lookup_putF, if_pos rfl]
theorem f_text : (flds t r h s k b l).lookup ("text" : Str) = some (V.str t) := by
  unfold flds flds6 flds5 flds4 flds3 flds2 flds1
  rw [lookup_putF, if_neg (by decide +kernel), lookup_putF, if_neg (by decide +kernel), lookup_putF, if_neg (by decide +kernel), lookup_putF, if_neg (by decide +kernel), lookup_putF, if_neg (by decide +kernel), lookup_putF, if_neg (by decide +kernel), lookup_putF, if_pos rfl]
/-- no attribute of that name -/
theorem f_no {m : Str} (h1 : ¬ m = "loose") (h2 : ¬ m = "blocks") (h3 : ¬ m = "kept_read") (h4 : ¬ m = "settings_read") (h5 : ¬ m = "headers") (h6 : ¬ m = "rows") (h7 : ¬ m = "text") : (flds t r h s k b l).lookup m = none := by
  unfold flds flds6 flds5 flds4 flds3 flds2 flds1
  rw [lookup_putF, if_neg h1, lookup_putF, if_neg h2, lookup_putF, if_neg h3, lookup_putF, if_neg h4, lookup_putF, if_neg h5, lookup_putF, if_neg h6, lookup_putF, if_neg h7]
  rfl
end
def setKV (l : List (Str × Str)) : List (Key × V) := l.map fun p => (.inr p.1, .str p.2)
def keptKV (l : List ((Int × Str) × Option Str)) : List (List Key × V) := l.map fun p => ([.inl p.1.1, .inr p.1.2], optV p.2)
def blkKV (l : List (Str × Addr)) : List (Key × V) := l.map fun p => (.inr p.1, .ref p.2)
/-- where the parts of a file stand -/
structure Parts where
  dx : Addr
  r : Addr
  h : Addr
  s : Addr
  k : Addr
  b : Addr
  l : Addr
  bl : List (Str × Addr)
/-- a file at x, its parts at A; H0: the heap ahead of it, in which all of them are free -/
structure FileP (C : Addr) (H0 H : Hp) (x : Addr) (t : Str) (rows : List Str) (fs : FS) (A : Parts) : Prop where
  same : Same H0 H
  ob : H x = some (.ins C A.dx (flds t A.r A.h A.s A.k A.b A.l))
  er : H A.r = some (.lst (rows.map V.str))
  eh : H A.h = some (.lst (fs.headers.map V.str))
  es : H A.s = some (.dK (setKV fs.settings))
  ek : H A.k = some (.dT (keptKV fs.kept))
  eb : H A.b = some (.dK (blkKV A.bl))
  el : H A.l = some (.lst (fs.loose.map V.str))
  bs : Paired (fun (p : Str × Addr) (q : Str × List Str) => p.1 = q.1 ∧ H p.2 = some (.lst (q.2.map V.str)) ∧ p.2 ≠ A.l ∧ p.2 ≠ A.h ∧ H0 p.2 = none) A.bl fs.blocks
  rh : A.r ≠ A.h
  rl : A.r ≠ A.l
  hl : A.h ≠ A.l
  sb : A.s ≠ A.b
  n : H0 x = none ∧ H0 A.r = none ∧ H0 A.h = none ∧ H0 A.s = none ∧ H0 A.k = none ∧ H0 A.b = none ∧ H0 A.l = none
  ok : FsOk fs
def FileAt (C : Addr) (H0 H : Hp) (x : Addr) (t : Str) (rows : List Str) (fs : FS) : Prop := ∃ A, FileP C H0 H x t rows fs A
/-- what is free in H0 stands as it stood -/
def Kept0 (H0 H H' : Hp) : Prop := ∀ c o, H0 c = none → H c = some o → H' c = some o
theorem FileP.keep {C : Addr} {H0 H H' : Hp} {x : Addr} {t : Str} {rows : List Str} {fs : FS} {A : Parts} (f : FileP C H0 H x t rows fs A) (s : Same H0 H') (k : Kept0 H0 H H') : FileP C H0 H' x t rows fs A := by
  obtain ⟨n1, n2, n3, n4, n5, n6, n7⟩ := f.n
  exact ⟨s, k _ _ n1 f.ob, k _ _ n2 f.er, k _ _ n3 f.eh, k _ _ n4 f.es, k _ _ n5 f.ek, k _ _ n6 f.eb, k _ _ n7 f.el, Paired.mapP f.bs fun p q z => ⟨z.1, k _ _ z.2.2.2.2 z.2.1, z.2.2⟩, f.rh, f.rl, f.hl, f.sb, f.n, f.ok⟩
theorem FileP.more {C : Addr} {H0 H H' : Hp} {x : Addr} {t : Str} {rows : List Str} {fs : FS} {A : Parts} (f : FileP C H0 H x t rows fs A) (s : Same H H') : FileP C H0 H' x t rows fs A :=
  f.keep (f.same.trans s) fun c o _ e => s c o e
end My
set_option Elab.async false
set_option linter.all false
set_option maxRecDepth 100000
namespace K06
open PySem PySem.Spec PyProof.Rows L2 My
section
variable {P : Program} {w : World} {K : PySem.W.Frag} {mg : Str → Option Value} {base : Heap}
def sp_L_take (K : PySem.W.Frag) : Sp := fun vs H Q _ => ∃ (b : Addr) (many : Int), vs = [.ref b, .int many] ∧ Bag H b ∧ 0 < many ∧ many ≤ 1000 ∧
  ∀ (d n m : Int), 0 ≤ d → d < many → 0 ≤ n → 0 ≤ m → m < 2147483648 → Q (.int d) (upd H b (.lst [.int n, .int m]))
theorem ok_L_take (T : Top K mg) : FnOk P w K mg base CX0 1 T.f__law_take T.d__law_take ["_law_bag_here", "_law_many"] (sp_L_take K) := by
  refine T.F__law_take.ok scL_take (fun vs H Q E h => ?_) (fun cdv A outer s H vs Q E hr h => ?_)
  · obtain ⟨b, many, rfl, _⟩ := h
    rfl
  · obtain ⟨b, many, rfl, ⟨n, m, hb, n0, m0, m1⟩, p0, p1, q⟩ := h
    refine ⟨_, (pss_cons (ps_if (pt_cmpR op_gt (pe_ix ix_list (pv 0) pe_int (fun _ _ => rfl)) pe_int (nomark _)) (pss_cons (ps_set (i := 2) scL_take.nd rfl (.inl rfl) (pe_op op_mod (pe_callTy call_int1 (by rfl) T.m_int (by decide +kernel) (pa_cons (pe_ix ix_list (pv 0) pe_int (fun _ _ => rfl)) pa_nil)) (pv 1)))
      (pss_cons (ps_asg (pe_op op_fdiv (pe_ix ix_list (pv 0) pe_int (fun _ _ => rfl)) (pv 1)) (pg_sub (pv 0) pe_int set_list))
      (pss_one (ps_ret (pv 2))))) pss_nil)
      (pss_cons (ps_asg (pe_op op_mod (pe_callTy call_int1 (by rfl) T.m_int (by decide +kernel) (pa_cons (pe_op op_add (pe_op op_mul (pe_ix ix_list (pv 0) pe_int (fun _ _ => rfl)) pe_int) pe_int) pa_nil)) pe_int) (pg_sub (pv 0) pe_int set_list))
      (pss_one (ps_ret (pe_op op_mod (pe_op op_fdiv (pe_op op_mod (pe_callTy call_int1 (by rfl) T.m_int (by decide +kernel) (pa_cons (pe_op op_mul (pe_op op_fdiv (pe_ix ix_list (pv 0) pe_int (fun _ _ => rfl)) pe_int) pe_int) pa_nil)) pe_int) pe_int) (pv 1)))))), ?_⟩
    refine ⟨.ref b, rfl, b, _, 0, .int n, rfl, rfl, SqL.of hb, atI_nat (j := 0) rfl, n, 0, rfl, rfl, _, rfl, ite2 (fun e => ?_) (fun e => ?_)⟩
    · refine ⟨.ref b, rfl, b, _, 0, .int n, rfl, rfl, SqL.of hb, atI_nat (j := 0) rfl, .inl ⟨n, rfl, .int many, rfl, n, many, rfl, rfl, p0, ?_⟩⟩
      refine ⟨.ref b, rfl, b, _, 0, .int n, rfl, rfl, SqL.of hb, atI_nat (j := 0) rfl, .int many, rfl, n, many, rfl, rfl, ⟨p0, by omega⟩, ?_⟩
      refine ⟨.ref b, rfl, b, _, 0, 0, rfl, rfl, hb, rfl, ?_⟩
      refine ⟨.int (n % many), rfl, ?_⟩
      exact q _ _ _ (Int.emod_nonneg _ (by omega)) (Int.emod_lt_of_pos _ p0) (Int.ediv_nonneg n0 (by omega)) m0 m1
    · refine ⟨.ref b, rfl, b, _, 1, .int m, rfl, rfl, SqL.of hb, atI_nat (j := 1) rfl, m, 40692, rfl, rfl, .inl ⟨by omega, by omega⟩, _, 2909, rfl, rfl, .inl ⟨_, rfl, _, 2147483399, rfl, rfl, (show (0 : Int) < 2147483399 by decide), ?_⟩⟩
      refine ⟨.ref b, rfl, b, _, 1, 1, rfl, rfl, hb, rfl, ?_⟩
      obtain ⟨m2, hm⟩ : ∃ m2, m2 = (m * 40692 + 2909) % 2147483399 := ⟨_, rfl⟩
      have a0 : 0 ≤ m2 := by rw [hm]; exact Int.emod_nonneg _ (by decide)
      have a1 : m2 < 2147483399 := by rw [hm]; exact Int.emod_lt_of_pos _ (by decide)
      refine ⟨.ref b, rfl, b, _, 1, .int m2, rfl, rfl, SqL.of upd_same, atI_nat (j := 1) (by rw [hm]; rfl), m2, 7, rfl, rfl, ⟨by decide, by decide⟩, _, 69621, rfl, rfl, .inl ⟨by omega, by omega⟩,
        .inl ⟨_, rfl, _, 2147483587, rfl, rfl, (show (0 : Int) < 2147483587 by decide), _, 64, rfl, rfl, ⟨by decide, by decide⟩, .int many, rfl, _, many, rfl, rfl, p0, ?_⟩⟩
      have z := q (m2 / 7 * 69621 % 2147483587 / 64 % many) n m2 (Int.emod_nonneg _ (by omega)) (Int.emod_lt_of_pos _ p0) n0 a0 (by omega)
      rw [hm] at z ⊢
      exact z
def sp_L_of (K : PySem.W.Frag) : Sp := fun vs H Q _ => ∃ (b l : Addr) (xs : List V), vs = [.ref b, .ref l] ∧ Bag H b ∧ H l = some (.lst xs) ∧ l ≠ b ∧ xs ≠ [] ∧ xs.length ≤ 1000 ∧
  ∀ (v : V) (n m : Int), v ∈ xs → 0 ≤ n → 0 ≤ m → m < 2147483648 → Q v (upd H b (.lst [.int n, .int m]))
theorem ok_L_of (T : Top K mg) : FnOk P w K mg base CX0 2 T.f__law_of T.d__law_of ["_law_bag_here", "_law_some"] (sp_L_of K) := by
  have G__law_take : FnOk P w K mg base CX0 1 T.f__law_take T.d__law_take ["_law_bag_here", "_law_many"] (sp_L_take K) := ok_L_take T
  refine T.F__law_of.ok scL_of (fun vs H Q E h => ?_) (fun cdv A outer s H vs Q E hr h => ?_)
  · obtain ⟨b, l, xs, rfl, _⟩ := h
    rfl
  · obtain ⟨b, l, xs, rfl, hb, hl, ne, h0, h1, q⟩ := h
    refine ⟨_, (pss_one (ps_ret (pe_ix ix_list (pv 1) (pe_call G__law_take (hr.mono (by decide)) (by rfl) T.g__law_take T.F__law_take.kp T.b__law_take .nil pass0 (pa_cons (pv 0) (pa_cons (pe_callB call_len_seq (by rfl) T.m_len (by decide +kernel) (pa_cons (pv 1) pa_nil)) pa_nil))) (fun _ _ => rfl)))), ?_⟩
    have hp : 0 < xs.length := List.length_pos_iff.mpr h0
    refine ⟨.ref l, rfl, .ref b, rfl, .ref l, rfl, l, xs, rfl, .inl (SqL.of hl), b, (xs.length : Int), rfl, hb, by omega, by omega, fun d n m d0 d1 n0 m0 m1 => ?_⟩
    have hd : d.toNat < xs.length := by omega
    refine ⟨l, xs, d, xs[d.toNat], rfl, rfl, SqL.of (by rw [upd_ne ne]; exact hl), at_of (j := d.toNat) (by omega) (List.getElem?_eq_getElem hd), ?_⟩
    exact q _ _ _ (List.getElem_mem hd) n0 m0 m1
/-! ### the bag -/
def sp_L_bag (K : PySem.W.Frag) : Sp := fun vs H Q _ => ∃ (a : Addr) (i : Int) (ns : List Int), vs = [.ref a, .int i] ∧ SqL K H a (ns.map V.int) ∧ ns.length ≤ 63 ∧ 0 ≤ i ∧ i ≤ 1000 ∧
  ∀ H' p, Same H H' → H p = none → Bag H' p → Q (.ref p) H'
theorem ok_L_bag (T : Top K mg) : FnOk P w K mg base CX0 1 T.f__law_bag T.d__law_bag ["_law_script", "_law_at"] (sp_L_bag K) := by
  refine T.F__law_bag.ok scL_bag (fun vs H Q E h => ?_) (fun cdv A outer s H vs Q E hr h => ?_)
  · obtain ⟨b, l, xs, rfl, _⟩ := h
    rfl
  · obtain ⟨a, i, ns, rfl, hS, hl, i0, i1, q⟩ := h
    refine ⟨_, (pss_cons (ps_set (i := 2) scL_bag.nd rfl (.inl rfl) (pe_ifExp (pt_cmpR op_lt (pv 1) (pe_callB call_len_seq (by rfl) T.m_len (by decide +kernel) (pa_cons (pv 0) pa_nil)) (nomark _)) (pe_ix ix_list (pv 0) (pv 1) (fun _ _ => rfl)) pe_int))
      (pss_cons (ps_set (i := 3) scL_bag.nd rfl (.inl rfl) (pe_op op_add (pe_op op_mul pe_int (pv 1)) pe_int))
      (pss_cons (ps_for PassesOwn.never rfl (pi_enum (by rfl) T.m_enumerate (pa_cons (pe_slice sl_list (pv 0) po_none (po_some pe_int)) pa_nil)) (pg_tup rfl (pgs_cons (pg_name (i := 4) scL_bag.nd rfl (.inl rfl)) (pgs_cons (pg_name (i := 5) scL_bag.nd rfl (.inl rfl)) pgs_nil))) (pss_one (ps_set (i := 3) scL_bag.nd rfl (.inl rfl) (pe_op op_mod (pe_callTy call_int1 (by rfl) T.m_int (by decide +kernel) (pa_cons (pe_op op_add (pe_op op_add (pe_op op_add (pe_op op_mul (pv 3) pe_int) (pe_op op_mod (pe_callTy call_int1 (by rfl) T.m_int (by decide +kernel) (pa_cons (pv 5) pa_nil)) pe_int)) (pe_op op_mul pe_int (pv 4))) pe_int) pa_nil)) pe_int))))
      (pss_one (ps_ret (pe_lst (pa_cons (pe_ifExp (pt_cmpR op_ge (pe_callB call_abs (by rfl) T.m_abs (by decide +kernel) (pa_cons (pv 2) pa_nil)) (pe_op op_pow pe_int pe_int) (nomark _)) (pe_callB call_abs (by rfl) T.m_abs (by decide +kernel) (pa_cons (pv 2) pa_nil)) pe_int) (pa_cons (pv 3) pa_nil)))))))), ?_⟩
    obtain ⟨z, hz1, hz2⟩ : ∃ z : Int, (i < (((ns.map V.int).length : Nat) : Int) → atI (ns.map V.int) i = some (.int z)) ∧ (¬ i < (((ns.map V.int).length : Nat) : Int) → z = 0) := by
      by_cases h : i < (((ns.map V.int).length : Nat) : Int)
      · have hn : i.toNat < ns.length := by rw [List.length_map] at h; omega
        refine ⟨ns[i.toNat], fun _ => at_of (j := i.toNat) (by omega) ?_, fun h2 => absurd h h2⟩
        rw [List.getElem?_map, List.getElem?_eq_getElem hn]
        rfl
      · exact ⟨0, fun h2 => absurd h2 h, fun _ => rfl⟩
    refine ⟨.int i, rfl, .ref a, rfl, a, _, rfl, .inl hS, i, _, rfl, rfl, _, rfl, ite_via (fun e r => ⟨.ref a, rfl, .int i, rfl, a, _, i, .int z, rfl, rfl, hS, hz1 (of_decide_eq_true e), r⟩) (fun e r => by
      have e2 := hz2 (fun x => e (decide_eq_true x))
      rw [e2] at r
      exact r) ?_⟩
    refine ⟨.int i, rfl, 4091, i, rfl, rfl, .inl ⟨by decide, by decide⟩, _, 43, rfl, rfl, ?_⟩
    refine ⟨.ref a, rfl, 40, rfl, a, _, rfl, hS, fun c nc => ?_⟩
    obtain ⟨ms, ems, lms⟩ := cut_ints ns none (some 40)
    have sc0 : Same H (upd H c (.lst (cutV (ns.map V.int) none (some 40)))) := same_new nc
    refine ⟨c, _, rfl, SqL.of upd_same, for_it (walk_enum (xs := cutV (ns.map V.int) none (some 40))) (fun _ σ H3 => ∃ (bl : Int) (y4 y5 : Option V), σ = [some (.ref a), some (.int i), some (.int z), some (.int bl), y4, y5] ∧ 0 ≤ bl ∧ bl < 2147483648 ∧ Same H H3 ∧ H3 c = some (.lst (cutV (ns.map V.int) none (some 40)))) ?_ ?_ ?_ ?_⟩
    · exact ⟨4091 * i + 43, none, none, rfl, by omega, by omega, sc0, upd_same⟩
    · rintro j σ H3 _ ⟨bl, y4, y5, _, _, _, _, h5⟩
      exact SqL.of h5
    · rintro j x σ H3 H4 hj ⟨bl, y4, y5, rfl, b0, b1, hs, hc⟩ ⟨t, x1, x2, rfl, nt, rfl, e1, e2⟩
      cases e1
      obtain ⟨v, rfl⟩ : ∃ v : Int, x2 = .int v := by
        have e2 : (ms.map V.int)[j]? = some x2 := by rw [← ems]; exact e2
        rw [List.getElem?_map] at e2
        cases e3 : ms[j]? with
        | none => rw [e3] at e2; cases e2
        | some v => rw [e3] at e2; cases e2; exact ⟨v, rfl⟩
      refine ⟨t, _, rfl, SqT.of upd_same, rfl, .int (j : Nat), [.int v], rfl, .int v, [], rfl, rfl, ?_⟩
      refine ⟨.int bl, rfl, bl, 40014, rfl, rfl, .inl ⟨by omega, by omega⟩, .int v, rfl, .inl ⟨v, rfl, v, 2147483563, rfl, rfl, (show (0 : Int) < 2147483563 by decide), _, _, rfl, rfl, .int (j : Nat), rfl, 83, _, rfl, rfl, .inl ⟨by decide, by decide⟩, _, _, rfl, rfl, _, 7, rfl, rfl, .inl ⟨_, rfl, _, 2147483563, rfl, rfl, (show (0 : Int) < 2147483563 by decide), ?_⟩⟩⟩
      refine ⟨_, _, _, rfl, Int.emod_nonneg _ (by decide), Int.lt_trans (Int.emod_lt_of_pos _ (by decide)) (by decide), hs.trans (same_new nt), ?_⟩
      rw [upd_ne (ne_of_none hc nt)]
      exact hc
    · rintro σ H3 ⟨bl, y4, y5, rfl, b0, b1, hs, hc⟩
      have rest : ∀ n : Int, 0 ≤ n → ∀ p, H3 p = none → Q (.ref p) (upd H3 p (.lst [.int n, .int bl])) := fun n n0 p np => q _ p (hs.trans (same_new np)) (hs.free np) ⟨n, bl, upd_same, n0, b0, b1⟩
      refine ⟨.int z, rfl, z, rfl, 10, 18, rfl, rfl, ⟨by decide, by decide, by decide⟩, _, _, rfl, rfl, _, rfl, ite2 (fun e => ?_) (fun e => ?_)⟩
      · refine ⟨.int z, rfl, z, rfl, .int bl, rfl, (by show 2 ≤ sizeLine; decide), fun p np => rest _ ?_ p np⟩
        split <;> omega
      · exact ⟨.int bl, rfl, (by show 2 ≤ sizeLine; decide), fun p np => rest 0 (by decide) p np⟩
def sp_is_made_of (K : PySem.W.Frag) : Sp := fun vs H Q _ => ∃ (v : V) (cs : Str) (most : Int), vs = [v, .str cs, .int most] ∧ Ask K H v ∧ ∀ H', Same H H' → Q (.bl (ofText (madeOf cs most) v)) H'
theorem ok_is_made_of (T : Top K mg) : FnOk P w K mg base CX0 1 T.f_is_made_of T.d_is_made_of ["thing", "characters", "most"] (sp_is_made_of K) := by
  refine T.F_is_made_of.ok scis_made_of (fun vs H Q E h => ?_) (fun cdv A outer s H vs Q E hr h => ?_)
  · obtain ⟨v, cs, most, rfl, _⟩ := h
    rfl
  · obtain ⟨v, cs, most, rfl, hv, q⟩ := h
    refine ⟨_, (pss_cons (ps_if (PW.pt (pw_or (pt_not (pt_val (pe_callB call_isi (by rfl) T.m_isinstance (by decide +kernel) (pa_cons (pv 0) (pa_cons (pe_bltn (v := .ty "str") (by rfl) T.m_str (by decide +kernel) rfl) pa_nil))))) (pw_or (pt_cmpR op_eq (pv 0) pe_str (nomark _)) (pw_or1 (pt_cmpR op_gt (pe_callB call_len_str (by rfl) T.m_len (by decide +kernel) (pa_cons (pv 0) pa_nil)) (pv 2) (nomark _)))))) (pss_one (ps_ret pe_bl)) pss_nil)
      (pss_one (ps_ret (pe_callB (cr_all rfl) (by rfl) T.m_all (by decide +kernel) (pa_cons (pe_lc (own := [("character", 3)]) rfl scis_made_of.nd (pi_str (pv 0)) (blkOk_by (N := N_is_made_of) (sc := defScope s_is_made_of) (by decide +kernel)) (fun _ _ _ _ _ => (pg_name (i := 3) scis_made_of.nd rfl (.inl rfl))) (fun _ _ _ _ _ => pts_nil) (fun _ _ _ _ _ => (pe_cmpR op_in_sign (pv 3) (pv 1) (by rfl)))) pa_nil))))), ?_⟩
    rcases hv with ⟨z, rfl, hz⟩ | ⟨hno, t, ht, hk⟩
    · refine ⟨.str z, rfl, _, _, _, _, true, rfl, ClsV.ty "str", .base (.str z), kit_ty (by decide +kernel), true, rfl, iteF ?_⟩
      refine ⟨.str z, rfl, rfl, _, rfl, ite2 (fun e => iteT ?_) (fun e => ?_)⟩
      · have e1 : z = "" := V.str.inj (of_decide_eq_true e)
        subst e1
        exact q H (Same.refl H)
      · have z0 : 1 ≤ z.length := by
          cases hl : z.length with
          | zero =>
            refine absurd (decide_eq_true ?_) e
            have : z = "" := by
              cases z with
              | mk cps => 
                have : cps = #[] := Array.eq_empty_of_size_eq_zero hl
                rw [this]; rfl
            rw [this]
          | succ n => omega
        refine ⟨.str z, rfl, z, rfl, len1000 hz, .int most, rfl, _, _, rfl, rfl, _, rfl, ite2 (fun e2 => ?_) (fun e2 => ?_)⟩
        · have e3 : (z.length : Int) > most := of_decide_eq_true e2
          have := q H (Same.refl H)
          have hm : ofText (madeOf cs most) (.str z) = false := by
            show (decide (1 ≤ z.length) && (decide ((z.length : Int) ≤ most) && _)) = false
            rw [decide_eq_false (show ¬ (z.length : Int) ≤ most by omega), Bool.false_and, Bool.and_false]
          rw [hm] at this
          exact this
        · have e3 : ¬ (z.length : Int) > most := fun x => e2 (decide_eq_true x)
          refine ⟨.str z, rfl, z, rfl, fun D nD => lc_it walk_str (fun i H3 => Same H H3 ∧ H3 D = some (.lst ((z.cps.toList.take i).map fun c => V.bl (decide (c ∈ cs.cps.toList))))) ?_ (fun _ _ _ _ => trivial) ?_ ?_⟩
          · exact ⟨same_new nD, upd_same⟩
          · rintro i x H3 H4 hi ⟨s3, d3⟩ ⟨rfl, c, hc, rfl⟩
            refine ⟨rfl, ?_⟩
            simp only [tYes, if_true]
            refine ⟨.str ⟨#[c]⟩, rfl, .str cs, rfl, c, cs, rfl, rfl, _, d3, ?_, ?_, ?_⟩
            · rw [List.length_map, List.length_take]
              refine small1000 ?_
              have : z.cps.toList.length = z.length := rfl
              omega
            · intro b o e4
              rw [upd_ne (ne_of_none e4 nD)]
              exact s3 _ _ e4
            · have hc2 : z.cps.toList[i]? = some c := by rw [Array.getElem?_toList]; exact hc
              rw [upd_same, take_all_map _ _ _ _ hc2]
          · rintro H3 ⟨s3, d3⟩
            have e4 : z.cps.toList.take z.cps.size = z.cps.toList := List.take_of_length_le (Nat.le_of_eq rfl)
            rw [e4] at d3
            refine ⟨D, z.cps.toList.map fun c => decide (c ∈ cs.cps.toList), rfl, SqL.of (by rw [d3, List.map_map]; rfl), ?_⟩
            have := q H3 s3
            have hm : ofText (madeOf cs most) (.str z) = (z.cps.toList.map fun c => decide (c ∈ cs.cps.toList)).all id := by
              show (decide (1 ≤ z.length) && (decide ((z.length : Int) ≤ most) && _)) = _
              rw [decide_eq_true z0, decide_eq_true (show (z.length : Int) ≤ most by omega), Bool.true_and, Bool.true_and, List.all_map]
              rfl
            rw [hm] at this
            exact this
    · refine ⟨v, rfl, _, _, _, _, false, rfl, ClsV.ty "str", ht, kit_ty hk, false, rfl, iteT ?_⟩
      have := q H (Same.refl H)
      rw [hno] at this
      exact this
def sp_ask (K : PySem.W.Frag) (f : Str → Bool) : Sp := fun vs H Q _ => ∃ v : V, vs = [v] ∧ Ask K H v ∧ ∀ H', Same H H' → Q (.bl (ofText f v)) H'
def sp_is_name (K : PySem.W.Frag) : Sp := sp_ask K nameS
def sp_is_place (K : PySem.W.Frag) : Sp := sp_ask K placeS
def sp_is_value (K : PySem.W.Frag) : Sp := sp_ask K valueS
theorem ok_is_name (T : Top K mg) : FnOk P w K mg base CX0 2 T.f_is_name T.d_is_name ["thing"] (sp_is_name K) := by
  have G_is_made_of : FnOk P w K mg base CX0 1 T.f_is_made_of T.d_is_made_of ["thing", "characters", "most"] (sp_is_made_of K) := ok_is_made_of T
  refine T.F_is_name.ok scis_name (fun vs H Q E h => ?_) (fun cdv A outer s H vs Q E hr h => ?_)
  · obtain ⟨v, rfl, _⟩ := h
    rfl
  · obtain ⟨v, rfl, hv, q⟩ := h
    refine ⟨_, (pss_one (ps_ret (pe_call G_is_made_of (hr.mono (by decide)) (by rfl) T.g_is_made_of T.F_is_made_of.kp T.b_is_made_of .nil pass0 (pa_cons (pv 0) (pa_cons (pe_glob (v := .str "abcdefghijklmnopqrstuvwxyz") (by rfl) T.g_LETTERS ⟨_, rfl⟩) (pa_cons (pe_glob (v := .int 8) (by rfl) T.g_LONGEST_NAME ⟨_, rfl⟩) pa_nil)))))), ?_⟩
    exact ⟨v, rfl, v, _, _, rfl, hv, q⟩
theorem ok_is_place (T : Top K mg) : FnOk P w K mg base CX0 3 T.f_is_place T.d_is_place ["thing"] (sp_is_place K) := by
  have G_is_name : FnOk P w K mg base CX0 2 T.f_is_name T.d_is_name ["thing"] (sp_is_name K) := ok_is_name T
  refine T.F_is_place.ok scis_place (fun vs H Q E h => ?_) (fun cdv A outer s H vs Q E hr h => ?_)
  · obtain ⟨v, rfl, _⟩ := h
    rfl
  · obtain ⟨v, rfl, hv, q⟩ := h
    refine ⟨_, (pss_cons (ps_if (pt_not (pt_val (pe_callB call_isi (by rfl) T.m_isinstance (by decide +kernel) (pa_cons (pv 0) (pa_cons (pe_bltn (v := .ty "str") (by rfl) T.m_str (by decide +kernel) rfl) pa_nil))))) (pss_one (ps_ret pe_bl)) pss_nil)
      (pss_cons (ps_asg (pe_m1 F.slot_str_partition F.type_str_partition mt_partition (pv 0) pe_str) (pg_tup rfl (pgs_cons (pg_name (i := 1) scis_place.nd rfl (.inl rfl)) (pgs_cons (pg_name (i := 2) scis_place.nd rfl (.inl rfl)) (pgs_cons (pg_name (i := 3) scis_place.nd rfl (.inl rfl)) pgs_nil)))))
      (pss_one (ps_ret (pe_and (pe_call G_is_name (hr.mono (by decide)) (by rfl) T.g_is_name T.F_is_name.kp T.b_is_name .nil pass0 (pa_cons (pv 1) pa_nil)) (pe_one (pe_call G_is_name (hr.mono (by decide)) (by rfl) T.g_is_name T.F_is_name.kp T.b_is_name .nil pass0 (pa_cons (pv 3) pa_nil)))))))), ?_⟩
    rcases hv with ⟨z, rfl, hz⟩ | ⟨hno, t, ht, hk⟩
    · refine ⟨.str z, rfl, _, _, _, _, true, rfl, ClsV.ty "str", .base (.str z), kit_ty (by decide +kernel), true, rfl, iteF ?_⟩
      refine ⟨.str z, rfl, ⟨z, rfl⟩, z, dot, rfl, rfl, rfl, len1000 hz, fun p np => ?_⟩
      refine ⟨p, _, rfl, SqT.of upd_same, rfl, _, _, rfl, _, _, rfl, _, _, rfl, rfl, ?_⟩
      have hp := part_len z
      refine ⟨.str (Txt.partition z dot).1, rfl, _, rfl, Ask.text (by omega), fun H2 s2 => ⟨nameS (Txt.partition z dot).1, rfl, ite2 (fun e => ?_) (fun e => ?_)⟩⟩
      · refine ⟨.str (Txt.partition z dot).2.2, rfl, _, rfl, Ask.text (by omega), fun H3 s3 => ?_⟩
        have := q H3 (((same_new np).trans s2).trans s3)
        have hm : ofText placeS (.str z) = ofText nameS (.str (Txt.partition z dot).2.2) := by
          show (nameS _ && nameS _) = nameS _
          rw [e, Bool.true_and]
        rw [hm] at this
        exact this
      · have := q H2 ((same_new np).trans s2)
        have hm : ofText placeS (.str z) = false := by
          show (nameS _ && nameS _) = false
          rw [eq_false_of_ne_true e, Bool.false_and]
        rw [hm] at this
        exact this
    · refine ⟨v, rfl, _, _, _, _, false, rfl, ClsV.ty "str", ht, kit_ty hk, false, rfl, iteT ?_⟩
      have := q H (Same.refl H)
      rw [hno] at this
      exact this
theorem ok_is_value (T : Top K mg) : FnOk P w K mg base CX0 2 T.f_is_value T.d_is_value ["thing"] (sp_is_value K) := by
  have G_is_made_of : FnOk P w K mg base CX0 1 T.f_is_made_of T.d_is_made_of ["thing", "characters", "most"] (sp_is_made_of K) := ok_is_made_of T
  refine T.F_is_value.ok scis_value (fun vs H Q E h => ?_) (fun cdv A outer s H vs Q E hr h => ?_)
  · obtain ⟨v, rfl, _⟩ := h
    rfl
  · obtain ⟨v, rfl, hv, q⟩ := h
    refine ⟨_, (pss_one (ps_ret (pe_and (pe_call G_is_made_of (hr.mono (by decide)) (by rfl) T.g_is_made_of T.F_is_made_of.kp T.b_is_made_of .nil pass0 (pa_cons (pv 0) (pa_cons (pe_op op_add_str (pe_op op_add_str (pe_glob (v := .str "abcdefghijklmnopqrstuvwxyz") (by rfl) T.g_LETTERS ⟨_, rfl⟩) (pe_glob (v := .str "0123456789") (by rfl) T.g_DIGITS ⟨_, rfl⟩)) pe_str) (pa_cons (pe_glob (v := .int 12) (by rfl) T.g_LONGEST_VALUE ⟨_, rfl⟩) pa_nil)))) (pe_one (pe_not (pe_m1 F.slot_str_startswith F.type_str_startswith mt_startswith (pv 0) pe_str)))))), ?_⟩
    refine ⟨v, rfl, _, _, rfl, rfl, by decide, _, _, rfl, rfl, by decide, v, _, _, rfl, hv, fun H2 s2 => ⟨_, rfl, ite2 (fun e => ?_) (fun e => ?_)⟩⟩
    · rcases hv with ⟨z, rfl, hz⟩ | ⟨hno, t, ht, hk⟩
      · refine ⟨.str z, rfl, ⟨z, rfl⟩, z, _, rfl, rfl, _, rfl, ?_⟩
        have := q H2 s2
        have hm : ofText valueS (.str z) = !Txt.startswith z "-" := by
          show (madeOf valueSigns 12 z && _) = _
          rw [show madeOf valueSigns 12 z = true from e, Bool.true_and]
        rw [hm] at this
        exact this
      · rw [hno] at e
        cases e
    · have := q H2 s2
      have hm : ofText valueS v = false := by
        rcases hv with ⟨z, rfl, hz⟩ | ⟨hno, t, ht, hk⟩
        · show (madeOf valueSigns 12 z && _) = false
          rw [show madeOf valueSigns 12 z = false from eq_false_of_ne_true e, Bool.false_and]
        · exact hno _
      rw [hm] at this
      exact this
end
end K06

set_option Elab.async false
set_option linter.all false
set_option maxRecDepth 100000
namespace K06
open PySem PySem.Spec PyProof.Rows L2 My
section
variable {P : Program} {w : World} {K : PySem.W.Frag} {mg : Str → Option Value} {base : Heap}
/-! ### lines -/
def sp_line (f : Str → Bool) : Sp := fun vs H Q _ => ∃ z : Str, vs = [.str z] ∧ z.length ≤ 1000 ∧ ∀ H', Same H H' → Q (.bl (f z)) H'
def sp_is_release_word (K : PySem.W.Frag) : Sp := sp_line relW
def sp_is_header (K : PySem.W.Frag) : Sp := sp_line headS
def sp_is_loose (K : PySem.W.Frag) : Sp := sp_line looseS
theorem eq_str (a b : Str) : decide (V.str a = V.str b) = decide (a = b) := decide_eq_decide.mpr ⟨fun e => V.str.inj e, fun e => by rw [e]⟩
theorem ok_is_release_word (T : Top K mg) : FnOk P w K mg base CX0 2 T.f_is_release_word T.d_is_release_word ["thing"] (sp_is_release_word K) := by
  have G_is_made_of : FnOk P w K mg base CX0 1 T.f_is_made_of T.d_is_made_of ["thing", "characters", "most"] (sp_is_made_of K) := ok_is_made_of T
  refine T.F_is_release_word.ok scis_release_word (fun vs H Q E h => ?_) (fun cdv A outer s H vs Q E hr h => ?_)
  · obtain ⟨z, rfl, _⟩ := h
    rfl
  · obtain ⟨z, rfl, hz, q⟩ := h
    refine ⟨_, (pss_one (ps_ret (pe_and (pe_call G_is_made_of (hr.mono (by decide)) (by rfl) T.g_is_made_of T.F_is_made_of.kp T.b_is_made_of .nil pass0 (pa_cons (pv 0) (pa_cons (pe_glob (v := .str "0123456789") (by rfl) T.g_DIGITS ⟨_, rfl⟩) (pa_cons (pe_glob (v := .int 2) (by rfl) T.g_LONGEST_RELEASE ⟨_, rfl⟩) pa_nil)))) (pe_one (pe_or (pe_cmpR op_eq (pv 0) pe_str (nomark _)) (pe_one (pe_not (pe_m1 F.slot_str_startswith F.type_str_startswith mt_startswith (pv 0) pe_str)))))))), ?_⟩
    refine ⟨.str z, rfl, _, _, _, rfl, Ask.text hz, fun H2 s2 => ⟨_, rfl, ite2 (fun e => ?_) (fun e => ?_)⟩⟩
    · have e1 : madeOf digits 2 z = true := e
      refine ⟨.str z, rfl, rfl, _, rfl, ite2 (fun e2 => ?_) (fun e2 => ?_)⟩
      · have := q H2 s2
        rw [eq_str] at e2
        rw [show relW z = true by unfold relW; rw [e1, show decide (z = "0") = true from e2]; rfl] at this
        exact this
      · refine ⟨.str z, rfl, ⟨z, rfl⟩, z, _, rfl, rfl, _, rfl, ?_⟩
        have := q H2 s2
        rw [eq_str] at e2
        rw [show relW z = !Txt.startswith z "0" by unfold relW; rw [e1, show decide (z = "0") = false from eq_false_of_ne_true e2]; rfl] at this
        exact this
    · have e1 : madeOf digits 2 z = false := eq_false_of_ne_true e
      have := q H2 s2
      rw [show relW z = false by unfold relW; rw [e1]; rfl] at this
      exact this
theorem ok_is_header (T : Top K mg) : FnOk P w K mg base CX0 3 T.f_is_header T.d_is_header ["line"] (sp_is_header K) := by
  have G_is_name : FnOk P w K mg base CX0 2 T.f_is_name T.d_is_name ["thing"] (sp_is_name K) := ok_is_name T
  refine T.F_is_header.ok scis_header (fun vs H Q E h => ?_) (fun cdv A outer s H vs Q E hr h => ?_)
  · obtain ⟨z, rfl, _⟩ := h
    rfl
  · obtain ⟨z, rfl, hz, q⟩ := h
    refine ⟨_, (pss_one (ps_ret (pe_and (pe_m1 F.slot_str_startswith F.type_str_startswith mt_startswith (pv 0) pe_str) (pe_and (pe_m1 F.slot_str_endswith F.type_str_endswith mt_endswith (pv 0) pe_str) (pe_one (pe_call G_is_name (hr.mono (by decide)) (by rfl) T.g_is_name T.F_is_name.kp T.b_is_name .nil pass0 (pa_cons (pe_slice sl_str (pv 0) (po_some pe_int) (po_some (pe_un un_neg pe_int))) pa_nil))))))), ?_⟩
    refine ⟨.str z, rfl, ⟨z, rfl⟩, z, _, rfl, rfl, _, rfl, ite2 (fun e => ?_) (fun e => ?_)⟩
    · refine ⟨.str z, rfl, ⟨z, rfl⟩, z, _, rfl, rfl, _, rfl, ite2 (fun e2 => ?_) (fun e2 => ?_)⟩
      · refine ⟨.str z, rfl, 1, rfl, 1, rfl, -1, rfl, z, rfl, len1000 hz, _, rfl, Ask.text (Nat.le_trans (cutS_length z _ _) hz), fun H2 s2 => ?_⟩
        have := q H2 s2
        rw [show headS z = nameS (headOf z) by unfold headS; rw [show Txt.startswith z "[" = true from e, show Txt.endswith z "]" = true from e2]; rfl] at this
        exact this
      · have := q H (Same.refl H)
        rw [show headS z = false by unfold headS; rw [show Txt.startswith z "[" = true from e, show Txt.endswith z "]" = false from eq_false_of_ne_true e2]; rfl] at this
        exact this
    · have := q H (Same.refl H)
      rw [show headS z = false by unfold headS; rw [show Txt.startswith z "[" = false from eq_false_of_ne_true e]; rfl] at this
      exact this
theorem ok_is_loose (T : Top K mg) : FnOk P w K mg base CX0 1 T.f_is_loose T.d_is_loose ["line"] (sp_is_loose K) := by
  refine T.F_is_loose.ok scis_loose (fun vs H Q E h => ?_) (fun cdv A outer s H vs Q E hr h => ?_)
  · obtain ⟨z, rfl, _⟩ := h
    rfl
  · obtain ⟨z, rfl, hz, q⟩ := h
    have := q H (Same.refl H)
    refine ⟨_, (pss_one (ps_ret (pe_or (pe_cmpR op_eq (pv 0) pe_str (nomark _)) (pe_one (pe_and (pe_m1 F.slot_str_startswith F.type_str_startswith mt_startswith (pv 0) pe_str) (pe_one (pe_not (pe_m1 F.slot_str_startswith F.type_str_startswith mt_startswith (pv 0) (pe_glob (v := .str "#~") (by rfl) T.g_KEPT_MARK ⟨_, rfl⟩))))))))), ?_⟩
    refine ⟨.str z, rfl, rfl, _, rfl, ite2 (fun e => ?_) (fun e => ?_)⟩
    · rw [eq_str] at e
      rw [show looseS z = true by unfold looseS; rw [show decide (z = "") = true from e]; rfl] at this
      exact this
    · rw [eq_str] at e
      have e1 : decide (z = "") = false := eq_false_of_ne_true e
      refine ⟨.str z, rfl, ⟨z, rfl⟩, z, _, rfl, rfl, _, rfl, ite2 (fun e2 => ?_) (fun e2 => ?_)⟩
      · refine ⟨.str z, rfl, ⟨z, rfl⟩, z, _, rfl, rfl, _, rfl, ?_⟩
        rw [show looseS z = !Txt.startswith z markS by unfold looseS; rw [e1, show Txt.startswith z "#" = true from e2]; rfl] at this
        exact this
      · rw [show looseS z = false by unfold looseS; rw [e1, show Txt.startswith z "#" = false from eq_false_of_ne_true e2]; rfl] at this
        exact this
def sp_read_setting (K : PySem.W.Frag) : Sp := fun vs H Q _ => ∃ z : Str, vs = [.str z] ∧ z.length ≤ 1000 ∧ (setS z = none → ∀ H', Same H H' → Q .non H') ∧
  ∀ k v, setS z = some (k, v) → ∀ H' p, Same H H' → H' p = some (.tup [.str k, .str v]) → Q (.ref p) H'
theorem part3 (z y : Str) : (Txt.partition z y).1.length ≤ z.length ∧ (Txt.partition z y).2.1.length ≤ z.length ∧ (Txt.partition z y).2.2.length ≤ z.length := fact_partition z y
theorem ok_read_setting (T : Top K mg) : FnOk P w K mg base CX0 3 T.f_read_setting T.d_read_setting ["line"] (sp_read_setting K) := by
  have G_is_value : FnOk P w K mg base CX0 2 T.f_is_value T.d_is_value ["thing"] (sp_is_value K) := ok_is_value T
  have G_is_name : FnOk P w K mg base CX0 2 T.f_is_name T.d_is_name ["thing"] (sp_is_name K) := ok_is_name T
  refine T.F_read_setting.ok scread_setting (fun vs H Q E h => ?_) (fun cdv A outer s H vs Q E hr h => ?_)
  · obtain ⟨z, rfl, _⟩ := h
    rfl
  · obtain ⟨z, rfl, hz, q1, q2⟩ := h
    have hp := part3 z eqS
    refine ⟨_, (pss_cons (ps_asg (pe_m1 F.slot_str_partition F.type_str_partition mt_partition (pv 0) pe_str) (pg_tup rfl (pgs_cons (pg_name (i := 1) scread_setting.nd rfl (.inl rfl)) (pgs_cons (pg_name (i := 2) scread_setting.nd rfl (.inl rfl)) (pgs_cons (pg_name (i := 3) scread_setting.nd rfl (.inl rfl)) pgs_nil)))))
      (pss_one (ps_ret (pe_ifExp (PW.pt (pw_and (pt_val (pe_call G_is_name (hr.mono (by decide)) (by rfl) T.g_is_name T.F_is_name.kp T.b_is_name .nil pass0 (pa_cons (pv 1) pa_nil))) (pw_and1 (pt_val (pe_call G_is_value (hr.mono (by decide)) (by rfl) T.g_is_value T.F_is_value.kp T.b_is_value .nil pass0 (pa_cons (pv 3) pa_nil)))))) (pe_tup (pa_cons (pv 1) (pa_cons (pv 3) pa_nil))) pe_non)))), ?_⟩
    refine ⟨.str z, rfl, ⟨z, rfl⟩, z, eqS, rfl, rfl, rfl, len1000 hz, fun p np => ?_⟩
    refine ⟨p, _, rfl, SqT.of upd_same, rfl, _, _, rfl, _, _, rfl, _, _, rfl, rfl, ?_⟩
    have s1 : Same H (upd H p (.tup [.str (Txt.partition z eqS).1, .str (Txt.partition z eqS).2.1, .str (Txt.partition z eqS).2.2])) := same_new np
    refine ⟨.str (Txt.partition z eqS).1, rfl, _, rfl, Ask.text (by omega), fun H2 s2 => ⟨_, rfl, ite2 (fun e => ?_) (fun e => ?_)⟩⟩
    · refine ⟨.str (Txt.partition z eqS).2.2, rfl, _, rfl, Ask.text (by omega), fun H3 s3 => ⟨_, rfl, ite2 (fun e2 => ?_) (fun e2 => ?_)⟩⟩
      · refine ⟨.str (Txt.partition z eqS).1, rfl, .str (Txt.partition z eqS).2.2, rfl, (by show 2 ≤ sizeLine; decide), fun p2 np2 => ?_⟩
        refine q2 _ _ ?_ _ p2 ((s1.trans s2).trans (s3.trans (same_new np2))) upd_same
        unfold setS
        rw [show nameS (Txt.partition z eqS).1 = true from e, show valueS (Txt.partition z eqS).2.2 = true from e2]
        rfl
      · refine q1 ?_ _ ((s1.trans s2).trans s3)
        unfold setS
        rw [show nameS (Txt.partition z eqS).1 = true from e, show valueS (Txt.partition z eqS).2.2 = false from eq_false_of_ne_true e2]
        rfl
    · refine iteF (q1 ?_ _ (s1.trans s2))
      unfold setS
      rw [show nameS (Txt.partition z eqS).1 = false from eq_false_of_ne_true e]
      rfl
def sp_read_kept (K : PySem.W.Frag) : Sp := fun vs H Q _ => ∃ z : Str, vs = [.str z] ∧ z.length ≤ 1000 ∧ (keptS z = none → ∀ H', Same H H' → Q .non H') ∧
  ∀ r p v, keptS z = some (r, p, v) → ∀ H' a, Same H H' → H' a = some (.tup [.int r, .str p, optV v]) → Q (.ref a) H'
theorem ok_read_kept (T : Top K mg) : FnOk P w K mg base CX0 4 T.f_read_kept T.d_read_kept ["line"] (sp_read_kept K) := by
  have G_is_place : FnOk P w K mg base CX0 3 T.f_is_place T.d_is_place ["thing"] (sp_is_place K) := ok_is_place T
  have G_is_release_word : FnOk P w K mg base CX0 2 T.f_is_release_word T.d_is_release_word ["thing"] (sp_is_release_word K) := ok_is_release_word T
  have G_is_value : FnOk P w K mg base CX0 2 T.f_is_value T.d_is_value ["thing"] (sp_is_value K) := ok_is_value T
  refine T.F_read_kept.ok scread_kept (fun vs H Q E h => ?_) (fun cdv A outer s H vs Q E hr h => ?_)
  · obtain ⟨z, rfl, _⟩ := h
    rfl
  · obtain ⟨z, rfl, hz, q1, q2⟩ := h
    have hp1 : (kp1 z).1.length ≤ z.length ∧ (kp1 z).2.1.length ≤ z.length ∧ (kp1 z).2.2.length ≤ z.length := part3 z spaceS
    have hp2 : (kp2 z).1.length ≤ (kp1 z).2.2.length ∧ (kp2 z).2.1.length ≤ (kp1 z).2.2.length ∧ (kp2 z).2.2.length ≤ (kp1 z).2.2.length := part3 (kp1 z).2.2 spaceS
    have hp3 : (kp3 z).1.length ≤ (kp2 z).2.2.length ∧ (kp3 z).2.1.length ≤ (kp2 z).2.2.length ∧ (kp3 z).2.2.length ≤ (kp2 z).2.2.length := part3 (kp2 z).2.2 eqS
    refine ⟨_, (pss_cons (ps_asg (pe_m1 F.slot_str_partition F.type_str_partition mt_partition (pv 0) pe_str) (pg_tup rfl (pgs_cons (pg_name (i := 1) scread_kept.nd rfl (.inl rfl)) (pgs_cons (pg_name (i := 2) scread_kept.nd rfl (.inl rfl)) (pgs_cons (pg_name (i := 3) scread_kept.nd rfl (.inl rfl)) pgs_nil)))))
      (pss_cons (ps_asg (pe_m1 F.slot_str_partition F.type_str_partition mt_partition (pv 3) pe_str) (pg_tup rfl (pgs_cons (pg_name (i := 4) scread_kept.nd rfl (.inl rfl)) (pgs_cons (pg_name (i := 2) scread_kept.nd rfl (.inl rfl)) (pgs_cons (pg_name (i := 5) scread_kept.nd rfl (.inl rfl)) pgs_nil)))))
      (pss_cons (ps_asg (pe_m1 F.slot_str_partition F.type_str_partition mt_partition (pv 5) pe_str) (pg_tup rfl (pgs_cons (pg_name (i := 6) scread_kept.nd rfl (.inl rfl)) (pgs_cons (pg_name (i := 7) scread_kept.nd rfl (.inl rfl)) (pgs_cons (pg_name (i := 8) scread_kept.nd rfl (.inl rfl)) pgs_nil)))))
      (pss_cons (ps_if (PW.pt (pw_or (pt_cmpR op_ne (pv 1) (pe_glob (v := .str "#~") (by rfl) T.g_KEPT_MARK ⟨_, rfl⟩) (nomark _)) (pw_or (pt_not (pt_val (pe_call G_is_release_word (hr.mono (by decide)) (by rfl) T.g_is_release_word T.F_is_release_word.kp T.b_is_release_word .nil pass0 (pa_cons (pv 4) pa_nil)))) (pw_or1 (pt_not (pt_val (pe_call G_is_place (hr.mono (by decide)) (by rfl) T.g_is_place T.F_is_place.kp T.b_is_place .nil pass0 (pa_cons (pv 6) pa_nil)))))))) (pss_one (ps_ret pe_non)) pss_nil)
      (pss_cons (ps_if (pt_cmpR op_eq (pv 7) pe_str (nomark _)) (pss_one (ps_ret (pe_tup (pa_cons (pe_callTy call_int_str (by rfl) T.m_int (by decide +kernel) (pa_cons (pv 4) pa_nil)) (pa_cons (pv 6) (pa_cons pe_non pa_nil)))))) pss_nil)
      (pss_one (ps_ret (pe_ifExp (pt_val (pe_call G_is_value (hr.mono (by decide)) (by rfl) T.g_is_value T.F_is_value.kp T.b_is_value .nil pass0 (pa_cons (pv 8) pa_nil))) (pe_tup (pa_cons (pe_callTy call_int_str (by rfl) T.m_int (by decide +kernel) (pa_cons (pv 4) pa_nil)) (pa_cons (pv 6) (pa_cons (pv 8) pa_nil)))) pe_non)))))))), ?_⟩
    refine ⟨.str z, rfl, ⟨z, rfl⟩, z, spaceS, rfl, rfl, rfl, len1000 hz, fun p np => ?_⟩
    refine ⟨p, _, rfl, SqT.of upd_same, rfl, _, _, rfl, _, _, rfl, _, _, rfl, rfl, ?_⟩
    have s1 : Same H (upd H p (.tup [.str (kp1 z).1, .str (kp1 z).2.1, .str (kp1 z).2.2])) := same_new np
    refine ⟨.str (kp1 z).2.2, rfl, ⟨_, rfl⟩, _, spaceS, rfl, rfl, rfl, len1000 (by omega), fun p2 np2 => ?_⟩
    refine ⟨p2, _, rfl, SqT.of upd_same, rfl, _, _, rfl, _, _, rfl, _, _, rfl, rfl, ?_⟩
    have s2 := s1.trans (same_new (o := .tup [.str (kp2 z).1, .str (kp2 z).2.1, .str (kp2 z).2.2]) np2)
    refine ⟨.str (kp2 z).2.2, rfl, ⟨_, rfl⟩, _, eqS, rfl, rfl, rfl, len1000 (by omega), fun p3 np3 => ?_⟩
    refine ⟨p3, _, rfl, SqT.of upd_same, rfl, _, _, rfl, _, _, rfl, _, _, rfl, rfl, ?_⟩
    have s3 := s2.trans (same_new (o := .tup [.str (kp3 z).1, .str (kp3 z).2.1, .str (kp3 z).2.2]) np3)
    have none1 : (decide ((kp1 z).1 = markS) && (relW (kp2 z).1 && placeS (kp3 z).1)) = false → keptS z = none := fun h => by
      unfold keptS
      rw [h]
      rfl
    refine ⟨.str (kp1 z).1, rfl, rfl, _, rfl, ite2 (fun e => ?_) (fun e => ?_)⟩
    · rw [eq_str] at e
      refine iteT (q1 (none1 ?_) _ s3)
      have : decide ((kp1 z).1 = markS) = false := by
        cases h : decide ((kp1 z).1 = markS) with
        | false => rfl
        | true => rw [h] at e; cases e
      rw [this]
      rfl
    · rw [eq_str] at e
      have e1 : decide ((kp1 z).1 = markS) = true := by
        cases h : decide ((kp1 z).1 = markS) with
        | false => rw [h] at e; exact absurd rfl e
        | true => rfl
      refine ⟨.str (kp2 z).1, rfl, _, rfl, by omega, fun H4 s4 => ⟨_, rfl, ite2 (fun e2 => ?_) (fun e2 => ?_)⟩⟩
      · have e2' : relW (kp2 z).1 = false := by
          cases h : relW (kp2 z).1 with
          | false => rfl
          | true => rw [h] at e2; cases e2
        refine iteT (q1 (none1 ?_) _ (s3.trans s4))
        rw [e1, e2']
        rfl
      · have e2' : relW (kp2 z).1 = true := by
          cases h : relW (kp2 z).1 with
          | false => rw [h] at e2; exact absurd rfl e2
          | true => rfl
        refine ⟨.str (kp3 z).1, rfl, _, rfl, Ask.text (by omega), fun H5 s5 => ⟨_, rfl, ite2 (fun e3 => ?_) (fun e3 => ?_)⟩⟩
        · have e3' : placeS (kp3 z).1 = false := by
            cases h : placeS (kp3 z).1 with
            | false => rfl
            | true => rw [show ofText placeS (.str (kp3 z).1) = true from h] at e3; cases e3
          refine q1 (none1 ?_) _ ((s3.trans s4).trans s5)
          rw [e1, e2', e3']
          rfl
        · have e3' : placeS (kp3 z).1 = true := by
            cases h : placeS (kp3 z).1 with
            | false => rw [show ofText placeS (.str (kp3 z).1) = false from h] at e3; exact absurd rfl e3
            | true => rfl
          have hi := int_of_rel e2'
          have t5 := (s3.trans s4).trans s5
          refine ⟨.str (kp3 z).2.1, rfl, rfl, _, rfl, ite2 (fun e4 => ?_) (fun e4 => ?_)⟩
          · rw [eq_str] at e4
            refine ⟨.str (kp2 z).1, rfl, _, _, rfl, hi.1, hi.2, .str (kp3 z).1, rfl, (by show 3 ≤ sizeLine; decide), fun a na => ?_⟩
            refine q2 _ _ none ?_ _ a (t5.trans (same_new na)) upd_same
            unfold keptS
            rw [e1, e2', e3', if_pos (show (true && (true && true)) = true from rfl), if_pos (of_decide_eq_true e4)]
          · rw [eq_str] at e4
            have e4' : ¬ (kp3 z).2.1 = "" := fun h => e4 (decide_eq_true h)
            refine ⟨.str (kp3 z).2.2, rfl, _, rfl, Ask.text (by omega), fun H6 s6 => ⟨_, rfl, ite2 (fun e5 => ?_) (fun e5 => ?_)⟩⟩
            · refine ⟨.str (kp2 z).1, rfl, _, _, rfl, hi.1, hi.2, .str (kp3 z).1, rfl, .str (kp3 z).2.2, rfl, (by show 3 ≤ sizeLine; decide), fun a na => ?_⟩
              refine q2 _ _ (some (kp3 z).2.2) ?_ _ a ((t5.trans s6).trans (same_new na)) upd_same
              unfold keptS
              rw [e1, e2', e3', if_pos (show (true && (true && true)) = true from rfl), if_neg e4', if_pos (show valueS (kp3 z).2.2 = true from e5)]
            · refine q1 ?_ _ (t5.trans s6)
              unfold keptS
              rw [e1, e2', e3', if_pos (show (true && (true && true)) = true from rfl), if_neg e4', if_neg (show ¬ valueS (kp3 z).2.2 = true from e5)]
end
end K06

set_option Elab.async false
set_option linter.all false
set_option maxRecDepth 100000
/-! how a file that stands in the heap changes, line by line -/
namespace My
open PySem PySem.Spec PyProof.Rows L2
section
variable {C : Addr} {H0 H : Hp} {x : Addr} {t : Str} {rows : List Str} {fs : FS} {A : Parts}
theorem FileP.weaken {H1 : Hp} (f : FileP C H0 H x t rows fs A) (s : Same H1 H0) : FileP C H1 H x t rows fs A := by
  obtain ⟨n1, n2, n3, n4, n5, n6, n7⟩ := f.n
  exact ⟨s.trans f.same, f.ob, f.er, f.eh, f.es, f.ek, f.eb, f.el, Paired.mapP f.bs fun p q z => ⟨z.1, z.2.1, z.2.2.1, z.2.2.2.1, s.free z.2.2.2.2⟩, f.rh, f.rl, f.hl, f.sb, ⟨s.free n1, s.free n2, s.free n3, s.free n4, s.free n5, s.free n6, s.free n7⟩, f.ok⟩
theorem upd_off {c : Addr} {o : HO} (n : H0 c = none) (s : Same H0 H) : Same H0 (upd H c o) := fun b u e => by
  rw [upd_ne (ne_of_none e n)]
  exact s b u e
theorem FileP.bAddr (f : FileP C H0 H x t rows fs A) : ∀ p ∈ A.bl, ∃ u, H p.2 = some (.lst u) ∧ p.2 ≠ A.l ∧ p.2 ≠ A.h := by
  have key : ∀ {l : List (Str × Addr)} {m : List (Str × List Str)}, Paired (fun (p : Str × Addr) (q : Str × List Str) => p.1 = q.1 ∧ H p.2 = some (.lst (q.2.map V.str)) ∧ p.2 ≠ A.l ∧ p.2 ≠ A.h ∧ H0 p.2 = none) l m → ∀ p ∈ l, ∃ u, H p.2 = some (.lst u) ∧ p.2 ≠ A.l ∧ p.2 ≠ A.h := by
    intro l m q
    induction q with
    | nil => intro p hp; cases hp
    | cons h _ ih =>
      intro p hp
      rcases List.mem_cons.mp hp with rfl | hp
      · exact ⟨_, h.2.1, h.2.2.1, h.2.2.2.1⟩
      · exact ih p hp
  exact key f.bs
/-- a change at c, which is none of the other parts -/
theorem FileP.at {c : Addr} {o : HO} (f : FileP C H0 H x t rows fs A) (nc : H0 c = none) (hx : x ≠ c) (hr : A.r ≠ c) (hh : A.h ≠ c) (hs : A.s ≠ c) (hk : A.k ≠ c) (hb : A.b ≠ c) (hl : A.l ≠ c) (hB : ∀ p ∈ A.bl, p.2 ≠ c) : FileP C H0 (upd H c o) x t rows fs A := by
  refine ⟨upd_off nc f.same, by rw [upd_ne hx]; exact f.ob, by rw [upd_ne hr]; exact f.er, by rw [upd_ne hh]; exact f.eh, by rw [upd_ne hs]; exact f.es, by rw [upd_ne hk]; exact f.ek, by rw [upd_ne hb]; exact f.eb, by rw [upd_ne hl]; exact f.el, ?_, f.rh, f.rl, f.hl, f.sb, f.n, f.ok⟩
  have key : ∀ {l : List (Str × Addr)} {m : List (Str × List Str)}, (∀ p ∈ l, p.2 ≠ c) → Paired (fun (p : Str × Addr) (q : Str × List Str) => p.1 = q.1 ∧ H p.2 = some (.lst (q.2.map V.str)) ∧ p.2 ≠ A.l ∧ p.2 ≠ A.h ∧ H0 p.2 = none) l m →
      Paired (fun (p : Str × Addr) (q : Str × List Str) => p.1 = q.1 ∧ (upd H c o) p.2 = some (.lst (q.2.map V.str)) ∧ p.2 ≠ A.l ∧ p.2 ≠ A.h ∧ H0 p.2 = none) l m := by
    intro l m hn q
    induction q with
    | nil => exact .nil
    | cons h _ ih =>
      refine .cons ⟨h.1, ?_, h.2.2⟩ (ih fun p hp => hn p (List.mem_cons_of_mem _ hp))
      rw [upd_ne (hn _ (List.mem_cons_self ..))]
      exact h.2.1
  exact key hB f.bs
/-- the same blocks, seen at a changed heap -/
theorem FileP.bsAt {c : Addr} {o : HO} (f : FileP C H0 H x t rows fs A) (hB : ∀ p ∈ A.bl, p.2 ≠ c) : Paired (fun (p : Str × Addr) (q : Str × List Str) => p.1 = q.1 ∧ (upd H c o) p.2 = some (.lst (q.2.map V.str)) ∧ p.2 ≠ A.l ∧ p.2 ≠ A.h ∧ H0 p.2 = none) A.bl fs.blocks := by
  have key : ∀ {l : List (Str × Addr)} {m : List (Str × List Str)}, (∀ p ∈ l, p.2 ≠ c) → Paired (fun (p : Str × Addr) (q : Str × List Str) => p.1 = q.1 ∧ H p.2 = some (.lst (q.2.map V.str)) ∧ p.2 ≠ A.l ∧ p.2 ≠ A.h ∧ H0 p.2 = none) l m →
      Paired (fun (p : Str × Addr) (q : Str × List Str) => p.1 = q.1 ∧ (upd H c o) p.2 = some (.lst (q.2.map V.str)) ∧ p.2 ≠ A.l ∧ p.2 ≠ A.h ∧ H0 p.2 = none) l m := by
    intro l m hn q
    induction q with
    | nil => exact .nil
    | cons h _ ih =>
      refine .cons ⟨h.1, ?_, h.2.2⟩ (ih fun p hp => hn p (List.mem_cons_of_mem _ hp))
      rw [upd_ne (hn _ (List.mem_cons_self ..))]
      exact h.2.1
  exact key hB f.bs
theorem lstNe {a b : Addr} {u : List V} {o : HO} (ha : H a = some (.lst u)) (hb : H b = some o) (h : ∀ v, o ≠ .lst v) : a ≠ b := fun e => by
  subst e
  rw [ha] at hb
  cases hb
  exact h u rfl
theorem FileP.addLoose (f : FileP C H0 H x t rows fs A) (z : Str) : FileP C H0 (upd H A.l (.lst ((fs.loose ++ [z]).map V.str))) x t rows { fs with loose := fs.loose ++ [z] } A := by
  obtain ⟨n1, n2, n3, n4, n5, n6, n7⟩ := f.n
  have hx : x ≠ A.l := (lstNe f.el f.ob (fun _ h => nomatch h)).symm
  have hs : A.s ≠ A.l := (lstNe f.el f.es (fun _ h => nomatch h)).symm
  have hk : A.k ≠ A.l := (lstNe f.el f.ek (fun _ h => nomatch h)).symm
  have hb : A.b ≠ A.l := (lstNe f.el f.eb (fun _ h => nomatch h)).symm
  have hB : ∀ p ∈ A.bl, p.2 ≠ A.l := fun p hp => let ⟨_, _, h, _⟩ := f.bAddr p hp; h
  exact ⟨upd_off n7 f.same, by rw [upd_ne hx]; exact f.ob, by rw [upd_ne f.rl]; exact f.er, by rw [upd_ne f.hl]; exact f.eh, by rw [upd_ne hs]; exact f.es, by rw [upd_ne hk]; exact f.ek, by rw [upd_ne hb]; exact f.eb, upd_same, f.bsAt hB, f.rh, f.rl, f.hl, f.sb, f.n, ⟨f.ok.hn, f.ok.sd, f.ok.bk⟩⟩
theorem FileP.addHead (f : FileP C H0 H x t rows fs A) {n : Str} (hn : nameS n = true) : FileP C H0 (upd H A.h (.lst ((fs.headers ++ [n]).map V.str))) x t rows { fs with headers := fs.headers ++ [n] } A := by
  obtain ⟨n1, n2, n3, n4, n5, n6, n7⟩ := f.n
  have hx : x ≠ A.h := (lstNe f.eh f.ob (fun _ h => nomatch h)).symm
  have hs : A.s ≠ A.h := (lstNe f.eh f.es (fun _ h => nomatch h)).symm
  have hk : A.k ≠ A.h := (lstNe f.eh f.ek (fun _ h => nomatch h)).symm
  have hb : A.b ≠ A.h := (lstNe f.eh f.eb (fun _ h => nomatch h)).symm
  have hB : ∀ p ∈ A.bl, p.2 ≠ A.h := fun p hp => let ⟨_, _, _, h⟩ := f.bAddr p hp; h
  refine ⟨upd_off n3 f.same, by rw [upd_ne hx]; exact f.ob, by rw [upd_ne f.rh]; exact f.er, upd_same, by rw [upd_ne hs]; exact f.es, by rw [upd_ne hk]; exact f.ek, by rw [upd_ne hb]; exact f.eb, by rw [upd_ne f.hl.symm]; exact f.el, f.bsAt hB, f.rh, f.rl, f.hl, f.sb, f.n, ⟨?_, f.ok.sd, ?_⟩⟩
  · intro y hy
    rcases List.mem_append.mp hy with q | q
    · exact f.ok.hn y q
    · cases List.mem_singleton.mp q
      exact hn
  · intro p hp
    rcases f.ok.bk p hp with q | q
    · exact .inl (List.mem_append_left _ q)
    · exact .inr q
theorem FileP.addSet (f : FileP C H0 H x t rows fs A) {p v : Str} (hd : 46 ∈ TL.tl p) : FileP C H0 (upd H A.s (.dK (setKV (fs.settings ++ [(p, v)])))) x t rows { fs with settings := fs.settings ++ [(p, v)] } A := by
  obtain ⟨n1, n2, n3, n4, n5, n6, n7⟩ := f.n
  have hx : x ≠ A.s := ne_of f.ob f.es (fun h => nomatch h)
  have hr : A.r ≠ A.s := lstNe f.er f.es (fun _ h => nomatch h)
  have hh : A.h ≠ A.s := lstNe f.eh f.es (fun _ h => nomatch h)
  have hk : A.k ≠ A.s := ne_of f.ek f.es (fun h => nomatch h)
  have hl : A.l ≠ A.s := lstNe f.el f.es (fun _ h => nomatch h)
  have hB : ∀ p ∈ A.bl, p.2 ≠ A.s := fun p hp => let ⟨_, h, _⟩ := f.bAddr p hp; lstNe h f.es (fun _ h => nomatch h)
  refine ⟨upd_off n4 f.same, by rw [upd_ne hx]; exact f.ob, by rw [upd_ne hr]; exact f.er, by rw [upd_ne hh]; exact f.eh, upd_same, by rw [upd_ne hk]; exact f.ek, by rw [upd_ne f.sb.symm]; exact f.eb, by rw [upd_ne hl]; exact f.el, f.bsAt hB, f.rh, f.rl, f.hl, f.sb, f.n, ⟨f.ok.hn, ?_, ?_⟩⟩
  · intro y hy
    rw [List.map_append] at hy
    rcases List.mem_append.mp hy with q | q
    · exact f.ok.sd y q
    · cases List.mem_singleton.mp q
      exact hd
  · intro y hy
    rcases f.ok.bk y hy with q | q
    · exact .inl q
    · exact .inr (by rw [List.map_append]; exact List.mem_append_left _ q)
theorem FileP.addKept (f : FileP C H0 H x t rows fs A) (e : (Int × Str) × Option Str) : FileP C H0 (upd H A.k (.dT (keptKV (fs.kept ++ [e])))) x t rows { fs with kept := fs.kept ++ [e] } A := by
  obtain ⟨n1, n2, n3, n4, n5, n6, n7⟩ := f.n
  have hx : x ≠ A.k := ne_of f.ob f.ek (fun h => nomatch h)
  have hr : A.r ≠ A.k := lstNe f.er f.ek (fun _ h => nomatch h)
  have hh : A.h ≠ A.k := lstNe f.eh f.ek (fun _ h => nomatch h)
  have hs : A.s ≠ A.k := ne_of f.es f.ek (fun h => nomatch h)
  have hb : A.b ≠ A.k := ne_of f.eb f.ek (fun h => nomatch h)
  have hl : A.l ≠ A.k := lstNe f.el f.ek (fun _ h => nomatch h)
  have hB : ∀ p ∈ A.bl, p.2 ≠ A.k := fun p hp => let ⟨_, h, _⟩ := f.bAddr p hp; lstNe h f.ek (fun _ h => nomatch h)
  exact ⟨upd_off n5 f.same, by rw [upd_ne hx]; exact f.ob, by rw [upd_ne hr]; exact f.er, by rw [upd_ne hh]; exact f.eh, by rw [upd_ne hs]; exact f.es, upd_same, by rw [upd_ne hb]; exact f.eb, by rw [upd_ne hl]; exact f.el, f.bsAt hB, f.rh, f.rl, f.hl, f.sb, f.n, ⟨f.ok.hn, f.ok.sd, f.ok.bk⟩⟩
theorem paired_snoc {α β : Type} {F : α → β → Prop} : ∀ {l : List α} {m : List β} {a : α} {b : β}, Paired F l m → F a b → Paired F (l ++ [a]) (m ++ [b])
  | _, _, _, _, .nil, h => .cons h .nil
  | _, _, _, _, .cons h r, g => .cons h (paired_snoc r g)
/-- the block is closed: the dict takes the loose list, a new one stands in its place -/
theorem FileP.close (f : FileP C H0 H x t rows fs A) {y : Str} {l' : Addr} (nl : (upd H A.b (.dK (blkKV (A.bl ++ [(y, A.l)])))) l' = none) (hy : y ∈ fs.headers ∨ y ∈ fs.settings.map (·.1)) :
    FileP C H0 (upd (upd (upd H A.b (.dK (blkKV (A.bl ++ [(y, A.l)])))) l' (.lst [])) x (.ins C A.dx (flds t A.r A.h A.s A.k A.b l'))) x t rows { fs with blocks := fs.blocks ++ [(y, fs.loose)], loose := [] } { A with l := l', bl := A.bl ++ [(y, A.l)] } := by
  obtain ⟨n1, n2, n3, n4, n5, n6, n7⟩ := f.n
  have bx : x ≠ A.b := ne_of f.ob f.eb (fun h => nomatch h)
  have br : A.r ≠ A.b := lstNe f.er f.eb (fun _ h => nomatch h)
  have bh : A.h ≠ A.b := lstNe f.eh f.eb (fun _ h => nomatch h)
  have bk : A.k ≠ A.b := ne_of f.ek f.eb (fun h => nomatch h)
  have bl : A.l ≠ A.b := lstNe f.el f.eb (fun _ h => nomatch h)
  have at1 : ∀ {c : Addr} {o : HO}, H c = some o → c ≠ A.b → (upd H A.b (.dK (blkKV (A.bl ++ [(y, A.l)])))) c = some o := fun e h => by rw [upd_ne h]; exact e
  have off : ∀ {c : Addr} {o : HO}, H c = some o → c ≠ A.b → c ≠ l' := fun e h => ne_of_none (at1 e h) nl
  have lb : A.b ≠ l' := ne_of_none upd_same nl
  have xl : x ≠ l' := off f.ob bx
  have all : ∀ {c : Addr} {o : HO}, H c = some o → c ≠ A.b → c ≠ x → (upd (upd (upd H A.b (.dK (blkKV (A.bl ++ [(y, A.l)])))) l' (.lst [])) x (.ins C A.dx (flds t A.r A.h A.s A.k A.b l'))) c = some o := fun e h hx => by
    rw [upd_ne hx, upd_ne (off e h)]
    exact at1 e h
  have xr : A.r ≠ x := lstNe f.er f.ob (fun _ h => nomatch h)
  have xh : A.h ≠ x := lstNe f.eh f.ob (fun _ h => nomatch h)
  have xs : A.s ≠ x := ne_of f.es f.ob (fun h => nomatch h)
  have xk : A.k ≠ x := ne_of f.ek f.ob (fun h => nomatch h)
  have xA : A.l ≠ x := lstNe f.el f.ob (fun _ h => nomatch h)
  have fl : H0 l' = none := by
    have s2 : Same H0 (upd H A.b (.dK (blkKV (A.bl ++ [(y, A.l)])))) := upd_off n6 f.same
    exact s2.free nl
  refine ⟨upd_off n1 (upd_off fl (upd_off n6 f.same)), upd_same, all f.er br xr, all f.eh bh xh, all f.es f.sb xs, all f.ek bk xk, ?_, ?_, ?_, f.rh, off f.er br, off f.eh bh, f.sb, ⟨n1, n2, n3, n4, n5, n6, fl⟩, ⟨f.ok.hn, f.ok.sd, ?_⟩⟩
  · show (upd (upd (upd H A.b _) l' _) x _) A.b = _
    rw [upd_ne bx.symm, upd_ne lb]
    exact upd_same
  · show (upd (upd (upd H A.b _) l' _) x _) l' = _
    rw [upd_ne xl.symm]
    exact upd_same
  · refine paired_snoc ?_ ⟨rfl, all f.el bl xA, off f.el bl, f.hl.symm, n7⟩
    have key : ∀ {l : List (Str × Addr)} {m : List (Str × List Str)}, Paired (fun (p : Str × Addr) (q : Str × List Str) => p.1 = q.1 ∧ H p.2 = some (.lst (q.2.map V.str)) ∧ p.2 ≠ A.l ∧ p.2 ≠ A.h ∧ H0 p.2 = none) l m →
        Paired (fun (p : Str × Addr) (q : Str × List Str) => p.1 = q.1 ∧ (upd (upd (upd H A.b (.dK (blkKV (A.bl ++ [(y, A.l)])))) l' (.lst [])) x (.ins C A.dx (flds t A.r A.h A.s A.k A.b l'))) p.2 = some (.lst (q.2.map V.str)) ∧ p.2 ≠ l' ∧ p.2 ≠ A.h ∧ H0 p.2 = none) l m := by
      intro l m q
      induction q with
      | nil => exact .nil
      | cons h _ ih =>
        have hb := lstNe h.2.1 f.eb (fun _ h => nomatch h)
        exact .cons ⟨h.1, all h.2.1 hb (lstNe h.2.1 f.ob (fun _ h => nomatch h)), off h.2.1 hb, h.2.2.2.1, h.2.2.2.2⟩ ih
    exact key f.bs
  · intro p hp
    rw [List.map_append] at hp
    rcases List.mem_append.mp hp with q | q
    · exact f.ok.bk p q
    · cases List.mem_singleton.mp q
      exact hy
end
/-! ### keys that are not there -/
theorem val_blk {l : List (Str × Addr)} {y : Str} (h : y ∉ l.map (·.1)) : valV (blkKV l) (Sum.inr y : Key) = none := by
  induction l with
  | nil => rfl
  | cons p r ih =>
    have h1 : ¬ p.1 = y := fun e => h (by simp [e])
    have h2 : y ∉ r.map (·.1) := fun e => h (List.mem_cons_of_mem _ e)
    show valV ((Sum.inr p.1, V.ref p.2) :: blkKV r) (Sum.inr y : Key) = none
    rw [valV_neg (fun e => h1 (Sum.inr.inj e))]
    exact ih h2
theorem val_set {l : List (Str × Str)} {y : Str} (h : y ∉ l.map (·.1)) : valV (setKV l) (Sum.inr y : Key) = none := by
  induction l with
  | nil => rfl
  | cons p r ih =>
    have h1 : ¬ p.1 = y := fun e => h (by simp [e])
    have h2 : y ∉ r.map (·.1) := fun e => h (List.mem_cons_of_mem _ e)
    show valV ((Sum.inr p.1, V.str p.2) :: setKV r) (Sum.inr y : Key) = none
    rw [valV_neg (fun e => h1 (Sum.inr.inj e))]
    exact ih h2
theorem val_kept {l : List ((Int × Str) × Option Str)} {e : Int × Str} (h : e ∉ l.map (·.1)) : valV (keptKV l) ([Sum.inl e.1, Sum.inr e.2] : List Key) = none := by
  induction l with
  | nil => rfl
  | cons p r ih =>
    have h1 : ¬ p.1 = e := fun z => h (by simp [z])
    have h2 : e ∉ r.map (·.1) := fun z => h (List.mem_cons_of_mem _ z)
    show valV (([Sum.inl p.1.1, Sum.inr p.1.2], optV p.2) :: keptKV r) ([Sum.inl e.1, Sum.inr e.2] : List Key) = none
    rw [valV_neg ?_]
    · exact ih h2
    · intro z
      injection z with z1 z2
      injection z2 with z2 _
      exact h1 (Prod.ext (Sum.inl.inj z1) (Sum.inr.inj z2))
/-- the names of the blocks, as they stand in the dict -/
theorem blk_names {P : Str × Addr → Str × List Str → Prop} (hP : ∀ p q, P p q → p.1 = q.1) : ∀ {l : List (Str × Addr)} {m : List (Str × List Str)}, Paired P l m → l.map (·.1) = m.map (·.1)
  | _, _, .nil => rfl
  | _, _, .cons h r => by
    rw [List.map_cons, List.map_cons, hP _ _ h, blk_names hP r]
theorem in_strs (x : Str) (l : List Str) : inV (.str x) (l.map V.str) = decide (x ∈ l) := by
  unfold inV
  induction l with
  | nil => rfl
  | cons y r ih =>
    rw [List.map_cons, List.any_cons, ih]
    by_cases e : y = x
    · subst e
      rw [show eqV (.str y) (.str y) = true by simp [eqV]]
      simp
    · rw [show eqV (.str y) (.str x) = false by simp [eqV, e]]
      simp [Ne.symm e]
end My
set_option Elab.async false
set_option linter.all false
set_option maxRecDepth 100000
namespace K06
open PySem PySem.Spec PyProof.Rows L2 My
/-- none of its lists is longer than n -/
structure Sm (n : Nat) (fs : FS) : Prop where
  a : fs.headers.length ≤ n
  b : fs.settings.length ≤ n
  c : fs.kept.length ≤ n
  d : fs.blocks.length ≤ n
  e : fs.loose.length ≤ n
theorem Sm.step {n : Nat} {fs fs' : FS} {z : Str} (h : Sm n fs) (e : stepF fs z = some fs') : Sm (n + 1) fs' := by
  obtain ⟨h1, h2, h3, h4, h5⟩ := h
  unfold My.stepF at e
  split at e
  · cases e
    constructor <;> (try simp) <;> omega
  split at e
  · split at e
    · cases e
    · split at e
      · cases e
      · cases e
        constructor <;> (try simp) <;> omega
  split at e
  · split at e
    · cases e
    · cases e
      constructor <;> (try simp) <;> omega
  split at e
  · cases e
  split at e
  · cases e
  split at e
  · cases e
  · cases e
    constructor <;> (try simp) <;> omega
theorem big {n : Nat} (h : n ≤ 100000) : n < sizeLine := Nat.lt_of_le_of_lt h (by decide)
theorem paired_len {α β : Type} {F : α → β → Prop} : ∀ {l : List α} {m : List β}, Paired F l m → l.length = m.length
  | _, _, .nil => rfl
  | _, _, .cons _ r => by rw [List.length_cons, List.length_cons, paired_len r]
section
variable {P : Program} {w : World} {K : PySem.W.Frag} {mg : Str → Option Value} {base : Heap}
/-! ### the methods of a file that is read -/
def sp_SettingsFile_close_block (K : PySem.W.Frag) (T : Top K mg) : Sp := fun vs H Q _ => ∃ (H0 : Hp) (x : Addr) (t : Str) (rows : List Str) (fs : FS) (A : Parts) (y : Str), vs = [.ref x, .str y] ∧ FileP T.C_SettingsFile H0 H x t rows fs A ∧ Sm 99999 fs ∧
  y ∉ fs.blocks.map (·.1) ∧ (y ∈ fs.headers ∨ y ∈ fs.settings.map (·.1)) ∧ ∀ H' A', FileP T.C_SettingsFile H0 H' x t rows { fs with blocks := fs.blocks ++ [(y, fs.loose)], loose := [] } A' → Q .non H'
theorem ok_SettingsFile_close_block (T : Top K mg) : FnOk P w K mg base CX0 1 T.f_SettingsFile_close_block T.d_SettingsFile_close_block ["self", "thing"] (sp_SettingsFile_close_block K T) := by
  refine T.F_SettingsFile_close_block.ok scSettingsFile_close_block (fun vs H Q E h => ?_) (fun cdv A outer s H vs Q E hr h => ?_)
  · obtain ⟨H0, x, t, rows, fs, A, y, rfl, _⟩ := h
    rfl
  · obtain ⟨H0, x, t, rows, fs, A, y, rfl, f, sm, hy, hy2, q⟩ := h
    refine ⟨_, (pss_cons (ps_dput (hu_of hr) (pe_fld (pv 0) rfl) (pv 1) (pe_fld (pv 0) rfl) rfl)
      (pss_one (ps_fld (pv 0) (pe_lst pa_nil) rfl))), ?_⟩
    have names : A.bl.map (·.1) = fs.blocks.map (·.1) := blk_names (fun _ _ h => h.1) f.bs
    have new : valV (blkKV A.bl) (Sum.inr y : Key) = none := val_blk (by rw [names]; exact hy)
    have len : (blkKV A.bl).length ≤ 100000 := by
      unfold blkKV
      rw [List.length_map, paired_len f.bs]
      have := sm.d
      omega
    refine ⟨.ref x, rfl, x, _, _, _, _, rfl, f.ob, T.cl_SettingsFile, T.no_SettingsFile_loose, f_loose _ _ _ _ _ _ _, .ref x, rfl, x, _, _, _, _, rfl, f.ob, T.cl_SettingsFile, T.no_SettingsFile_blocks, f_blocks _ _ _ _ _ _ _, .str y, rfl, A.b, _, rfl, DPut.k (k := Sum.inr y) f.eb (big len), ?_⟩
    rw [putK_new _ new]
    have e : blkKV A.bl ++ [(Sum.inr y, V.ref A.l)] = blkKV (A.bl ++ [(y, A.l)]) := by
      unfold blkKV
      rw [List.map_append]
      rfl
    rw [e]
    refine ⟨Nat.zero_le _, fun l' nl => ?_⟩
    have bx : x ≠ A.b := ne_of f.ob f.eb (fun h => nomatch h)
    have xl : x ≠ l' := ne_of_none (show (upd H A.b _) x = _ by rw [upd_ne bx]; exact f.ob) nl
    refine ⟨.ref x, rfl, x, _, _, _, rfl, (by rw [upd_ne xl, upd_ne bx]; exact f.ob), T.cl_SettingsFile, T.no_SettingsFile_loose, flds_len _ _ _ _ _ _ _, ?_⟩
    rw [flds_reloose]
    exact q _ _ (f.close nl hy2)
def sp_SettingsFile_take_header (K : PySem.W.Frag) (T : Top K mg) : Sp := fun vs H Q _ => ∃ (H0 : Hp) (x : Addr) (t : Str) (rows : List Str) (fs : FS) (A : Parts) (y : Str), vs = [.ref x, .str y] ∧ FileP T.C_SettingsFile H0 H x t rows fs A ∧ Sm 99998 fs ∧
  nameS y = true ∧ y ∉ fs.headers ∧ ∀ H' A', FileP T.C_SettingsFile H0 H' x t rows { fs with headers := fs.headers ++ [y], blocks := fs.blocks ++ [(y, fs.loose)], loose := [] } A' → Q .non H'
theorem ok_SettingsFile_take_header (T : Top K mg) : FnOk P w K mg base CX0 2 T.f_SettingsFile_take_header T.d_SettingsFile_take_header ["self", "name"] (sp_SettingsFile_take_header K T) := by
  have G_SettingsFile_close_block : FnOk P w K mg base CX0 1 T.f_SettingsFile_close_block T.d_SettingsFile_close_block ["self", "thing"] (sp_SettingsFile_close_block K T) := ok_SettingsFile_close_block T
  refine T.F_SettingsFile_take_header.ok scSettingsFile_take_header (fun vs H Q E h => ?_) (fun cdv A outer s H vs Q E hr h => ?_)
  · obtain ⟨H0, x, t, rows, fs, A, y, rfl, _⟩ := h
    rfl
  · obtain ⟨H0, x, t, rows, fs, A, y, rfl, f, sm, hn, hy, q⟩ := h
    refine ⟨_, (pss_cons (ps_if (pt_cmpR op_in_seq (pv 1) (pe_fld (pv 0) rfl) (by rfl)) (pss_one (ps_ret pe_str)) pss_nil)
      (pss_cons (ps_expr (pe_bm PySem.F.plainAttrs_list PySem.F.slot_list_append PySem.F.type_list_append mt_append (pe_fld (pv 0) rfl) (pa_cons (pv 1) pa_nil)))
      (pss_cons (ps_expr (pe_meth (pv 0) T.cl_SettingsFile T.me_SettingsFile_close_block G_SettingsFile_close_block (hr.mono (by decide)) T.b_SettingsFile_close_block .nil pass0 (pa_cons (pv 1) pa_nil)))
      (pss_one (ps_ret pe_non))))), ?_⟩
    have s1 := sm.a
    refine ⟨.str y, rfl, .ref x, rfl, x, _, _, _, _, rfl, f.ob, T.cl_SettingsFile, T.no_SettingsFile_headers, f_headers _ _ _ _ _ _ _, A.h, _, rfl, .inl (SqL.of f.eh), rfl, (by rw [List.all_map]; exact List.all_eq_true.mpr fun _ _ => rfl), _, rfl, ?_⟩
    rw [in_strs, decide_eq_false hy]
    refine iteF ?_
    refine ⟨.ref x, rfl, x, _, _, _, _, rfl, f.ob, T.cl_SettingsFile, T.no_SettingsFile_headers, f_headers _ _ _ _ _ _ _, .inl ⟨rfl, _, SqL.of f.eh⟩, .str y, rfl, A.h, _, _, rfl, rfl, f.eh, (by rw [List.length_map]; exact big (by omega)), ?_⟩
    have e : fs.headers.map V.str ++ [V.str y] = (fs.headers ++ [y]).map V.str := by rw [List.map_append]; rfl
    rw [e]
    have f2 := f.addHead hn
    refine ⟨.ref x, rfl, x, _, _, rfl, f2.ob, f_no _ _ _ _ _ _ _ (by decide +kernel) (by decide +kernel) (by decide +kernel) (by decide +kernel) (by decide +kernel) (by decide +kernel) (by decide +kernel), .str y, rfl, H0, x, t, rows, _, A, y, rfl, f2, ?_, f.ok.newHead hn hy, .inl (List.mem_append_right _ (List.mem_singleton.mpr rfl)), fun H' A' f3 => q H' A' f3⟩
    have h2 := sm.b
    have h3 := sm.c
    have h4 := sm.d
    have h5 := sm.e
    constructor <;> (try simp) <;> omega
def sp_SettingsFile_take_setting (K : PySem.W.Frag) (T : Top K mg) : Sp := fun vs H Q _ => ∃ (H0 : Hp) (x : Addr) (t : Str) (rows : List Str) (fs : FS) (A : Parts) (k v h : Str), vs = [.ref x, .str k, .str v] ∧ FileP T.C_SettingsFile H0 H x t rows fs A ∧ Sm 99998 fs ∧
  k.length ≤ 1000 ∧ fs.headers.getLast? = some h ∧ h ++ "." ++ k ∉ fs.settings.map (·.1) ∧ ∀ H' A', FileP T.C_SettingsFile H0 H' x t rows { fs with settings := fs.settings ++ [(h ++ "." ++ k, v)], blocks := fs.blocks ++ [(h ++ "." ++ k, fs.loose)], loose := [] } A' → Q .non H'
theorem ok_SettingsFile_take_setting (T : Top K mg) : FnOk P w K mg base CX0 2 T.f_SettingsFile_take_setting T.d_SettingsFile_take_setting ["self", "key", "value"] (sp_SettingsFile_take_setting K T) := by
  have G_SettingsFile_close_block : FnOk P w K mg base CX0 1 T.f_SettingsFile_close_block T.d_SettingsFile_close_block ["self", "thing"] (sp_SettingsFile_close_block K T) := ok_SettingsFile_close_block T
  refine T.F_SettingsFile_take_setting.ok scSettingsFile_take_setting (fun vs H Q E h => ?_) (fun cdv A outer s H vs Q E hr h => ?_)
  · obtain ⟨H0, x, t, rows, fs, A, k, v, h, rfl, _⟩ := h
    rfl
  · obtain ⟨H0, x, t, rows, fs, A, k, v, h, rfl, f, sm, hk, hl, hy, q⟩ := h
    refine ⟨_, (pss_cons (ps_if (pt_cmpR (op_eqNil hr.units0) (pe_fld (pv 0) rfl) (pe_lst pa_nil) (nomark _)) (pss_one (ps_ret pe_str)) pss_nil)
      (pss_cons (ps_set (i := 3) scSettingsFile_take_setting.nd rfl (.inl rfl) (pe_op op_add_str (pe_op op_add_str (pe_ix ix_list (pe_fld (pv 0) rfl) (pe_un un_neg pe_int) (fun _ _ => rfl)) pe_str) (pv 1)))
      (pss_cons (ps_if (pt_cmp (pc_din (hu_of hr) (pv 3) (pe_fld (pv 0) rfl))) (pss_one (ps_ret pe_str)) pss_nil)
      (pss_cons (ps_dput (hu_of hr) (pe_fld (pv 0) rfl) (pv 3) (pv 2) rfl)
      (pss_cons (ps_expr (pe_meth (pv 0) T.cl_SettingsFile T.me_SettingsFile_close_block G_SettingsFile_close_block (hr.mono (by decide)) T.b_SettingsFile_close_block .nil pass0 (pa_cons (pv 3) pa_nil)))
      (pss_one (ps_ret pe_non))))))), ?_⟩
    have h1 := sm.a
    have h2 := sm.b
    have h3 := sm.c
    have h4 := sm.d
    have h5 := sm.e
    have eh : fs.headers = fs.headers.dropLast ++ [h] := by
      obtain ⟨ne, e⟩ : ∃ ne, fs.headers.getLast ne = h := by
        cases hh : fs.headers with
        | nil => rw [hh] at hl; cases hl
        | cons a r => rw [hh] at hl; exact ⟨by simp, by rw [List.getLast?_eq_some_getLast (by simp)] at hl; exact Option.some.inj hl⟩
      rw [← e, List.dropLast_concat_getLast]
    have hin : h ∈ fs.headers := by rw [eh]; exact List.mem_append_right _ (List.mem_singleton.mpr rfl)
    have hlen : h.length ≤ 8 := by
      have := f.ok.hn h hin
      unfold nameS madeOf at this
      simp only [Bool.and_eq_true, decide_eq_true_eq] at this
      omega
    have hgt : atI (fs.headers.map V.str) (-1) = some (.str h) := by
      rw [eh, List.map_append]
      exact atI_last _ _
    refine ⟨.ref x, rfl, x, _, _, _, _, rfl, f.ob, T.cl_SettingsFile, T.no_SettingsFile_headers, f_headers _ _ _ _ _ _ _, Nat.zero_le _, fun p np => ⟨A.h, p, _, rfl, rfl, SqL.of (same_new np _ _ f.eh), SqL.of upd_same, _, rfl, ?_⟩⟩
    have emp : (fs.headers.map V.str).isEmpty = false := by rw [eh, List.map_append]; simp
    rw [emp]
    refine iteF ?_
    have f1 := f.more (same_new (o := .lst []) np)
    generalize upd H p (.lst []) = H1 at f1
    have l1 : (h ++ "." : Str).length ≤ 9 := by
      rw [len_tl, TL.tl_append, List.length_append]
      show h.length + 1 ≤ 9
      omega
    have sb : 100000 ≤ sizeLine := by decide
    refine ⟨.ref x, rfl, x, _, _, _, _, rfl, f1.ob, T.cl_SettingsFile, T.no_SettingsFile_headers, f_headers _ _ _ _ _ _ _, 1, rfl, A.h, _, -1, .str h, rfl, rfl, SqL.of f1.eh, hgt, _, _, rfl, rfl, (by show h.length + 1 ≤ sizeLine; omega), .str k, rfl, _, _, rfl, rfl, (by omega), ?_⟩
    refine ⟨.str (h ++ "." ++ k), rfl, .ref x, rfl, x, _, _, _, _, rfl, f1.ob, T.cl_SettingsFile, T.no_SettingsFile_settings_read, f_settings _ _ _ _ _ _ _, A.s, _, rfl, DGet.k (k := Sum.inr (h ++ "." ++ k)) f1.es, _, rfl, ?_⟩
    have new := val_set hy
    rw [new]
    refine iteF ?_
    have len : (setKV fs.settings).length ≤ 100000 := by
      unfold setKV
      rw [List.length_map]
      omega
    refine ⟨.str v, rfl, .ref x, rfl, x, _, _, _, _, rfl, f1.ob, T.cl_SettingsFile, T.no_SettingsFile_settings_read, f_settings _ _ _ _ _ _ _, .str (h ++ "." ++ k), rfl, A.s, _, rfl, DPut.k (k := Sum.inr (h ++ "." ++ k)) f1.es (big len), ?_⟩
    rw [putK_new _ new]
    have e : setKV fs.settings ++ [(Sum.inr (h ++ "." ++ k), V.str v)] = setKV (fs.settings ++ [(h ++ "." ++ k, v)]) := by
      unfold setKV
      rw [List.map_append]
      rfl
    rw [e]
    have f2 := f1.addSet (p := h ++ "." ++ k) (v := v) (dot_in h k)
    refine ⟨.ref x, rfl, x, _, _, rfl, f2.ob, f_no _ _ _ _ _ _ _ (by decide +kernel) (by decide +kernel) (by decide +kernel) (by decide +kernel) (by decide +kernel) (by decide +kernel) (by decide +kernel), .str (h ++ "." ++ k), rfl, H0, x, t, rows, _, A, _, rfl, f2, ?_, f.ok.newPlace (dot_in h k) hy, .inr ?_, fun H' A' f3 => q H' A' f3⟩
    · constructor <;> (try simp) <;> omega
    · rw [List.map_append]
      exact List.mem_append_right _ (List.mem_singleton.mpr rfl)
end
end K06

set_option Elab.async false
set_option linter.all false
set_option maxRecDepth 100000
namespace K06
open PySem PySem.Spec PyProof.Rows L2 My
/-- the lines of a text -/
def rowsOf (t : Str) : List Str := if t = "" then [] else Txt.split t "\n"
/-- the block of that name -/
def valB (l : List (Str × List Str)) (y : Str) : Option (List Str) := (l.find? fun p => decide (p.1 = y)).map (·.2)
theorem val_block {H H0 : Hp} {lA hA : Addr} {y : Str} {ls : List Str} : ∀ {l : List (Str × Addr)} {m : List (Str × List Str)}, Paired (fun (p : Str × Addr) (q : Str × List Str) => p.1 = q.1 ∧ H p.2 = some (.lst (q.2.map V.str)) ∧ p.2 ≠ lA ∧ p.2 ≠ hA ∧ H0 p.2 = none) l m →
    valB m y = some ls → ∃ a, valV (blkKV l) (Sum.inr y : Key) = some (.ref a) ∧ H a = some (.lst (ls.map V.str))
  | _, _, .nil, e => by cases e
  | p :: l, q :: m, .cons h r, e => by
    by_cases hy : q.1 = y
    · have e2 : q.2 = ls := by
        unfold valB at e
        rw [List.find?_cons, show decide (q.1 = y) = true from decide_eq_true hy] at e
        exact Option.some.inj e
      refine ⟨p.2, ?_, by rw [← e2]; exact h.2.1⟩
      show valV ((Sum.inr p.1, V.ref p.2) :: blkKV l) (Sum.inr y : Key) = _
      exact valV_pos (p := (Sum.inr p.1, V.ref p.2)) (by show (Sum.inr p.1 : Key) = Sum.inr y; rw [h.1, hy])
    · have e2 : valB m y = some ls := by
        unfold valB at e ⊢
        rw [List.find?_cons, show decide (q.1 = y) = false from decide_eq_false hy] at e
        exact e
      obtain ⟨a, h1, h2⟩ := val_block r e2
      refine ⟨a, ?_, h2⟩
      show valV ((Sum.inr p.1, V.ref p.2) :: blkKV l) (Sum.inr y : Key) = _
      rw [valV_neg (p := (Sum.inr p.1, V.ref p.2)) (by show ¬ (Sum.inr p.1 : Key) = Sum.inr y; rw [h.1]; exact fun z => hy (Sum.inr.inj z))]
      exact h1
theorem run_at {fs fsE : FS} {rows : List Str} {i : Nat} {z : Str} (hE : runF fs0 rows = some fsE) (hi : rows[i]? = some z) (h : runF fs0 (rows.take i) = some fs) : ∃ fs', stepF fs z = some fs' ∧ runF fs0 (rows.take (i + 1)) = some fs' := by
  have e : rows = rows.take i ++ z :: rows.drop (i + 1) := by
    have := List.take_append_drop i rows
    rw [List.drop_eq_getElem?_toList_append, hi] at this
    exact this.symm
  rw [e, runF_app, h] at hE
  have hE2 : ((stepF fs z).bind fun fs' => runF fs' (rows.drop (i + 1))) = some fsE := hE
  cases hs : stepF fs z with
  | none => rw [hs] at hE2; cases hE2
  | some fs' =>
    refine ⟨fs', rfl, ?_⟩
    rw [List.take_add_one, hi, runF_app, h]
    show ((stepF fs z).bind fun f => runF f []) = _
    rw [hs]
    rfl
section
variable {P : Program} {w : World} {K : PySem.W.Frag} {mg : Str → Option Value} {base : Heap}
def sp_SettingsFile_take_kept (K : PySem.W.Frag) (T : Top K mg) : Sp := fun vs H Q _ => ∃ (H0 : Hp) (x : Addr) (t : Str) (rows : List Str) (fs : FS) (A : Parts) (z : Str) (r : Int) (p : Str) (v : Option Str), vs = [.ref x, .str z] ∧ FileP T.C_SettingsFile H0 H x t rows fs A ∧ Sm 99998 fs ∧
  z.length ≤ 1000 ∧ keptS z = some (r, p, v) ∧ (r, p) ∉ fs.kept.map (·.1) ∧ ∀ H' A', FileP T.C_SettingsFile H0 H' x t rows { fs with kept := fs.kept ++ [((r, p), v)] } A' → Q .non H'
theorem ok_SettingsFile_take_kept (T : Top K mg) : FnOk P w K mg base CX0 5 T.f_SettingsFile_take_kept T.d_SettingsFile_take_kept ["self", "line"] (sp_SettingsFile_take_kept K T) := by
  have G_read_kept : FnOk P w K mg base CX0 4 T.f_read_kept T.d_read_kept ["line"] (sp_read_kept K) := ok_read_kept T
  refine T.F_SettingsFile_take_kept.ok scSettingsFile_take_kept (fun vs H Q E h => ?_) (fun cdv A outer s H vs Q E hr h => ?_)
  · obtain ⟨H0, x, t, rows, fs, A, z, r, p, v, rfl, _⟩ := h
    rfl
  · obtain ⟨H0, x, t, rows, fs, A, z, r, p, v, rfl, f, sm, hz, hk, hn, q⟩ := h
    refine ⟨_, (pss_cons (ps_set (i := 2) scSettingsFile_take_kept.nd rfl (.inl rfl) (pe_call G_read_kept (hr.mono (by decide)) (by rfl) T.g_read_kept T.F_read_kept.kp T.b_read_kept .nil pass0 (pa_cons (pv 1) pa_nil)))
      (pss_cons (ps_if (pt_cmpR op_isN (pv 2) pe_non (nomark _)) (pss_one (ps_ret pe_str)) pss_nil)
      (pss_cons (ps_asg (pv 2) (pg_tup rfl (pgs_cons (pg_name (i := 3) scSettingsFile_take_kept.nd rfl (.inl rfl)) (pgs_cons (pg_name (i := 4) scSettingsFile_take_kept.nd rfl (.inl rfl)) (pgs_cons (pg_name (i := 5) scSettingsFile_take_kept.nd rfl (.inl rfl)) pgs_nil)))))
      (pss_cons (ps_if (pt_cmp (pc_din (hu_of hr) (pe_tup (pa_cons (pv 3) (pa_cons (pv 4) pa_nil))) (pe_fld (pv 0) rfl))) (pss_one (ps_ret pe_str)) pss_nil)
      (pss_cons (ps_dput (hu_of hr) (pe_fld (pv 0) rfl) (pe_tup (pa_cons (pv 3) (pa_cons (pv 4) pa_nil))) (pv 5) rfl)
      (pss_one (ps_ret pe_non))))))), ?_⟩
    refine ⟨.str z, rfl, z, rfl, hz, (fun e => by rw [hk] at e; cases e), fun r' p' v' e H1 a s1 ha => ?_⟩
    rw [hk] at e
    cases e
    have f1 := f.more s1
    refine ⟨.ref a, rfl, rfl, _, rfl, ?_⟩
    rw [decide_eq_false (show ¬ V.ref a = V.non from fun h => nomatch h)]
    refine iteF ?_
    refine ⟨.ref a, rfl, a, _, rfl, SqT.of ha, rfl, _, _, rfl, _, _, rfl, _, _, rfl, rfl, ?_⟩
    refine ⟨.int r, rfl, .str p, rfl, (by show 2 ≤ sizeLine; decide), fun kt nkt => ?_⟩
    have f2 := f1.more (same_new (o := .tup [.int r, .str p]) nkt)
    have hkt : (upd H1 kt (.tup [.int r, .str p])) kt = some (.tup (([Sum.inl r, Sum.inr p] : List Key).map kV)) := upd_same
    generalize upd H1 kt (.tup [.int r, .str p]) = H2 at f2 hkt
    refine ⟨.ref x, rfl, x, _, _, _, _, rfl, f2.ob, T.cl_SettingsFile, T.no_SettingsFile_kept_read, f_kept _ _ _ _ _ _ _, A.k, _, rfl, DGet.t (k := [Sum.inl r, Sum.inr p]) f2.ek hkt, _, rfl, ?_⟩
    have new := val_kept hn
    rw [new]
    refine iteF ?_
    have len : (keptKV fs.kept).length ≤ 100000 := by
      unfold keptKV
      rw [List.length_map]
      have := sm.c
      omega
    refine ⟨optV v, rfl, .ref x, rfl, x, _, _, _, _, rfl, f2.ob, T.cl_SettingsFile, T.no_SettingsFile_kept_read, f_kept _ _ _ _ _ _ _, .int r, rfl, .str p, rfl, (by show 2 ≤ sizeLine; decide), fun kt2 nkt2 => ?_⟩
    have f3 := f2.more (same_new (o := .tup [.int r, .str p]) nkt2)
    have hkt2 : (upd H2 kt2 (.tup [.int r, .str p])) kt2 = some (.tup (([Sum.inl r, Sum.inr p] : List Key).map kV)) := upd_same
    generalize upd H2 kt2 (.tup [.int r, .str p]) = H3 at f3 hkt2
    refine ⟨A.k, _, rfl, DPut.t (k := [Sum.inl r, Sum.inr p]) f3.ek hkt2 (big len), ?_⟩
    rw [putK_new _ new]
    have e : keptKV fs.kept ++ [(([Sum.inl r, Sum.inr p] : List Key), optV v)] = keptKV (fs.kept ++ [((r, p), v)]) := by
      unfold keptKV
      rw [List.map_append]
      rfl
    rw [e]
    exact q _ _ (f3.addKept ((r, p), v))
def sp_SettingsFile_take (K : PySem.W.Frag) (T : Top K mg) : Sp := fun vs H Q _ => ∃ (H0 : Hp) (x : Addr) (t : Str) (rows : List Str) (fs fs' : FS) (A : Parts) (z : Str), vs = [.ref x, .str z] ∧ FileP T.C_SettingsFile H0 H x t rows fs A ∧ Sm 99998 fs ∧
  z.length ≤ 1000 ∧ stepF fs z = some fs' ∧ ∀ H' A', FileP T.C_SettingsFile H0 H' x t rows fs' A' → Q .non H'
theorem ok_SettingsFile_take (T : Top K mg) : FnOk P w K mg base CX0 6 T.f_SettingsFile_take T.d_SettingsFile_take ["self", "line"] (sp_SettingsFile_take K T) := by
  have G_is_loose : FnOk P w K mg base CX0 1 T.f_is_loose T.d_is_loose ["line"] (sp_is_loose K) := ok_is_loose T
  have G_SettingsFile_take_kept : FnOk P w K mg base CX0 5 T.f_SettingsFile_take_kept T.d_SettingsFile_take_kept ["self", "line"] (sp_SettingsFile_take_kept K T) := ok_SettingsFile_take_kept T
  have G_is_header : FnOk P w K mg base CX0 3 T.f_is_header T.d_is_header ["line"] (sp_is_header K) := ok_is_header T
  have G_SettingsFile_take_header : FnOk P w K mg base CX0 2 T.f_SettingsFile_take_header T.d_SettingsFile_take_header ["self", "name"] (sp_SettingsFile_take_header K T) := ok_SettingsFile_take_header T
  have G_read_setting : FnOk P w K mg base CX0 3 T.f_read_setting T.d_read_setting ["line"] (sp_read_setting K) := ok_read_setting T
  have G_SettingsFile_take_setting : FnOk P w K mg base CX0 2 T.f_SettingsFile_take_setting T.d_SettingsFile_take_setting ["self", "key", "value"] (sp_SettingsFile_take_setting K T) := ok_SettingsFile_take_setting T
  refine T.F_SettingsFile_take.ok scSettingsFile_take (fun vs H Q E h => ?_) (fun cdv A outer s H vs Q E hr h => ?_)
  · obtain ⟨H0, x, t, rows, fs, fs', A, z, rfl, _⟩ := h
    rfl
  · obtain ⟨H0, x, t, rows, fs, fs', A, z, rfl, f, sm, hz, hs, q⟩ := h
    refine ⟨_, (pss_cons (ps_if (pt_val (pe_call G_is_loose (hr.mono (by decide)) (by rfl) T.g_is_loose T.F_is_loose.kp T.b_is_loose .nil pass0 (pa_cons (pv 1) pa_nil))) (pss_cons (ps_expr (pe_bm PySem.F.plainAttrs_list PySem.F.slot_list_append PySem.F.type_list_append mt_append (pe_fld (pv 0) rfl) (pa_cons (pv 1) pa_nil)))
      (pss_one (ps_ret pe_non))) pss_nil)
      (pss_cons (ps_if (pt_val (pe_m1 F.slot_str_startswith F.type_str_startswith mt_startswith (pv 1) (pe_glob (v := .str "#~") (by rfl) T.g_KEPT_MARK ⟨_, rfl⟩))) (pss_one (ps_ret (pe_meth (pv 0) T.cl_SettingsFile T.me_SettingsFile_take_kept G_SettingsFile_take_kept (hr.mono (by decide)) T.b_SettingsFile_take_kept .nil pass0 (pa_cons (pv 1) pa_nil)))) pss_nil)
      (pss_cons (ps_if (pt_val (pe_call G_is_header (hr.mono (by decide)) (by rfl) T.g_is_header T.F_is_header.kp T.b_is_header .nil pass0 (pa_cons (pv 1) pa_nil))) (pss_one (ps_ret (pe_meth (pv 0) T.cl_SettingsFile T.me_SettingsFile_take_header G_SettingsFile_take_header (hr.mono (by decide)) T.b_SettingsFile_take_header .nil pass0 (pa_cons (pe_slice sl_str (pv 1) (po_some pe_int) (po_some (pe_un un_neg pe_int))) pa_nil)))) pss_nil)
      (pss_cons (ps_set (i := 2) scSettingsFile_take.nd rfl (.inl rfl) (pe_call G_read_setting (hr.mono (by decide)) (by rfl) T.g_read_setting T.F_read_setting.kp T.b_read_setting .nil pass0 (pa_cons (pv 1) pa_nil)))
      (pss_cons (ps_if (pt_cmpR op_isN (pv 2) pe_non (nomark _)) (pss_one (ps_ret pe_str)) pss_nil)
      (pss_cons (ps_asg (pv 2) (pg_tup rfl (pgs_cons (pg_name (i := 3) scSettingsFile_take.nd rfl (.inl rfl)) (pgs_cons (pg_name (i := 4) scSettingsFile_take.nd rfl (.inl rfl)) pgs_nil))))
      (pss_one (ps_ret (pe_meth (pv 0) T.cl_SettingsFile T.me_SettingsFile_take_setting G_SettingsFile_take_setting (hr.mono (by decide)) T.b_SettingsFile_take_setting .nil pass0 (pa_cons (pv 3) (pa_cons (pv 4) pa_nil))))))))))), ?_⟩
    unfold My.stepF at hs
    have noM : ∀ {m : Str}, ¬ m = "loose" → ¬ m = "blocks" → ¬ m = "kept_read" → ¬ m = "settings_read" → ¬ m = "headers" → ¬ m = "rows" → ¬ m = "text" → (flds t A.r A.h A.s A.k A.b A.l).lookup m = none := fun h1 h2 h3 h4 h5 h6 h7 => f_no _ _ _ _ _ _ _ h1 h2 h3 h4 h5 h6 h7
    refine ⟨.str z, rfl, z, rfl, hz, fun H1 s1 => ⟨_, rfl, ite2 (fun e => ?_) (fun e => ?_)⟩⟩
    · rw [if_pos e] at hs
      cases hs
      have f1 := f.more s1
      have s5 := sm.e
      refine ⟨.ref x, rfl, x, _, _, _, _, rfl, f1.ob, T.cl_SettingsFile, T.no_SettingsFile_loose, f_loose _ _ _ _ _ _ _, .inl ⟨rfl, _, SqL.of f1.el⟩, .str z, rfl, A.l, _, _, rfl, rfl, f1.el, (by rw [List.length_map]; exact big (by omega)), ?_⟩
      have e2 : fs.loose.map V.str ++ [V.str z] = (fs.loose ++ [z]).map V.str := by rw [List.map_append]; rfl
      rw [e2]
      exact q _ _ (f1.addLoose z)
    · rw [if_neg e] at hs
      have f1 := f.more s1
      refine ⟨.str z, rfl, ⟨z, rfl⟩, z, _, rfl, rfl, _, rfl, ite2 (fun e2 => ?_) (fun e2 => ?_)⟩
      · rw [if_pos (show Txt.startswith z markS = true from e2)] at hs
        cases hk : keptS z with
        | none => rw [hk] at hs; cases hs
        | some w3 =>
          obtain ⟨r, p, v⟩ := w3
          rw [hk] at hs
          have hs : (if (r, p) ∈ fs.kept.map (·.1) then none else some { fs with kept := fs.kept ++ [((r, p), v)] }) = some fs' := hs
          by_cases hm : (r, p) ∈ fs.kept.map (·.1)
          · rw [if_pos hm] at hs; cases hs
          · rw [if_neg hm] at hs
            cases hs
            exact ⟨.ref x, rfl, x, _, _, rfl, f1.ob, noM (by decide +kernel) (by decide +kernel) (by decide +kernel) (by decide +kernel) (by decide +kernel) (by decide +kernel) (by decide +kernel), .str z, rfl, H0, x, t, rows, fs, A, z, r, p, v, rfl, f1, sm, hz, hk, hm, q⟩
      · rw [if_neg (show ¬ Txt.startswith z markS = true from e2)] at hs
        refine ⟨.str z, rfl, z, rfl, hz, fun H2 s2 => ⟨_, rfl, ite2 (fun e3 => ?_) (fun e3 => ?_)⟩⟩
        · rw [if_pos e3] at hs
          have f2 := f1.more s2
          have hn : nameS (headOf z) = true := by
            unfold headS at e3
            simp only [Bool.and_eq_true] at e3
            exact e3.2.2
          by_cases hm : headOf z ∈ fs.headers
          · rw [if_pos hm] at hs; cases hs
          · rw [if_neg hm] at hs
            cases hs
            exact ⟨.ref x, rfl, x, _, _, rfl, f2.ob, noM (by decide +kernel) (by decide +kernel) (by decide +kernel) (by decide +kernel) (by decide +kernel) (by decide +kernel) (by decide +kernel), .str z, rfl, 1, rfl, 1, rfl, -1, rfl, z, rfl, len1000 hz, H0, x, t, rows, fs, A, headOf z, rfl, f2, sm, hn, hm, q⟩
        · rw [if_neg e3] at hs
          have f2 := f1.more s2
          refine ⟨.str z, rfl, z, rfl, hz, (fun en => by rw [en] at hs; cases hs), fun k v ek H3 a s3 ha => ?_⟩
          rw [ek] at hs
          have hk1000 : k.length ≤ 1000 := by
            unfold setS at ek
            split at ek
            · cases ek
              exact Nat.le_trans (part3 z eqS).1 hz
            · cases ek
          have f3 := f2.more s3
          refine ⟨.ref a, rfl, rfl, _, rfl, ?_⟩
          rw [decide_eq_false (show ¬ V.ref a = V.non from fun h => nomatch h)]
          refine iteF ?_
          refine ⟨.ref a, rfl, a, _, rfl, SqT.of ha, rfl, _, _, rfl, _, _, rfl, rfl, ?_⟩
          cases hl : fs.headers.getLast? with
          | none =>
            rw [hl] at hs
            cases hs
          | some h =>
            rw [hl] at hs
            have hs : (if h ++ "." ++ k ∈ fs.settings.map (·.1) then none else some { fs with settings := fs.settings ++ [(h ++ "." ++ k, v)], blocks := fs.blocks ++ [(h ++ "." ++ k, fs.loose)], loose := [] }) = some fs' := hs
            by_cases hm : h ++ "." ++ k ∈ fs.settings.map (·.1)
            · rw [if_pos hm] at hs; cases hs
            · rw [if_neg hm] at hs
              cases hs
              exact ⟨.ref x, rfl, x, _, _, rfl, f3.ob, noM (by decide +kernel) (by decide +kernel) (by decide +kernel) (by decide +kernel) (by decide +kernel) (by decide +kernel) (by decide +kernel), .str k, rfl, .str v, rfl, H0, x, t, rows, fs, A, k, v, h, rfl, f3, sm, hk1000, hl, hm, q⟩
end
end K06

set_option Elab.async false
set_option linter.all false
set_option maxRecDepth 100000
namespace K06
open PySem PySem.Spec PyProof.Rows L2 My
/-- self.f = a new object -/
theorem fldNew {H0 H : Hp} {x C dx p : Addr} {fs fs' : List (Str × V)} {o : HO} (hx : H x = some (.ins C dx fs)) (np : H p = none) (s : Same H0 H) (nx : H0 x = none) :
    ∃ H', upd (upd H p o) x (.ins C dx fs') = H' ∧ H' x = some (.ins C dx fs') ∧ H' p = some o ∧ (∀ c u, H c = some u → c ≠ x → H' c = some u) ∧ Same H0 H' ∧ H0 p = none ∧ p ≠ x := by
  have px : p ≠ x := (ne_of_none hx np).symm
  refine ⟨_, rfl, upd_same, by rw [upd_ne px]; exact upd_same, fun c u e h => ?_, ?_, s.free np, px⟩
  · rw [upd_ne h, upd_ne (ne_of_none e np)]
    exact e
  · intro b u e
    rw [upd_ne (ne_of_none e nx), upd_ne (ne_of_none e (s.free np))]
    exact s b u e
section
variable {P : Program} {w : World} {K : PySem.W.Frag} {mg : Str → Option Value} {base : Heap}
def sp_SettingsFile___init__ (K : PySem.W.Frag) (T : Top K mg) : Sp := fun vs H Q _ => ∃ (H0 : Hp) (x dx : Addr) (t : Str) (fs : FS), vs = [.ref x, .str t] ∧ H = upd (upd H0 dx (.own x)) x (.ins T.C_SettingsFile dx []) ∧ H0 x = none ∧ H0 dx = none ∧ dx ≠ x ∧
  t.length ≤ 1000000 ∧ (rowsOf t).length ≤ 90000 ∧ (∀ z ∈ rowsOf t, z.length ≤ 1000) ∧ runF fs0 (rowsOf t) = some fs ∧ ∀ H' A, FileP T.C_SettingsFile H0 H' x t (rowsOf t) fs A → Q .non H'
theorem ok_SettingsFile___init__ (T : Top K mg) : FnOk P w K mg base CX0 7 T.f_SettingsFile___init__ T.d_SettingsFile___init__ ["self", "text"] (sp_SettingsFile___init__ K T) := by
  have G_SettingsFile_take : FnOk P w K mg base CX0 6 T.f_SettingsFile_take T.d_SettingsFile_take ["self", "line"] (sp_SettingsFile_take K T) := ok_SettingsFile_take T
  refine T.F_SettingsFile___init__.ok scSettingsFile___init__ (fun vs H Q E h => ?_) (fun cdv A outer s H vs Q E hr h => ?_)
  · obtain ⟨H0, x, dx, t, fs, rfl, _⟩ := h
    rfl
  · obtain ⟨H0, x, dx, t, fsE, rfl, eH, nx, ndx, nex, ht, hr1, hr2, hrun, q⟩ := h
    have s0 : Same H0 H := by
      rw [eH]
      intro b o e
      rw [upd_ne (ne_of_none e nx), upd_ne (ne_of_none e ndx)]
      exact e
    have hx0 : H x = some (.ins T.C_SettingsFile dx []) := by rw [eH]; exact upd_same
    obtain ⟨t2, p2, q2⟩ : ∃ t', PSs (cxOf CX0 P w K mg base N_SettingsFile___init__ "SettingsFile.__init__" (defScope s_SettingsFile___init__) T.f_SettingsFile___init__ cdv A outer s H E).nox ((defBody s_SettingsFile___init__).drop 3) t' ∧ ∀ (r : Addr) (H2 : Hp), H2 x = some (.ins T.C_SettingsFile dx (flds2 t r)) → H2 r = some (.lst ((rowsOf t).map V.str)) → Same H0 H2 → H0 r = none →
        t' { nx := fun _ H' => Q .non H', rt := Q } [some (.ref x), some (.str t), none, none, none] H2 := by
      refine ⟨_, (pss_cons (ps_fld (pv 0) (pe_lst pa_nil) rfl)
      (pss_cons (ps_fld (pv 0) pe_dnewK rfl)
      (pss_cons (ps_fld (pv 0) pe_dnewT rfl)
      (pss_cons (ps_fld (pv 0) pe_dnewK rfl)
      (pss_cons (ps_fld (pv 0) (pe_lst pa_nil) rfl)
      (pss_one (ps_for PassesOwn.never rfl (pi_enum (by rfl) T.m_enumerate (pa_cons (pe_callTy call_list_of (by rfl) T.m_list (by decide +kernel) (pa_cons (pe_fld (pv 0) rfl) pa_nil)) pa_nil)) (pg_tup rfl (pgs_cons (pg_name (i := 2) scSettingsFile___init__.nd rfl (.inl rfl)) (pgs_cons (pg_name (i := 3) scSettingsFile___init__.nd rfl (.inl rfl)) pgs_nil))) (pss_cons (ps_set (i := 4) scSettingsFile___init__.nd rfl (.inl rfl) (pe_meth (pv 0) T.cl_SettingsFile T.me_SettingsFile_take G_SettingsFile_take (hr.mono (by decide)) T.b_SettingsFile_take .nil pass0 (pa_cons (pv 3) pa_nil)))
      (pss_one (ps_if (pt_cmpR op_notN (pv 4) pe_non (nomark _)) (pss_one ps_never) pss_nil)))))))))), fun r H2 hx2 hr2' s2 nr => ?_⟩
      have cl := T.cl_SettingsFile
      have few : ∀ {l : List (Str × V)}, l.length ≤ 20 → l.length < 1000 := fun h => by omega
      have l1 : (flds1 t).length ≤ 1 := putF_len _ _ _
      have l2 : (flds2 t r).length ≤ 2 := Nat.le_trans (putF_len _ _ _) (by omega)
      refine ⟨Nat.zero_le _, fun h nh => ⟨.ref x, rfl, x, _, _, _, rfl, (by rw [upd_ne (ne_of_none hx2 nh)]; exact hx2), cl, T.no_SettingsFile_headers, few (by omega), ?_⟩⟩
      obtain ⟨H3, e3, x3, h3, k3, s3, nh0, hne⟩ := fldNew (o := .lst []) (fs' := flds3 t r h) hx2 nh s2 nx
      rw [show putF "headers" (V.ref h) (flds2 t r) = flds3 t r h from rfl, e3]
      have l3 : (flds3 t r h).length ≤ 3 := Nat.le_trans (putF_len _ _ _) (by omega)
      have r3 := k3 _ _ hr2' (lstNe hr2' hx2 (fun _ z => nomatch z))
      have rh : r ≠ h := ne_of_none hr2' nh
      intro sA nsA
      refine ⟨.ref x, rfl, x, _, _, _, rfl, (by rw [upd_ne (ne_of_none x3 nsA)]; exact x3), cl, T.no_SettingsFile_settings_read, few (by omega), ?_⟩
      obtain ⟨H4, e4, x4, s4', k4, s4, ns0, sne⟩ := fldNew (o := .dK []) (fs' := flds4 t r h sA) x3 nsA s3 nx
      rw [show putF "settings_read" (V.ref sA) (flds3 t r h) = flds4 t r h sA from rfl, e4]
      have l4 : (flds4 t r h sA).length ≤ 4 := Nat.le_trans (putF_len _ _ _) (by omega)
      have r4 := k4 _ _ r3 (lstNe r3 x3 (fun _ z => nomatch z))
      have h4 := k4 _ _ h3 hne
      intro kA nkA
      refine ⟨.ref x, rfl, x, _, _, _, rfl, (by rw [upd_ne (ne_of_none x4 nkA)]; exact x4), cl, T.no_SettingsFile_kept_read, few (by omega), ?_⟩
      obtain ⟨H5, e5, x5, k5', k5, s5, nk0, kne⟩ := fldNew (o := .dT []) (fs' := flds5 t r h sA kA) x4 nkA s4 nx
      rw [show putF "kept_read" (V.ref kA) (flds4 t r h sA) = flds5 t r h sA kA from rfl, e5]
      have l5 : (flds5 t r h sA kA).length ≤ 5 := Nat.le_trans (putF_len _ _ _) (by omega)
      have r5 := k5 _ _ r4 (lstNe r4 x4 (fun _ z => nomatch z))
      have h5 := k5 _ _ h4 hne
      have sA5 := k5 _ _ s4' sne
      intro bA nbA
      refine ⟨.ref x, rfl, x, _, _, _, rfl, (by rw [upd_ne (ne_of_none x5 nbA)]; exact x5), cl, T.no_SettingsFile_blocks, few (by omega), ?_⟩
      obtain ⟨H6, e6, x6, b6', k6, s6, nb0, bne⟩ := fldNew (o := .dK []) (fs' := flds6 t r h sA kA bA) x5 nbA s5 nx
      rw [show putF "blocks" (V.ref bA) (flds5 t r h sA kA) = flds6 t r h sA kA bA from rfl, e6]
      have l6 : (flds6 t r h sA kA bA).length ≤ 6 := Nat.le_trans (putF_len _ _ _) (by omega)
      have r6 := k6 _ _ r5 (lstNe r5 x5 (fun _ z => nomatch z))
      have h6 := k6 _ _ h5 hne
      have sA6 := k6 _ _ sA5 sne
      have kA6 := k6 _ _ k5' kne
      have sb : sA ≠ bA := ne_of_none sA5 nbA
      refine ⟨Nat.zero_le _, fun lA nlA => ⟨.ref x, rfl, x, _, _, _, rfl, (by rw [upd_ne (ne_of_none x6 nlA)]; exact x6), cl, T.no_SettingsFile_loose, few (by omega), ?_⟩⟩
      obtain ⟨H7, e7, x7, l7', k7, s7, nl0, lne⟩ := fldNew (o := .lst []) (fs' := flds t r h sA kA bA lA) x6 nlA s6 nx
      rw [show putF "loose" (V.ref lA) (flds6 t r h sA kA bA) = flds t r h sA kA bA lA from rfl, e7]
      have r7 := k7 _ _ r6 (lstNe r6 x6 (fun _ z => nomatch z))
      have h7 := k7 _ _ h6 hne
      have sA7 := k7 _ _ sA6 sne
      have kA7 := k7 _ _ kA6 kne
      have bA7 := k7 _ _ b6' bne
      have rl : r ≠ lA := ne_of_none r6 nlA
      have hl : h ≠ lA := ne_of_none h6 nlA
      -- the lines, one after another
      refine ⟨.ref x, rfl, x, _, _, _, _, rfl, x7, cl, T.no_SettingsFile_rows, f_rows _ _ _ _ _ _ _, r, _, rfl, .inl (SqL.of r7), fun c nc => ?_⟩
      have sc : Same H7 (upd H7 c (.lst ((rowsOf t).map V.str))) := same_new nc
      have hc : (upd H7 c (.lst ((rowsOf t).map V.str))) c = some (.lst ((rowsOf t).map V.str)) := upd_same
      have ncs : c ≠ x ∧ c ≠ r ∧ c ≠ h ∧ c ≠ sA ∧ c ≠ kA ∧ c ≠ bA ∧ c ≠ lA := ⟨(ne_of_none x7 nc).symm, (ne_of_none r7 nc).symm, (ne_of_none h7 nc).symm, (ne_of_none sA7 nc).symm, (ne_of_none kA7 nc).symm, (ne_of_none bA7 nc).symm, (ne_of_none l7' nc).symm⟩
      generalize upd H7 c (.lst ((rowsOf t).map V.str)) = H8 at sc hc
      let foot : Addr → Prop := fun b => b = x ∨ b = r ∨ b = h ∨ b = sA ∨ b = kA ∨ b = bA ∨ b = lA
      have dec : ∀ b, Decidable (foot b) := fun b => by unfold foot; infer_instance
      let G0 : Hp := fun b => if foot b then none else H8 b
      have gNone : ∀ b, foot b → G0 b = none := fun b hb => if_pos hb
      have gSome : ∀ b, ¬ foot b → G0 b = H8 b := fun b hb => if_neg hb
      have gSame : Same G0 H8 := fun b o e => by
        by_cases hb : foot b
        · rw [gNone b hb] at e; cases e
        · rw [gSome b hb] at e; exact e
      have gC : G0 c = some (.lst ((rowsOf t).map V.str)) := by
        rw [gSome c (fun hb => by
          obtain ⟨n1, n2, n3, n4, n5, n6, n7⟩ := ncs
          rcases hb with z | z | z | z | z | z | z
          · exact n1 z
          · exact n2 z
          · exact n3 z
          · exact n4 z
          · exact n5 z
          · exact n6 z
          · exact n7 z)]
        exact hc
      have gH0 : Same H0 G0 := fun b o e => by
        have hb : ¬ foot b := fun hb => by
          rcases hb with z | z | z | z | z | z | z
          · exact ne_of_none e nx z
          · exact ne_of_none e nr z
          · exact ne_of_none e nh0 z
          · exact ne_of_none e ns0 z
          · exact ne_of_none e nk0 z
          · exact ne_of_none e nb0 z
          · exact ne_of_none e nl0 z
        rw [gSome b hb]
        exact sc _ _ (s7 b o e)
      have f0 : FileP T.C_SettingsFile G0 H8 x t (rowsOf t) fs0 ⟨dx, r, h, sA, kA, bA, lA, []⟩ :=
        ⟨gSame, sc _ _ x7, sc _ _ r7, sc _ _ h7, sc _ _ sA7, sc _ _ kA7, sc _ _ bA7, sc _ _ l7', .nil, rh, rl, hl, sb, ⟨gNone _ (.inl rfl), gNone _ (.inr (.inl rfl)), gNone _ (.inr (.inr (.inl rfl))), gNone _ (.inr (.inr (.inr (.inl rfl)))), gNone _ (.inr (.inr (.inr (.inr (.inl rfl))))), gNone _ (.inr (.inr (.inr (.inr (.inr (.inl rfl)))))), gNone _ (.inr (.inr (.inr (.inr (.inr (.inr rfl))))))⟩, fs0_ok⟩
      refine ⟨c, _, rfl, SqL.of hc, for_it (walk_enum (xs := (rowsOf t).map V.str)) (fun i σ H3 => ∃ (fs : FS) (A : Parts) (y2 y3 y4 : Option V), σ = [some (.ref x), some (.str t), y2, y3, y4] ∧ FileP T.C_SettingsFile G0 H3 x t (rowsOf t) fs A ∧ runF fs0 ((rowsOf t).take i) = some fs ∧ Sm i fs) ?_ ?_ ?_ ?_⟩
      · exact ⟨fs0, _, none, none, none, rfl, f0, rfl, ⟨Nat.le_refl _, Nat.le_refl _, Nat.le_refl _, Nat.le_refl _, Nat.le_refl _⟩⟩
      · rintro i σ H9 _ ⟨fs, A', y2, y3, y4, _, f, _⟩
        exact SqL.of (f.same _ _ gC)
      · rintro i v σ H9 H10 hi ⟨fs, A', y2, y3, y4, rfl, f, hrun', sm⟩ ⟨tt, x1, x2, rfl, ntt, rfl, e1, e2⟩
        cases e1
        rw [List.length_map] at hi
        have hzi : (rowsOf t)[i]? = some (rowsOf t)[i] := List.getElem?_eq_getElem hi
        have ex2 : x2 = .str (rowsOf t)[i] := by
          have e2 : ((rowsOf t).map V.str)[i]? = some x2 := e2
          rw [List.getElem?_map, hzi] at e2
          exact (Option.some.inj e2).symm
        subst ex2
        obtain ⟨fs', hst, hrn⟩ := run_at hrun hzi hrun'
        have f2 := f.more (same_new (o := .tup [.int (i : Nat), .str (rowsOf t)[i]]) ntt)
        refine ⟨tt, _, rfl, SqT.of upd_same, rfl, _, _, rfl, _, _, rfl, rfl, ?_⟩
        refine ⟨.ref x, rfl, x, _, _, rfl, f2.ob, f_no _ _ _ _ _ _ _ (by decide +kernel) (by decide +kernel) (by decide +kernel) (by decide +kernel) (by decide +kernel) (by decide +kernel) (by decide +kernel), .str (rowsOf t)[i], rfl, G0, x, t, rowsOf t, fs, fs', A', _, rfl, f2, ?_, hr2 _ (List.getElem_mem hi), hst, fun H' A'' f3 => ?_⟩
        · obtain ⟨a1, a2, a3, a4, a5⟩ := sm
          constructor <;> omega
        · refine ⟨.non, rfl, rfl, _, rfl, iteNS rfl ?_⟩
          exact ⟨fs', A'', _, _, _, rfl, f3, hrn, sm.step hst⟩
      · rintro σ H9 ⟨fs, A', y2, y3, y4, rfl, f, hrun', sm⟩
        rw [List.length_map, List.take_of_length_le (Nat.le_refl _), hrun] at hrun'
        cases hrun'
        exact q _ _ (f.weaken gH0)
    refine ⟨_, (pss_cons (ps_if (pt_not (pt_val (pe_callB call_isi (by rfl) T.m_isinstance (by decide +kernel) (pa_cons (pv 1) (pa_cons (pe_bltn (v := .ty "str") (by rfl) T.m_str (by decide +kernel) rfl) pa_nil))))) (pss_one ps_never) pss_nil)
      (pss_cons (ps_fld (pv 0) (pv 1) rfl)
      (pss_cons (ps_fld (pv 0) (pe_ifExp (pt_cmpR op_ne (pv 1) pe_str (nomark _)) (pe_m1 F.slot_str_split F.type_str_split mt_split (pv 1) pe_str) (pe_lst pa_nil)) rfl)
      p2))), ?_⟩
    refine ⟨.str t, rfl, _, _, _, _, true, rfl, ClsV.ty "str", .base (.str t), kit_ty (by decide +kernel), true, rfl, iteF ?_⟩
    refine ⟨.str t, rfl, .ref x, rfl, x, _, _, _, rfl, hx0, T.cl_SettingsFile, T.no_SettingsFile_text, (by show 0 < 1000; decide), ?_⟩
    have x1 : (upd H x (.ins T.C_SettingsFile dx (flds1 t))) x = some (.ins T.C_SettingsFile dx (flds1 t)) := upd_same
    have s1 : Same H0 (upd H x (.ins T.C_SettingsFile dx (flds1 t))) := upd_off nx s0
    rw [show putF "text" (V.str t) [] = flds1 t from rfl]
    generalize upd H x (.ins T.C_SettingsFile dx (flds1 t)) = H1 at x1 s1
    have l1 : (flds1 t).length ≤ 1 := putF_len _ _ _
    refine ⟨.str t, rfl, rfl, _, rfl, ite2 (fun e => ?_) (fun e => ?_)⟩
    · have et : ¬ t = "" := fun h => by
        subst h
        cases e
      have hrw : rowsOf t = Txt.split t "\n" := if_neg et
      refine ⟨.str t, rfl, ⟨t, rfl⟩, t, _, rfl, rfl, rfl, Nat.le_trans (Nat.add_le_add_right ht 2) (by decide), fun r nr => ?_⟩
      rw [← hrw]
      refine ⟨.ref x, rfl, x, _, _, _, rfl, (by rw [upd_ne (ne_of_none x1 nr)]; exact x1), T.cl_SettingsFile, T.no_SettingsFile_rows, by omega, ?_⟩
      obtain ⟨H2, e2, x2, r2, k2, s2, nr0, rne⟩ := fldNew (o := .lst ((rowsOf t).map V.str)) (fs' := flds2 t r) x1 nr s1 nx
      rw [show putF "rows" (V.ref r) (flds1 t) = flds2 t r from rfl, e2]
      exact q2 r H2 x2 r2 s2 nr0
    · have et : t = "" := by
        by_cases h : t = ""
        · exact h
        · rw [eq_str, decide_eq_false h] at e
          exact absurd rfl e
      have hrw : (rowsOf t).map V.str = [] := by rw [show rowsOf t = [] from if_pos et]; rfl
      refine ⟨Nat.zero_le _, fun r nr => ?_⟩
      refine ⟨.ref x, rfl, x, _, _, _, rfl, (by rw [upd_ne (ne_of_none x1 nr)]; exact x1), T.cl_SettingsFile, T.no_SettingsFile_rows, by omega, ?_⟩
      obtain ⟨H2, e2, x2, r2, k2, s2, nr0, rne⟩ := fldNew (o := .lst []) (fs' := flds2 t r) x1 nr s1 nx
      rw [show putF "rows" (V.ref r) (flds1 t) = flds2 t r from rfl, e2]
      exact q2 r H2 x2 (by rw [hrw]; exact r2) s2 nr0
end
end K06

set_option Elab.async false
set_option linter.all false
set_option maxRecDepth 100000
namespace My
open PySem PySem.Spec PyProof.Rows L2
/-- a for in a generator over a walk -/
theorem gfor_it {J : It} {n : Nat} {G : Hp → Prop} {Y : Nat → Hp → V → Hp → Prop} (w : Walk J n G Y) {g : TG} {tb : TGn} {D : GEnds} {ys : List V} {σ : L2.St} {H : Hp} (Pv : Nat → List V → L2.St → Hp → Prop) (h0 : Pv 0 ys σ H) (hG : ∀ i ys σ H, i ≤ n → Pv i ys σ H → G H)
    (hs : ∀ i x ys σ H H', i < n → Pv i ys σ H → Y i H x H' → g x σ H' fun σ2 H2 => tb { D with nx := Pv (i + 1), ct := Pv (i + 1), bk := D.nx } ys σ2 H2) (hd : ∀ ys σ H, Pv n ys σ H → D.nx ys σ H) :
    ∃ W : Nat → Nat → List V → L2.St → Hp → Prop, (∃ m, W 0 m ys σ H) ∧ ∀ i m ys σ H, W i m ys σ H →
      (J.stop i H ∧ D.nx ys σ H) ∨ (J.go i H ∧ ∃ N : List V → L2.St → Hp → Prop, (∀ ys' σ' H', N ys' σ' H' → ∃ m', m' < m ∧ W (i + 1) m' ys' σ' H') ∧ ∀ x H', J.yld i H x H' → g x σ H' fun σ2 H2 => tb { D with nx := N, ct := N, bk := D.nx } ys σ2 H2) := by
  refine ⟨fun i m ys σ H => m = n - i ∧ i ≤ n ∧ Pv i ys σ H, ⟨n, by simp, Nat.zero_le _, h0⟩, ?_⟩
  rintro i m ys σ H ⟨rfl, hi, p⟩
  have q := hG i ys σ H hi p
  by_cases hlt : i < n
  · exact .inr ⟨w.goes i H hlt q, Pv (i + 1), fun ys' σ' H' p' => ⟨n - (i + 1), by omega, rfl, hlt, p'⟩, fun x H' y => hs i x ys σ H H' hlt p (w.yields i H x H' hlt q y)⟩
  · have e : i = n := by omega
    subst e
    exact .inl ⟨w.stops H q, hd ys σ H p⟩
/-- the value at a place -/
def valS (l : List (Str × Str)) (y : Str) : Option Str := (l.find? fun p => decide (p.1 = y)).map (·.2)
theorem val_get : ∀ (l : List (Str × Str)) (y : Str), valV (setKV l) (Sum.inr y : Key) = (valS l y).map V.str
  | [], _ => rfl
  | p :: r, y => by
    by_cases h : p.1 = y
    · have e : valS (p :: r) y = some p.2 := by
        unfold valS
        rw [List.find?_cons, show decide (p.1 = y) = true from decide_eq_true h]
        rfl
      rw [e]
      exact valV_pos (p := (Sum.inr p.1, V.str p.2)) (by show (Sum.inr p.1 : Key) = Sum.inr y; rw [h])
    · have e : valS (p :: r) y = valS r y := by
        unfold valS
        rw [List.find?_cons, show decide (p.1 = y) = false from decide_eq_false h]
      rw [e, ← val_get r y]
      exact valV_neg (p := (Sum.inr p.1, V.str p.2)) (by show ¬ (Sum.inr p.1 : Key) = Sum.inr y; exact fun z => h (Sum.inr.inj z))
theorem valS_some : ∀ (l : List (Str × Str)) (y : Str), (valS l y).isSome = decide (y ∈ l.map (·.1))
  | [], _ => rfl
  | p :: r, y => by
    by_cases h : p.1 = y
    · unfold valS
      rw [List.find?_cons, show decide (p.1 = y) = true from decide_eq_true h]
      exact (decide_eq_true (by rw [List.map_cons, h]; exact List.mem_cons_self ..)).symm
    · have e : valS (p :: r) y = valS r y := by
        unfold valS
        rw [List.find?_cons, show decide (p.1 = y) = false from decide_eq_false h]
      rw [e, valS_some r y]
      refine decide_eq_decide.mpr ⟨fun m => ?_, fun m => ?_⟩
      · rw [List.map_cons]; exact List.mem_cons_of_mem _ m
      · rw [List.map_cons] at m
        rcases List.mem_cons.mp m with z | z
        · exact absurd z.symm h
        · exact z
theorem valS_at : ∀ {l : List (Str × Str)} {i : Nat} {p : Str × Str}, (l.map (·.1)).Nodup → l[i]? = some p → valS l p.1 = some p.2
  | [], i, p, _, e => by simp at e
  | a :: r, 0, p, _, e => by
    cases (Option.some.inj e : a = p)
    unfold valS
    rw [List.find?_cons, show decide (a.1 = a.1) = true from decide_eq_true rfl]
    rfl
  | a :: r, i + 1, p, h, e => by
    have e2 : r[i]? = some p := e
    have hr := List.nodup_cons.mp (show (a.1 :: r.map (·.1)).Nodup from h)
    have ne : ¬ a.1 = p.1 := fun z => hr.1 (by rw [z]; exact List.mem_map.mpr ⟨p, List.mem_of_getElem? e2, rfl⟩)
    have : valS (a :: r) p.1 = valS r p.1 := by
      unfold valS
      rw [List.find?_cons, show decide (a.1 = p.1) = false from decide_eq_false ne]
    rw [this]
    exact valS_at hr.2 e2
theorem keys_map (l : List (Str × Str)) : ((setKV l).map fun kv => kV kv.1) = (l.map (·.1)).map V.str := by
  unfold setKV
  rw [List.map_map, List.map_map]
  rfl
theorem setKV_len (l : List (Str × Str)) : (setKV l).length = l.length := by unfold setKV; rw [List.length_map]
theorem setKV_at {l : List (Str × Str)} {i : Nat} {k : Key} {v : V} (h : (setKV l)[i]? = some (k, v)) : ∃ p, l[i]? = some p ∧ k = .inr p.1 ∧ v = .str p.2 := by
  unfold setKV at h
  rw [List.getElem?_map] at h
  cases e : l[i]? with
  | none => rw [e] at h; cases h
  | some p => rw [e] at h; cases h; exact ⟨p, rfl, rfl, rfl⟩
/-- the pairs (place, value) as they stand -/
def PairsAt (H : Hp) : List V → List (Str × Str) → Prop := Paired fun v p => ∃ a, v = .ref a ∧ H a = some (.tup [.str p.1, .str p.2])
theorem PairsAt.same {H H' : Hp} (s : Same H H') : ∀ {vs : List V} {l : List (Str × Str)}, PairsAt H vs l → PairsAt H' vs l
  | _, _, .nil => .nil
  | _, _, .cons ⟨a, e, h⟩ t => .cons ⟨a, e, s _ _ h⟩ (PairsAt.same s t)
end My
set_option Elab.async false
set_option linter.all false
set_option maxRecDepth 100000
set_option maxHeartbeats 2000000
namespace K06
open PySem PySem.Spec PyProof.Rows L2 My SkE
/-- whether an object is a place of the settings -/
def inS (l : List (Str × Str)) : V → Bool := ofText fun z => decide (z ∈ l.map (·.1))
/-- whether an object is the name of a block -/
def inB (l : List (Str × List Str)) : V → Bool := ofText fun z => decide (z ∈ l.map (·.1))
section
variable {P : Program} {w : World} {K : PySem.W.Frag} {mg : Str → Option Value} {base : Heap}
def sp_SettingsFile___contains__ (K : PySem.W.Frag) (T : Top K mg) : Sp := fun vs H Q _ => ∃ (H0 : Hp) (x : Addr) (t : Str) (rows : List Str) (fs : FS) (A : Parts) (v : V), vs = [.ref x, v] ∧ FileP T.C_SettingsFile H0 H x t rows fs A ∧ Ask K H v ∧ Q (.bl (inS fs.settings v)) H
theorem ok_SettingsFile___contains__ (T : Top K mg) : FnOk P w K mg base CX0 1 T.f_SettingsFile___contains__ T.d_SettingsFile___contains__ ["self", "x"] (sp_SettingsFile___contains__ K T) := by
  refine T.F_SettingsFile___contains__.ok scSettingsFile___contains__ (fun vs H Q E h => ?_) (fun cdv A outer s H vs Q E hr h => ?_)
  · obtain ⟨H0, x, t, rows, fs, A, v, rfl, _⟩ := h
    rfl
  · obtain ⟨H0, x, t, rows, fs, A, v, rfl, f, hv, q⟩ := h
    refine ⟨_, (pss_one (ps_ret (pe_and (pe_callB call_isi (by rfl) T.m_isinstance (by decide +kernel) (pa_cons (pv 1) (pa_cons (pe_bltn (v := .ty "str") (by rfl) T.m_str (by decide +kernel) rfl) pa_nil))) (pe_one (pe_cmp (pc_din (hu_of hr) (pv 1) (pe_fld (pv 0) rfl)) rfl))))), ?_⟩
    rcases hv with ⟨z, rfl, hz⟩ | ⟨hno, ty, ht, hk⟩
    · refine ⟨.str z, rfl, _, _, _, _, true, rfl, ClsV.ty "str", .base (.str z), kit_ty (by decide +kernel), true, rfl, iteT ?_⟩
      refine ⟨.str z, rfl, .ref x, rfl, x, _, _, _, _, rfl, f.ob, T.cl_SettingsFile, T.no_SettingsFile_settings_read, f_settings _ _ _ _ _ _ _, A.s, _, rfl, DGet.k (k := Sum.inr z) f.es, ?_⟩
      have e : (valV (setKV fs.settings) (Sum.inr z : Key)).isSome = inS fs.settings (.str z) := by
        rw [val_get, Option.isSome_map, valS_some]
        rfl
      rw [e]
      exact q
    · refine ⟨v, rfl, _, _, _, _, false, rfl, ClsV.ty "str", ht, kit_ty hk, false, rfl, iteF ?_⟩
      have e : inS fs.settings v = false := hno _
      rw [e] at q
      exact q
def sp_NoPlace___init__ (K : PySem.W.Frag) (T : Top K mg) : Sp := fun vs H Q _ => ∃ (a : Addr) (v : V), vs = [.ref a, v] ∧ H a = some (exo a T.C_NoPlace none) ∧ ∀ dx, H dx = none → dx ≠ a → Q .non (upd (upd H dx (exd dx [("place", v)])) a (exo a T.C_NoPlace (some dx)))
theorem ok_NoPlace___init__ (T : Top K mg) : FnOk P w K mg base CX0 1 T.f_NoPlace___init__ T.d_NoPlace___init__ ["self", "place"] (sp_NoPlace___init__ K T) := by
  refine T.F_NoPlace___init__.ok scNoPlace___init__ (fun vs H Q E h => ?_) (fun cdv A outer s H vs Q E hr h => ?_)
  · obtain ⟨a, v, rfl, _⟩ := h
    rfl
  · obtain ⟨a, v, rfl, ha, q⟩ := h
    refine ⟨_, (pss_one (ps_ostB (pv 0) (pv 1))), ?_⟩
    exact ⟨v, rfl, .ref a, rfl, a, T.C_NoPlace, _, _, _, _, rfl, T.ox_NoPlace, T.nf_NoPlace_place, .inl ⟨ha, fun dx n ne => q dx n ne⟩⟩
/-- NoPlace(v) is raised: what it leaves -/
theorem mk_place (T : Top K mg) {H : Hp} {v : V} {R : XK} (hR : ∀ H' d, Same H H' → H d = none → H' d = some (.xd [("place", v)]) → R (.ref T.C_NoPlace) (some d) H') : ∀ a, H a = none → sp_NoPlace___init__ K T [.ref a, v] (upd H a (exo a T.C_NoPlace none))
    (fun u H2 => u = .non ∧ ∃ (d : Addr) (fs : List (Str × V)), H2 a = some (exo a T.C_NoPlace (some d)) ∧ H2 d = some (exd d fs) ∧ H d = none ∧ R (.ref T.C_NoPlace) (some d) (upd (del H2 a) d (.xd fs))) (fun _ _ _ => False) := by
  intro a na
  refine ⟨a, v, rfl, upd_same, fun d nd ne => ?_⟩
  have nd1 : H d = none := by rw [upd_ne ne] at nd; exact nd
  refine ⟨rfl, d, [("place", v)], upd_same, by rw [upd_ne ne, upd_same], nd1, hR _ d (fun b o eb => ?_) nd1 upd_same⟩
  have b1 : b ≠ d := fun z => by rw [z, nd1] at eb; cases eb
  have b2 : b ≠ a := fun z => by rw [z, na] at eb; cases eb
  rw [upd_ne b1, del_ne b2, upd_ne b2, upd_ne b1, upd_ne b2]
  exact eb
/-- file.value(v): the value of a place, or NoPlace with the object -/
def sp_SettingsFile_value (K : PySem.W.Frag) (T : Top K mg) : Sp := fun vs H Q E => ∃ (H0 : Hp) (x : Addr) (t : Str) (rows : List Str) (fs : FS) (A : Parts) (v : V), vs = [.ref x, v] ∧ FileP T.C_SettingsFile H0 H x t rows fs A ∧ Ask K H v ∧
  (∀ y u, v = .str y → valS fs.settings y = some u → Q (.str u) H) ∧ (inS fs.settings v = false → ∀ H' d, Same H H' → H d = none → H' d = some (.xd [("place", v)]) → E (.ref T.C_NoPlace) (some d) H')
theorem ok_SettingsFile_value (T : Top K mg) : FnOk P w K mg base (L2.CX P w) 3 T.f_SettingsFile_value T.d_SettingsFile_value ["self", "place"] (sp_SettingsFile_value K T) := by
  have G : FnOk P w K mg base CX0 1 T.f_SettingsFile___contains__ T.d_SettingsFile___contains__ ["self", "x"] (sp_SettingsFile___contains__ K T) := ok_SettingsFile___contains__ T
  have GI : FnOk P w K mg base CX0 1 T.f_NoPlace___init__ T.d_NoPlace___init__ ["self", "place"] (sp_NoPlace___init__ K T) := ok_NoPlace___init__ T
  refine T.F_SettingsFile_value.okX scSettingsFile_value (fun vs H Q E h => ?_) (fun cdv A outer s H vs Q E hr h => ?_)
  · obtain ⟨H0, x, t, rows, fs, A, v, rfl, _⟩ := h
    rfl
  · obtain ⟨H0, x, t, rows, fs, A', v, rfl, f, hv, q1, q2⟩ := h
    refine ⟨_, (pss_cons (ps_if (pt_cmpR (op_notInOwn T.me_SettingsFile___contains__ G (hr.mono (by decide)) T.b_SettingsFile___contains__) (pv 1) (pv 0) (by rfl))
        (pss_one (ps_raise rfl (takes_of rfl rfl rfl rfl) (pmk_oexB T.ox_NoPlace T.ei_NoPlace T.et_NoPlace GI hr T.b_NoPlace___init__ (by rfl) T.g_NoPlace (pa_cons (pv 1) pa_nil)))) pss_nil)
      (pss_one (ps_ret (pe_dget (hu_of hr) (pe_fld (pv 0) rfl) (pv 1) (fun _ _ => rfl))))), ?_⟩
    refine ⟨v, rfl, .ref x, rfl, x, _, _, rfl, f.ob, ⟨H0, x, t, rows, fs, A', v, rfl, f, hv, _, rfl, _, rfl, ?_⟩⟩
    cases hi : inS fs.settings v with
    | false => exact iteT ⟨v, rfl, by show 1 ≤ 1000; decide, mk_place T (q2 hi)⟩
    | true =>
      obtain ⟨y, rfl⟩ : ∃ y, v = .str y := by
        cases v with
        | str y => exact ⟨y, rfl⟩
        | _ => cases hi
      obtain ⟨u, hu⟩ : ∃ u, valS fs.settings y = some u := by
        have hi : decide (y ∈ fs.settings.map (·.1)) = true := hi
        rw [← valS_some] at hi
        exact Option.isSome_iff_exists.mp hi
      refine iteF ⟨.ref x, rfl, x, _, _, _, _, rfl, f.ob, T.cl_SettingsFile, T.no_SettingsFile_settings_read, f_settings _ _ _ _ _ _ _, .str y, rfl, A'.s, .str u, rfl, (by
        have := DGet.k (k := (Sum.inr y : Key)) f.es
        rw [val_get, hu] at this
        exact this), q1 y u rfl hu⟩
/-- file.block(v): a new list, or NoPlace with the object -/
def sp_SettingsFile_block (K : PySem.W.Frag) (T : Top K mg) : Sp := fun vs H Q E => ∃ (H0 : Hp) (x : Addr) (t : Str) (rows : List Str) (fs : FS) (A : Parts) (v : V), vs = [.ref x, v] ∧ FileP T.C_SettingsFile H0 H x t rows fs A ∧ Ask K H v ∧
  (inB fs.blocks v = true → ∀ H' p ls, Same H H' → H p = none → H' p = some (.lst ls) → Q (.ref p) H') ∧ (inB fs.blocks v = false → ∀ H' d, Same H H' → H d = none → H' d = some (.xd [("place", v)]) → E (.ref T.C_NoPlace) (some d) H')
theorem ok_SettingsFile_block (T : Top K mg) : FnOk P w K mg base (L2.CX P w) 3 T.f_SettingsFile_block T.d_SettingsFile_block ["self", "thing"] (sp_SettingsFile_block K T) := by
  have GI : FnOk P w K mg base CX0 1 T.f_NoPlace___init__ T.d_NoPlace___init__ ["self", "place"] (sp_NoPlace___init__ K T) := ok_NoPlace___init__ T
  refine T.F_SettingsFile_block.okX scSettingsFile_block (fun vs H Q E h => ?_) (fun cdv A outer s H vs Q E hr h => ?_)
  · obtain ⟨H0, x, t, rows, fs, A, v, rfl, _⟩ := h
    rfl
  · obtain ⟨H0, x, t, rows, fs, A', v, rfl, f, hv, q1, q2⟩ := h
    refine ⟨_, (pss_cons (ps_if (PW.pt (pw_or (pt_not (pt_val (pe_callB call_isi (by rfl) T.m_isinstance (by decide +kernel) (pa_cons (pv 1) (pa_cons (pe_bltn (v := .ty "str") (by rfl) T.m_str (by decide +kernel) rfl) pa_nil))))) (pw_or1 (pt_cmp (pc_dnotin (hu_of hr) (pv 1) (pe_fld (pv 0) rfl))))))
        (pss_one (ps_raise rfl (takes_of rfl rfl rfl rfl) (pmk_oexB T.ox_NoPlace T.ei_NoPlace T.et_NoPlace GI hr T.b_NoPlace___init__ (by rfl) T.g_NoPlace (pa_cons (pv 1) pa_nil)))) pss_nil)
      (pss_one (ps_ret (pe_callTy call_list_of (by rfl) T.m_list (by decide +kernel) (pa_cons (pe_dget (hu_of hr) (pe_fld (pv 0) rfl) (pv 1) (fun _ _ => rfl)) pa_nil))))), ?_⟩
    rcases hv with ⟨y, rfl, hy⟩ | ⟨hno, ty, ht, hk⟩
    rotate_left
    · refine ⟨v, rfl, _, _, _, _, false, rfl, ClsV.ty "str", ht, kit_ty hk, false, rfl, iteT (iteT ?_)⟩
      exact ⟨v, rfl, by show 1 ≤ 1000; decide, mk_place T (q2 (hno _))⟩
    refine ⟨.str y, rfl, _, _, _, _, true, rfl, ClsV.ty "str", .base (.str y), kit_ty (by decide +kernel), true, rfl, iteF ?_⟩
    refine ⟨.str y, rfl, .ref x, rfl, x, _, _, _, _, rfl, f.ob, T.cl_SettingsFile, T.no_SettingsFile_blocks, f_blocks _ _ _ _ _ _ _, A'.b, _, rfl, DGet.k (k := Sum.inr y) f.eb, _, rfl, ?_⟩
    have names : A'.bl.map (·.1) = fs.blocks.map (·.1) := blk_names (fun _ _ h => h.1) f.bs
    cases hb : valB fs.blocks y with
    | none =>
      have ni : y ∉ fs.blocks.map (·.1) := fun h => by
        obtain ⟨p, hp, e⟩ := List.mem_map.mp h
        unfold valB at hb
        rw [Option.map_eq_none_iff, List.find?_eq_none] at hb
        exact hb p hp (decide_eq_true e)
      rw [val_blk (by rw [names]; exact ni)]
      refine iteT ⟨.str y, rfl, by show 1 ≤ 1000; decide, mk_place T (q2 (decide_eq_false ni))⟩
    | some ls =>
      obtain ⟨a, va, ha⟩ := val_block f.bs hb
      rw [va]
      have yi : y ∈ fs.blocks.map (·.1) := by
        unfold valB at hb
        rw [Option.map_eq_some_iff] at hb
        obtain ⟨p, hp, _⟩ := hb
        have e := List.find?_some hp
        exact List.mem_map.mpr ⟨p, List.mem_of_find?_eq_some hp, of_decide_eq_true e⟩
      refine iteF ⟨.ref x, rfl, x, _, _, _, _, rfl, f.ob, T.cl_SettingsFile, T.no_SettingsFile_blocks, f_blocks _ _ _ _ _ _ _, .str y, rfl, A'.b, .ref a, rfl, (by rw [← va]; exact DGet.k (k := Sum.inr y) f.eb), a, _, rfl, .inl (SqL.of ha), fun p np => ?_⟩
      exact q1 (decide_eq_true yi) _ p _ (same_new np) np upd_same
end
end K06

set_option Elab.async false
set_option linter.all false
set_option maxRecDepth 100000
namespace My
open PySem PySem.Spec PyProof.Rows L2
section
variable {P : Program} {w : World} {A : Around} {E : Value → Shared → Prop} {s : Shared}
/-- a new set, as it is made -/
def set0 (w : World) : Obj := { cls := .type "set", dict := none, data := .set #[] 0 (.fresh 0 0 (!w.params.followText "set-order")) }
set_option maxHeartbeats 3200000 in
theorem set_pre {x : Value} {D : Heap → Prop} {Q : Value → Shared → Prop}
    (hin : ∀ R : Result → Shared → Prop, (∀ (h' : Heap) (tk : Nat), D h' → R (.ok (.ret .none)) { s with heap := h', toks := tk }) →
      wpAny (model P w) A.in1.in1 (Builtin.«set.__init__» { pos := [.ref s.heap.objs.size, x] }) (fun fin s' => match fin with
        | .done f => R (.ok f) s'
        | .again c' => c'.quiet = true ∧ codeAny (model P w) A.in1 c' R s') (fun e s' => R (.error e) s') { s with heap := s.heap.push (set0 w) })
    (h : ∀ (h' : Heap) (tk : Nat), D h' → Q (.ref s.heap.objs.size) { s with heap := h', toks := tk }) :
    wpAny (model P w) A (call (.type "set") [x]) Q E s := by
  obtain ⟨_, _, mro⟩ := F.called_set.mro
  have q1 := F.called_set.made
  have q2 := F.called_set.sub
  have q3 := F.called_set.notType
  have q4 := F.called_set.canCreate
  have q5 := F.typeCall_set_1 x
  refine wpAny_call (codeAny_of_tree ?_)
  change wpAny _ _ (callAny (.type "set") _) _ _ _
  refine wpAny_pure ⟨Code.quiet_builtin _ (by decide +kernel), ?_⟩
  refine codeAny_builtin F.entry_type_call ?_
  rw [Around.under_plain (weight_type_call_type "set" [x] []) rfl]
  repeat (any_goals (first | assumption | wp_step))
  refine codeAny_mono (code_set_led1 x (E := E) (Q₁ := fun o s1 => o = .ref s.heap.objs.size ∧ s1 = { s with heap := s.heap.push (set0 w) }) ⟨rfl, rfl⟩) ?_
  rintro (e | fl) s1 hr
  · exact hr
  · cases fl with
    | ret o =>
      obtain ⟨rfl, rfl⟩ := hr
      have g0 : (s.heap.push (set0 w)).get? s.heap.objs.size = some (set0 w) := Heap.get?_push_size _ rfl
      have ty : Shared.TypeIs { s with heap := s.heap.push (set0 w) } (.ref s.heap.objs.size) "set" := ⟨_, g0, rfl⟩
      have q6 := F.called_set.init.lookup
      have q7 := F.called_set.init.bind (.ref s.heap.objs.size)
      repeat (any_goals (first | assumption | wp_step))
      refine codeAny_mono (codeAny_call_builtin (R := wants (fun r s2 => r = .none ∧ ∃ h' tk, s2 = { s with heap := h', toks := tk } ∧ D h') E) F.called_set.init.plain F.entry_set_init (check_set_init_1 ty ?_)) ?_
      · exact hin _ fun h' tk d => ⟨rfl, h', tk, rfl, d⟩
      · rintro (e | fl) s2 hr2
        · exact hr2
        · cases fl with
          | ret r =>
            obtain ⟨rfl, h', tk, rfl, hd⟩ := hr2
            repeat (any_goals (first | assumption | wp_step))
            exact h _ _ hd
          | _ => exact hr2.elim
    | _ => exact hr.elim
theorem none_beyond {h : Heap} {b : Addr} (hb : h.objs.size ≤ b) : h.get? b = none := by
  cases q : h.get? b with
  | none => rfl
  | some o => exact absurd (Nat.lt_of_lt_of_le (Heap.lt_size q) hb) (Nat.lt_irrefl _)
set_option maxHeartbeats 3200000 in
/-- set(xs) of a list of ints, with its order led -/
theorem set_listI {l : Addr} {items : Array Value} (ns : List Int) {Q : Value → Shared → Prop} (hh : A.handled = none) (hl : s.heap.IsList l items) (hit : IntsAre items.toList ns) (few : ns.length + 1 < scanBound)
    (h : ∀ (h' : Heap) (tk c : Nat), SetR w h' s.heap.objs.size (fun j => decide (j ∈ ns)) c → c ≤ ns.length → (∀ b o, s.heap.get? b = some o → h'.get? b = some o) → Q (.ref s.heap.objs.size) { s with heap := h', toks := tk }) :
    wpAny (model P w) A (call (.type "set") [.ref l]) Q E s := by
  have many : items.size = ns.length := by
    rw [← IntsAre.length hit, Array.length_toList]
  refine set_pre (D := fun h' => ∃ c, SetR w h' s.heap.objs.size (fun j => decide (j ∈ ns)) c ∧ c ≤ ns.length ∧ ∀ b o, s.heap.get? b = some o → h'.get? b = some o) (fun R hR => ?_) (fun h' tk ⟨c, a1, a2, a3⟩ => h h' tk c a1 a2 a3)
  obtain ⟨⟨cls, dict, data, slots⟩, at_l, hcl, nl, hdl⟩ := hl
  simp only at hcl hdl
  subst hcl; subst hdl
  have at2 : (s.heap.push (set0 w)).get? l = some { cls := .type "list", dict := dict, data := .seq items nl, slots := slots } := Heap.get?_push_of_some _ at_l
  have k1 := F.sub_list_set
  have k2 := F.sub_list_frozenset
  have k3 : (Value.type "list" == Value.type "dict") = false := by decide
  have isl : (s.heap.push (set0 w)).IsList l items := ⟨_, at2, rfl, nl, rfl⟩
  unfold Builtin.«set.__init__» noKeywords Builtin.Frozenset.updateFrom
  generalize ePI : pyIter = PI
  wp_walk
  subst ePI
  refine wpAny_pyIter_list isl (wpAny_bind (wpAny_runValue ?_))
  have lS : l < s.heap.objs.size := Heap.lt_size at_l
  have l1 : l ≠ (s.heap.push (set0 w)).objs.size := by rw [Heap.size_push]; exact Nat.ne_of_lt (Nat.lt_succ_of_lt lS)
  have l2 : s.heap.objs.size ∉ [(s.heap.push (set0 w)).objs.size, l] := by
    rw [Heap.size_push]
    intro z
    rcases List.mem_cons.mp z with z | z
    · exact Nat.ne_of_lt (Nat.lt_succ_self _) z
    · exact Nat.ne_of_gt lS (List.mem_singleton.mp z)
  refine set_update_ints ((Walks.list (by simp [hh]) _ l l1 items).toS) s.heap.objs.size l2 ns many few (fun i v hv => ?_) (items.size - 0) 0 _ (by omega) (Nat.zero_le _) ⟨⟨_, Heap.get?_push_size _ rfl, rfl, rfl⟩, isl.push _⟩ ⟨0, Nat.le_refl 0, setR_new_at (Heap.get?_push_of_some _ (Heap.get?_push_size _ rfl))⟩ ?_
  · have hi : i < ns.length := by rw [← many]; exact (Array.getElem?_eq_some_iff.mp hv).1
    obtain ⟨t, e⟩ := IntsAre.int_at hit i v (by rw [Array.getElem?_toList]; exact hv)
    refine ⟨ns[i], t, List.getElem?_eq_getElem hi, ?_⟩
    rw [e, List.getD_eq_getElem?_getD, List.getElem?_eq_getElem hi]
    rfl
  · rintro ⟨h', g2, d2, tk', os'⟩ c mv hc hS
    have eg : g2 = s.gens := mv.gens
    have ed : d2 = s.drawn := mv.drawn
    have eo : os' = s.os := mv.os
    subst eg; subst ed; subst eo
    refine wpAny_pure (wpAny_pure (hR h' tk' ⟨c, hS, by omega, fun b o e => ?_⟩))
    have b0 : b < s.heap.objs.size := Heap.lt_size e
    refine mv.heap b o (fun z => ?_) (Heap.get?_push_of_some _ (Heap.get?_push_of_some _ e))
    rw [Heap.size_push] at z
    rcases List.mem_cons.mp z with z | z
    · exact Nat.ne_of_lt b0 z
    · exact Nat.ne_of_lt (Nat.lt_succ_of_lt b0) (List.mem_singleton.mp z)
set_option maxHeartbeats 3200000 in
/-- set(t) of a tuple of tuples of ints -/
theorem set_tupT {l : Addr} {items : Array Value} (ks : List (Addr × List Int)) {Q : Value → Shared → Prop} (hh : A.handled = none) (hl : s.heap.IsTuple l items) (hit : items.toList = ks.map fun p => Value.ref p.1)
    (hk : ∀ p ∈ ks, IsTupleKey (intKind P w) s.heap p.2 p.1) (few : ks.length < 64) (hu : A.units + 3 < cLine)
    (h : ∀ (h' : Heap) (tk : Nat) L es ep t, SetTR P w h' s.heap.objs.size L es ep t → Got ks ks.length L → (∀ b o, s.heap.get? b = some o → h'.get? b = some o) → Q (.ref s.heap.objs.size) { s with heap := h', toks := tk }) :
    wpAny (model P w) A (call (.type "set") [.ref l]) Q E s := by
  have many : items.size = ks.length := by
    have q := congrArg List.length hit
    rw [Array.length_toList, List.length_map] at q
    exact q
  refine set_pre (D := fun h' => ∃ L es ep t, SetTR P w h' s.heap.objs.size L es ep t ∧ Got ks ks.length L ∧ ∀ b o, s.heap.get? b = some o → h'.get? b = some o) (fun R hR => ?_) (fun h' tk ⟨L, es, ep, t, a1, a2, a3⟩ => h h' tk L es ep t a1 a2 a3)
  obtain ⟨⟨cls, dict, data, slots⟩, at_l, hcl, nl, hdl⟩ := hl
  simp only at hcl hdl
  subst hcl; subst hdl
  have at2 : (s.heap.push (set0 w)).get? l = some { cls := .type "tuple", dict := dict, data := .seq items nl, slots := slots } := Heap.get?_push_of_some _ at_l
  have k1 := F.sub_tuple_set
  have k2 := F.sub_tuple_frozenset
  have k3 : (Value.type "tuple" == Value.type "dict") = false := by decide
  have isl : (s.heap.push (set0 w)).IsTuple l items := ⟨_, at2, rfl, nl, rfl⟩
  unfold Builtin.«set.__init__» noKeywords Builtin.Frozenset.updateFrom
  generalize ePI : pyIter = PI
  wp_walk
  subst ePI
  refine wpAny_pyIter_tuple isl (wpAny_bind (wpAny_runValue ?_))
  have lS : l < s.heap.objs.size := Heap.lt_size at_l
  have l1 : l ≠ (s.heap.push (set0 w)).objs.size := by rw [Heap.size_push]; exact Nat.ne_of_lt (Nat.lt_succ_of_lt lS)
  have l2 : s.heap.objs.size ∉ [(s.heap.push (set0 w)).objs.size, l] := by
    rw [Heap.size_push]
    intro z
    rcases List.mem_cons.mp z with z | z
    · exact Nat.ne_of_lt (Nat.lt_succ_self _) z
    · exact Nat.ne_of_gt lS (List.mem_singleton.mp z)
  refine set_update_tups ((Walks.tuple (by simp [hh]) _ l l1 items).toS) s.heap.objs.size l2 ks many few (fun i v hv => ?_) s.heap hk (none_beyond (Nat.le_refl _)) (fun b hb => none_beyond ?_) hu (items.size - 0) 0 _ (by omega) (Nat.zero_le _) ⟨⟨_, Heap.get?_push_size _ rfl, rfl, rfl⟩, isl.push _⟩ (fun b o e => Heap.get?_push_of_some _ (Heap.get?_push_of_some _ e)) ⟨[], #[], 0, _, setTR_fresh (Heap.get?_push_of_some _ (Heap.get?_push_size _ rfl)), Got.zero ks⟩ ?_
  · have q : items.toList[i]? = some v := by rw [Array.getElem?_toList]; exact hv
    rw [hit, List.getElem?_map] at q
    cases hq : ks[i]? with
    | none => rw [hq] at q; cases q
    | some p => rw [hq] at q; exact ⟨p, rfl, (Option.some.inj q).symm⟩
  · rw [List.mem_singleton.mp hb, Heap.size_push]
    exact Nat.le_succ _
  · rintro ⟨h', g2, d2, tk', os'⟩ L es ep t mv hS got keep
    have eg : g2 = s.gens := mv.gens
    have ed : d2 = s.drawn := mv.drawn
    have eo : os' = s.os := mv.os
    subst eg; subst ed; subst eo
    rw [many] at got
    exact wpAny_pure (wpAny_pure (hR h' tk' ⟨L, es, ep, t, hS, got, keep⟩))
end
end My
set_option Elab.async false
set_option linter.all false
set_option maxRecDepth 100000
namespace My
open PySem PySem.Spec PyProof.Rows L2
section
variable {X : Cx}
/-- set(xs), xs a list of ints -/
def rSetOfI (K : PySem.W.Frag) (w : World) : List V → Hp → VK → Prop := fun xs H Q => ∃ (l : Addr) (ns : List Int), xs = [V.ref l] ∧ SqL K H l (ns.map V.int) ∧ ns.length ≤ 1000 ∧
  ∀ a c, H a = none → c ≤ ns.length → Q (.ref a) (upd H a (SetO w a (fun j => decide (j ∈ ns)) c))
theorem cr_setOfI (hc : X.calm = true) : CallR X (.type "set") (rSetOfI X.K X.w) := by
  intro pins s σ H xs us Q I r h
  obtain ⟨l, ns, rfl, hl, few, q⟩ := h
  rw [Vals.ref1 r]
  obtain ⟨its, rv, pl, hz⟩ := I.list hl
  refine set_listI ns (I.ok.hd hc) pl.isList (by simpa using rv.ints) (by unfold scanBound; omega) fun h' tk c R hcl k => ?_
  exact ⟨.ref s.heap.objs.size, upd H _ (SetO X.w _ _ c), I.laid (t' := tk) k (Nat.le_refl _) (setO_new R), rfl, q _ c (I.hok.fresh (Nat.le_refl _)) hcl⟩
/-- set(t), t a tuple of tuples of ints -/
def rSetOfTT (K : PySem.W.Frag) (P : Program) (w : World) : List V → Hp → VK → Prop := fun xs H Q => ∃ (l : Addr) (ks : List (Addr × List Int)), xs = [V.ref l] ∧ SqT K H l (ks.map fun p => V.ref p.1) ∧
  (∀ p ∈ ks, SqT K H p.1 (p.2.map V.int)) ∧ ks.length < 64 ∧
  ∀ a L, H a = none → (∀ p ∈ L, p ∈ ks) → (∀ p ∈ ks, p.2 ∈ L.map (·.2)) → Q (.ref a) (upd H a (SetTO P w a L))
theorem cr_setOfTT (hc : X.calm = true) (hu : X.A.units + 64 < cLine) : CallR X (.type "set") (rSetOfTT X.K X.prog X.w) := by
  intro pins s σ H xs us Q I r h
  obtain ⟨l, ks, rfl, hl, hk, few, q⟩ := h
  rw [Vals.ref1 r]
  obtain ⟨its, rv, pl, hz⟩ := I.tuple hl
  refine set_tupT (P := X.prog) (w := X.w) ks (I.ok.hd hc) pl (by simpa using refs_of_vals rv) (fun p hp => I.isT (hk p hp)) few (by omega) fun h' tk L es ep t R g k => ?_
  refine ⟨.ref s.heap.objs.size, upd H _ (SetTO X.prog X.w _ L), I.laid (t' := tk) k (Nat.le_refl _) (setTO_new R.t0), rfl, q _ L (I.hok.fresh (Nat.le_refl _)) (fun p hp => List.mem_of_mem_take (g.sub p hp)) fun p hp => g.all p ?_⟩
  rw [List.take_length]; exact hp
end
end My
set_option Elab.async false
set_option linter.all false
set_option maxRecDepth 100000
/-! Sets of tuples whose parts are keys of any kind (ints and texts among them). The table's own theory (TabOk, go_spec, relaid_ok) is the library's. -/
namespace My
open PySem PySem.Spec PyProof.Rows L2
section
variable {P : Program} {w : World} {A : Around} {E : Value → Shared → Prop} {s : Shared} {κ : Type} [DecidableEq κ] {kd : KeyKind P w κ}
abbrev Tp (kd : KeyKind P w κ) (h : Heap) (k : List κ) (b : Addr) : Prop := IsTupleKey kd h k b
abbrev hsh (kd : KeyKind P w κ) (k : List κ) : Int := tupleKeyHash kd k
theorem nref {v : Value} (h : carriedByValue v = true) : (∀ n, ofAClassStatement n v = pure false) ∧ ∃ b, ∀ n, hashByValue n v = pure b := by
  cases v with
  | ref a => simp [carriedByValue] at h
  | float b t => exact ⟨fun n => by cases n <;> rfl, (Float64.hash? b).isSome, fun n => by cases n <;> rfl⟩
  | _ =>
    refine ⟨fun n => by cases n <;> rfl, ?_⟩
    first
      | (refine ⟨true, fun n => ?_⟩; cases n <;> rfl)
      | (refine ⟨false, fun n => ?_⟩; cases n <;> rfl)
/-- a tuple of keys is of no class statement -/
theorem noClass {k : List κ} {b : Addr} {Q : Bool → Shared → Prop} (hk : Tp kd s.heap k b) (q : Q false s) : wpAny (model P w) A (ofAClassStatement 8 (.ref b)) Q E s := by
  have ty := hk.typeIs
  obtain ⟨o, its, n, at_b, _, dat, items⟩ := hk
  have all := items.byValue
  unfold ofAClassStatement
  refine wpAny_bind (wpAny_typeOf ty ?_)
  dsimp only
  have same : (("tuple" : String) == "tuple") = true := by decide
  simp only [same, Bool.not_true, if_true, if_false, Bool.false_eq_true]
  try refine wpAny_bind (wpAny_pure ?_)
  try simp only [Bool.not_true, if_false, Bool.false_eq_true]
  refine wpAny_bind (m := seqItems? (.ref b)) (wpAny_seqItems at_b dat ?_)
  dsimp only
  refine wpAny_bind (m := forIn its _ _) ?_
  rw [← Array.forIn_toList]
  refine wpAny_forIn_list _ (fun left r s' => r.1 = none ∧ s' = s ∧ ∀ v ∈ left, carriedByValue v = true) _ ?_ ?_ _ _ ⟨rfl, rfl, all⟩
  · rintro v left r s' ⟨_, rfl, here⟩
    rw [(nref (here v List.mem_cons_self)).1]
    refine wpAny_bind (wpAny_pure ?_)
    simp only [if_false, Bool.false_eq_true]
    exact wpAny_pure ⟨rfl, rfl, fun u hu => here u (List.mem_cons_of_mem _ hu)⟩
  · rintro ⟨r1, r2⟩ s' ⟨e, rfl, _⟩
    dsimp only at e
    subst e
    exact wpAny_pure q
/-- whether its hash is one by value is answered, and nothing changes -/
theorem byVal {k : List κ} {b : Addr} {Q : Bool → Shared → Prop} (hk : Tp kd s.heap k b) (q : ∀ c, Q c s) : wpAny (model P w) A (hashByValue 8 (.ref b)) Q E s := by
  have ty := hk.typeIs
  obtain ⟨o, its, n, at_b, _, dat, items⟩ := hk
  have all := items.byValue
  unfold hashByValue
  refine wpAny_bind (wpAny_specialOf ty F.slot_tuple_hash.lookup ?_)
  refine wpAny_bind (m := seqItems? (.ref b)) (wpAny_seqItems at_b dat ?_)
  refine wpAny_bind (m := forIn its _ _) ?_
  rw [← Array.forIn_toList]
  refine wpAny_forIn_list _ (fun left r s' => r.1 = none ∧ s' = s ∧ ∀ v ∈ left, carriedByValue v = true) _ ?_ ?_ _ _ ⟨rfl, rfl, all⟩
  · rintro v left r s' ⟨_, rfl, here⟩
    obtain ⟨c, hc⟩ := (nref (here v List.mem_cons_self)).2
    rw [hc]
    refine wpAny_bind (wpAny_pure ?_)
    cases c with
    | true =>
      simp only [Bool.not_true, if_false, Bool.false_eq_true]
      exact wpAny_pure ⟨rfl, rfl, fun u hu => here u (List.mem_cons_of_mem _ hu)⟩
    | false =>
      simp only [Bool.not_false, if_true]
      exact wpAny_pure (wpAny_pure (q _))
  · rintro ⟨r1, r2⟩ s' ⟨e, rfl, _⟩
    dsimp only at e
    subst e
    exact wpAny_pure (q _)

/-- a search among such tuples shows nothing of the table -/
theorem unseen {k : List κ} {b : Addr} {Q : Bool → Shared → Prop} (hk : Tp kd s.heap k b) {ys : List Value} (hy : ∀ y ∈ ys, ∃ k' c, y = Value.ref c ∧ Tp kd s.heap k' c) (q : Q false s) :
    wpAny (model P w) A (searchCouldBeSeen (.ref b) ys) Q E s := by
  unfold searchCouldBeSeen
  refine wpAny_bind (wpAny_forIn_list _ (fun left r s' => r.1 = none ∧ s' = s ∧ ∀ y ∈ left, ∃ k' c, y = Value.ref c ∧ Tp kd s.heap k' c) _ ?_ ?_ _ _ ⟨rfl, rfl, hy⟩)
  · rintro v left r s' ⟨_, rfl, here⟩
    obtain ⟨k2, c, rfl, hc⟩ := here v List.mem_cons_self
    have later : ∀ y ∈ left, ∃ k' c, y = Value.ref c ∧ Tp kd s'.heap k' c := fun u hu => here u (List.mem_cons_of_mem _ hu)
    dsimp only
    by_cases one : (b == c || (carriedByValue (.ref b) && carriedByValue (.ref c))) = true
    · exact wp_if_pos one (wpAny_pure ⟨rfl, rfl, later⟩)
    · refine wp_if_neg one (wpAny_bind (wpAny_eqIsQuiet_tuple hk ?_))
      simp only [Bool.not_true, if_false, Bool.false_eq_true]
      refine wpAny_bind (wpAny_eqIsQuiet_tuple hc ?_)
      simp only [Bool.not_true, if_false, Bool.false_eq_true]
      refine wpAny_bind (noClass hk ?_)
      simp only [if_false, Bool.false_eq_true]
      refine wpAny_bind (noClass hc ?_)
      simp only [if_false, Bool.false_eq_true]
      exact wpAny_pure ⟨rfl, rfl, later⟩
  · rintro ⟨r1, r2⟩ s' ⟨e, rfl, _⟩
    dsimp only at e
    subst e
    exact wpAny_pure q
/-! ### the set -/
abbrev entsOf (kd : KeyKind P w κ) (L : List (Addr × List κ)) : List (Int × Value) := L.map fun p => (hsh kd p.2, Value.ref p.1)
structure KSet (kd : KeyKind P w κ) (h : Heap) (a : Addr) (L : List (Addr × List κ)) (es : Array (Int × Value)) (ep : Nat) (t : SetTable) : Prop where
  obj : ∃ o, h.get? a = some o ∧ o.ExactSet ∧ o.data = .set es ep t
  ents : es.toList = entsOf kd L
  tab : TabOk t (L.map fun p => hsh kd p.2)
  uniq : (L.map (·.2)).Nodup
  tups : ∀ p ∈ L, Tp kd h p.2 p.1
  lead : w.params.followText "set-order" = true ∨ t.led = true
  room : L.length * 5 < t.mask * 3
  few : L.length < 64
theorem ents_len {L : List (Addr × List κ)} {es : Array (Int × Value)} (e : es.toList = entsOf kd L) : es.size = L.length := by
  rw [← Array.length_toList, e, List.length_map]
theorem ents_at {L : List (Addr × List κ)} {es : Array (Int × Value)} (e : es.toList = entsOf kd L) {i : Nat} {p : Addr × List κ} (h : L[i]? = some p) : es[i]? = some (hsh kd p.2, Value.ref p.1) := by
  rw [← Array.getElem?_toList, e, List.getElem?_map, h]
  rfl
theorem fits_of {t : SetTable} {n : Nat} (h1 : t.place.size = n) (h2 : t.dummies = #[]) (h3 : n ≤ t.mask) : t.fits n = true := by
  unfold SetTable.fits SetTable.fill
  rw [h2, Bool.and_eq_true, beq_iff_eq, decide_eq_true_eq]
  exact ⟨h1, by show t.place.size + 0 ≤ t.mask; omega⟩
variable {a : Addr} {L : List (Addr × List κ)} {es : Array (Int × Value)} {ep : Nat} {t : SetTable}
theorem KSet.fits (R : KSet kd s.heap a L es ep t) : t.fits es.size = true := by
  have h1 := R.tab.sz
  have h2 := R.room
  rw [List.length_map] at h1
  rw [ents_len R.ents]
  exact fits_of h1 R.tab.dm (by omega)
theorem KSet.stays (R : KSet kd s.heap a L es ep t) : ¬ t.gaveWay = true := by
  unfold SetTable.gaveWay
  rw [mask_odd R.tab.mok]
  exact of_decide_eq_false rfl
/-- the probe behind c steps -/
abbrev stp (t : SetTable) (h : Int) (c : Nat) : SetTable.Probe := nth t.mask (runAt t.mask (SetTable.bits h % (t.mask + 1)) (SetTable.bits h)) c
theorem nth_clean (m : Nat) : ∀ (n : Nat) (q : SetTable.Probe), q.dummy = none → (nth m q n).dummy = none
  | 0, q, e => e
  | n + 1, q, e => nth_clean m n (adv m q) (by unfold adv; split <;> exact e)
theorem stp_on (t : SetTable) (h : Int) (c q : Nat) : nth t.mask (stp t h c) q = stp t h (c + q) := (nth_add t.mask c _ q).symm
/-- the search, from the c-th step on; n is the first empty place on the way -/
theorem KSet.seek (R : KSet kd s.heap a L es ep t) {x : Addr} {k : List κ} (hx : Tp kd s.heap k x) (hu : A.units < cLine) {n : Nat} (hn : n < 10 * SetTable.turns t.mask) (off : way t.mask (hsh kd k) n ∉ t.place.toList)
    (on : ∀ c, c < n → way t.mask (hsh kd k) c ∈ t.place.toList) {Q : SetFound → Shared → Prop} (yes : k ∈ L.map (·.2) → Q (.there none) s) (no : k ∉ L.map (·.2) → Q (.free (way t.mask (hsh kd k) n) false) s) :
    ∀ (f c : Nat) (st : Option SetTable.Probe), st.getD (t.probeStart (hsh kd k)) = stp t (hsh kd k) c → c ≤ n → n - c < f →
      (∀ (i : Nat) p, L[i]? = some p → p.2 = k → ∃ c', c ≤ c' ∧ c' < n ∧ t.place.toList[i]? = some (way t.mask (hsh kd k) c')) → wpAny (model P w) A (setSearchFrom a (.ref x) (hsh kd k) true f st) Q E s
  | 0, _, _, _, _, bad, _ => (Nat.not_lt_zero _ bad).elim
  | f + 1, c, st, e0, le, lf, ahead => by
    obtain ⟨o, ho, hex, hd⟩ := R.obj
    rw [setSearchFrom_succ]
    refine wpAny_bind (wpAny_setState_of ho hd R.fits ?_)
    dsimp only
    refine wp_if_neg R.stays ?_
    try refine wpAny_bind (wpAny_pure ?_)
    rw [e0]
    have jj : ∀ q, (nth t.mask (stp t (hsh kd k) c) q).j = way t.mask (hsh kd k) (c + q) := fun q => congrArg SetTable.Probe.j (stp_on t (hsh kd k) c q)
    have hashes : ∀ (i : Nat) p, L[i]? = some p → (es[i]?.map (·.1)).getD 0 = hsh kd p.2 := fun i p hp => by
      rw [ents_at R.ents hp]
      rfl
    have last : c + (n - c) = n := by omega
    -- one with the key that is still ahead is not met by other hashes
    have clash : ∀ (m i0 : Nat) (p0 : Addr × List κ), L[i0]? = some p0 → p0.2 = k → c ≤ m → t.place.toList[i0]? = some (way t.mask (hsh kd k) m) →
        (∀ (k' i' : Nat), k' = m - c → t.place.toList[i']? = some (nth t.mask (stp t (hsh kd k) c) k').j → (es[i']?.map (·.1)).getD 0 ≠ hsh kd k) → False := fun m i0 p0 h0 hk0 lm hat none' => by
      refine none' (m - c) i0 rfl ?_ ((hashes i0 p0 h0).trans (congrArg (hsh kd) hk0))
      rw [jj, show c + (m - c) = m by omega]
      exact hat
    rcases go_spec t R.tab.ris R.tab.dm (fun i => (es[i]?.map (·.1)).getD 0) (hsh kd k) (10 * SetTable.turns t.mask) (n - c) (stp t (hsh kd k) c) (nth_clean _ _ _ rfl) (by omega)
      (fun q hq => by rw [jj]; exact on _ (by omega)) (by rw [jj, last]; exact off) with ⟨q, i, hq, hi, _, first, met⟩ | ⟨first, met⟩
    · have pr : t.probe (fun i => (es[i]?.map (·.1)).getD 0) (hsh kd k) (stp t (hsh kd k) c) = some (.candidate (way t.mask (hsh kd k) (c + q)) i (stp t (hsh kd k) (c + (q + 1)))) := by
        rw [← jj, ← stp_on]
        exact met
      rw [pr]
      dsimp only
      rw [jj] at hi
      have li : i < L.length := by
        have h1 := (List.getElem?_eq_some_iff.mp hi).1
        have h2 := R.tab.sz
        rw [Array.length_toList] at h1
        rw [List.length_map] at h2
        omega
      obtain ⟨p, hp⟩ : ∃ p, L[i]? = some p := ⟨_, List.getElem?_eq_getElem li⟩
      have pm : p ∈ L := List.mem_of_getElem? hp
      have live : t.slot (way t.mask (hsh kd k) (c + q)) = .live i := slot_live R.tab.ris hi
      have behind : wpAny (model P w) A (searchRest a (.ref x) (hsh kd k) true f es t (way t.mask (hsh kd k) (c + q)) i (stp t (hsh kd k) (c + (q + 1)))) Q E s := by
        unfold searchRest
        rw [ents_at R.ents hp]
        dsimp only
        refine wpAny_bind (wpAny_holding (wpAny_eqBool_tuple hu (R.tups p pm) hx (wpAny_bind (wpAny_setState_of ho hd R.fits ?_))))
        dsimp only
        by_cases eq : p.2 = k
        · exact wp_if_pos (by rw [decide_eq_true eq]; rfl) (wpAny_pure (yes (List.mem_map.mpr ⟨p, pm, eq⟩)))
        · refine wp_if_neg (by rw [decide_eq_false eq]; exact Bool.false_ne_true) ?_
          try refine wpAny_bind (wpAny_pure ?_)
          rw [sameMem]
          dsimp only
          simp only [live, ents_at R.ents hp, if_true]
          refine wpAny_bind (wpAny_isSame_ref_self (wpAny_bind (wpAny_pure ?_)))
          simp only [if_true]
          refine wp_if_neg (by rw [decide_eq_false eq]; exact Bool.false_ne_true) ?_
          refine KSet.seek R hx hu hn off on yes no f (c + (q + 1)) _ rfl (by omega) (by omega) fun i0 p0 h0 hk0 => ?_
          obtain ⟨m, m1, m2, m3⟩ := ahead i0 p0 h0 hk0
          refine ⟨m, ?_, m2, m3⟩
          rcases Nat.lt_trichotomy m (c + q) with z | z | z
          · exact (clash m i0 p0 h0 hk0 m1 m3 fun k' i' ek => first k' i' (by omega)).elim
          · rw [z] at m3
            have l2 := slot_live R.tab.ris m3
            rw [live] at l2
            injection l2 with l2
            rw [← l2, hp] at h0
            exact (eq ((congrArg Prod.snd (Option.some.inj h0)).trans hk0)).elim
          · omega
      by_cases led : t.led = true
      · refine wp_if_neg (by rw [led]; exact Bool.false_ne_true) ?_
        try refine wpAny_bind (wpAny_pure ?_)
        exact behind
      · refine wp_if_pos (by rw [Bool.not_eq_true] at led; rw [led]; rfl) ?_
        refine wpAny_bind (unseen hx (fun y hy => ?_) ?_)
        · obtain ⟨e, he, rfl⟩ := List.mem_map.mp hy
          have hin : e ∈ es.toList := by
            have := (Array.mem_filter.mp (Array.mem_toList_iff.mp he)).1
            exact Array.mem_toList_iff.mpr this
          rw [R.ents] at hin
          obtain ⟨p2, hp2, rfl⟩ := List.mem_map.mp hin
          exact ⟨p2.2, p2.1, rfl, R.tups p2 hp2⟩
        · refine wp_if_neg Bool.false_ne_true ?_
          try refine wpAny_bind (wpAny_pure ?_)
          exact behind
    · have pr : t.probe (fun i => (es[i]?.map (·.1)).getD 0) (hsh kd k) (stp t (hsh kd k) c) = some (.empty (way t.mask (hsh kd k) n) none) := by
        rw [show way t.mask (hsh kd k) n = (nth t.mask (stp t (hsh kd k) c) (n - c)).j by rw [jj, last]]
        exact met
      rw [pr]
      dsimp only
      refine wpAny_pure (no fun hm => ?_)
      obtain ⟨p0, h0, hk0⟩ := List.mem_map.mp hm
      obtain ⟨i0, li0, e0'⟩ := List.getElem_of_mem h0
      have h00 : L[i0]? = some p0 := by rw [List.getElem?_eq_getElem li0, e0']
      obtain ⟨m, m1, m2, m3⟩ := ahead i0 p0 h00 hk0
      exact clash m i0 p0 h00 hk0 m1 m3 fun k' i' ek => first k' i' (by omega)
theorem KSet.search (R : KSet kd s.heap a L es ep t) {x : Addr} {k : List κ} (hx : Tp kd s.heap k x) (hu : A.units < cLine) {Q : SetFound → Shared → Prop} (yes : k ∈ L.map (·.2) → Q (.there none) s)
    (no : ∀ n, k ∉ L.map (·.2) → way t.mask (hsh kd k) n ∉ t.place.toList → (∀ c, c < n → way t.mask (hsh kd k) c ∈ t.place.toList) → Q (.free (way t.mask (hsh kd k) n) false) s) :
    wpAny (model P w) A (setSearch a (.ref x) (hsh kd k) true) Q E s := by
  have room := R.room
  obtain ⟨n, hn, off, on⟩ := R.tab.first (by rw [List.length_map]; omega) (hsh kd k)
  have big : n < 100000 := by
    refine Nat.lt_of_lt_of_le hn ?_
    unfold SetTable.turns
    rcases R.tab.mok with e | e | e <;> rw [e] <;> decide
  refine R.seek hx hu hn off on yes (fun out => no n out off on) 100000 0 none rfl (Nat.zero_le _) (by omega) fun i p hp hk => ?_
  have li : i < t.place.toList.length := by
    have h1 := (List.getElem?_eq_some_iff.mp hp).1
    have h2 := R.tab.sz
    rw [List.length_map] at h2
    rw [Array.length_toList]
    omega
  have hj := List.getElem?_eq_getElem li
  obtain ⟨c, hc, e⟩ := R.tab.before off (by rw [List.getElem?_map, hp, ← hk]; rfl) hj
  exact ⟨c, Nat.zero_le _, hc, by rw [hj, e]⟩

/-! ### one more -/
theorem tp_at {h h' : Heap} {k : List κ} {a b : Addr} {o : Obj} {es : Array (Int × Value)} {ep : Nat} {t : SetTable} (hb : Tp kd h k b) (ho : h.get? a = some o) (hd : o.data = .set es ep t) (sb : Heap.SameBut a h h') : Tp kd h' k b := by
  obtain ⟨u, its, n, hu, c, d, r⟩ := hb
  refine ⟨u, its, n, (sb.2 b fun e => ?_).trans hu, c, d, r⟩
  rw [e, ho] at hu
  cases hu
  rw [hd] at d
  cases d
theorem range_get {α : Type} : ∀ L : List α, (List.range L.length).filterMap (fun i => L[i]?) = L
  | [] => rfl
  | x :: r => by
    rw [List.length_cons, List.range_succ_eq_map, List.filterMap_cons_some (f := fun i => (x :: r)[i]?) (b := x) rfl, List.filterMap_map]
    exact congrArg (x :: ·) (range_get r)
theorem reorder {es : Array (Int × Value)} (e : es.toList = entsOf kd L) {order : Array Nat} (hp : order.toList.Perm (List.range L.length)) :
    ∃ M : List (Addr × List κ), (order.filterMap (es[·]?)).toList = entsOf kd M ∧ M.Perm L ∧ (M.map fun p => hsh kd p.2) = order.toList.map fun i => (es.map (·.1)).getD i 0 := by
  have each : ∀ i, es[i]? = (L[i]?).map fun p : Addr × List κ => (hsh kd p.2, Value.ref p.1) := fun i => by
    rw [← Array.getElem?_toList, e, List.getElem?_map]
  refine ⟨order.toList.filterMap fun i => L[i]?, ?_, ?_, ?_⟩
  · rw [Array.toList_filterMap]
    show _ = List.map _ (List.filterMap _ _)
    rw [List.map_filterMap]
    exact congrArg (fun f => List.filterMap f order.toList) (funext each)
  · have := hp.filterMap fun i => L[i]?
    rw [range_get] at this
    exact this
  · have bd : ∀ i ∈ order.toList, i < L.length := fun i hi => List.mem_range.mp (hp.mem_iff.mp hi)
    generalize order.toList = l at bd
    induction l with
    | nil => rfl
    | cons i r ih =>
      have li := bd i List.mem_cons_self
      have here := each i
      rw [List.getElem?_eq_getElem li] at here
      rw [List.filterMap_cons_some (List.getElem?_eq_getElem li), List.map_cons, List.map_cons, ih fun j hj => bd j (List.mem_cons_of_mem _ hj)]
      congr 1
      rw [Array.getD_eq_getD_getElem?, Array.getElem?_map, here]
      rfl
/-- the table laid anew, larger -/
theorem relayK {o : Obj} (ho : s.heap.get? a = some o) (hex : o.ExactSet) (hd : o.data = .set es ep t) (ents : es.toList = entsOf kd L) (sz : t.place.size = L.length) (dm : t.dummies = #[]) (fl : L.length ≤ t.mask)
    (uniq : (L.map (·.2)).Nodup) (tups : ∀ p ∈ L, Tp kd s.heap p.2 p.1) (lead : w.params.followText "set-order" = true ∨ t.led = true) (few : L.length < 64) {want M : Nat}
    (hw : SetTable.sizeAbove want = M + 1) (mok : MaskOk M) (room : L.length * 5 < M * 3) {Q : Unit → Shared → Prop}
    (hQ : ∀ h' L' es' ep' t', Heap.SameBut a s.heap h' → KSet kd h' a L' es' ep' t' → L'.Perm L → Q () { s with heap := h' }) : wpAny (model P w) A (setRelay a want) Q E s := by
  have le := ents_len ents
  have M127 : M ≤ 127 := by rcases mok with e | e | e <;> rw [e] <;> decide
  obtain ⟨t2, order, laid, perm, tab, em, el, _, _⟩ := relaid_ok t (hs := es.map (·.1)) (wanted := want) (M := M) (by rw [hw]; rfl) mok (by rw [Array.size_map, le]; omega)
  rw [Array.size_map, le] at perm
  obtain ⟨L2, r1, r2, r3⟩ := reorder ents perm
  have len2 := ents_len r1
  rw [← r3] at tab
  rw [setRelay_eq]
  refine wpAny_bind (wpAny_setState_of ho hd (by rw [le]; exact fits_of sz dm fl) ?_)
  dsimp only
  refine wp_if_neg (by rw [hw, sizeLine_eq]; omega) ?_
  try refine wpAny_bind (wpAny_pure ?_)
  rw [laid]
  refine wpAny_bind ?_
  dsimp only
  refine wp_if_neg (by rw [len2, r2.length_eq, le]; simp) ?_
  try refine wpAny_bind (wpAny_pure ?_)
  refine wpAny_pure ?_
  dsimp only
  refine wpAny_storeSet_of ho hd ?_ (by rw [len2, r2.length_eq, sizeLine_eq]; omega)
  have sb : Heap.SameBut a s.heap (s.heap.update a (Obj.putSet (order.filterMap (es[·]?)) t2)) := Heap.SameBut.update ..
  refine hQ _ L2 _ (ep + 1) t2 sb ⟨⟨_, store_at ho hd, ⟨hex.1, hex.2.1, hex.2.2⟩, rfl⟩, r1, tab, (r2.map (·.2)).nodup_iff.mpr uniq, fun p hp => tp_at (tups p (r2.mem_iff.mp hp)) ho hd sb, by rw [el]; exact lead, ?_, by rw [r2.length_eq]; exact few⟩ r2
  rw [r2.length_eq, em]
  exact room
theorem size_5 : SetTable.sizeAbove (SetTable.grown 5) = 31 + 1 := by decide +kernel
theorem size_19 : SetTable.sizeAbove (SetTable.grown 19) = 127 + 1 := by decide +kernel
theorem KSet.add (R : KSet kd s.heap a L es ep t) {x : Addr} {k : List κ} (hx : Tp kd s.heap k x) (hu : A.units < cLine) (few : L.length + 1 < 64) {Q : Bool → Shared → Prop}
    (hQ : ∀ b h' L' es' ep' t', Heap.SameBut a s.heap h' → KSet kd h' a L' es' ep' t' → (k ∈ L.map (·.2) → L' = L) → (k ∉ L.map (·.2) → L'.Perm ((x, k) :: L)) → Q b { s with heap := h' }) :
    wpAny (model P w) A (setAddHashed a (.ref x) (hsh kd k)) Q E s := by
  obtain ⟨o, ho, hex, hd⟩ := R.obj
  have le := ents_len R.ents
  have room := R.room
  unfold setAddHashed
  refine wpAny_holding ?_
  rw [show (100000 : Nat) = 99999 + 1 from rfl, setAddHashedIn_succ]
  refine wpAny_bind (wpAny_setState_of ho hd R.fits ?_)
  dsimp only
  refine wp_if_neg (by simp [byScan, Value.scannable]) ?_
  try refine wpAny_bind (wpAny_pure ?_)
  refine wpAny_bind (R.search hx hu (fun hm => ?_) fun n hm off on => ?_)
  · exact wpAny_pure (hQ false s.heap L es ep t (Heap.SameBut.refl a s.heap) R (fun _ => rfl) fun z => (z hm).elim)
  dsimp only
  refine wpAny_bind (wpAny_setState_of ho hd R.fits ?_)
  dsimp only
  obtain ⟨p1, p2, p3, p4, p5, _, _, _, p9⟩ := R.tab.put off on
  generalize put : t.put (way t.mask (hsh kd k) n) = pt at p1 p3 p4 p5 p9 ⊢
  obtain ⟨t1, i⟩ := pt
  dsimp only at p1 p3 p4 p5 p9 ⊢
  subst p1
  generalize SetTable.below t.place (way t.mask (hsh kd k) n) = i at p2 p3 ⊢
  have pm := put_perm L i (x, k)
  have len1 : (L.take i ++ (x, k) :: L.drop i).length = L.length + 1 := pm.length_eq
  have ents1 : (SetTable.insertAt es i (hsh kd k, Value.ref x)).toList = entsOf kd (L.take i ++ (x, k) :: L.drop i) := by
    rw [SetTable.toList_insertAt, R.ents]
    show _ = List.map _ _
    rw [List.map_append, List.map_cons, List.map_take, List.map_drop]
  have tab1 : TabOk t1 ((L.take i ++ (x, k) :: L.drop i).map fun p => hsh kd p.2) := by
    rw [List.map_append, List.map_cons, List.map_take, List.map_drop]
    exact p3
  have uniq1 : ((L.take i ++ (x, k) :: L.drop i).map (·.2)).Nodup := (pm.map (·.2)).nodup_iff.mpr (List.nodup_cons.mpr ⟨hm, R.uniq⟩)
  generalize L.take i ++ (x, k) :: L.drop i = L1 at pm len1 ents1 tab1 uniq1
  generalize SetTable.insertAt es i (hsh kd k, Value.ref x) = es1 at ents1 ⊢
  have le1 := ents_len ents1
  -- whatever the answer, the table stays the same but for one mark
  have go : ∀ t2 : SetTable, t2.place = t1.place → t2.dummies = t1.dummies → t2.mask = t1.mask → t2.led = t1.led → TabOk t2 (L1.map fun p => hsh kd p.2) →
      wpAny (model P w) A (do
        storeSet a es1 t2
        if !false && t2.tooFull then setRelay a (SetTable.grown (es.size + 1))
        return true) Q E s := fun t2 g1 g2 g3 g4 tab2 => by
    refine wpAny_bind (wpAny_storeSet_of ho hd ?_ (by rw [le1, len1, sizeLine_eq]; omega))
    have sb : Heap.SameBut a s.heap (s.heap.update a (Obj.putSet es1 t2)) := Heap.SameBut.update ..
    have ho1 := store_at (es' := es1) (t' := t2) ho hd
    generalize s.heap.update a (Obj.putSet es1 t2) = h1 at sb ho1 ⊢
    have tups1 : ∀ p ∈ L1, Tp kd h1 p.2 p.1 := fun p hp => by
      rcases List.mem_cons.mp (pm.mem_iff.mp hp) with e | hp
      · rw [e]; exact tp_at hx ho hd sb
      · exact tp_at (R.tups p hp) ho hd sb
    have lead1 : w.params.followText "set-order" = true ∨ t2.led = true := by rw [g4, p5]; exact R.lead
    have fill : t2.fill = L.length + 1 := by
      unfold SetTable.fill
      rw [g1, g2]
      have := p9
      unfold SetTable.fill at this
      rw [this, List.length_map]
    have full : t2.tooFull = decide ((L.length + 1) * 5 ≥ t.mask * 3) := by
      unfold SetTable.tooFull
      rw [fill, g3, p4]
    have mk : KeyKind P w κ := kd
    by_cases hf : (L.length + 1) * 5 ≥ t.mask * 3
    · rw [full, decide_eq_true hf, le]
      have sz2 : t2.place.size = L1.length := by
        have := tab2.sz
        rwa [List.length_map] at this
      have relay : ∀ M, SetTable.sizeAbove (SetTable.grown (L.length + 1)) = M + 1 → MaskOk M → (L.length + 1) * 5 < M * 3 → L.length + 1 ≤ t.mask →
          wpAny (model P w) A (setRelay a (SetTable.grown (L.length + 1))) (fun _ s' => wpAny (model P w) A (pure true) Q E s') E { s with heap := h1 } := fun M h1' h2' h3' h4' =>
        relayK (s := { s with heap := h1 }) ho1 ⟨hex.1, hex.2.1, hex.2.2⟩ rfl ents1 sz2 tab2.dm (by rw [len1, g3, p4]; exact h4') uniq1 tups1 lead1 (by rw [len1]; exact few) h1' h2' (by rw [len1]; exact h3')
          fun h2 L2 es2 ep2 t3 sb2 R2 pm2 => wpAny_pure (hQ true h2 L2 es2 ep2 t3 (sb.trans sb2) R2 (fun z => (hm z).elim) fun _ => pm2.trans pm)
      have both : (L.length = 4 ∧ t.mask = 7) ∨ (L.length = 18 ∧ t.mask = 31) := by
        rcases R.tab.mok with e | e | e
        · left; rw [e] at hf room; exact ⟨by omega, e⟩
        · right; rw [e] at hf room; exact ⟨by omega, e⟩
        · exfalso; rw [e] at hf; omega
      first
        | (refine wpAny_bind ?_; refine wp_if_pos rfl ?_)
        | (refine wp_if_pos rfl ?_; refine wpAny_bind ?_)
      rcases both with ⟨e2, e3⟩ | ⟨e2, e3⟩
      · exact relay 31 (by rw [e2]; exact size_5) (.inr (.inl rfl)) (by omega) (by omega)
      · exact relay 127 (by rw [e2]; exact size_19) (.inr (.inr rfl)) (by omega) (by omega)
    · rw [full, decide_eq_false hf]
      first
        | refine wp_if_neg Bool.false_ne_true ?_
        | (refine wpAny_bind ?_; refine wp_if_neg Bool.false_ne_true ?_; refine wpAny_pure ?_)
      refine wpAny_pure (hQ true h1 L1 es1 (ep + 1) t2 sb ⟨⟨_, ho1, ⟨hex.1, hex.2.1, hex.2.2⟩, rfl⟩, ents1, tab2, uniq1, tups1, lead1, ?_, by rw [len1]; exact few⟩ (fun z => (hm z).elim) fun _ => pm)
      rw [len1, g3, p4]
      omega
  have done : ∀ c : Bool, wpAny (model P w) A (do
      storeSet a es1 (if c = true then t1 else { t1 with plain := false })
      if !false && (if c = true then t1 else { t1 with plain := false }).tooFull then setRelay a (SetTable.grown (es.size + 1))
      return true) Q E s := fun c => by
    cases c with
    | true => exact go t1 rfl rfl rfl rfl tab1
    | false => exact go { t1 with plain := false } rfl rfl rfl rfl ⟨tab1.ris, tab1.dm, tab1.sz, tab1.mok, tab1.bd, tab1.reach⟩
  by_cases pl : t1.plain = true
  · first
      | (refine wpAny_bind ?_; refine wp_if_pos pl ?_; exact byVal hx done)
      | exact wp_if_pos pl (wpAny_bind (byVal hx done))
  · first
      | (refine wpAny_bind ?_; refine wp_if_neg pl ?_; exact wpAny_pure (done true))
      | exact wp_if_neg pl (wpAny_bind (wpAny_pure (done true)))

/-! ### all of a list -/
structure GotK (ks : List (Addr × List κ)) (i : Nat) (L : List (Addr × List κ)) : Prop where
  sub : ∀ p ∈ L, p ∈ ks.take i
  all : ∀ p ∈ ks.take i, p.2 ∈ L.map (·.2)
theorem GotK.step {ks L L' : List (Addr × List κ)} {i : Nat} {x : Addr × List κ} (g : GotK ks i L) (h : ks[i]? = some x) (h1 : x.2 ∈ L.map (·.2) → L' = L) (h2 : x.2 ∉ L.map (·.2) → L'.Perm (x :: L)) : GotK ks (i + 1) L' := by
  have nx := take_next h
  by_cases c : x.2 ∈ L.map (·.2)
  · rw [h1 c]
    refine ⟨fun p hp => nx ▸ List.mem_append_left _ (g.sub p hp), fun p hp => ?_⟩
    rw [nx] at hp
    rcases List.mem_append.mp hp with z | z
    · exact g.all p z
    · exact List.mem_singleton.mp z ▸ c
  · have pm := h2 c
    refine ⟨fun p hp => ?_, fun p hp => ?_⟩
    · rw [nx]
      rcases List.mem_cons.mp (pm.mem_iff.mp hp) with z | z
      · exact List.mem_append_right _ (List.mem_singleton.mpr z)
      · exact List.mem_append_left _ (g.sub p z)
    · rw [(pm.map (·.2)).mem_iff]
      rw [nx] at hp
      rcases List.mem_append.mp hp with z | z
      · exact List.mem_cons_of_mem _ (g.all p z)
      · rw [List.mem_singleton.mp z]; exact List.mem_cons_self
/-- few of them are unlike -/
def FewK (ks : List (Addr × List κ)) : Prop := ∀ M : List (Addr × List κ), (M.map (·.2)).Nodup → (∀ p ∈ M, p ∈ ks) → M.length < 63
theorem tp_keep {h h' : Heap} {k : List κ} {b : Addr} (x : Tp kd h k b) (keep : ∀ c o, h.get? c = some o → h'.get? c = some o) : Tp kd h' k b := by
  obtain ⟨o, its, n, ho, r⟩ := x
  exact ⟨o, its, n, keep b o ho, r⟩
theorem KSet.keep {h h' : Heap} (R : KSet kd h a L es ep t) (ha : ∀ o, h.get? a = some o → h'.get? a = some o) (ht : ∀ p ∈ L, Tp kd h' p.2 p.1) : KSet kd h' a L es ep t := by
  obtain ⟨o, ho, r⟩ := R.obj
  exact ⟨⟨o, ha o ho, r⟩, R.ents, R.tab, R.uniq, ht, R.lead, R.room, R.few⟩
theorem kset_new {h : Heap} (ho : h.get? a = some (set0 w)) : KSet kd h a [] #[] 0 (.fresh 0 0 (!w.params.followText "set-order")) :=
  ⟨⟨_, ho, ⟨rfl, rfl, rfl⟩, rfl⟩, rfl, ⟨List.Pairwise.nil, rfl, rfl, .inl rfl, (fun x hx => nomatch hx), fun i h j hi => (by simp at hi)⟩, List.nodup_nil, (fun p hp => nomatch hp),
    by cases e : w.params.followText "set-order" <;> simp [SetTable.fresh], (show 0 * 5 < 7 * 3 by decide), (show 0 < 64 by decide)⟩
theorem updateK {I : Addr} {fp wr : List Addr} {G : Array GenState → Array GenState → Prop} {n : Nat} {Pv : Nat → Value → Prop} {St : Nat → Shared → Prop} {R : Result → Shared → Prop}
    (W : WalksS P w A.in1 I fp wr G n Pv St) (S : Addr) (hS : S ∉ fp) (ks : List (Addr × List κ)) (hn : n = ks.length) (few : FewK ks) (items : ∀ i v, Pv i v → ∃ p, ks[i]? = some p ∧ v = .ref p.1)
    (h0 : Heap) (tups : ∀ p ∈ ks, Tp kd h0 p.2 p.1) (newS : h0.get? S = none) (newW : ∀ b ∈ wr, h0.get? b = none) (hu : A.in1.units < cLine) :
    ∀ (m i : Nat) (s : Shared), n - i = m → i ≤ n → St i s → (∀ b o, h0.get? b = some o → s.heap.get? b = some o) → (∃ L es ep t, KSet kd s.heap S L es ep t ∧ GotK ks i L) →
      (∀ s' L es ep t, Moved (S :: wr) G s s' → KSet kd s'.heap S L es ep t → GotK ks n L → (∀ b o, h0.get? b = some o → s'.heap.get? b = some o) → R (.ok (.ret .none)) s') →
      codeAny (model P w) A (.builtin "set.update.loop" ⟨[.ref S, .ref I], []⟩) R s := by
  have offW : S ∉ wr := fun h => hS (W.sub _ h)
  have on : ∀ {s s' : Shared}, Moved wr G s s' → (∀ b o, h0.get? b = some o → s.heap.get? b = some o) → ∀ b o, h0.get? b = some o → s'.heap.get? b = some o := fun mv old b o e =>
    mv.heap b o (fun hb => by rw [newW b hb] at e; cases e) (old b o e)
  have kept : ∀ {s s' : Shared} {L es ep t i}, Moved wr G s s' → (∀ b o, h0.get? b = some o → s.heap.get? b = some o) → KSet kd s.heap S L es ep t → GotK ks i L → KSet kd s'.heap S L es ep t := fun mv old R g =>
    R.keep (fun o e => mv.heap S o offW e) fun p hp => tp_keep (tups p (List.mem_of_mem_take (g.sub p hp))) (on mv old)
  intro m
  induction m with
  | zero =>
    intro i s hm hi st old ⟨L, es, ep, t, K, g⟩ hR
    obtain rfl : i = n := by omega
    refine codeAny_builtin F.entry_set_update_loop ?_
    rw [Around.under_plainId F.plain_set_update_loop _]
    refine wpAny_bind (m := pyNext (.ref I)) (W.done s _ _ st fun s' mv => ?_)
    exact wpAny_pure (hR s' L es ep t (mv.mono fun b hb => List.mem_cons_of_mem _ hb) (kept mv old K g) g (on mv old))
  | succ m ih =>
    intro i s hm hi st old ⟨L, es, ep, t, K, g⟩ hR
    have lt : i < n := by omega
    refine codeAny_builtin F.entry_set_update_loop ?_
    rw [Around.under_plainId F.plain_set_update_loop _]
    refine wpAny_bind (m := pyNext (.ref I)) (W.item i s _ _ lt st fun v s' hv st' mv => ?_)
    obtain ⟨p, hp, rfl⟩ := items i v hv
    have old' := on mv old
    have px : Tp kd s'.heap p.2 p.1 := tp_keep (tups p (List.mem_of_getElem? hp)) old'
    have room := few L K.uniq fun q hq => List.mem_of_mem_take (g.sub q hq)
    refine wpAny_bind (m := holding [Value.ref p.1] (setAdd S (.ref p.1))) (wpAny_holding ?_)
    unfold setAdd
    refine wpAny_holding (wpAny_bind (wpAny_pyHash_tuple hu px ?_))
    have K1 : KSet kd s'.heap S L es ep t := kept mv old K g
    refine KSet.add (s := { s' with toks := s'.toks + (p.2.length + 1) }) K1 px hu (by omega) fun b h' L' es' ep' t' sb K' c1 c2 => ?_
    have old2 : ∀ b o, h0.get? b = some o → h'.get? b = some o := fun b o e => (sb.2 b fun z => by rw [z, newS] at e; cases e).trans (old' b o e)
    refine wpAny_pure ⟨plainId_quiet F.plain_set_update_loop _, ih (i + 1) _ (by omega) lt (W.frame _ s' _ _ st' (Nat.le_add_right _ _) fun b hb o e => ?_) old2 ⟨L', es', ep', t', K', g.step hp c1 c2⟩ fun s2 L2 es2 ep2 t2 mv2 K2 g2 o2 => ?_⟩
    · exact (sb.2 b fun z => hS (z ▸ hb)).trans e
    · refine hR s2 L2 es2 ep2 t2 (Moved.trans W.gtrans ((mv.mono fun b hb => List.mem_cons_of_mem _ hb).then_heap (Nat.le_add_right _ _) fun b o hb e => ?_) mv2) K2 g2 o2
      exact (sb.2 b fun z => hb (z ▸ List.mem_cons_self)).trans e
set_option maxHeartbeats 3200000 in
/-- set(xs), xs a list or a tuple of such tuples -/
theorem set_ofK {l : Addr} {items : Array Value} (ks : List (Addr × List κ)) {Q : Value → Shared → Prop} (hh : A.handled = none) (hl : s.heap.IsList l items ∨ s.heap.IsTuple l items) (hit : items.toList = ks.map fun p => Value.ref p.1)
    (hk : ∀ p ∈ ks, Tp kd s.heap p.2 p.1) (few : FewK ks) (hu : A.units + 3 < cLine)
    (h : ∀ (h' : Heap) (tk : Nat) L es ep t, KSet kd h' s.heap.objs.size L es ep t → GotK ks ks.length L → (∀ b o, s.heap.get? b = some o → h'.get? b = some o) → Q (.ref s.heap.objs.size) { s with heap := h', toks := tk }) :
    wpAny (model P w) A (call (.type "set") [.ref l]) Q E s := by
  have many : items.size = ks.length := by
    have q := congrArg List.length hit
    rwa [Array.length_toList, List.length_map] at q
  have vals : ∀ (i : Nat) (v : Value), items[i]? = some v → ∃ p, ks[i]? = some p ∧ v = .ref p.1 := fun i v hv => by
    have q : items.toList[i]? = some v := by rw [Array.getElem?_toList]; exact hv
    rw [hit, List.getElem?_map] at q
    cases hq : ks[i]? with
    | none => rw [hq] at q; cases q
    | some p => rw [hq] at q; exact ⟨p, rfl, (Option.some.inj q).symm⟩
  refine set_pre (D := fun h' => ∃ L es ep t, KSet kd h' s.heap.objs.size L es ep t ∧ GotK ks ks.length L ∧ ∀ b o, s.heap.get? b = some o → h'.get? b = some o) (fun R hR => ?_) (fun h' tk ⟨L, es, ep, t, a1, a2, a3⟩ => h h' tk L es ep t a1 a2 a3)
  have z0 : (s.heap.push (set0 w)).objs.size = s.heap.objs.size + 1 := Heap.size_push ..
  rcases hl with ⟨⟨cls, dict, data, slots⟩, at_l, hcl, nl, hdl⟩ | ⟨⟨cls, dict, data, slots⟩, at_l, hcl, nl, hdl⟩
  all_goals
    simp only at hcl hdl
    subst hcl; subst hdl
    have lS : l < s.heap.objs.size := Heap.lt_size at_l
    have l1 : l ≠ (s.heap.push (set0 w)).objs.size := by rw [z0]; exact Nat.ne_of_lt (Nat.lt_succ_of_lt lS)
    have l2 : s.heap.objs.size ∉ [(s.heap.push (set0 w)).objs.size, l] := by
      rw [z0]
      intro z
      rcases List.mem_cons.mp z with z | z
      · exact Nat.ne_of_lt (Nat.lt_succ_self _) z
      · exact Nat.ne_of_gt lS (List.mem_singleton.mp z)
    have beyond : ∀ b ∈ [(s.heap.push (set0 w)).objs.size], s.heap.get? b = none := fun b hb => none_beyond (by rw [List.mem_singleton.mp hb, z0]; exact Nat.le_succ _)
  · have at2 : (s.heap.push (set0 w)).get? l = some { cls := .type "list", dict := dict, data := .seq items nl, slots := slots } := Heap.get?_push_of_some _ at_l
    have k1 := F.sub_list_set
    have k2 := F.sub_list_frozenset
    have k3 : (Value.type "list" == Value.type "dict") = false := by decide
    have isl : (s.heap.push (set0 w)).IsList l items := ⟨_, at2, rfl, nl, rfl⟩
    unfold Builtin.«set.__init__» noKeywords Builtin.Frozenset.updateFrom
    generalize ePI : pyIter = PI
    wp_walk
    subst ePI
    refine wpAny_pyIter_list isl (wpAny_bind (wpAny_runValue ?_))
    refine updateK ((Walks.list (by simp [hh]) _ l l1 items).toS) s.heap.objs.size l2 ks many few vals s.heap hk (none_beyond (Nat.le_refl _)) beyond hu (items.size - 0) 0 _ (by omega) (Nat.zero_le _) ⟨⟨_, Heap.get?_push_size _ rfl, rfl, rfl⟩, isl.push _⟩
      (fun b o e => Heap.get?_push_of_some _ (Heap.get?_push_of_some _ e)) ⟨[], #[], 0, _, kset_new (Heap.get?_push_of_some _ (Heap.get?_push_size _ rfl)), ⟨(fun p hp => nomatch hp), fun p hp => (by simp at hp)⟩⟩ ?_
    rintro ⟨h', g2, d2, tk', os'⟩ L es ep t mv K g old
    have eg : g2 = s.gens := mv.gens
    have ed : d2 = s.drawn := mv.drawn
    have eo : os' = s.os := mv.os
    subst eg; subst ed; subst eo
    rw [many] at g
    exact wpAny_pure (wpAny_pure (hR h' tk' ⟨L, es, ep, t, K, g, old⟩))
  · have at2 : (s.heap.push (set0 w)).get? l = some { cls := .type "tuple", dict := dict, data := .seq items nl, slots := slots } := Heap.get?_push_of_some _ at_l
    have k1 := F.sub_tuple_set
    have k2 := F.sub_tuple_frozenset
    have k3 : (Value.type "tuple" == Value.type "dict") = false := by decide
    have isl : (s.heap.push (set0 w)).IsTuple l items := ⟨_, at2, rfl, nl, rfl⟩
    unfold Builtin.«set.__init__» noKeywords Builtin.Frozenset.updateFrom
    generalize ePI : pyIter = PI
    wp_walk
    subst ePI
    refine wpAny_pyIter_tuple isl (wpAny_bind (wpAny_runValue ?_))
    refine updateK ((Walks.tuple (by simp [hh]) _ l l1 items).toS) s.heap.objs.size l2 ks many few vals s.heap hk (none_beyond (Nat.le_refl _)) beyond hu (items.size - 0) 0 _ (by omega) (Nat.zero_le _) ⟨⟨_, Heap.get?_push_size _ rfl, rfl, rfl⟩, isl.push _⟩
      (fun b o e => Heap.get?_push_of_some _ (Heap.get?_push_of_some _ e)) ⟨[], #[], 0, _, kset_new (Heap.get?_push_of_some _ (Heap.get?_push_size _ rfl)), ⟨(fun p hp => nomatch hp), fun p hp => (by simp at hp)⟩⟩ ?_
    rintro ⟨h', g2, d2, tk', os'⟩ L es ep t mv K g old
    have eg : g2 = s.gens := mv.gens
    have ed : d2 = s.drawn := mv.drawn
    have eo : os' = s.os := mv.os
    subst eg; subst ed; subst eo
    rw [many] at g
    exact wpAny_pure (wpAny_pure (hR h' tk' ⟨L, es, ep, t, K, g, old⟩))
end
end My
set_option linter.all false
/-! The search for a partner: what it leaves when it finds one (Found) and when it finds none (Dead ends). -/
namespace My
variable {N : Int → List Int} {m m1 m' : Int → Option Int} {t t1 t' : Int → Prop} {x y : Int}
/-- every y of T is matched, and all rivals of its partner are in T again -/
def Closed (N : Int → List Int) (m : Int → Option Int) (T : Int → Prop) : Prop := ∀ y, T y → ∃ x, m y = some x ∧ ∀ z ∈ N x, T z
def Dead (N : Int → List Int) (m : Int → Option Int) (x : Int) : Prop := ∃ T, Closed N m T ∧ ∀ z ∈ N x, T z
def setM (m : Int → Option Int) (y x : Int) : Int → Option Int := fun a => if a = y then some x else m a
theorem setM_same : setM m y x y = some x := if_pos rfl
theorem setM_ne {a : Int} (h : a ≠ y) : setM m y x a = m a := if_neg h
structure Found (N : Int → List Int) (m m' : Int → Option Int) (t : Int → Prop) (x : Int) : Prop where
  tr : ∀ y, t y → m' y = m y
  own : ∃ y, ¬ t y ∧ m' y = some x ∧ y ∈ N x ∧ ∀ a, m' a = some x → (t a ∧ m a = some x) ∨ a = y
  inj : ∀ a b v, m' a = some v → m' b = some v → a = b ∨ v = x
  st : ∀ v, (∀ y, m y = some v → t y) → v ≠ x → ∀ a, m' a = some v → m a = some v
  gr : ∀ v a, m a = some v → ∃ b, m' b = some v
  vs : ∀ v a, m' a = some v → v = x ∨ ∃ b, m b = some v
  ed : (∀ a v, m a = some v → a ∈ N v) → ∀ a v, m' a = some v → a ∈ N v
  ks : ∀ a, m a ≠ none → m' a ≠ none
  lv : ∀ T, Closed N m T → ∃ z ∈ N x, ¬ T z
  cl : ∀ T, Closed N m T → ∀ y, T y → m' y = m y
structure Failed (N : Int → List Int) (m : Int → Option Int) (t t' : Int → Prop) (x : Int) : Prop where
  sub : ∀ y, t y → t' y
  all : ∀ y ∈ N x, t' y
  new : ∀ y, t' y → t y ∨ ∃ x', m y = some x' ∧ ∀ z ∈ N x', t' z
/-- what a call may rely on: no partner twice, and x is matched at tried ones alone -/
structure Ready (m : Int → Option Int) (t : Int → Prop) (x : Int) : Prop where
  inj : ∀ a b v, m a = some v → m b = some v → a = b
  tri : ∀ a, m a = some x → t a
theorem found_free (R : Ready m t x) (hy : y ∈ N x) (ht : ¬ t y) (hm : m y = none) : Found N m (setM m y x) t x where
  tr := fun a ha => setM_ne (fun e => ht (e ▸ ha))
  own := ⟨y, ht, setM_same, hy, fun a ha => by
    by_cases e : a = y
    · exact .inr e
    · rw [setM_ne e] at ha; exact .inl ⟨R.tri a ha, ha⟩⟩
  inj := fun a b v ha hb => by
    by_cases e : a = y
    · rw [e, setM_same] at ha; cases ha; exact .inr rfl
    · by_cases e2 : b = y
      · rw [e2, setM_same] at hb; cases hb; exact .inr rfl
      · rw [setM_ne e] at ha; rw [setM_ne e2] at hb; exact .inl (R.inj a b v ha hb)
  st := fun v _ hv a ha => by
    by_cases e : a = y
    · rw [e, setM_same] at ha; cases ha; exact (hv rfl).elim
    · rw [setM_ne e] at ha; exact ha
  gr := fun v a ha => ⟨a, by rw [setM_ne (fun e => by rw [e, hm] at ha; cases ha)]; exact ha⟩
  vs := fun v a ha => by
    by_cases e : a = y
    · rw [e, setM_same] at ha; cases ha; exact .inl rfl
    · rw [setM_ne e] at ha; exact .inr ⟨a, ha⟩
  ed := fun h a v ha => by
    by_cases e : a = y
    · rw [e, setM_same] at ha; cases ha; rw [e]; exact hy
    · rw [setM_ne e] at ha; exact h a v ha
  ks := fun a ha => by
    by_cases e : a = y
    · rw [e, setM_same]; exact fun z => nomatch z
    · rw [setM_ne e]; exact ha
  lv := fun T hT => ⟨y, hy, fun h => by obtain ⟨x', h', _⟩ := hT y h; rw [hm] at h'; cases h'⟩
  cl := fun T hT a ha => setM_ne (fun e => by obtain ⟨x', h', _⟩ := hT a ha; rw [e, hm] at h'; cases h')
theorem ready_next (R : Ready m t x) {x' : Int} (hm : m y = some x') (h1 : t1 y) : Ready m t1 x' where
  inj := R.inj
  tri := fun a ha => by rw [R.inj a y x' ha hm]; exact h1
theorem found_next (R : Ready m t x) (hy : y ∈ N x) (ht : ¬ t y) {x' : Int} (hm : m y = some x') (hs : ∀ a, t a → t1 a) (h1 : t1 y) (F : Found N m m1 t1 x') : Found N m (setM m1 y x) t x := by
  have m1y : m1 y = some x' := by rw [F.tr y h1]; exact hm
  have hxx : x ≠ x' := fun e => ht (R.tri y (by rw [e]; exact hm))
  obtain ⟨y2, n2, e2, i2, o2⟩ := F.own
  have y2y : y2 ≠ y := fun e => n2 (e ▸ h1)
  have stx : ∀ a, m1 a = some x → m a = some x := fun a ha => F.st x (fun b hb => hs b (R.tri b hb)) hxx a ha
  exact {
    tr := fun a ha => by
      have : a ≠ y := fun e => ht (e ▸ ha)
      rw [setM_ne this]; exact F.tr a (hs a ha)
    own := ⟨y, ht, setM_same, hy, fun a ha => by
      by_cases e : a = y
      · exact .inr e
      · rw [setM_ne e] at ha; exact .inl ⟨R.tri a (stx a ha), stx a ha⟩⟩
    inj := fun a b v ha hb => by
      by_cases e : a = y
      · rw [e, setM_same] at ha; cases ha; exact .inr rfl
      · by_cases eb : b = y
        · rw [eb, setM_same] at hb; cases hb; exact .inr rfl
        · rw [setM_ne e] at ha; rw [setM_ne eb] at hb
          rcases F.inj a b v ha hb with h | h
          · exact .inl h
          · subst h
            have pa : a = y2 := by
              rcases o2 a ha with ⟨_, h⟩ | h
              · exact (e (R.inj a y v h hm)).elim
              · exact h
            have pb : b = y2 := by
              rcases o2 b hb with ⟨_, h⟩ | h
              · exact (eb (R.inj b y v h hm)).elim
              · exact h
            exact .inl (pa.trans pb.symm)
    st := fun v hv hvx a ha => by
      have hvx' : v ≠ x' := fun e => ht (hv y (by rw [e]; exact hm))
      by_cases e : a = y
      · rw [e, setM_same] at ha; cases ha; exact (hvx rfl).elim
      · rw [setM_ne e] at ha; exact F.st v (fun b hb => hs b (hv b hb)) hvx' a ha
    gr := fun v a ha => by
      obtain ⟨b, hb⟩ := F.gr v a ha
      by_cases e : b = y
      · rw [e, m1y] at hb; cases hb
        exact ⟨y2, by rw [setM_ne y2y]; exact e2⟩
      · exact ⟨b, by rw [setM_ne e]; exact hb⟩
    vs := fun v a ha => by
      by_cases e : a = y
      · rw [e, setM_same] at ha; cases ha; exact .inl rfl
      · rw [setM_ne e] at ha
        rcases F.vs v a ha with h | h
        · exact .inr ⟨y, by rw [h]; exact hm⟩
        · exact .inr h
    ed := fun h a v ha => by
      by_cases e : a = y
      · rw [e, setM_same] at ha; cases ha; rw [e]; exact hy
      · rw [setM_ne e] at ha; exact F.ed h a v ha
    ks := fun a ha => by
      by_cases e : a = y
      · rw [e, setM_same]; exact fun z => nomatch z
      · rw [setM_ne e]; exact F.ks a ha
    lv := fun T hT => ⟨y, hy, fun h => by
      obtain ⟨x2, h2, h3⟩ := hT y h
      rw [hm] at h2; cases h2
      obtain ⟨z, hz, nz⟩ := F.lv T hT
      exact nz (h3 z hz)⟩
    cl := fun T hT a ha => by
      have : a ≠ y := fun e => by
        obtain ⟨x2, h2, h3⟩ := hT a ha
        rw [e, hm] at h2; cases h2
        obtain ⟨z, hz, nz⟩ := F.lv T hT
        exact nz (h3 z hz)
      rw [setM_ne this]
      exact F.cl T hT a ha }
/-- the search's loop while nothing is found: the rivals ys of x are looked at -/
structure Seeks (N : Int → List Int) (m : Int → Option Int) (t t' : Int → Prop) (ys : List Int) : Prop where
  sub : ∀ y, t y → t' y
  all : ∀ y ∈ ys, t' y
  new : ∀ y, t' y → t y ∨ ∃ x', m y = some x' ∧ ∀ z ∈ N x', t' z
theorem seeks_nil : Seeks N m t t [] := ⟨fun _ h => h, (fun _ h => nomatch h), fun _ h => .inl h⟩
theorem seeks_skip {ys : List Int} (S : Seeks N m t t1 ys) (h : t1 y) : Seeks N m t t1 (ys ++ [y]) where
  sub := S.sub
  all := fun a ha => by
    rcases List.mem_append.mp ha with h' | h'
    · exact S.all a h'
    · rw [List.mem_singleton.mp h']; exact h
  new := S.new
theorem seeks_fail {ys : List Int} (S : Seeks N m t t1 ys) {x' : Int} (hm : m y = some x') (F : Failed N m (fun a => t1 a ∨ a = y) t' x') : Seeks N m t t' (ys ++ [y]) where
  sub := fun a ha => F.sub a (.inl (S.sub a ha))
  all := fun a ha => by
    rcases List.mem_append.mp ha with h' | h'
    · exact F.sub a (.inl (S.all a h'))
    · rw [List.mem_singleton.mp h']; exact F.sub y (.inr rfl)
  new := fun a ha => by
    rcases F.new a ha with (h | h) | h
    · rcases S.new a h with h' | ⟨z, hz, h'⟩
      · exact .inl h'
      · exact .inr ⟨z, hz, fun c hc => F.sub c (.inl (h' c hc))⟩
    · exact .inr ⟨x', by rw [h]; exact hm, F.all⟩
    · exact .inr h
theorem Seeks.failed (S : Seeks N m t t' (N x)) : Failed N m t t' x := ⟨S.sub, S.all, S.new⟩
theorem Failed.dead (F : Failed N m (fun _ => False) t' x) : Dead N m x :=
  ⟨t', fun y hy => (F.new y hy).elim (fun h => h.elim) id, F.all⟩
theorem Found.dead (F : Found N m m' t x) {z : Int} (h : Dead N m z) : Dead N m' z := by
  obtain ⟨T, hT, hz⟩ := h
  exact ⟨T, fun y hy => by obtain ⟨x', h1, h2⟩ := hT y hy; exact ⟨x', by rw [F.cl T hT y hy]; exact h1, h2⟩, hz⟩
/-- what the matching holds when the x of xs were looked at -/
structure Mat (N : Int → List Int) (m : Int → Option Int) (xs : List Int) : Prop where
  inj : ∀ a b v, m a = some v → m b = some v → a = b
  ed : ∀ a v, m a = some v → a ∈ N v
  vs : ∀ a v, m a = some v → v ∈ xs
  dead : ∀ x ∈ xs, (∃ a, m a = some x) ∨ Dead N m x
theorem mat_nil : Mat N (fun _ => none) [] := ⟨(fun _ _ _ h _ => nomatch h), (fun _ _ h => nomatch h), (fun _ _ h => nomatch h), (fun _ h => nomatch h)⟩
theorem Mat.ready {xs : List Int} (M : Mat N m xs) (hx : x ∉ xs) : Ready m (fun _ => False) x := ⟨M.inj, fun a ha => hx (M.vs a x ha)⟩
theorem Mat.found {xs : List Int} (M : Mat N m xs) (hx : x ∉ xs) (F : Found N m m' (fun _ => False) x) : Mat N m' (xs ++ [x]) where
  inj := fun a b v ha hb => by
    rcases F.inj a b v ha hb with h | h
    · exact h
    · subst h
      obtain ⟨y, _, _, _, o⟩ := F.own
      have pa := (o a ha).elim (fun h => h.1.elim) id
      have pb := (o b hb).elim (fun h => h.1.elim) id
      exact pa.trans pb.symm
  ed := F.ed M.ed
  vs := fun a v ha => by
    rcases F.vs v a ha with h | ⟨b, h⟩
    · exact List.mem_append.mpr (.inr (List.mem_singleton.mpr h))
    · exact List.mem_append.mpr (.inl (M.vs b v h))
  dead := fun z hz => by
    rcases List.mem_append.mp hz with h | h
    · rcases M.dead z h with ⟨a, ha⟩ | h
      · exact .inl (F.gr z a ha)
      · exact .inr (F.dead h)
    · obtain ⟨y, _, e, _⟩ := F.own
      rw [List.mem_singleton.mp h]
      exact .inl ⟨y, e⟩
theorem Mat.failed {xs : List Int} (M : Mat N m xs) (F : Failed N m (fun _ => False) t' x) : Mat N m (xs ++ [x]) where
  inj := M.inj
  ed := M.ed
  vs := fun a v ha => List.mem_append.mpr (.inl (M.vs a v ha))
  dead := fun z hz => by
    rcases List.mem_append.mp hz with h | h
    · exact M.dead z h
    · rw [List.mem_singleton.mp h]; exact .inr F.dead
/-- from a dead x every rival is matched, and its partner is dead again -/
theorem dead_next (h : Dead N m x) (hy : y ∈ N x) : ∃ x', m y = some x' ∧ Dead N m x' := by
  obtain ⟨T, hT, hx⟩ := h
  obtain ⟨x', e, h'⟩ := hT y (hx y hy)
  exact ⟨x', e, T, hT, h'⟩
end My
set_option Elab.async false
set_option linter.all false
set_option maxRecDepth 100000
/-! Dicts with int keys as tables; lists of pairs of ints in the heap; the free ones of twelve. -/
namespace My
open PySem PySem.Spec PyProof.Rows L2
def tab (xs : List Int) (f : Int → V) : List (Key × V) := xs.map fun x => (Sum.inl x, f x)
theorem tab_val (xs : List Int) (f : Int → V) (k : Int) : valV (tab xs f) (Sum.inl k) = if k ∈ xs then some (f k) else none := by
  induction xs with
  | nil => rfl
  | cons x r ih =>
    show valV ((Sum.inl x, f x) :: tab r f) (Sum.inl k) = _
    by_cases e : x = k
    · subst e
      rw [valV_pos (p := (Sum.inl x, f x)) rfl, if_pos List.mem_cons_self]
    · rw [valV_neg (p := (Sum.inl x, f x)) (fun z => e (Sum.inl.inj z)), ih]
      have : (k ∈ x :: r) ↔ k ∈ r := ⟨fun h => (List.mem_cons.mp h).elim (fun h => (e h.symm).elim) id, List.mem_cons_of_mem _⟩
      by_cases hk : k ∈ r
      · rw [if_pos hk, if_pos (this.mpr hk)]
      · rw [if_neg hk, if_neg (fun h => hk (this.mp h))]
theorem tab_at {xs : List Int} {f : Int → V} {k : Int} (h : k ∈ xs) : valV (tab xs f) (Sum.inl k) = some (f k) := by rw [tab_val, if_pos h]
theorem tab_no {xs : List Int} {f : Int → V} {k : Int} (h : k ∉ xs) : valV (tab xs f) (Sum.inl k) = none := by rw [tab_val, if_neg h]
def addK (xs : List Int) (k : Int) : List Int := if k ∈ xs then xs else xs ++ [k]
theorem mem_addK {xs : List Int} {k a : Int} : a ∈ addK xs k ↔ a ∈ xs ∨ a = k := by
  unfold addK
  by_cases h : k ∈ xs
  · rw [if_pos h]
    exact ⟨.inl, fun h' => h'.elim id (fun e => e ▸ h)⟩
  · rw [if_neg h, List.mem_append, List.mem_singleton]
theorem nd_addK {xs : List Int} {k : Int} (h : xs.Nodup) : (addK xs k).Nodup := by
  unfold addK
  by_cases hk : k ∈ xs
  · rw [if_pos hk]; exact h
  · rw [if_neg hk]; exact nd_snoc h hk
theorem tab_put (xs : List Int) (f : Int → V) (k : Int) (v : V) : putK (tab xs f) (Sum.inl k) v = tab (addK xs k) (fun x => if x = k then v else f x) := by
  unfold putK addK
  rw [valV_any, tab_val]
  by_cases h : k ∈ xs
  · rw [if_pos h, if_pos h, if_pos (show (some (f k)).isSome = true from rfl)]
    unfold tab
    rw [List.map_map]
    refine List.map_congr_left fun x _ => ?_
    show (if (Sum.inl x : Key) = Sum.inl k then ((Sum.inl x : Key), v) else (Sum.inl x, f x)) = (Sum.inl x, if x = k then v else f x)
    by_cases e : x = k
    · rw [if_pos (by rw [e]), if_pos e]
    · rw [if_neg (fun z => e (Sum.inl.inj z)), if_neg e]
  · rw [if_neg h, if_neg h, if_neg (by decide)]
    unfold tab
    rw [List.map_append, List.map_cons, List.map_nil]
    show _ ++ [(Sum.inl k, v)] = _ ++ [(Sum.inl k, if k = k then v else f k)]
    rw [if_pos rfl]
    congr 1
    refine List.map_congr_left fun x hx => ?_
    show (Sum.inl x, f x) = (Sum.inl x, if x = k then v else f x)
    rw [if_neg (fun e : x = k => h (e ▸ hx))]
theorem tab_len (xs : List Int) (f : Int → V) : (tab xs f).length = xs.length := List.length_map ..
theorem tab_keys (xs : List Int) (f : Int → V) : (tab xs f).map (·.1) = xs.map Sum.inl := by
  unfold tab
  rw [List.map_map]
  rfl
theorem tab_congr {xs : List Int} {f g : Int → V} (h : ∀ x ∈ xs, f x = g x) : tab xs f = tab xs g := List.map_congr_left fun x hx => by rw [h x hx]
theorem ite_heap {c A B : Prop} [Decidable c] {C : Hp → Prop} (R : Hp → Prop) (hb : ¬ c → (∀ H, R H → C H) → B) (ha : c → (∀ H, R H → C H) → A) (h : ∀ H, R H → C H) : if c then A else B := by
  by_cases e : c
  · rw [if_pos e]; exact ha e h
  · rw [if_neg e]; exact hb e h
/-! ### of twelve -/
def In12 (y : Int) : Prop := 0 ≤ y ∧ y < 12
theorem filt_lt {p q : Nat → Bool} (hs : ∀ x, q x = true → p x = true) {n : Nat} (pn : p n = true) (qn : q n = false) : ∀ l : List Nat, n ∈ l → (l.filter q).length < (l.filter p).length
  | [], h => nomatch h
  | a :: r, h => by
    have le : ∀ l : List Nat, (l.filter q).length ≤ (l.filter p).length := by
      intro l
      induction l with
      | nil => exact Nat.le_refl _
      | cons b l ih =>
        rw [List.filter_cons, List.filter_cons]
        cases e : q b with
        | true => rw [hs b e]; simpa using ih
        | false =>
          cases e2 : p b with
          | true => simp; omega
          | false => simpa using ih
    rw [List.filter_cons, List.filter_cons]
    by_cases ea : a = n
    · subst ea
      rw [pn, qn]
      have := le r
      simp
      omega
    · have hr : n ∈ r := (List.mem_cons.mp h).elim (fun e => (ea e.symm).elim) id
      have ih := filt_lt hs pn qn r hr
      cases e : q a with
      | true => rw [hs a e]; simpa using ih
      | false =>
        cases e2 : p a with
        | true => simp; omega
        | false => simpa using ih
/-- how many of the twelve are not in ts -/
def free (ts : List Int) : Nat := ((List.range 12).filter fun n : Nat => !decide ((n : Int) ∈ ts)).length
theorem free_nil : free [] = 12 := by decide
theorem free_lt {ts ts' : List Int} {y : Int} (hy : In12 y) (hn : y ∉ ts) (hi : y ∈ ts') (hs : ∀ a ∈ ts, a ∈ ts') : free ts' < free ts := by
  refine filt_lt (fun x hx => ?_) (n := y.toNat) ?_ ?_ _ ?_
  · rw [Bool.not_eq_true', decide_eq_false_iff_not] at hx ⊢
    exact fun h => hx (hs _ h)
  · rw [Bool.not_eq_true', decide_eq_false_iff_not]
    have : ((y.toNat : Nat) : Int) = y := Int.toNat_of_nonneg hy.1
    rw [this]; exact hn
  · have : ((y.toNat : Nat) : Int) = y := Int.toNat_of_nonneg hy.1
    rw [this, decide_eq_true hi]; rfl
  · rw [List.mem_range]
    have := hy.1; have := hy.2
    omega
theorem len12 {ts : List Int} (nd : ts.Nodup) (h : ∀ y ∈ ts, In12 y) : ts.length ≤ 12 := by
  have key : ∀ (ts D : List Int), ts.Nodup → (∀ x ∈ ts, x ∈ D) → ts.length ≤ D.length := by
    intro ts
    induction ts with
    | nil => intro D _ _; exact Nat.zero_le _
    | cons a r ih =>
      intro D nd hs
      obtain ⟨n1, n2⟩ := List.nodup_cons.mp nd
      have ha : a ∈ D := hs a List.mem_cons_self
      have := ih (D.erase a) n2 (fun x hx => (List.mem_erase_of_ne (fun e : x = a => n1 (e ▸ hx))).mpr (hs x (List.mem_cons_of_mem _ hx)))
      rw [List.length_erase_of_mem ha] at this
      have hp : 0 < D.length := List.length_pos_of_mem ha
      rw [List.length_cons]
      omega
  have := key ts ((List.range 12).map fun n : Nat => (n : Int)) nd (fun y hy => List.mem_map.mpr ⟨y.toNat, by rw [List.mem_range]; have := (h y hy).1; have := (h y hy).2; omega, Int.toNat_of_nonneg (h y hy).1⟩)
  simpa using this
/-! ### pairs of ints in the heap -/
def Pr (H : Hp) (q : Addr × Int × Int) : Prop := H q.1 = some (.tup [.int q.2.1, .int q.2.2])
def Prs (H : Hp) (l : Addr) (ps : List (Addr × Int × Int)) : Prop := H l = some (.lst (ps.map fun q => V.ref q.1)) ∧ ∀ q ∈ ps, Pr H q
def PrsT (H : Hp) (l : Addr) (ps : List (Addr × Int × Int)) : Prop := H l = some (.tup (ps.map fun q => V.ref q.1)) ∧ ∀ q ∈ ps, Pr H q
def Sm12 (ps : List (Addr × Int × Int)) : Prop := ∀ q ∈ ps, In12 q.2.1 ∧ In12 q.2.2
theorem Prs.same {H H' : Hp} {l : Addr} {ps : List (Addr × Int × Int)} (h : Prs H l ps) (s : Same H H') : Prs H' l ps := ⟨s _ _ h.1, fun q hq => s _ _ (h.2 q hq)⟩
theorem PrsT.same {H H' : Hp} {l : Addr} {ps : List (Addr × Int × Int)} (h : PrsT H l ps) (s : Same H H') : PrsT H' l ps := ⟨s _ _ h.1, fun q hq => s _ _ (h.2 q hq)⟩
end My
set_option Elab.async false
set_option linter.all false
set_option maxRecDepth 100000
namespace My
open PySem PySem.Spec PyProof.Rows L2
/-- a dict from ints to lists of ints -/
structure Riv (H : Hp) (d : Addr) (xs : List Int) (ad : Int → Addr) (N : Int → List Int) : Prop where
  dict : H d = some (.dK (tab xs fun x => .ref (ad x)))
  rows : ∀ x ∈ xs, H (ad x) = some (.lst ((N x).map V.int))
  nd : xs.Nodup
  inj : ∀ x ∈ xs, ∀ z ∈ xs, ad x = ad z → x = z
theorem Riv.same {H H' : Hp} {d : Addr} {xs : List Int} {ad : Int → Addr} {N : Int → List Int} (r : Riv H d xs ad N) (h1 : H' d = H d) (h2 : ∀ x ∈ xs, H' (ad x) = H (ad x)) : Riv H' d xs ad N :=
  ⟨by rw [h1]; exact r.dict, fun x hx => by rw [h2 x hx]; exact r.rows x hx, r.nd, r.inj⟩
/-- what it holds: the conflicts E -/
structure Graph (E : Int → Int → Prop) (xs : List Int) (N : Int → List Int) (n : Nat) : Prop where
  ed : ∀ x y, E x y ↔ x ∈ xs ∧ y ∈ N x
  sm : ∀ x ∈ xs, (N x).length ≤ n
theorem Riv.key {H : Hp} {d l : Addr} {xs : List Int} {ad : Int → Addr} {N : Int → List Int} {x : Int} (r : Riv H d xs ad N) (nl : H l = none) (hx : x ∉ xs) :
    Riv (upd (upd H l (.lst [])) d (.dK (putK (tab xs fun x => .ref (ad x)) (Sum.inl x) (.ref l)))) d (xs ++ [x]) (fun z => if z = x then l else ad z) (fun z => if z = x then [] else N z) := by
  have ld : l ≠ d := (ne_of_none r.dict nl).symm
  have la : ∀ z ∈ xs, ad z ≠ l := fun z hz => ne_of_none (r.rows z hz) nl
  have da : ∀ z ∈ xs, ad z ≠ d := fun z hz e => by
    have := r.rows z hz
    rw [e, r.dict] at this
    cases this
  refine ⟨?_, ?_, nd_snoc r.nd hx, ?_⟩
  · rw [upd_same, tab_put]
    congr 2
    unfold addK
    rw [if_neg hx]
    refine tab_congr fun z _ => ?_
    by_cases e : z = x
    · rw [if_pos e, if_pos e]
    · rw [if_neg e, if_neg e]
  · intro z hz
    by_cases e : z = x
    · rw [if_pos e, if_pos e, upd_ne ld, upd_same]; rfl
    · rw [if_neg e, if_neg e]
      have hz : z ∈ xs := (List.mem_append.mp hz).elim id (fun h => (e (List.mem_singleton.mp h)).elim)
      rw [upd_ne (da z hz), upd_ne (la z hz)]
      exact r.rows z hz
  · intro z hz u hu
    by_cases e : z = x
    · by_cases e2 : u = x
      · intro _; rw [e, e2]
      · have hu : u ∈ xs := (List.mem_append.mp hu).elim id (fun h => (e2 (List.mem_singleton.mp h)).elim)
        rw [if_pos e, if_neg e2]
        exact fun h => (la u hu h.symm).elim
    · have hz : z ∈ xs := (List.mem_append.mp hz).elim id (fun h => (e (List.mem_singleton.mp h)).elim)
      by_cases e2 : u = x
      · rw [if_neg e, if_pos e2]
        exact fun h => (la z hz h).elim
      · have hu : u ∈ xs := (List.mem_append.mp hu).elim id (fun h => (e2 (List.mem_singleton.mp h)).elim)
        rw [if_neg e, if_neg e2]
        exact r.inj z hz u hu
theorem Riv.push {H : Hp} {d : Addr} {xs : List Int} {ad : Int → Addr} {N : Int → List Int} {x : Int} (r : Riv H d xs ad N) (hx : x ∈ xs) (y : Int) :
    Riv (upd H (ad x) (.lst ((N x).map V.int ++ [.int y]))) d xs ad (fun z => if z = x then N x ++ [y] else N z) := by
  have da : ad x ≠ d := fun e => by
    have := r.rows x hx
    rw [e, r.dict] at this
    cases this
  refine ⟨by rw [upd_ne da.symm]; exact r.dict, fun z hz => ?_, r.nd, r.inj⟩
  by_cases e : z = x
  · rw [if_pos e, e, upd_same, List.map_append]; rfl
  · rw [if_neg e, upd_ne (fun h => e (r.inj z hz x hx h))]
    exact r.rows z hz
end My
set_option Elab.async false
set_option linter.all false
set_option maxRecDepth 100000
namespace My
open PySem PySem.Spec PyProof.Rows L2
def mOf (ys : List Int) (g : Int → Int) : Int → Option Int := fun y => if y ∈ ys then some (g y) else none
theorem mOf_at {ys : List Int} {g : Int → Int} {y : Int} (h : y ∈ ys) : mOf ys g y = some (g y) := if_pos h
theorem mOf_no {ys : List Int} {g : Int → Int} {y : Int} (h : y ∉ ys) : mOf ys g y = none := if_neg h
theorem mOf_put (ys : List Int) (g : Int → Int) (y x : Int) : mOf (addK ys y) (fun z => if z = y then x else g z) = setM (mOf ys g) y x := by
  funext a
  show (if a ∈ addK ys y then some (if a = y then x else g a) else none) = if a = y then some x else if a ∈ ys then some (g a) else none
  by_cases e : a = y
  · rw [if_pos (mem_addK.mpr (.inr e)), if_pos e, if_pos e]
  · by_cases h : a ∈ ys
    · rw [if_pos (mem_addK.mpr (.inl h)), if_pos h, if_neg e, if_neg e]
    · rw [if_neg (fun z => (mem_addK.mp z).elim h e), if_neg h, if_neg e]
/-- a matcher in the heap -/
structure MAt (C : Addr) (H : Hp) (a dx rd md td : Addr) (xs : List Int) (ad : Int → Addr) (N : Int → List Int) (ys : List Int) (g : Int → Int) (ts : List Int) : Prop where
  ob : H a = some (.ins C dx [("rivals", .ref rd), ("matched", .ref md), ("tried", .ref td)])
  riv : Riv H rd xs ad N
  mat : H md = some (.dK (tab ys fun y => .int (g y)))
  tri : H td = some (.dK (tab ts fun _ => .bl true))
  n1 : md ≠ td
  n2 : rd ≠ md
  n3 : rd ≠ td
def Kept2 (md td : Addr) (H H' : Hp) : Prop := ∀ b o, b ≠ md → b ≠ td → H b = some o → H' b = some o
theorem Kept2.trans {md td : Addr} {H H1 H2 : Hp} (a : Kept2 md td H H1) (c : Kept2 md td H1 H2) : Kept2 md td H H2 := fun b o h1 h2 e => c b o h1 h2 (a b o h1 h2 e)
theorem Kept2.same {md td : Addr} {H H' : Hp} (h : Same H H') : Kept2 md td H H' := fun b o _ _ e => h b o e
theorem Kept2.atM {md td : Addr} {H : Hp} {o : HO} : Kept2 md td H (upd H md o) := fun b o' h _ e => by rw [upd_ne h]; exact e
theorem Kept2.atT {md td : Addr} {H : Hp} {o : HO} : Kept2 md td H (upd H td o) := fun b o' _ h e => by rw [upd_ne h]; exact e
section
variable {C : Addr} {H H' : Hp} {a dx rd md td : Addr} {xs : List Int} {ad : Int → Addr} {N : Int → List Int} {ys ys' : List Int} {g g' : Int → Int} {ts ts' : List Int}
theorem MAt.am (M : MAt C H a dx rd md td xs ad N ys g ts) : a ≠ md := fun e => by have := M.ob; rw [e, M.mat] at this; cases this
theorem MAt.at' (M : MAt C H a dx rd md td xs ad N ys g ts) : a ≠ td := fun e => by have := M.ob; rw [e, M.tri] at this; cases this
theorem MAt.keep (M : MAt C H a dx rd md td xs ad N ys g ts) (k : Kept2 md td H H') (hm : H' md = some (.dK (tab ys' fun y => .int (g' y)))) (ht : H' td = some (.dK (tab ts' fun _ => .bl true))) : MAt C H' a dx rd md td xs ad N ys' g' ts' where
  ob := k _ _ M.am M.at' M.ob
  riv := ⟨k _ _ M.n2 M.n3 M.riv.dict, fun x hx => k _ _ (fun e => by have := M.riv.rows x hx; rw [e, M.mat] at this; cases this) (fun e => by have := M.riv.rows x hx; rw [e, M.tri] at this; cases this) (M.riv.rows x hx), M.riv.nd, M.riv.inj⟩
  mat := hm
  tri := ht
  n1 := M.n1
  n2 := M.n2
  n3 := M.n3
theorem MAt.more (M : MAt C H a dx rd md td xs ad N ys g ts) (s : Same H H') : MAt C H' a dx rd md td xs ad N ys g ts := M.keep (Kept2.same s) (s _ _ M.mat) (s _ _ M.tri)
theorem MAt.try (M : MAt C H a dx rd md td xs ad N ys g ts) {y : Int} (hy : y ∉ ts) : MAt C (upd H td (.dK (putK (tab ts fun _ => .bl true) (Sum.inl y) (.bl true)))) a dx rd md td xs ad N ys g (ts ++ [y]) := by
  refine M.keep Kept2.atT (by rw [upd_ne M.n1]; exact M.mat) ?_
  rw [upd_same, tab_put]
  unfold addK
  rw [if_neg hy]
  congr 2
  exact tab_congr fun z _ => by split <;> rfl
theorem MAt.match' (M : MAt C H a dx rd md td xs ad N ys g ts) (y x : Int) : MAt C (upd H md (.dK (putK (tab ys fun y => .int (g y)) (Sum.inl y) (.int x)))) a dx rd md td xs ad N (addK ys y) (fun z => if z = y then x else g z) ts := by
  refine M.keep Kept2.atM ?_ (by rw [upd_ne M.n1.symm]; exact M.tri)
  rw [upd_same, tab_put]
  congr 2
  refine tab_congr fun z _ => ?_
  by_cases e : z = y
  · rw [if_pos e, if_pos e]
  · rw [if_neg e, if_neg e]
/-- what the numbers of a matcher are -/
structure Fine (xs : List Int) (N : Int → List Int) (ys : List Int) (g : Int → Int) (ts : List Int) : Prop where
  n12 : ∀ x ∈ xs, ∀ y ∈ N x, In12 y
  few : ∀ x ∈ xs, (N x).length ≤ 64
  gy : ∀ y ∈ ys, g y ∈ xs
  y12 : ∀ y ∈ ys, In12 y
  ndy : ys.Nodup
  t12 : ∀ y ∈ ts, In12 y
  ndt : ts.Nodup
theorem Fine.tried (f : Fine xs N ys g ts) {y : Int} (hy : In12 y) (hn : y ∉ ts) : Fine xs N ys g (ts ++ [y]) :=
  { f with
    t12 := fun z hz => (List.mem_append.mp hz).elim (f.t12 z) (fun h => by rw [List.mem_singleton.mp h]; exact hy)
    ndt := nd_snoc f.ndt hn }
theorem Fine.matched (f : Fine xs N ys g ts) {x y : Int} (hx : x ∈ xs) (hy : In12 y) : Fine xs N (addK ys y) (fun z => if z = y then x else g z) ts :=
  { f with
    gy := fun z hz => by
      show (if z = y then x else g z) ∈ xs
      by_cases e : z = y
      · rw [if_pos e]; exact hx
      · rw [if_neg e]; exact f.gy z ((mem_addK.mp hz).elim id (fun h => (e h).elim))
    y12 := fun z hz => (mem_addK.mp hz).elim (f.y12 z) (fun h => by rw [h]; exact hy)
    ndy := nd_addK f.ndy }
end
def sp_find (C : Addr) (d : Nat) : Sp := fun vs H Q _ => ∃ (a dx rd md td : Addr) (x : Int) (xs : List Int) (ad : Int → Addr) (N : Int → List Int) (ys : List Int) (g : Int → Int) (ts : List Int),
  vs = [.ref a, .int x] ∧ MAt C H a dx rd md td xs ad N ys g ts ∧ x ∈ xs ∧ Fine xs N ys g ts ∧ Ready (mOf ys g) (· ∈ ts) x ∧ free ts ≤ d ∧
  (∀ (H' : Hp) (ts' : List Int), Kept2 md td H H' → MAt C H' a dx rd md td xs ad N ys g ts' → Fine xs N ys g ts' → Failed N (mOf ys g) (· ∈ ts) (· ∈ ts') x → Q (.bl false) H') ∧
  (∀ (H' : Hp) (ys' : List Int) (g' : Int → Int) (ts' : List Int), Kept2 md td H H' → MAt C H' a dx rd md td xs ad N ys' g' ts' → Fine xs N ys' g' ts' → Found N (mOf ys g) (mOf ys' g') (· ∈ ts) x → Q (.bl true) H')
end My
set_option Elab.async false
set_option linter.all false
set_option maxRecDepth 100000
namespace My
open PySem PySem.Spec PyProof.Rows L2
def ltP (p q : Int × Int) : Prop := p.1 < q.1 ∨ (p.1 = q.1 ∧ p.2 < q.2)
/-- from x no way by turns leads to a y without a partner -/
def DeadE (E F : List (Int × Int)) (x : Int) : Prop := ∃ T : Int → Prop, (∀ y, T y → ∃ x', (x', y) ∈ F ∧ ∀ z, (x', z) ∈ E → T z) ∧ ∀ z, (x, z) ∈ E → T z
structure Maxi (E F : List (Int × Int)) : Prop where
  sub : ∀ p ∈ F, p ∈ E
  n1 : (F.map (·.1)).Nodup
  n2 : (F.map (·.2)).Nodup
  dead : ∀ x y, (x, y) ∈ E → x ∉ F.map (·.1) → DeadE E F x
theorem perm_map_ex {α β : Type} {f : α → β} {ys zs : List β} (h : ys.Perm zs) : ∀ l : List α, zs = l.map f → ∃ l' : List α, l'.Perm l ∧ l'.map f = ys := by
  induction h with
  | nil => intro l e; cases l with
    | nil => exact ⟨[], .nil, rfl⟩
    | cons a r => cases e
  | cons x h ih =>
    intro l e
    cases l with
    | nil => cases e
    | cons a r =>
      injection e with e1 e2
      obtain ⟨l', p, e3⟩ := ih r e2
      exact ⟨a :: l', p.cons a, by rw [List.map_cons, e3, e1]⟩
  | swap x y r =>
    intro l e
    cases l with
    | nil => cases e
    | cons a l =>
      injection e with e1 e2
      cases l with
      | nil => cases e2
      | cons b l =>
        injection e2 with e2 e3
        exact ⟨b :: a :: l, .swap a b l, by rw [List.map_cons, List.map_cons, e1, e2, e3]⟩
  | trans h1 h2 ih1 ih2 =>
    intro l e
    obtain ⟨l2, p2, e2⟩ := ih2 l e
    obtain ⟨l1, p1, e1⟩ := ih1 l2 e2.symm
    exact ⟨l1, p1.trans p2, e1⟩
theorem nodup_map {α β : Type} {f : α → β} : ∀ {l : List α}, l.Nodup → (∀ a ∈ l, ∀ b ∈ l, f a = f b → a = b) → (l.map f).Nodup
  | [], _, _ => List.nodup_nil
  | a :: r, nd, h => by
    obtain ⟨n1, n2⟩ := List.nodup_cons.mp nd
    refine List.nodup_cons.mpr ⟨fun hm => ?_, nodup_map n2 fun b hb c hc => h b (List.mem_cons_of_mem _ hb) c (List.mem_cons_of_mem _ hc)⟩
    obtain ⟨b, hb, e⟩ := List.mem_map.mp hm
    exact n1 (h a List.mem_cons_self b (List.mem_cons_of_mem _ hb) e.symm ▸ hb)
theorem maxi_of {E F : List (Int × Int)} {xs : List Int} {N : Int → List Int} {ys : List Int} {g : Int → Int} {ts : List Int} (gr : Graph (fun x y => (x, y) ∈ E) xs N 64) (f : Fine xs N ys g ts) (M : Mat N (mOf ys g) xs) (p : F.Perm (ys.map fun y => (g y, y))) : Maxi E F := by
  have mem : ∀ x y, (x, y) ∈ F ↔ y ∈ ys ∧ g y = x := fun x y => by
    rw [p.mem_iff, List.mem_map]
    constructor
    · rintro ⟨z, hz, e⟩
      injection e with e1 e2
      subst e2
      exact ⟨hz, e1⟩
    · rintro ⟨h, e⟩
      exact ⟨y, h, by rw [e]⟩
  have one : ∀ x y, (x, y) ∈ F → mOf ys g y = some x := fun x y h => by
    obtain ⟨h1, h2⟩ := (mem x y).mp h
    rw [mOf_at h1, h2]
  have back : ∀ x y, mOf ys g y = some x → (x, y) ∈ F := fun x y h => by
    by_cases hy : y ∈ ys
    · rw [mOf_at hy] at h
      exact (mem x y).mpr ⟨hy, Option.some.inj h⟩
    · rw [mOf_no hy] at h; cases h
  refine ⟨fun q hq => ?_, ?_, ?_, fun x y hxy hx => ?_⟩
  · have := one q.1 q.2 hq
    exact (gr.ed q.1 q.2).mpr ⟨M.vs _ _ this, M.ed _ _ this⟩
  · rw [(p.map (·.1)).nodup_iff, List.map_map]
    exact nodup_map f.ndy fun a ha b hb e => M.inj a b (g a) (mOf_at ha) (by rw [mOf_at hb]; exact congrArg some e.symm)
  · rw [(p.map (·.2)).nodup_iff, List.map_map]
    exact nodup_map f.ndy fun a _ b _ e => e
  · have hxs := ((gr.ed x y).mp hxy).1
    rcases M.dead x hxs with ⟨a, ha⟩ | ⟨T, hT, hN⟩
    · exact (hx (List.mem_map.mpr ⟨(x, a), back x a ha, rfl⟩)).elim
    · refine ⟨T, fun b hb => ?_, fun z hz => hN z ((gr.ed x z).mp hz).2⟩
      obtain ⟨x', e, h'⟩ := hT b hb
      exact ⟨x', back x' b e, fun z hz => h' z ((gr.ed x' z).mp hz).2⟩
theorem dead_step {E F : List (Int × Int)} {x y : Int} (h : DeadE E F x) (hy : (x, y) ∈ E) : ∃ x', (x', y) ∈ F ∧ DeadE E F x' := by
  obtain ⟨T, hT, hx⟩ := h
  obtain ⟨x', e, h'⟩ := hT y (hx y hy)
  exact ⟨x', e, T, hT, h'⟩
end My
set_option Elab.async false
set_option linter.all false
/-! Covers and matchings: as many claims as conflicts (Nu), the least cover found claim by claim (greedy), what is left of it behind its first claim. Pure. -/
namespace My
/-- a claim: the slot, and whether it is the shipped side -/
abbrev Cl := Int × Bool
def bears (e : Int × Int) (c : Cl) : Bool := if c.2 = true then decide (e.2 = c.1) else decide (e.1 = c.1)
theorem bears_own {e : Int × Int} {x : Int} : bears e (x, false) = true ↔ e.1 = x := by simp [bears]
theorem bears_shp {e : Int × Int} {y : Int} : bears e (y, true) = true ↔ e.2 = y := by simp [bears]
def outOf (E : List (Int × Int)) (c : Cl) : List (Int × Int) := E.filter fun e => !bears e c
theorem mem_out {E : List (Int × Int)} {c : Cl} {e : Int × Int} : e ∈ outOf E c ↔ e ∈ E ∧ bears e c = false := by
  unfold outOf
  rw [List.mem_filter, Bool.not_eq_true']
def Cov (E : List (Int × Int)) (C : List Cl) : Prop := ∀ e ∈ E, ∃ c ∈ C, bears e c = true
structure IsM (E P : List (Int × Int)) : Prop where
  sub : ∀ p ∈ P, p ∈ E
  n1 : (P.map (·.1)).Nodup
  n2 : (P.map (·.2)).Nodup
theorem sub_len {α : Type} [DecidableEq α] : ∀ (l D : List α), l.Nodup → (∀ x ∈ l, x ∈ D) → l.length ≤ D.length
  | [], D, _, _ => Nat.zero_le _
  | a :: r, D, nd, hs => by
    obtain ⟨n1, n2⟩ := List.nodup_cons.mp nd
    have ha : a ∈ D := hs a List.mem_cons_self
    have := sub_len r (D.erase a) n2 (fun x hx => (List.mem_erase_of_ne (fun e : x = a => n1 (e ▸ hx))).mpr (hs x (List.mem_cons_of_mem _ hx)))
    rw [List.length_erase_of_mem ha] at this
    have hp : 0 < D.length := List.length_pos_of_mem ha
    rw [List.length_cons]
    omega
theorem uniq1 {F : List (Int × Int)} (nd : (F.map (·.1)).Nodup) : ∀ a ∈ F, ∀ b ∈ F, a.1 = b.1 → a = b := by
  induction F with
  | nil => intro a h; exact nomatch h
  | cons z r ih =>
    obtain ⟨n1, n2⟩ := List.nodup_cons.mp nd
    intro a ha b hb e
    rcases List.mem_cons.mp ha with ea | ha
    · rcases List.mem_cons.mp hb with eb | hb
      · rw [ea, eb]
      · exact (n1 (List.mem_map.mpr ⟨b, hb, by rw [← e, ea]⟩)).elim
    · rcases List.mem_cons.mp hb with eb | hb
      · exact (n1 (List.mem_map.mpr ⟨a, ha, by rw [e, eb]⟩)).elim
      · exact ih n2 a ha b hb e
theorem uniq2 {F : List (Int × Int)} (nd : (F.map (·.2)).Nodup) : ∀ a ∈ F, ∀ b ∈ F, a.2 = b.2 → a = b := by
  induction F with
  | nil => intro a h; exact nomatch h
  | cons z r ih =>
    obtain ⟨n1, n2⟩ := List.nodup_cons.mp nd
    intro a ha b hb e
    rcases List.mem_cons.mp ha with ea | ha
    · rcases List.mem_cons.mp hb with eb | hb
      · rw [ea, eb]
      · exact (n1 (List.mem_map.mpr ⟨b, hb, by rw [← e, ea]⟩)).elim
    · rcases List.mem_cons.mp hb with eb | hb
      · exact (n1 (List.mem_map.mpr ⟨a, ha, by rw [e, eb]⟩)).elim
      · exact ih n2 a ha b hb e
theorem nodup_of {α β : Type} {f : α → β} {l : List α} (h : (l.map f).Nodup) : l.Nodup := List.Pairwise.of_map f (fun _ _ hne e => hne (congrArg f e)) h
theorem weak {E P : List (Int × Int)} {C : List Cl} (m : IsM E P) (c : Cov E C) : P.length ≤ C.length := by
  let f : Int × Int → Cl := fun p => if (p.1, false) ∈ C then (p.1, false) else (p.2, true)
  have fin : ∀ p ∈ P, f p ∈ C := fun p hp => by
    show (if (p.1, false) ∈ C then (p.1, false) else (p.2, true)) ∈ C
    by_cases h : (p.1, false) ∈ C
    · rw [if_pos h]; exact h
    · rw [if_neg h]
      obtain ⟨⟨x, b⟩, hc, hb⟩ := c p (m.sub p hp)
      cases b with
      | false => rw [bears_own.mp hb] at h; exact (h hc).elim
      | true => rw [bears_shp.mp hb]; exact hc
  have inj : ∀ a ∈ P, ∀ b ∈ P, f a = f b → a = b := fun a ha b hb e => by
    have e : (if (a.1, false) ∈ C then (a.1, false) else (a.2, true)) = if (b.1, false) ∈ C then (b.1, false) else (b.2, true) := e
    by_cases h1 : (a.1, false) ∈ C
    · rw [if_pos h1] at e
      by_cases h2 : (b.1, false) ∈ C
      · rw [if_pos h2] at e
        exact uniq1 m.n1 a ha b hb (Prod.mk.inj e).1
      · rw [if_neg h2] at e
        exact nomatch (congrArg Prod.snd e : false = true)
    · rw [if_neg h1] at e
      by_cases h2 : (b.1, false) ∈ C
      · rw [if_pos h2] at e
        exact nomatch (congrArg Prod.snd e : true = false)
      · rw [if_neg h2] at e
        exact uniq2 m.n2 a ha b hb (Prod.mk.inj e).1
  have := sub_len (P.map f) C (nodup_map (nodup_of m.n1) inj) (fun x hx => by obtain ⟨p, hp, e⟩ := List.mem_map.mp hx; rw [← e]; exact fin p hp)
  rwa [List.length_map] at this
/-- n conflicts match, n claims cover -/
def Nu (E : List (Int × Int)) (n : Nat) : Prop := ∃ P C, IsM E P ∧ Cov E C ∧ P.length = n ∧ C.length = n
theorem nu_one {E : List (Int × Int)} {n m : Nat} (h : Nu E n) (g : Nu E m) : n = m := by
  obtain ⟨P, C, a1, a2, a3, a4⟩ := h
  obtain ⟨P', C', b1, b2, b3, b4⟩ := g
  have := weak a1 b2
  have := weak b1 a2
  omega
theorem nu_same {E E' : List (Int × Int)} {n : Nat} (s : ∀ e, e ∈ E ↔ e ∈ E') (h : Nu E n) : Nu E' n := by
  obtain ⟨P, C, a1, a2, a3, a4⟩ := h
  exact ⟨P, C, ⟨fun p hp => (s p).mp (a1.sub p hp), a1.n1, a1.n2⟩, fun e he => a2 e ((s e).mpr he), a3, a4⟩
theorem cov_len {E : List (Int × Int)} {n : Nat} {C : List Cl} (h : Nu E n) (c : Cov E C) : n ≤ C.length := by
  obtain ⟨P, _, a1, _, a3, _⟩ := h
  have := weak a1 c
  omega
theorem mat_len {E P : List (Int × Int)} {n : Nat} (h : Nu E n) (m : IsM E P) : P.length ≤ n := by
  obtain ⟨_, C, _, a2, _, a4⟩ := h
  have := weak m a2
  omega
theorem nu_out {E : List (Int × Int)} {c : Cl} {n n' : Nat} (h : Nu E n) (g : Nu (outOf E c) n') : n' ≤ n ∧ n ≤ n' + 1 := by
  obtain ⟨P', C', b1, b2, b3, b4⟩ := g
  refine ⟨?_, ?_⟩
  · rw [← b3]
    exact mat_len h ⟨fun p hp => (mem_out.mp (b1.sub p hp)).1, b1.n1, b1.n2⟩
  · have : Cov E (c :: C') := fun e he => by
      cases hb : bears e c with
      | true => exact ⟨c, List.mem_cons_self, hb⟩
      | false =>
        obtain ⟨d, hd, hh⟩ := b2 e (mem_out.mpr ⟨he, hb⟩)
        exact ⟨d, List.mem_cons_of_mem _ hd, hh⟩
    have := cov_len h this
    rw [List.length_cons] at this
    omega
theorem nu_nil : Nu [] 0 := ⟨[], [], ⟨(fun _ h => nomatch h), List.nodup_nil, List.nodup_nil⟩, (fun _ h => nomatch h), rfl, rfl⟩
/-- a maximal matching has a cover of its size -/
theorem Maxi.nu {E F : List (Int × Int)} (m : Maxi E F) : Nu E F.length := by
  classical
  let dd : Int → Prop := fun y => ∃ x, DeadE E F x ∧ (x, y) ∈ E
  let f : Int × Int → Cl := fun p => if dd p.2 then (p.2, true) else (p.1, false)
  refine ⟨F, F.map f, ⟨m.sub, m.n1, m.n2⟩, fun e he => ?_, rfl, List.length_map ..⟩
  obtain ⟨x, y⟩ := e
  by_cases hx : DeadE E F x
  · obtain ⟨x', hF, _⟩ := dead_step hx he
    refine ⟨(y, true), List.mem_map.mpr ⟨(x', y), hF, ?_⟩, bears_shp.mpr rfl⟩
    show (if dd y then _ else _) = _
    rw [if_pos ⟨x, hx, he⟩]
  · have hm : x ∈ F.map (·.1) := by
      by_cases h : x ∈ F.map (·.1)
      · exact h
      · exact (hx (m.dead x y he h)).elim
    obtain ⟨⟨x0, y'⟩, hF, e0⟩ := List.mem_map.mp hm
    have e0 : x0 = x := e0
    subst e0
    refine ⟨(x0, false), List.mem_map.mpr ⟨(x0, y'), hF, ?_⟩, bears_own.mpr rfl⟩
    show (if dd y' then _ else _) = _
    rw [if_neg]
    rintro ⟨x1, h1, h2⟩
    obtain ⟨x2, hF2, h3⟩ := dead_step h1 h2
    have := uniq2 m.n2 (x2, y') hF2 (x0, y') hF rfl
    have : x2 = x0 := congrArg Prod.fst this
    rw [this] at h3
    exact hx h3
/-! ### the least cover -/
def ltC (a b : Cl) : Prop := a.1 < b.1 ∨ (a.1 = b.1 ∧ a.2 = false ∧ b.2 = true)
theorem ltC_irr {a : Cl} : ¬ ltC a a := fun h => by
  rcases h with h | ⟨_, h1, h2⟩
  · omega
  · rw [h1] at h2; cases h2
theorem ltC_trans {a b c : Cl} (h : ltC a b) (g : ltC b c) : ltC a c := by
  unfold ltC at *
  rcases h with h | ⟨h1, h2, h3⟩
  · rcases g with g | ⟨g1, g2, g3⟩
    · left; omega
    · left; omega
  · rcases g with g | ⟨g1, g2, g3⟩
    · left; omega
    · rw [h3] at g2; cases g2
theorem ltC_tri (a b : Cl) : ltC a b ∨ a = b ∨ ltC b a := by
  obtain ⟨x, p⟩ := a
  obtain ⟨y, q⟩ := b
  unfold ltC
  rcases Int.lt_trichotomy x y with h | h | h
  · exact .inl (.inl h)
  · subst h
    cases p <;> cases q <;> simp
  · exact .inr (.inr (.inl h))
/-- ahead of, of lists of the same length -/
def lexC : List Cl → List Cl → Prop
  | a :: r, b :: q => ltC a b ∨ (a = b ∧ lexC r q)
  | _, _ => False
theorem lexC_irr : ∀ {l : List Cl}, ¬ lexC l l
  | [], h => h
  | a :: r, h => by
    rcases h with h | ⟨_, h⟩
    · exact ltC_irr h
    · exact lexC_irr h
theorem lexC_asym : ∀ {l m : List Cl}, lexC l m → ¬ lexC m l
  | [], _, h, _ => h
  | a :: r, [], h, _ => h
  | a :: r, b :: q, h, g => by
    rcases h with h | ⟨h1, h⟩
    · rcases g with g | ⟨g1, g⟩
      · exact ltC_irr (ltC_trans h g)
      · rw [g1] at h; exact ltC_irr h
    · rcases g with g | ⟨g1, g⟩
      · rw [h1] at g; exact ltC_irr g
      · exact lexC_asym h g
structure Least (E : List (Int × Int)) (C : List Cl) : Prop where
  cov : Cov E C
  nu : Nu E C.length
  asc : C.Pairwise ltC
  min : ∀ D, D.Pairwise ltC → Cov E D → D.length = C.length → C = D ∨ lexC C D
theorem Least.one {E : List (Int × Int)} {C D : List Cl} (a : Least E C) (b : Least E D) : C = D := by
  have e := nu_one a.nu b.nu
  rcases a.min D b.asc b.cov e.symm with h | h
  · exact h
  · rcases b.min C a.asc a.cov e with g | g
    · exact g.symm
    · exact (lexC_asym h g).elim
theorem Least.same {E E' : List (Int × Int)} {C : List Cl} (s : ∀ e, e ∈ E ↔ e ∈ E') (a : Least E C) : Least E' C :=
  ⟨fun e he => a.cov e ((s e).mpr he), nu_same s a.nu, a.asc, fun D h1 h2 h3 => a.min D h1 (fun e he => h2 e ((s e).mp he)) h3⟩
theorem least_nil : Least [] [] := ⟨(fun _ h => nomatch h), nu_nil, List.Pairwise.nil, fun D _ _ h => by
  cases D with
  | nil => exact .inl rfl
  | cons a r => cases h⟩
/-- every claim of a least list of claims is one of the conflicts' -/
theorem least_claim {E : List (Int × Int)} {n : Nat} {D : List Cl} (h : Nu E n) (c : Cov E D) (e : D.length = n) {d : Cl} (hd : d ∈ D) : ∃ e ∈ E, bears e d = true := by
  by_cases hh : ∃ e ∈ E, bears e d = true
  · exact hh
  · have : Cov E (D.erase d) := fun e he => by
      obtain ⟨c', hc, hb⟩ := c e he
      have : c' ≠ d := fun z => hh ⟨e, he, z ▸ hb⟩
      exact ⟨c', (List.mem_erase_of_ne this).mpr hc, hb⟩
    have := cov_len h this
    rw [List.length_erase_of_mem hd] at this
    have := List.length_pos_of_mem hd
    omega
/-- without d what is left of such a list covers the rest -/
theorem cov_erase {E : List (Int × Int)} {D : List Cl} (c : Cov E D) (d : Cl) : Cov (outOf E d) (D.erase d) := fun e he => by
  obtain ⟨h1, h2⟩ := mem_out.mp he
  obtain ⟨c', hc, hb⟩ := c e h1
  exact ⟨c', (List.mem_erase_of_ne (fun z => by rw [z, h2] at hb; cases hb)).mpr hc, hb⟩
/-- claim by claim: it is taken if the others have a smaller matching -/
def greedy (ν : List (Int × Int) → Nat) : List Cl → List (Int × Int) → Nat → List Cl
  | [], _, _ => []
  | c :: cs, left, n => if ν (outOf left c) < n then c :: greedy ν cs (outOf left c) (n - 1) else greedy ν cs left n
theorem out_comm (E : List (Int × Int)) (c d : Cl) : outOf (outOf E c) d = outOf (outOf E d) c := by
  unfold outOf
  rw [List.filter_filter, List.filter_filter]
  exact List.filter_congr fun e _ => Bool.and_comm _ _
theorem greedy_ok {ν : List (Int × Int) → Nat} {G : List (Int × Int) → Prop} (hG : ∀ E c, G E → G (outOf E c)) (hν : ∀ E, G E → Nu E (ν E)) : ∀ (cs : List Cl) (left : List (Int × Int)) (n : Nat) (ps : List Cl), G left → Nu left n → cs.Pairwise ltC →
    (∀ e ∈ left, ∀ d, bears e d = true → d ∈ cs ∨ d ∈ ps) → (∀ p ∈ ps, Nu (outOf left p) n) →
    Cov left (greedy ν cs left n) ∧ (greedy ν cs left n).length = n ∧ (greedy ν cs left n).Sublist cs ∧ ∀ D, D.Pairwise ltC → Cov left D → D.length = n → greedy ν cs left n = D ∨ lexC (greedy ν cs left n) D
  | [], left, n, ps, g, h, _, hall, hps => by
    have n0 : n = 0 := by
      cases n with
      | zero => rfl
      | succ n =>
        obtain ⟨P, C, a1, a2, a3, a4⟩ := id h
        cases C with
        | nil => cases a4
        | cons d r =>
          obtain ⟨e, he, hb⟩ := least_claim h a2 a4 List.mem_cons_self
          have hd := (hall e he d hb).elim (fun z => nomatch z) id
          have := cov_len (hps d hd) (cov_erase a2 d)
          rw [List.length_erase_of_mem List.mem_cons_self, a4] at this
          omega
    subst n0
    obtain ⟨P, C, a1, a2, a3, a4⟩ := h
    have : C = [] := List.eq_nil_of_length_eq_zero a4
    subst this
    refine ⟨a2, rfl, List.Sublist.refl _, fun D _ _ hD => .inl ?_⟩
    exact (List.eq_nil_of_length_eq_zero hD).symm
  | c :: cs, left, n, ps, g, h, asc, hall, hps => by
    obtain ⟨big, asc'⟩ := List.pairwise_cons.mp asc
    have g' := hG left c g
    have h' := hν _ g'
    obtain ⟨le, ge⟩ := nu_out h h'
    unfold greedy
    by_cases take : ν (outOf left c) < n
    · rw [if_pos take]
      have en : ν (outOf left c) = n - 1 := by omega
      rw [en] at h'
      obtain ⟨i1, i2, i3, i4⟩ := greedy_ok hG hν cs (outOf left c) (n - 1) ps g' h' asc' (fun e he d hb => by
        obtain ⟨h1, h2⟩ := mem_out.mp he
        rcases hall e h1 d hb with z | z
        · rcases List.mem_cons.mp z with z | z
          · rw [z, h2] at hb; cases hb
          · exact .inl z
        · exact .inr z) (fun p hp => by
        have q := hps p hp
        rw [out_comm]
        have g2 := hG _ c (hG left p g)
        have q2 := hν _ g2
        have := nu_out q q2
        have q3 : Nu (outOf (outOf left c) p) (ν (outOf (outOf left p) c)) := by rw [out_comm]; exact q2
        have := nu_out h' q3
        have e : ν (outOf (outOf left p) c) = n - 1 := by omega
        rw [e] at q2
        exact q2)
      refine ⟨fun e he => ?_, by rw [List.length_cons, i2]; omega, i3.cons_cons c, fun D dAsc dCov dLen => ?_⟩
      · cases hb : bears e c with
        | true => exact ⟨c, List.mem_cons_self, hb⟩
        | false =>
          obtain ⟨d, hd, hh⟩ := i1 e (mem_out.mpr ⟨he, hb⟩)
          exact ⟨d, List.mem_cons_of_mem _ hd, hh⟩
      · cases D with
        | nil => rw [List.length_nil] at dLen; omega
        | cons d r =>
          obtain ⟨dbig, rAsc⟩ := List.pairwise_cons.mp dAsc
          -- d is a claim of what is left, and none that was passed
          obtain ⟨e, he, hb⟩ := least_claim h dCov dLen List.mem_cons_self
          rcases hall e he d hb with z | z
          · rcases List.mem_cons.mp z with z | z
            · subst z
              have rc : Cov (outOf left d) r := fun e' he' => by
                obtain ⟨x, hx, hh⟩ := cov_erase dCov d e' he'
                rw [List.erase_cons_head] at hx
                exact ⟨x, hx, hh⟩
              rw [List.length_cons] at dLen
              rcases i4 r rAsc rc (by omega) with k | k
              · exact .inl (by rw [k])
              · exact .inr (.inr ⟨rfl, k⟩)
            · exact .inr (.inl (big d z))
          · have := cov_len (hps d z) (cov_erase dCov d)
            rw [List.erase_cons_head] at this
            rw [List.length_cons] at dLen
            omega
    · rw [if_neg take]
      have en : ν (outOf left c) = n := by omega
      rw [en] at h'
      obtain ⟨i1, i2, i3, i4⟩ := greedy_ok hG hν cs left n (c :: ps) g h asc' (fun e he d hb => by
        rcases hall e he d hb with z | z
        · rcases List.mem_cons.mp z with z | z
          · exact .inr (by rw [z]; exact List.mem_cons_self)
          · exact .inl z
        · exact .inr (List.mem_cons_of_mem _ z)) (fun p hp => by
        rcases List.mem_cons.mp hp with z | z
        · rw [z]; exact h'
        · exact hps p z)
      exact ⟨i1, i2, i3.cons c, i4⟩
theorem greedy_least {ν : List (Int × Int) → Nat} {G : List (Int × Int) → Prop} (hG : ∀ E c, G E → G (outOf E c)) (hν : ∀ E, G E → Nu E (ν E)) {E : List (Int × Int)} {cs : List Cl} (g : G E) (asc : cs.Pairwise ltC) (all : ∀ e ∈ E, ∀ d, bears e d = true → d ∈ cs) :
    Least E (greedy ν cs E (ν E)) := by
  obtain ⟨a1, a2, a3, a4⟩ := greedy_ok hG hν cs E (ν E) [] g (hν E g) asc (fun e he d hb => .inl (all e he d hb)) (fun _ h => nomatch h)
  exact ⟨a1, by rw [a2]; exact hν E g, asc.sublist a3, fun D h1 h2 h3 => a4 D h1 h2 (by rw [h3, a2])⟩
/-! ### behind the first claim -/
def insC (c : Cl) : List Cl → List Cl
  | [] => [c]
  | d :: r => if decide (d.1 < c.1) || (decide (d.1 = c.1) && (!d.2 && c.2)) then d :: insC c r else c :: d :: r
theorem ins_test {c d : Cl} : (decide (d.1 < c.1) || (decide (d.1 = c.1) && (!d.2 && c.2))) = true ↔ ltC d c := by
  unfold ltC
  cases hd : d.2 <;> cases hc : c.2 <;> simp
theorem ins_mem {c x : Cl} : ∀ {l : List Cl}, x ∈ insC c l ↔ x = c ∨ x ∈ l
  | [] => by simp [insC]
  | d :: r => by
    unfold insC
    split
    · rw [List.mem_cons, ins_mem, List.mem_cons]
      constructor
      · rintro (h | h | h)
        · exact .inr (.inl h)
        · exact .inl h
        · exact .inr (.inr h)
      · rintro (h | h | h)
        · exact .inr (.inl h)
        · exact .inl h
        · exact .inr (.inr h)
    · rw [List.mem_cons]
theorem ins_len {c : Cl} : ∀ {l : List Cl}, (insC c l).length = l.length + 1
  | [] => rfl
  | d :: r => by
    unfold insC
    split
    · rw [List.length_cons, ins_len, List.length_cons]
    · rfl
theorem ins_asc {c : Cl} : ∀ {l : List Cl}, l.Pairwise ltC → c ∉ l → (insC c l).Pairwise ltC
  | [], _, _ => List.pairwise_singleton _ _
  | d :: r, h, hn => by
    obtain ⟨h1, h2⟩ := List.pairwise_cons.mp h
    unfold insC
    split
    · rename_i t
      refine List.pairwise_cons.mpr ⟨fun x hx => ?_, ins_asc h2 (fun z => hn (List.mem_cons_of_mem _ z))⟩
      rcases ins_mem.mp hx with e | e
      · rw [e]; exact ins_test.mp t
      · exact h1 x e
    · rename_i t
      have cd : ltC c d := by
        rcases ltC_tri c d with k | k | k
        · exact k
        · exact (hn (k ▸ List.mem_cons_self)).elim
        · exact (t (ins_test.mpr k)).elim
      exact List.pairwise_cons.mpr ⟨fun x hx => by
        rcases List.mem_cons.mp hx with e | e
        · rw [e]; exact cd
        · exact ltC_trans cd (h1 x e), h⟩
theorem Least.tail {E : List (Int × Int)} {c : Cl} {R : List Cl} (a : Least E (c :: R)) {n' : Nat} (h : Nu (outOf E c) n') : Least (outOf E c) R := by
  have cov : Cov (outOf E c) R := fun e he => by
    obtain ⟨x, hx, hh⟩ := cov_erase a.cov c e he
    rw [List.erase_cons_head] at hx
    exact ⟨x, hx, hh⟩
  have en : n' = R.length := by
    have := nu_out a.nu h
    have := cov_len h cov
    rw [List.length_cons] at *
    omega
  rw [en] at h
  refine ⟨cov, h, (List.pairwise_cons.mp a.asc).2, fun D dAsc dCov dLen => ?_⟩
  have hc : c ∉ D := fun hc => by
    have : Cov E D := fun e he => by
      cases hb : bears e c with
      | true => exact ⟨c, hc, hb⟩
      | false => exact dCov e (mem_out.mpr ⟨he, hb⟩)
    have := cov_len a.nu this
    rw [List.length_cons] at this
    omega
  have big : Cov E (insC c D) := fun e he => by
    cases hb : bears e c with
    | true => exact ⟨c, ins_mem.mpr (.inl rfl), hb⟩
    | false =>
      obtain ⟨x, hx, hh⟩ := dCov e (mem_out.mpr ⟨he, hb⟩)
      exact ⟨x, ins_mem.mpr (.inr hx), hh⟩
  have key := a.min (insC c D) (ins_asc dAsc hc) big (by rw [ins_len, List.length_cons, dLen])
  cases D with
  | nil =>
    have : R = [] := List.eq_nil_of_length_eq_zero dLen.symm
    exact .inl this
  | cons d r =>
    unfold insC at key
    split at key
    · rename_i t
      have dc := ins_test.mp t
      rcases key with k | k
      · injection k with k1 k2
        rw [k1] at dc; exact (ltC_irr dc).elim
      · rcases k with k | ⟨k, _⟩
        · exact (ltC_irr (ltC_trans dc k)).elim
        · rw [k] at dc; exact (ltC_irr dc).elim
    · rcases key with k | k
      · injection k with k1 k2
        exact .inl k2
      · rcases k with k | ⟨_, k⟩
        · exact (ltC_irr k).elim
        · exact .inr k
end My
set_option Elab.async false
set_option linter.all false
set_option maxRecDepth 100000
namespace My
open PySem PySem.Spec PyProof.Rows L2
/-- data: pairs of ints -/
def pd (p : Int × Int) : PyData := .tuple [.int p.1, .int p.2]
theorem dp_pr {K : PySem.W.Frag} {H : Hp} {q : Addr × Int × Int} (h : Pr H q) : Dp K H (.ref q.1) (pd q.2) := .tup (SqT.of h) (.cons (.int _) (.cons (.int _) .nil))
theorem dp_prAll {K : PySem.W.Frag} {H : Hp} : ∀ {ps : List (Addr × Int × Int)}, (∀ q ∈ ps, Pr H q) → DpAll K H (ps.map fun q => V.ref q.1) ((ps.map (·.2)).map pd)
  | [], _ => .nil
  | q :: r, h => .cons (dp_pr (h q List.mem_cons_self)) (dp_prAll fun z hz => h z (List.mem_cons_of_mem _ hz))
theorem dp_prs {K : PySem.W.Frag} {H : Hp} {l : Addr} {ps : List (Addr × Int × Int)} (h : Prs H l ps) : Dp K H (.ref l) (.list ((ps.map (·.2)).map pd)) := .lst (SqL.of h.1) (dp_prAll h.2)
theorem dp_prsT {K : PySem.W.Frag} {H : Hp} {l : Addr} {ps : List (Addr × Int × Int)} (h : PrsT H l ps) : Dp K H (.ref l) (.tuple ((ps.map (·.2)).map pd)) := .tup (SqT.of h.1) (dp_prAll h.2)
theorem can_pd (l : List (Int × Int)) : PyData.canLayAll0 (l.map pd) = true ∧ PyData.depthAll (l.map pd) ≤ 1 := by
  induction l with
  | nil => exact ⟨rfl, Nat.zero_le _⟩
  | cons p r ih =>
    refine ⟨?_, ?_⟩
    · show (true && PyData.canLayAll0 (r.map pd)) = true
      rw [ih.1]; rfl
    · show max (max 0 (max 0 0) + 1) (PyData.depthAll (r.map pd)) ≤ 1
      have := ih.2
      omega
theorem shaped_pd (l : List (Int × Int)) : SeqAt.shaped (.list (l.map pd)) = true := by
  unfold SeqAt.shaped
  rw [Bool.and_eq_true]
  refine ⟨(can_pd l).1, decide_eq_true ?_⟩
  show PyData.depthAll (l.map pd) + 1 ≤ 64
  have := (can_pd l).2
  omega
theorem shaped_pdT (l : List (Int × Int)) : SeqAt.shaped (.tuple (l.map pd)) = true := by
  unfold SeqAt.shaped
  rw [Bool.and_eq_true]
  refine ⟨(can_pd l).1, decide_eq_true ?_⟩
  show PyData.depthAll (l.map pd) + 1 ≤ 64
  have := (can_pd l).2
  omega
theorem shaped_pd1 (p : Int × Int) : SeqAt.shaped (pd p) = true := by
  unfold SeqAt.shaped
  rw [Bool.and_eq_true]
  exact ⟨rfl, decide_eq_true (show max 0 (max 0 0) + 1 ≤ 64 by decide)⟩
theorem eqv_of {d : PyData} (h : SeqAt.shaped d = true) : PyData.eqv d d = true := SeqAt.eqv_refl d (SeqAt.canLay_of_shaped h)
theorem eqv_pd (p q : Int × Int) : PyData.eqv (pd p) (pd q) = decide (p = q) := by
  show ((p.1 == q.1) && ((p.2 == q.2) && true)) = _
  rw [Bool.and_true]
  obtain ⟨a, b⟩ := p
  obtain ⟨c, d⟩ := q
  by_cases h : a = c
  · by_cases h2 : b = d
    · simp [h, h2]
    · simp [h2]
  · simp [h]
theorem any_pd (l : List (Int × Int)) (p : Int × Int) : ((l.map pd).any fun z => PyData.eqv z (pd p)) = decide (p ∈ l) := by
  rw [List.any_map]
  by_cases h : p ∈ l
  · rw [decide_eq_true h]
    exact List.any_eq_true.mpr ⟨p, h, by show PyData.eqv (pd p) (pd p) = true; rw [eqv_pd, decide_eq_true rfl]⟩
  · rw [decide_eq_false h]
    refine List.any_eq_false.mpr fun q hq e => ?_
    have e : PyData.eqv (pd q) (pd p) = true := e
    rw [eqv_pd] at e
    exact h (of_decide_eq_true e ▸ hq)
theorem eqv_nilI (l : List (Int × Int)) : PyData.eqv (.list (l.map pd)) (.list []) = l.isEmpty := by
  cases l with
  | nil => rfl
  | cons y r => rfl
theorem sorted_eq {α : Type} {R : α → α → Prop} (as : ∀ a b, R a b → ¬ R b a) : ∀ l1 l2 : List α, l1.Pairwise R → l2.Pairwise R → (∀ x, x ∈ l1 ↔ x ∈ l2) → l1 = l2
  | [], [], _, _, _ => rfl
  | [], b :: r, _, _, h => nomatch (h b).mpr List.mem_cons_self
  | a :: r, [], _, _, h => nomatch (h a).mp List.mem_cons_self
  | a :: r1, b :: r2, p1, p2, h => by
    obtain ⟨q1, w1⟩ := List.pairwise_cons.mp p1
    obtain ⟨q2, w2⟩ := List.pairwise_cons.mp p2
    have e : a = b := by
      rcases List.mem_cons.mp ((h a).mp List.mem_cons_self) with e | ha
      · exact e
      · rcases List.mem_cons.mp ((h b).mpr List.mem_cons_self) with e | hb
        · exact e.symm
        · exact (as _ _ (q1 b hb) (q2 a ha)).elim
    subst e
    rw [sorted_eq as r1 r2 w1 w2 fun x => ⟨fun hx => ?_, fun hx => ?_⟩]
    · rcases List.mem_cons.mp ((h x).mp (List.mem_cons_of_mem _ hx)) with e | h'
      · exact (as _ _ (q1 x hx) (e ▸ q1 x hx)).elim
      · exact h'
    · rcases List.mem_cons.mp ((h x).mpr (List.mem_cons_of_mem _ hx)) with e | h'
      · exact (as _ _ (q2 x hx) (e ▸ q2 x hx)).elim
      · exact h'
theorem ltP_asym (a b : Int × Int) (h : ltP a b) : ¬ ltP b a := by
  unfold ltP at *
  omega
def asInts (ps : List (Addr × Int × Int)) : List (Addr × List Int) := ps.map fun q => (q.1, [q.2.1, q.2.2])
theorem asInts_mem {ps : List (Addr × Int × Int)} {p : Addr × List Int} (h : p ∈ asInts ps) : ∃ x y, (p.1, x, y) ∈ ps ∧ p.2 = [x, y] := by
  obtain ⟨q, hq, e⟩ := List.mem_map.mp h
  subst e
  exact ⟨q.2.1, q.2.2, hq, rfl⟩
theorem asInts_of {ps : List (Addr × Int × Int)} : ∀ L : List (Addr × List Int), (∀ g ∈ L, g ∈ asInts ps) → ∃ qs, L = asInts qs ∧ ∀ q ∈ qs, q ∈ ps
  | [], _ => ⟨[], rfl, fun _ h => nomatch h⟩
  | g :: r, h => by
    obtain ⟨qs, e, hs⟩ := asInts_of r fun z hz => h z (List.mem_cons_of_mem _ hz)
    obtain ⟨q, hq, eq⟩ := List.mem_map.mp (h g List.mem_cons_self)
    refine ⟨q :: qs, by rw [e, ← eq]; rfl, fun z hz => ?_⟩
    rcases List.mem_cons.mp hz with e | h'
    · rw [e]; exact hq
    · exact hs z h'
/-- what sorted(set(ps)) gives: the pairs, ascending -/
theorem sorted_pairs {ps qs : List (Addr × Int × Int)} {L : List (Addr × List Int)} (sm : Sm12 ps) (sub : ∀ q ∈ qs, q ∈ ps) (perm : (asInts qs).Perm L) (all : ∀ p ∈ asInts ps, p.2 ∈ L.map (·.2)) (nd : ((asInts qs).map (·.2)).Nodup)
    (pw : (asInts qs).Pairwise (fun q r => TS.code 64 q.2 ≤ TS.code 64 r.2)) : (qs.map (·.2)).Pairwise ltP ∧ ∀ x, x ∈ qs.map (·.2) ↔ x ∈ ps.map (·.2) := by
  refine ⟨?_, fun x => ⟨fun h => ?_, fun h => ?_⟩⟩
  · refine List.pairwise_map.mpr ?_
    unfold asInts at nd pw
    rw [List.map_map] at nd
    have n2 := List.pairwise_map.mp nd
    have p2 := List.pairwise_map.mp pw
    refine List.Pairwise.imp_of_mem (fun {a b} ha hb h => ?_) (List.Pairwise.and p2 n2)
    obtain ⟨⟨x0, x1⟩, y0, y1⟩ := sm a (sub a ha)
    obtain ⟨⟨x2, x3⟩, y2, y3⟩ := sm b (sub b hb)
    exact pair_lt h.1 h.2 ⟨x0, by omega⟩ ⟨y0, by omega⟩ ⟨x2, by omega⟩ ⟨y2, by omega⟩
  · obtain ⟨q, hq, e⟩ := List.mem_map.mp h
    exact List.mem_map.mpr ⟨q, sub q hq, e⟩
  · obtain ⟨q, hq, e⟩ := List.mem_map.mp h
    have := all (q.1, [q.2.1, q.2.2]) (List.mem_map.mpr ⟨q, hq, rfl⟩)
    obtain ⟨g, hg, eg⟩ := List.mem_map.mp ((perm.map (·.2)).mem_iff.mpr this)
    obtain ⟨u, hu, eu⟩ := List.mem_map.mp hg
    rw [← eu] at eg
    injection eg with e1 e2
    injection e2 with e2 _
    refine List.mem_map.mpr ⟨u, hu, ?_⟩
    rw [← e]
    exact Prod.ext e1 e2
theorem asInts_refs (ps : List (Addr × Int × Int)) : (asInts ps).map (fun q => V.ref q.1) = ps.map fun q => V.ref q.1 := by
  unfold asInts
  rw [List.map_map]
  rfl
theorem Room.u65 {k : Nat} {A : Around} (r : Room k A) : A.units + 65 < cLine := by have := r.un; omega
end My
set_option Elab.async false
set_option linter.all false
set_option maxRecDepth 100000
/-! Claims (slot, side) in the heap: sets of them, and these sorted. -/
namespace My
open PySem PySem.Spec PyProof.Rows L2
def side (b : Bool) : Str := if b = true then "shipped" else "own"
theorem side_inj {a b : Bool} (h : side a = side b) : a = b := by
  cases a <;> cases b <;> first | rfl | exact absurd h (by decide +kernel)
theorem side_eq (a b : Bool) : (side a == side b) = decide (a = b) := by
  cases a <;> cases b <;> decide +kernel
theorem side_lt (a b : Bool) : decide ((side a).cps.toList < (side b).cps.toList) = decide (a = false ∧ b = true) := by
  cases a <;> cases b <;> decide +kernel
instance (a b : Cl) : Decidable (ltC a b) := by unfold ltC; infer_instance
def clV (c : Cl) : List V := [.int c.1, .str (side c.2)]
def ck (c : Cl) : List Key := [Sum.inl c.1, Sum.inr (side c.2)]
theorem ck_kV (c : Cl) : (ck c).map kV = clV c := rfl
theorem ck_inj {a b : Cl} (h : ck a = ck b) : a = b := by
  injection h with h1 h2
  injection h2 with h2 _
  exact Prod.ext (Sum.inl.inj h1) (side_inj (Sum.inr.inj h2))
/-- the claim at an address -/
def CAt (K : PySem.W.Frag) (H : Hp) (q : Addr × Cl) : Prop := SqT K H q.1 (clV q.2)
theorem CAt.of {K : PySem.W.Frag} {H : Hp} {q : Addr × Cl} (h : H q.1 = some (.tup (clV q.2))) : CAt K H q := SqT.of h
section
variable {P : Program} {w : World} {A : Around} {E : Value → Shared → Prop} {s : Shared}
abbrev asK (L : List (Addr × Cl)) : List (Addr × List Key) := L.map fun q => (q.1, ck q.2)
theorem asK_refs (L : List (Addr × Cl)) : (asK L).map (fun p => Value.ref p.1) = L.map fun q => Value.ref q.1 := by rw [List.map_map]; rfl
theorem asK_keys (L : List (Addr × Cl)) : (asK L).map (·.2) = (L.map (·.2)).map ck := by rw [List.map_map, List.map_map]; rfl
theorem asK_of {ks : List (Addr × Cl)} : ∀ M : List (Addr × List Key), (∀ p ∈ M, p ∈ asK ks) → ∃ L, M = asK L ∧ ∀ q ∈ L, q ∈ ks
  | [], _ => ⟨[], rfl, fun _ h => nomatch h⟩
  | p :: r, h => by
    obtain ⟨L, e, hs⟩ := asK_of r fun z hz => h z (List.mem_cons_of_mem _ hz)
    obtain ⟨q, hq, eq⟩ := List.mem_map.mp (h p List.mem_cons_self)
    refine ⟨q :: L, by rw [e, ← eq]; rfl, fun z hz => ?_⟩
    rcases List.mem_cons.mp hz with e | h'
    · rw [e]; exact hq
    · exact hs z h'
theorem nodup_ck {l : List Cl} (h : (l.map ck).Nodup) : l.Nodup := nodup_of h
/-- the set at a, without the tuples themselves -/
def CSet (P : Program) (w : World) (h : Heap) (a : Addr) (L : List (Addr × Cl)) : Prop := ∃ (es : Array (Int × Value)) (ep : Nat) (t : SetTable), (∃ o, h.get? a = some o ∧ o.ExactSet ∧ o.data = .set es ep t) ∧
  es.toList = entsOf (mixKind P w) (asK L) ∧ TabOk t ((asK L).map fun p => hsh (mixKind P w) p.2) ∧ ((asK L).map (·.2)).Nodup ∧ (w.params.followText "set-order" = true ∨ t.led = true) ∧ (asK L).length * 5 < t.mask * 3 ∧ (asK L).length < 64
def SetCO (P : Program) (w : World) (a : Addr) (L : List (Addr × Cl)) : HO := .ext fun h => CSet P w h a L
theorem KSet.claims {h : Heap} {a : Addr} {L : List (Addr × Cl)} {es : Array (Int × Value)} {ep : Nat} {t : SetTable} (R : KSet (mixKind P w) h a (asK L) es ep t) : CSet P w h a L :=
  ⟨es, ep, t, R.obj, R.ents, R.tab, R.uniq, R.lead, R.room, R.few⟩
theorem CSet.full {h : Heap} {a : Addr} {L : List (Addr × Cl)} (R : CSet P w h a L) (ht : ∀ q ∈ L, Tp (mixKind P w) h (ck q.2) q.1) : ∃ es ep t, KSet (mixKind P w) h a (asK L) es ep t := by
  obtain ⟨es, ep, t, h1, h2, h3, h4, h5, h6, h7⟩ := R
  refine ⟨es, ep, t, h1, h2, h3, h4, fun p hp => ?_, h5, h6, h7⟩
  obtain ⟨q, hq, e⟩ := List.mem_map.mp hp
  rw [← e]
  exact ht q hq
theorem setCO_ok {H : Hp} {h : Heap} {a : Addr} {L : List (Addr × Cl)} (R : CSet P w h a L) : ObjOk P w H h a (SetCO P w a L) := by
  have ⟨es, ep, t, ⟨o, ho, r⟩, q⟩ := R
  refine ⟨R, ⟨o, ho⟩, fun h1 h2 p k => ?_⟩
  have ⟨es', ep', t', ⟨o', ho', r'⟩, q'⟩ := (show CSet P w h1 a L from p)
  exact (show CSet P w h2 a L from ⟨es', ep', t', ⟨o', k o' ho', r'⟩, q'⟩)
/-! ### the order of two claims -/
/-- the claim that a value is, by the list -/
noncomputable def clOf (L : List (Addr × Cl)) (v : Value) : Cl := by
  classical
  exact if h : ∃ q ∈ L, v = Value.ref q.1 then (Classical.choose h).2 else (0, false)
theorem clOf_at {L : List (Addr × Cl)} (one : ∀ q ∈ L, ∀ r ∈ L, q.1 = r.1 → q = r) {q : Addr × Cl} (hq : q ∈ L) : clOf L (.ref q.1) = q.2 := by
  classical
  have h : ∃ r ∈ L, Value.ref q.1 = Value.ref r.1 := ⟨q, hq, rfl⟩
  unfold clOf
  rw [dif_pos h]
  obtain ⟨h1, h2⟩ := Classical.choose_spec h
  injection h2 with h2
  exact congrArg Prod.snd (one q hq _ h1 h2).symm
theorem swoC (f : Value → Cl) : SrtO.Swo fun v u => decide (ltC (f v) (f u)) := by
  refine ⟨fun x y h => decide_eq_false fun g => ltC_irr (ltC_trans (of_decide_eq_true h) g), fun x y z h1 h2 => decide_eq_false fun g => ?_⟩
  have a := of_decide_eq_false h1
  have b := of_decide_eq_false h2
  rcases ltC_tri (f z) (f y) with k | k | k
  · exact b k
  · rw [k] at g; exact a g
  · exact a (ltC_trans k g)
theorem cmpC {L : List (Addr × Cl)} (one : ∀ q ∈ L, ∀ r ∈ L, q.1 = r.1 → q = r) (hk : ∀ q ∈ L, Tp (mixKind P w) s.heap (ck q.2) q.1) :
    SrtO.Cmp P w A s (tuples' true) (fun p => p.1 ∈ L.map fun q => Value.ref q.1) (SrtO.lt2 fun v u => decide (ltC (clOf L v) (clOf L u))) := by
  intro p q hm hm'
  obtain ⟨c, hc, e⟩ := List.mem_map.mp hm
  obtain ⟨d, hd, e'⟩ := List.mem_map.mp hm'
  show wpAny (model P w) A (keyLt' (tuples' true) p.1 q.1) (fun r s' => s' = s ∧ r = decide (ltC (clOf L p.1) (clOf L q.1))) (fun _ _ => False) s
  rw [← e, ← e', clOf_at one hc, clOf_at one hd]
  have ok : ∀ {c : Addr × Cl}, c ∈ L → ∃ o t u n, s.heap.get? c.1 = some o ∧ o.cls = .type "tuple" ∧ o.data = .seq #[.int c.2.1 t, .str (side c.2.2) u] n := fun {c} hc => by
    obtain ⟨o, its, n, ho, hcl, hdt, hi⟩ := hk c hc
    cases hit : its.toList with
    | nil => rw [hit] at hi; cases hi
    | cons x r =>
      rw [hit] at hi
      cases hi with
      | cons h1 h2 =>
        cases h2 with
        | cons h3 h4 =>
          cases h4
          rcases keyIs_shape (show keyIs (Sum.inl c.2.1) _ = true from h1) with ⟨i, t, e1, rfl⟩ | ⟨z, t, e1, _⟩
          · rcases keyIs_shape (show keyIs (Sum.inr (side c.2.2)) _ = true from h3) with ⟨i', t', e3, _⟩ | ⟨z', u, e3, rfl⟩
            · cases e3
            · cases e1
              cases e3
              refine ⟨o, t, u, n, ho, hcl, ?_⟩
              rw [hdt]
              congr 1
              exact Array.toList_inj.mp hit
          · cases e1
  obtain ⟨o, t, u, n, ho, _, hdt⟩ := ok hc
  obtain ⟨o', t', u', n', ho', _, hdt'⟩ := ok hd
  obtain ⟨_, x, b⟩ := c
  obtain ⟨_, y, b'⟩ := d
  dsimp only at *
  refine PySem.W.kat_lt ho hdt ho' hdt' ?_
  show PySem.W.KatLex P w A true (decide (2 < 2)) _ [(.int x t, .int y t'), (.str (side b) u, .str (side b') u')] 0 s
  refine PySem.W.kat_cons (SeqAt.EqAt.int_int x t y t' P w _ _ (PySem.W.kat_go (fun e1 => ?_) (fun e1 => ?_)))
  · have ex : x = y := by simpa using e1
    subst ex
    refine PySem.W.kat_yes (PySem.W.kat_cons (SeqAt.EqAt.str_str (side b) u (side b') u' P w _ _ ?_))
    rw [side_eq]
    refine PySem.W.kat_go (fun e2 => ?_) (fun e2 => ?_)
    · have eb := of_decide_eq_true e2
      subst eb
      exact PySem.W.kat_yes (PySem.W.kat_nil ⟨rfl, (decide_eq_false ltC_irr).symm⟩)
    · refine PySem.W.kat_no (PySem.W.kat_one _ _ (PyProof.Rows.lt_str ?_))
      refine (show s = s ∧ decide ((side b).cps.toList < (side b').cps.toList) = decide (ltC (x, b) (x, b')) from ⟨rfl, ?_⟩)
      rw [side_lt]
      exact decide_eq_decide.mpr ⟨fun h => .inr ⟨rfl, h⟩, fun h => h.elim (fun z => absurd z (Int.lt_irrefl _)) (·.2)⟩
  · have ex : ¬ x = y := by simpa using e1
    refine PySem.W.kat_no (oneLt_int (Q := fun r s' => s' = s ∧ r = decide (ltC (x, b) (y, b'))) ⟨rfl, decide_eq_decide.mpr ⟨fun h => .inl h, fun h => h.elim id (fun z => (ex z.1).elim)⟩⟩)

/-- sorted(set) of claims -/
theorem sorted_setC {a : Addr} {L : List (Addr × Cl)} {es : Array (Int × Value)} {ep : Nat} {t : SetTable} {Q : Value → Shared → Prop} (R : KSet (mixKind P w) s.heap a (asK L) es ep t) (hh : A.handled = none)
    (hQ : ∀ s' p (out : Array Value) (c : Nat) (M : List (Addr × Cl)), (∀ b o, s.heap.get? b = some o → s'.heap.get? b = some o) → s'.gens = s.gens → s'.os = s.os → s.heap.objs.size ≤ p →
      s'.heap.get? p = some (seqObj "list" out c) → out.toList = M.map (fun q => Value.ref q.1) → M.Perm L → (M.map (·.2)).Pairwise ltC → Q (.ref p) s') :
    wpAny (model P w) A (call (.builtin "sorted") [.ref a]) Q E s := by
  obtain ⟨o, ho, hex, hd⟩ := R.obj
  have le := ents_len R.ents
  rw [List.length_map] at le
  have few := R.few
  rw [List.length_map] at few
  have tup : ∀ q ∈ L, Tp (mixKind P w) s.heap (ck q.2) q.1 := fun q hq => R.tups (q.1, ck q.2) (List.mem_map.mpr ⟨q, hq, rfl⟩)
  have one : ∀ q ∈ L, ∀ r ∈ L, q.1 = r.1 → q = r := fun q hq r hr e => by
    have h1 := tup q hq
    have h2 := tup r hr
    rw [e] at h1
    exact Prod.ext e (ck_inj (h1.inj h2))
  have uq : (L.map (·.2)).Nodup := by
    have := R.uniq
    rw [asK_keys] at this
    exact nodup_ck this
  have uref : (L.map fun q => Value.ref q.1).Nodup := by
    refine List.pairwise_map.mpr (List.Pairwise.imp_of_mem (fun {q r} hq hr ne e => ?_) (nodup_of uq))
    injection e with e
    exact ne (one q hq r hr e)
  refine Calls.call_function_entry kind_sorted plain_sorted entry_sorted (args_sorted1 _) ?_
  unfold Builtin.«sorted»
  refine wpAny_bind (m := checkCount "sorted" 1 1 _) (wpAny_pure (wpAny_bind ?_))
  refine collect_set (A := A.in1) hh ⟨o, ho, hex.1, hd⟩ R.fits (by unfold scanBound; omega) R.tab.ris R.lead fun s1 vs keep1 grow g1 o1 pm => ?_
  have eV : es.toList.map (·.2) = L.map fun q => Value.ref q.1 := by
    rw [R.ents, List.map_map, List.map_map]
    rfl
  rw [eV] at pm
  have lv : vs.length = L.length := by rw [pm.length_eq, List.length_map]
  refine wpAny_bind (wpAny_newList ?_ (by rw [sizeLine_eq]; omega))
  have at1 : (s1.heap.push (seqObj "list" vs.toArray 0)).get? s1.heap.objs.size = some (seqObj "list" vs.toArray 0) := Heap.get?_push_size _ rfl
  have keep2 : ∀ b u, s.heap.get? b = some u → (s1.heap.push (seqObj "list" vs.toArray 0)).get? b = some u := fun b u e => Heap.get?_push_of_some _ (keep1 b u e)
  have mem : ∀ {v}, v ∈ vs → v ∈ L.map fun q => Value.ref q.1 := fun {v} hv => pm.mem_iff.mp hv
  refine wpAny_bind (wpAny_holding (wpAny_call_entry slot_list_sort ⟨_, at1, rfl⟩ entry_list_sort (SrtO.list_sort_ord (s := { s1 with heap := s1.heap.push (seqObj "list" vs.toArray 0) }) (ltv := fun v u => decide (ltC (clOf L v) (clOf L u))) (swoC _) at1 (by rw [sizeLine_eq]; omega)
    (fun h2 => ?_) fun out srt stb => ⟨_, rfl, ?_⟩) (args_list_sort _)))
  · intro h' keep3
    have tup' : ∀ q ∈ L, Tp (mixKind P w) h' (ck q.2) q.1 := fun q hq => by
      obtain ⟨u, its, n, hu, c, d, r⟩ := tup q hq
      refine ⟨u, its, n, keep3 q.1 u (fun e => ?_) (keep2 _ _ hu), c, d, r⟩
      have := keep2 _ _ hu
      rw [e, at1] at this
      cases this
      exact absurd (Value.type.inj c) (by decide)
    have firsts : ∀ l : List Value, (∀ v ∈ l, v ∈ L.map fun q => Value.ref q.1) → ∃ fs, PySem.W.KatTups h' l fs ∧ fs.length = l.length ∧ ∀ f ∈ fs, ∃ x t, f = Value.int x t := by
      intro l
      induction l with
      | nil => intro _; exact ⟨[], .nil, rfl, fun _ h => nomatch h⟩
      | cons v r ih =>
        intro hv
        obtain ⟨fs, k1, k2, k3⟩ := ih fun u hu => hv u (List.mem_cons_of_mem _ hu)
        obtain ⟨q, hq, e⟩ := List.mem_map.mp (hv v List.mem_cons_self)
        obtain ⟨u, its, n, hu, c, d, it⟩ := tup' q hq
        cases hit : its.toList with
        | nil => rw [hit] at it; cases it
        | cons x y =>
          rw [hit] at it
          cases it with
          | cons h1 _ =>
            obtain ⟨i, t, e1, ex⟩ | ⟨z, t, e1, _⟩ := keyIs_shape (show keyIs (Sum.inl q.2.1) _ = true from h1)
            · have f0 : its[0]? = some x := by rw [← Array.getElem?_toList, hit]; rfl
              rw [← e]
              refine ⟨x :: fs, .cons hu c d f0 k1, by rw [List.length_cons, List.length_cons, k2], fun f hf => ?_⟩
              rcases List.mem_cons.mp hf with z | z
              · exact ⟨i, t, z.trans ex⟩
              · exact k3 f z
            · cases e1
    obtain ⟨fs, k1, k2, k3⟩ := firsts vs fun v hv => mem hv
    refine ⟨tuples' true, fun Q' E' hq => ?_, fun p q hp hq => cmpC (s := { s1 with heap := h' }) one tup' p q (mem hp) (mem hq)⟩
    refine PySem.W.kat_kind (T := .type "int") k1 (by omega) (fun f hf => ?_) (by rfl) ?_
    · obtain ⟨x, t, rfl⟩ := k3 f hf
      exact PySem.W.Looks.now
    · have e : (Value.type "int" != Value.type "tuple") = true := by decide +kernel
      rw [e]
      exact hq
  · obtain ⟨c, hc⟩ := sortedHeap_at (vs := vs) (out := out.toArray) at1
    have pout := stb.perm.trans pm
    have back : ∀ l : List Value, (∀ v ∈ l, v ∈ L.map fun q => Value.ref q.1) → ∃ M : List (Addr × Cl), l = M.map (fun q => Value.ref q.1) ∧ ∀ q ∈ M, q ∈ L := by
      intro l
      induction l with
      | nil => intro _; exact ⟨[], rfl, fun _ h => nomatch h⟩
      | cons v r ih =>
        intro hv
        obtain ⟨M, e1, e2⟩ := ih fun u hu => hv u (List.mem_cons_of_mem _ hu)
        obtain ⟨q, hq, e⟩ := List.mem_map.mp (hv v List.mem_cons_self)
        refine ⟨q :: M, by rw [List.map_cons, ← e1, e], fun r hr => ?_⟩
        rcases List.mem_cons.mp hr with z | z
        · exact z ▸ hq
        · exact e2 r z
    obtain ⟨M, eM, sub⟩ := back out fun v hv => pout.mem_iff.mp hv
    have nM : M.Nodup := by
      have := pout.nodup_iff.mpr uref
      rw [eM] at this
      exact nodup_of this
    have pM : M.Perm L := by
      refine (List.perm_ext_iff_of_nodup nM (nodup_of uq)).mpr fun q => ⟨sub q, fun hq => ?_⟩
      have hm : Value.ref q.1 ∈ out := pout.mem_iff.mpr (List.mem_map.mpr ⟨q, hq, rfl⟩)
      rw [eM] at hm
      obtain ⟨r, hr, e⟩ := List.mem_map.mp hm
      injection e with e
      rw [← one r (sub r hr) q hq e]
      exact hr
    have asc : (M.map (·.2)).Pairwise ltC := by
      rw [eM] at srt
      refine List.pairwise_map.mpr (List.Pairwise.imp_of_mem (fun {q r} hq hr h => ?_) (List.Pairwise.and (List.pairwise_map.mp srt) (List.pairwise_map.mp ((pM.map (·.2)).nodup_iff.mpr uq))))
      obtain ⟨h1, h2⟩ := h
      dsimp only at h1
      rw [clOf_at one (sub q hq), clOf_at one (sub r hr)] at h1
      have h1 := of_decide_eq_false h1
      rcases ltC_tri q.2 r.2 with z | z | z
      · exact z
      · exact (h2 z).elim
      · exact (h1 z).elim
    refine wpAny_pure ⟨_, rfl, hQ _ s1.heap.objs.size out.toArray c M (fun b u e => ?_) g1 o1 grow hc eM pM asc⟩
    have q := keep1 b u e
    have lt := Heap.lt_size q
    show (sortedHeap (s1.heap.push (seqObj "list" vs.toArray 0)) s1.heap.objs.size vs out.toArray).get? b = some u
    rw [sortedHeap_old (Nat.ne_of_lt lt) (by rw [size_push']; exact Nat.lt_succ_of_lt lt)]
    exact Heap.get?_push_of_some _ q
end
/-! ### the rules -/
theorem refsC : ∀ {ks : List (Addr × Cl)} {us : List Value}, Vals (ks.map fun q => V.ref q.1) us → us = (asK ks).map fun p => Value.ref p.1
  | [], _, .nil => rfl
  | q :: ks, _, .cons r t => by
    cases r
    rw [refsC t]
    rfl
theorem valsC : ∀ (ks : List (Addr × Cl)), Vals (ks.map fun q => V.ref q.1) (ks.map fun q => Value.ref q.1)
  | [] => .nil
  | q :: ks => .cons rfl (valsC ks)
/-- few of the claims are unlike -/
def FewC (ks : List (Addr × Cl)) : Prop := ∀ M : List (Addr × Cl), (M.map (·.2)).Nodup → (∀ p ∈ M, p ∈ ks) → M.length < 63
theorem FewC.keys {ks : List (Addr × Cl)} (f : FewC ks) : FewK (asK ks) := fun M nd sub => by
  obtain ⟨L, e, hs⟩ := asK_of M sub
  subst e
  rw [asK_keys] at nd
  rw [List.length_map]
  exact f L (nodup_ck nd) hs
theorem fewC_len {ks : List (Addr × Cl)} (h : ks.length < 63) : FewC ks := fun M nd sub => by
  have := sub_len M ks (nodup_of nd) sub
  omega
section
variable {X : Cx}
theorem isC {pins : List (Addr × Obj)} {σ : L2.St} {H : Hp} {s : Shared} {q : Addr × Cl} (I : Inv X pins σ H s) (h : CAt X.K H q) : Tp (mixKind X.prog X.w) s.heap (ck q.2) q.1 := by
  obtain ⟨its, r, ⟨o, ho, hc, n, hd⟩, _⟩ := I.tuple h
  exact ⟨o, its.toArray, n, ho, hc, hd, by simpa using items_are (ks := ck q.2) r⟩
/-- set(xs), xs a list or a tuple of claims -/
def rSetOfC (K : PySem.W.Frag) (P : Program) (w : World) : List V → Hp → VK → Prop := fun xs H Q => ∃ (l : Addr) (ks : List (Addr × Cl)), xs = [V.ref l] ∧ (SqL K H l (ks.map fun q => V.ref q.1) ∨ SqT K H l (ks.map fun q => V.ref q.1)) ∧
  (∀ q ∈ ks, CAt K H q) ∧ FewC ks ∧ ∀ a L, H a = none → (∀ q ∈ L, q ∈ ks) → (∀ q ∈ ks, q.2 ∈ L.map (·.2)) → (L.map (·.2)).Nodup → Q (.ref a) (upd H a (SetCO P w a L))
theorem cr_setOfC (hc : X.calm = true) (hu : X.A.units + 64 < cLine) : CallR X (.type "set") (rSetOfC X.K X.prog X.w) := by
  intro pins s σ H xs us Q I r h
  obtain ⟨l, ks, rfl, hl, hk, few, q⟩ := h
  rw [Vals.ref1 r]
  obtain ⟨its, rv, pl⟩ : ∃ its : List Value, Vals (ks.map fun q => V.ref q.1) its ∧ (s.heap.IsList l its.toArray ∨ s.heap.IsTuple l its.toArray) := by
    rcases hl with hl | hl
    · obtain ⟨its, rv, pl, _⟩ := I.list hl
      exact ⟨its, rv, .inl pl.isList⟩
    · obtain ⟨its, rv, pl, _⟩ := I.tuple hl
      exact ⟨its, rv, .inr pl⟩
  have hks : ∀ p ∈ asK ks, Tp (mixKind X.prog X.w) s.heap p.2 p.1 := fun p hp => by
    obtain ⟨c, hc, e⟩ := List.mem_map.mp hp
    rw [← e]
    exact isC I (hk c hc)
  refine set_ofK (kd := mixKind X.prog X.w) (asK ks) (I.ok.hd hc) pl (by simpa using refsC rv) hks few.keys (by omega) fun h' tk L es ep t R g k => ?_
  obtain ⟨M, e, sub⟩ := asK_of L fun p hp => List.mem_of_mem_take (g.sub p hp)
  subst e
  have all : ∀ c ∈ ks, c.2 ∈ M.map (·.2) := fun c hc => by
    have := g.all (c.1, ck c.2) (by rw [List.length_map, List.take_of_length_le (by rw [List.length_map]; exact Nat.le_refl _)]; exact List.mem_map.mpr ⟨c, hc, rfl⟩)
    rw [asK_keys] at this
    obtain ⟨d, hd, e⟩ := List.mem_map.mp this
    rw [← ck_inj e]
    exact hd
  have nd : (M.map (·.2)).Nodup := by
    have := R.uniq
    rw [asK_keys] at this
    exact nodup_ck this
  exact ⟨.ref s.heap.objs.size, upd H _ (SetCO X.prog X.w _ M), I.laid (t' := tk) k (Nat.le_refl _) (setCO_ok R.claims), rfl, q _ M (I.hok.fresh (Nat.le_refl _)) sub all nd⟩
/-- sorted(set) of claims: a new list, ascending -/
def rSortedC (K : PySem.W.Frag) (P : Program) (w : World) : List V → Hp → VK → Prop := fun vs H Q => ∃ (a : Addr) (L : List (Addr × Cl)), vs = [V.ref a] ∧ H a = some (SetCO P w a L) ∧ (∀ q ∈ L, CAt K H q) ∧
  ∀ (M : List (Addr × Cl)) (p : Addr), M.Perm L → (M.map (·.2)).Pairwise ltC → M.length < 64 → H p = none → Q (.ref p) (upd H p (.lst (M.map fun q => V.ref q.1)))
theorem cr_sortedC (hc : X.calm = true) : CallR X (.builtin "sorted") (rSortedC X.K X.prog X.w) := by
  intro pins s σ H vs us Q I r h
  obtain ⟨a, L, rfl, ha, hk, q⟩ := h
  have R0 : CSet X.prog X.w s.heap a L := (I.hok a _ ha).1
  obtain ⟨es, ep, t, R⟩ := R0.full fun c hc => isC I (hk c hc)
  have few := R.few
  rw [List.length_map] at few
  rw [Vals.ref1 r]
  refine sorted_setC R (I.ok.hd hc) fun s' p out c M k g o hp hg hout pm asc => ?_
  have fewM : M.length < 64 := by rw [pm.length_eq]; exact few
  have hlen : (M.map fun q => V.ref q.1).length ≤ sizeLine := by rw [List.length_map, sizeLine_eq]; omega
  have hn : H p = none := I.hok.fresh hp
  have J : Inv X pins σ (upd H p (.lst (M.map fun q => V.ref q.1))) { s with heap := s'.heap, gens := s'.gens, drawn := s'.drawn, toks := s'.toks } :=
    I.call (ch := []) (Un.laid k hp hn) (I.hok.laid k hp ⟨hlen, out.toList, c, by rw [hout]; exact valsC M, hg⟩) (by rw [g]; exact I.bare) (fun _ z => nomatch z)
  have e : s' = { s with heap := s'.heap, gens := s'.gens, drawn := s'.drawn, toks := s'.toks } := by
    cases s'
    cases s
    cases o
    rfl
  rw [e]
  exact ⟨.ref p, _, J, rfl, q M p pm asc fewM hn⟩
end
end My
set_option Elab.async false
set_option linter.all false
set_option maxRecDepth 100000
/-! Lists and tuples of claims in the heap, and as data. -/
namespace My
open PySem PySem.Spec PyProof.Rows L2
def Cls (H : Hp) (l : Addr) (cs : List (Addr × Cl)) : Prop := H l = some (.lst (cs.map fun q => V.ref q.1)) ∧ ∀ q ∈ cs, H q.1 = some (.tup (clV q.2))
def ClsT (H : Hp) (l : Addr) (cs : List (Addr × Cl)) : Prop := H l = some (.tup (cs.map fun q => V.ref q.1)) ∧ ∀ q ∈ cs, H q.1 = some (.tup (clV q.2))
theorem Cls.same {H H' : Hp} {l : Addr} {cs : List (Addr × Cl)} (h : Cls H l cs) (s : Same H H') : Cls H' l cs := ⟨s _ _ h.1, fun q hq => s _ _ (h.2 q hq)⟩
theorem ClsT.same {H H' : Hp} {l : Addr} {cs : List (Addr × Cl)} (h : ClsT H l cs) (s : Same H H') : ClsT H' l cs := ⟨s _ _ h.1, fun q hq => s _ _ (h.2 q hq)⟩
/-- one more at the end of a list that grows at D: t is its new tuple -/
theorem Cls.more {H H4 : Hp} {D t : Addr} {cs : List (Addr × Cl)} {c : Cl} (nD : H D = none) (s4 : Same H H4) (h : Cls H4 D cs) (nt : H4 t = none) :
    Same H (upd (upd H4 t (.tup (clV c))) D (.lst (cs.map (fun q => V.ref q.1) ++ [.ref t]))) ∧ Cls (upd (upd H4 t (.tup (clV c))) D (.lst (cs.map (fun q => V.ref q.1) ++ [.ref t]))) D (cs ++ [(t, c)]) := by
  have tD : t ≠ D := (ne_of_none h.1 nt).symm
  refine ⟨fun b o e => ?_, ?_, fun z hz => ?_⟩
  · rw [upd_ne (fun h => by rw [h, nD] at e; cases e), upd_ne (ne_of_none (s4 _ _ e) nt)]
    exact s4 _ _ e
  · rw [upd_same, List.map_append]; rfl
  · rcases List.mem_append.mp hz with hz | hz
    · have e6 := h.2 z hz
      rw [upd_ne (fun e => by rw [e, h.1] at e6; cases e6), upd_ne (ne_of_none e6 nt)]
      exact e6
    · cases List.mem_singleton.mp hz
      rw [upd_ne tD, upd_same]
/-! ### as data -/
def clD (c : Cl) : PyData := .tuple [.int c.1, .str (side c.2)]
theorem dp_cl {K : PySem.W.Frag} {H : Hp} {t : Addr} {c : Cl} (h : H t = some (.tup (clV c))) : Dp K H (.ref t) (clD c) := .tup (SqT.of h) (.cons (.int _) (.cons (.str _) .nil))
theorem dp_clAll {K : PySem.W.Frag} {H : Hp} : ∀ {cs : List (Addr × Cl)}, (∀ q ∈ cs, H q.1 = some (.tup (clV q.2))) → DpAll K H (cs.map fun q => V.ref q.1) ((cs.map (·.2)).map clD)
  | [], _ => .nil
  | q :: r, h => .cons (dp_cl (h q List.mem_cons_self)) (dp_clAll fun z hz => h z (List.mem_cons_of_mem _ hz))
theorem dp_cls {K : PySem.W.Frag} {H : Hp} {l : Addr} {cs : List (Addr × Cl)} (h : Cls H l cs) : Dp K H (.ref l) (.list ((cs.map (·.2)).map clD)) := .lst (SqL.of h.1) (dp_clAll h.2)
theorem dp_clsT {K : PySem.W.Frag} {H : Hp} {l : Addr} {cs : List (Addr × Cl)} (h : ClsT H l cs) : Dp K H (.ref l) (.tuple ((cs.map (·.2)).map clD)) := .tup (SqT.of h.1) (dp_clAll h.2)
theorem can_side (b : Bool) : PyData.canLay0 (.str (side b)) = true := by cases b <;> decide +kernel
theorem can_cl (l : List Cl) : PyData.canLayAll0 (l.map clD) = true ∧ PyData.depthAll (l.map clD) ≤ 1 := by
  induction l with
  | nil => exact ⟨rfl, Nat.zero_le _⟩
  | cons c r ih =>
    refine ⟨?_, ?_⟩
    · show ((true && (PyData.canLay0 (.str (side c.2)) && true)) && PyData.canLayAll0 (r.map clD)) = true
      rw [ih.1, can_side]; rfl
    · show max (max 0 (max 0 0) + 1) (PyData.depthAll (r.map clD)) ≤ 1
      have := ih.2
      omega
theorem shaped_cl (l : List Cl) : SeqAt.shaped (.list (l.map clD)) = true := by
  unfold SeqAt.shaped
  rw [Bool.and_eq_true]
  refine ⟨(can_cl l).1, decide_eq_true ?_⟩
  show PyData.depthAll (l.map clD) + 1 ≤ 64
  have := (can_cl l).2
  omega
theorem shaped_clT (l : List Cl) : SeqAt.shaped (.tuple (l.map clD)) = true := by
  unfold SeqAt.shaped
  rw [Bool.and_eq_true]
  refine ⟨(can_cl l).1, decide_eq_true ?_⟩
  show PyData.depthAll (l.map clD) + 1 ≤ 64
  have := (can_cl l).2
  omega
theorem shaped_cl1 (c : Cl) : SeqAt.shaped (clD c) = true := by
  unfold SeqAt.shaped
  rw [Bool.and_eq_true]
  refine ⟨?_, decide_eq_true (show max 0 (max 0 0) + 1 ≤ 64 by decide)⟩
  show (true && (PyData.canLay0 (.str (side c.2)) && true)) = true
  rw [can_side]; rfl
theorem eqv_cl (a b : Cl) : PyData.eqv (clD a) (clD b) = decide (a = b) := by
  show ((a.1 == b.1) && ((side a.2 == side b.2) && true)) = _
  rw [Bool.and_true, side_eq]
  obtain ⟨x, p⟩ := a
  obtain ⟨y, q⟩ := b
  by_cases h : x = y
  · by_cases h2 : p = q
    · simp [h, h2]
    · simp [h2]
  · simp [h]
theorem eqvAll_cl : ∀ a b : List Cl, PyData.eqvAll (a.map clD) (b.map clD) = decide (a = b)
  | [], [] => rfl
  | [], b :: r => rfl
  | a :: r, [] => rfl
  | a :: r, b :: q => by
    show (PyData.eqv (clD a) (clD b) && PyData.eqvAll (r.map clD) (q.map clD)) = _
    rw [eqv_cl, eqvAll_cl]
    by_cases h : a = b
    · by_cases h2 : r = q
      · simp [h, h2]
      · simp [h2]
    · simp [h]
theorem eqv_clT (a b : List Cl) : PyData.eqv (.tuple (a.map clD)) (.tuple (b.map clD)) = decide (a = b) := by
  show PyData.eqvAll (a.map clD) (b.map clD) = _
  exact eqvAll_cl a b
theorem any_cl (l : List Cl) (c : Cl) : ((l.map clD).any fun z => PyData.eqv z (clD c)) = decide (c ∈ l) := by
  rw [List.any_map]
  by_cases h : c ∈ l
  · rw [decide_eq_true h]
    exact List.any_eq_true.mpr ⟨c, h, by show PyData.eqv (clD c) (clD c) = true; rw [eqv_cl, decide_eq_true rfl]⟩
  · rw [decide_eq_false h]
    refine List.any_eq_false.mpr fun q hq e => ?_
    have e : PyData.eqv (clD q) (clD c) = true := e
    rw [eqv_cl] at e
    exact h (of_decide_eq_true e ▸ hq)
/-! ### the claims of conflicts -/
def claimsL (E : List (Int × Int)) : List Cl := E.map (fun e => (e.1, false)) ++ E.map (fun e => (e.2, true))
theorem mem_claims {E : List (Int × Int)} {c : Cl} : c ∈ claimsL E ↔ ∃ e ∈ E, bears e c = true := by
  unfold claimsL
  rw [List.mem_append, List.mem_map, List.mem_map]
  obtain ⟨x, b⟩ := c
  constructor
  · rintro (⟨e, he, h⟩ | ⟨e, he, h⟩)
    · cases h; exact ⟨e, he, bears_own.mpr rfl⟩
    · cases h; exact ⟨e, he, bears_shp.mpr rfl⟩
  · rintro ⟨e, he, h⟩
    cases b with
    | false => exact .inl ⟨e, he, by rw [bears_own.mp h]⟩
    | true => exact .inr ⟨e, he, by rw [bears_shp.mp h]⟩
theorem out_take (E : List (Int × Int)) (c : Cl) {i : Nat} {e : Int × Int} (h : E[i]? = some e) : outOf (E.take (i + 1)) c = outOf (E.take i) c ++ if bears e c = true then [] else [e] := by
  unfold outOf
  rw [List.take_succ, h, Option.toList_some, List.filter_append]
  congr 1
  rw [List.filter_cons]
  cases bears e c <;> rfl
theorem not_bears (x y : Int) (c : Cl) : (!decide ((x, false) = c) && !decide ((y, true) = c)) = !bears (x, y) c := by
  obtain ⟨z, b⟩ := c
  cases b <;> simp [bears]
/-- as many conflicts as match -/
noncomputable def nuE (E : List (Int × Int)) : Nat := by
  classical
  exact if h : ∃ n, Nu E n then Classical.choose h else 0
theorem nuE_of {E : List (Int × Int)} {n : Nat} (h : Nu E n) : nuE E = n := by
  classical
  have g : ∃ n, Nu E n := ⟨n, h⟩
  unfold nuE
  rw [dif_pos g]
  exact nu_one (Classical.choose_spec g) h
end My
set_option Elab.async false
set_option linter.all false
set_option maxRecDepth 100000
/-! Objects of any plain kind in the heap: what they are as data, their types, isinstance, in of a tuple, repr. -/
namespace My
open PySem PySem.Spec PyProof.Rows L2
mutual
inductive DD (H : Hp) : V → PyData → Prop
  | non : DD H .non .none
  | bl (b : Bool) : DD H (.bl b) (.bool b)
  | int (i : Int) : DD H (.int i) (.int i)
  | str (x : Str) : DD H (.str x) (.str x)
  | lst {a : Addr} {xs : List V} {ds : List PyData} : H a = some (.lst xs) → DDs H xs ds → DD H (.ref a) (.list ds)
  | tup {a : Addr} {xs : List V} {ds : List PyData} : H a = some (.tup xs) → DDs H xs ds → DD H (.ref a) (.tuple ds)
inductive DDs (H : Hp) : List V → List PyData → Prop
  | nil : DDs H [] []
  | cons {v : V} {vs : List V} {d : PyData} {ds : List PyData} : DD H v d → DDs H vs ds → DDs H (v :: vs) (d :: ds)
end
mutual
theorem DD.dp {K : PySem.W.Frag} {H : Hp} : ∀ {v : V} {d : PyData}, DD H v d → Dp K H v d
  | _, _, .non => .non
  | _, _, .bl b => .bl b
  | _, _, .int i => .int i
  | _, _, .str x => .str x
  | _, _, .lst h a => .lst (SqL.of h) (DDs.dp a)
  | _, _, .tup h a => .tup (SqT.of h) (DDs.dp a)
theorem DDs.dp {K : PySem.W.Frag} {H : Hp} : ∀ {vs : List V} {ds : List PyData}, DDs H vs ds → DpAll K H vs ds
  | _, _, .nil => .nil
  | _, _, .cons h a => .cons (DD.dp h) (DDs.dp a)
end
mutual
theorem DD.same {H H' : Hp} (s : Same H H') : ∀ {v : V} {d : PyData}, DD H v d → DD H' v d
  | _, _, .non => .non
  | _, _, .bl b => .bl b
  | _, _, .int i => .int i
  | _, _, .str x => .str x
  | _, _, .lst h a => .lst (s _ _ h) (DDs.same s a)
  | _, _, .tup h a => .tup (s _ _ h) (DDs.same s a)
theorem DDs.same {H H' : Hp} (s : Same H H') : ∀ {vs : List V} {ds : List PyData}, DDs H vs ds → DDs H' vs ds
  | _, _, .nil => .nil
  | _, _, .cons h a => .cons (DD.same s h) (DDs.same s a)
end
theorem DDs.len {H : Hp} : ∀ {vs : List V} {ds : List PyData}, DDs H vs ds → vs.length = ds.length
  | _, _, .nil => rfl
  | _, _, .cons _ a => by rw [List.length_cons, List.length_cons, DDs.len a]
theorem DDs.get {H : Hp} : ∀ {vs : List V} {ds : List PyData}, DDs H vs ds → ∀ {i : Nat} {v : V}, vs[i]? = some v → ∃ d, ds[i]? = some d ∧ DD H v d
  | _, _, .nil, i, v, e => by cases e
  | _, _, .cons (d := d) h a, i, v, e => by
    cases i with
    | zero => cases e; exact ⟨d, rfl, h⟩
    | succ i => exact DDs.get a e
theorem DDs.app {H : Hp} : ∀ {vs us : List V} {ds es : List PyData}, DDs H vs ds → DDs H us es → DDs H (vs ++ us) (ds ++ es)
  | _, _, _, _, .nil, b => b
  | _, _, _, _, .cons h a, b => .cons h (DDs.app a b)
theorem DDs.cut {H : Hp} {vs : List V} {ds : List PyData} (a : DDs H vs ds) (lo hi : Option Int) : ∃ es, DDs H (cutV vs lo hi) es ∧ ∀ e ∈ es, e ∈ ds := by
  have tk : ∀ {vs : List V} {ds : List PyData} (n : Nat), DDs H vs ds → DDs H (vs.take n) (ds.take n) := by
    intro vs ds n a
    induction n generalizing vs ds with
    | zero => exact .nil
    | succ n ih =>
      cases a with
      | nil => exact .nil
      | cons h a => exact .cons h (ih a)
  have dr : ∀ {vs : List V} {ds : List PyData} (n : Nat), DDs H vs ds → DDs H (vs.drop n) (ds.drop n) := by
    intro vs ds n a
    induction n generalizing vs ds with
    | zero => exact a
    | succ n ih =>
      cases a with
      | nil => exact .nil
      | cons h a => exact ih a
  exact ⟨_, tk _ (dr _ a), fun e he => List.mem_of_mem_drop (List.mem_of_mem_take he)⟩
/-- and it is so whatever becomes of b -/
def DK (b : Addr) (H : Hp) (v : V) (d : PyData) : Prop := ∀ H', Kept b H H' → DD H' v d
def DKs (b : Addr) (H : Hp) (vs : List V) (ds : List PyData) : Prop := ∀ H', Kept b H H' → DDs H' vs ds
theorem DK.now {b : Addr} {H : Hp} {v : V} {d : PyData} (h : DK b H v d) : DD H v d := h H (Kept.refl _ _)
theorem DKs.now {b : Addr} {H : Hp} {v : List V} {d : List PyData} (h : DKs b H v d) : DDs H v d := h H (Kept.refl _ _)
theorem DK.keep {b : Addr} {H H' : Hp} {v : V} {d : PyData} (h : DK b H v d) (k : Kept b H H') : DK b H' v d := fun H2 k2 => h H2 (k.trans k2)
theorem DKs.keep {b : Addr} {H H' : Hp} {v : List V} {d : List PyData} (h : DKs b H v d) (k : Kept b H H') : DKs b H' v d := fun H2 k2 => h H2 (k.trans k2)
theorem DK.tup {b p : Addr} {H : Hp} {xs : List V} {ds : List PyData} (e : H p = some (.tup xs)) (pb : p ≠ b) (h : DKs b H xs ds) : DK b H (.ref p) (.tuple ds) := fun H' k => .tup (k _ _ pb e) (h H' k)
theorem DK.lst {b p : Addr} {H : Hp} {xs : List V} {ds : List PyData} (e : H p = some (.lst xs)) (pb : p ≠ b) (h : DKs b H xs ds) : DK b H (.ref p) (.list ds) := fun H' k => .lst (k _ _ pb e) (h H' k)
theorem DKs.nil {b : Addr} {H : Hp} : DKs b H [] [] := fun _ _ => .nil
theorem DKs.cons {b : Addr} {H : Hp} {v : V} {vs : List V} {d : PyData} {ds : List PyData} (h : DK b H v d) (t : DKs b H vs ds) : DKs b H (v :: vs) (d :: ds) := fun H' k => .cons (h H' k) (t H' k)
theorem DKs.app {b : Addr} {H : Hp} {vs us : List V} {ds es : List PyData} (h : DKs b H vs ds) (t : DKs b H us es) : DKs b H (vs ++ us) (ds ++ es) := fun H' k => (h H' k).app (t H' k)
theorem DK.int {b : Addr} {H : Hp} (i : Int) : DK b H (.int i) (.int i) := fun _ _ => .int i
theorem DK.str {b : Addr} {H : Hp} (i : Str) : DK b H (.str i) (.str i) := fun _ _ => .str i
theorem DK.bl {b : Addr} {H : Hp} (i : Bool) : DK b H (.bl i) (.bool i) := fun _ _ => .bl i
theorem DK.non {b : Addr} {H : Hp} : DK b H .non .none := fun _ _ => .non
/-! ### types -/
def tyOf : PyData → String
  | .none => "NoneType"
  | .bool _ => "bool"
  | .int _ => "int"
  | .str _ => "str"
  | .list _ => "list"
  | .tuple _ => "tuple"
  | .dict _ => "dict"
theorem DD.ty {K : PySem.W.Frag} {H : Hp} {v : V} {d : PyData} (h : DD H v d) : TyX K H v (.type (tyOf d)) := by
  cases h with
  | non => exact .base .non
  | bl b => exact .base (.bl b)
  | int i => exact .base (.int i)
  | str x => exact .base (.str x)
  | lst e _ => exact .base (.lst e)
  | tup e _ => exact .base (.tup e)
def isTupD : PyData → Bool | .tuple _ => true | _ => false
def isListD : PyData → Bool | .list _ => true | _ => false
def isBoolD : PyData → Bool | .bool _ => true | _ => false
def isIntD : PyData → Bool | .bool _ => true | .int _ => true | _ => false
def isStrD : PyData → Bool | .str _ => true | _ => false
theorem kit_tup : ∀ d : PyData, kitB (tyOf d) "tuple" = some (isTupD d)
  | .none => (by decide +kernel : kitB "NoneType" "tuple" = some false)
  | .bool _ => (by decide +kernel : kitB "bool" "tuple" = some false)
  | .int _ => (by decide +kernel : kitB "int" "tuple" = some false)
  | .str _ => (by decide +kernel : kitB "str" "tuple" = some false)
  | .list _ => (by decide +kernel : kitB "list" "tuple" = some false)
  | .tuple _ => (by decide +kernel : kitB "tuple" "tuple" = some true)
  | .dict _ => (by decide +kernel : kitB "dict" "tuple" = some false)
theorem kit_list : ∀ d : PyData, kitB (tyOf d) "list" = some (isListD d)
  | .none => (by decide +kernel : kitB "NoneType" "list" = some false)
  | .bool _ => (by decide +kernel : kitB "bool" "list" = some false)
  | .int _ => (by decide +kernel : kitB "int" "list" = some false)
  | .str _ => (by decide +kernel : kitB "str" "list" = some false)
  | .list _ => (by decide +kernel : kitB "list" "list" = some true)
  | .tuple _ => (by decide +kernel : kitB "tuple" "list" = some false)
  | .dict _ => (by decide +kernel : kitB "dict" "list" = some false)
theorem kit_bool : ∀ d : PyData, kitB (tyOf d) "bool" = some (isBoolD d)
  | .none => (by decide +kernel : kitB "NoneType" "bool" = some false)
  | .bool _ => (by decide +kernel : kitB "bool" "bool" = some true)
  | .int _ => (by decide +kernel : kitB "int" "bool" = some false)
  | .str _ => (by decide +kernel : kitB "str" "bool" = some false)
  | .list _ => (by decide +kernel : kitB "list" "bool" = some false)
  | .tuple _ => (by decide +kernel : kitB "tuple" "bool" = some false)
  | .dict _ => (by decide +kernel : kitB "dict" "bool" = some false)
theorem kit_int : ∀ d : PyData, kitB (tyOf d) "int" = some (isIntD d)
  | .none => (by decide +kernel : kitB "NoneType" "int" = some false)
  | .bool _ => (by decide +kernel : kitB "bool" "int" = some true)
  | .int _ => (by decide +kernel : kitB "int" "int" = some true)
  | .str _ => (by decide +kernel : kitB "str" "int" = some false)
  | .list _ => (by decide +kernel : kitB "list" "int" = some false)
  | .tuple _ => (by decide +kernel : kitB "tuple" "int" = some false)
  | .dict _ => (by decide +kernel : kitB "dict" "int" = some false)
theorem kit_str : ∀ d : PyData, kitB (tyOf d) "str" = some (isStrD d)
  | .none => (by decide +kernel : kitB "NoneType" "str" = some false)
  | .bool _ => (by decide +kernel : kitB "bool" "str" = some false)
  | .int _ => (by decide +kernel : kitB "int" "str" = some false)
  | .str _ => (by decide +kernel : kitB "str" "str" = some true)
  | .list _ => (by decide +kernel : kitB "list" "str" = some false)
  | .tuple _ => (by decide +kernel : kitB "tuple" "str" = some false)
  | .dict _ => (by decide +kernel : kitB "dict" "str" = some false)
/-! ### in of a tuple -/
section
variable {X : Cx}
def rInT (K : PySem.W.Frag) (neg : Bool) : R2 := fun x y H Q => ∃ d ds, Dp K H x d ∧ Dp K H y (.tuple ds) ∧ SeqAt.shaped d = true ∧ SeqAt.shaped (.tuple ds) = true ∧ Q (.bl (neg ^^ ds.any fun z => PyData.eqv z d)) H
theorem op_inT (hu : X.A.units + 65 < cLine) : OpR X (compareOp .In) (rInT X.K false) := by
  intro pins s σ H x y v u Q I rx ry h
  obtain ⟨d, ds, hd, he, sd, se, q⟩ := h
  obtain ⟨as, r1⟩ := Dp.reads I d x v hd rx
  obtain ⟨bs, r2⟩ := Dp.reads I (.tuple ds) y u he ry
  rw [Bool.false_xor] at q
  exact SeqAt.in_tuple_reads r2 r1 (SeqAt.canLay_of_shaped se) (SeqAt.canLay_of_shaped sd) (room_in_shaped sd hu) ⟨.bl _, H, I, rfl, q⟩
theorem op_notInT (hu : X.A.units + 65 < cLine) : OpR X (compareOp .NotIn) (rInT X.K true) := by
  intro pins s σ H x y v u Q I rx ry h
  obtain ⟨d, ds, hd, he, sd, se, q⟩ := h
  obtain ⟨as, r1⟩ := Dp.reads I d x v hd rx
  obtain ⟨bs, r2⟩ := Dp.reads I (.tuple ds) y u he ry
  rw [Bool.true_xor] at q
  exact SeqAt.notIn_tuple_reads r2 r1 (SeqAt.canLay_of_shaped se) (SeqAt.canLay_of_shaped sd) (room_in_shaped sd hu) ⟨.bl _, H, I, rfl, q⟩
end
/-! ### small data -/
def Leaf : PyData → Prop
  | .none => True
  | .bool _ => True
  | .int n => 0 ≤ n ∧ n ≤ 1000
  | .str s => Plain 20 s
  | _ => False
def Part : PyData → Prop
  | .tuple l => l.length ≤ 3 ∧ ∀ x ∈ l, Leaf x
  | .list l => l.length ≤ 3 ∧ ∀ x ∈ l, Leaf x
  | d => Leaf d
def OkD : PyData → Prop
  | .tuple l => l.length ≤ 60 ∧ ∀ x ∈ l, Part x
  | .list l => l.length ≤ 60 ∧ ∀ x ∈ l, Part x
  | d => Leaf d
structure Fact (n m : Nat) (d : PyData) : Prop where
  sh : d.showable = true
  nd : d.hasDict = false
  dp : d.depth ≤ n
  ls : d.leavesShort 8 = true
  bk : d.bulk ≤ m
  cl : d.canLay0 = true
theorem int_short {n : Int} (h0 : 0 ≤ n) (h1 : n ≤ 1000) : (PyData.int n).showable = true ∧ (PyData.int n).leavesShort 8 = true := by
  obtain ⟨k, rfl⟩ := Int.eq_ofNat_of_zero_le h0
  have hk : k ≤ 1000 := by omega
  have all : ((List.range 1001).all fun k => (PyData.int (k : Int)).showable && (PyData.int (k : Int)).leavesShort 8) = true := by decide +kernel
  have := List.all_eq_true.mp all k (List.mem_range.mpr (by omega))
  rw [Bool.and_eq_true] at this
  exact this
theorem Leaf.fact : ∀ {d : PyData}, Leaf d → Fact 0 20 d
  | .none, _ => ⟨rfl, rfl, Nat.le_refl _, by decide, by decide, rfl⟩
  | .bool b, _ => ⟨rfl, rfl, Nat.le_refl _, by cases b <;> decide, by cases b <;> decide, rfl⟩
  | .int n, h => ⟨(int_short h.1 h.2).1, rfl, Nat.le_refl _, (int_short h.1 h.2).2, by show 0 ≤ 20; decide, rfl⟩
  | .str s, h => by
    have h : Plain 20 s := h
    refine ⟨rfl, rfl, Nat.le_refl _, ?_, ?_, ?_⟩
    · have : ∀ c ∈ s.cps.toList, c < 16 ^ 8 := fun c hc => Nat.lt_trans (h.small c hc) (by decide)
      simpa only [PyData.leavesShort, List.all_eq_true, decide_eq_true_eq] using this
    · show s.cps.size ≤ 20
      have h1 := h.len
      have : s.length = s.cps.size := rfl
      omega
    · have : ∀ c ∈ s.cps.toList, c < 0x110000 := fun c hc => Nat.lt_trans (h.small c hc) (by decide)
      show PyData.strOk s = true
      unfold PyData.strOk
      rw [← Array.all_toList, List.all_eq_true]
      exact fun c hc => decide_eq_true (this c hc)
theorem facts {n m : Nat} : ∀ {l : List PyData}, (∀ x ∈ l, Fact n m x) → PyData.showableAll l = true ∧ PyData.hasDictAll l = false ∧ PyData.depthAll l ≤ n ∧ PyData.leavesShortAll 8 l = true ∧ PyData.bulkAll l ≤ (m + 1) * l.length ∧ PyData.canLayAll0 l = true
  | [], _ => ⟨rfl, rfl, Nat.zero_le _, rfl, Nat.zero_le _, rfl⟩
  | d :: r, h => by
    obtain ⟨h1, h2, h3, h4, h5, h6⟩ := facts (l := r) fun z hz => h z (List.mem_cons_of_mem _ hz)
    have f := h d List.mem_cons_self
    refine ⟨?_, ?_, ?_, ?_, ?_, ?_⟩
    · show (d.showable && PyData.showableAll r) = true
      rw [f.sh, h1]; rfl
    · show (d.hasDict || PyData.hasDictAll r) = false
      rw [f.nd, h2]; rfl
    · show max d.depth (PyData.depthAll r) ≤ n
      have := f.dp
      omega
    · show (d.leavesShort 8 && PyData.leavesShortAll 8 r) = true
      rw [f.ls, h4]; rfl
    · show d.bulk + 1 + PyData.bulkAll r ≤ (m + 1) * (r.length + 1)
      have := f.bk
      rw [Nat.mul_succ]
      omega
    · show (d.canLay0 && PyData.canLayAll0 r) = true
      rw [f.cl, h6]; rfl
theorem fact_seq {n m k : Nat} {l : List PyData} (h : ∀ x ∈ l, Fact n m x) (hl : l.length ≤ k) : Fact (n + 1) ((m + 1) * k) (.tuple l) ∧ Fact (n + 1) ((m + 1) * k) (.list l) := by
  obtain ⟨h1, h2, h3, h4, h5, h6⟩ := facts h
  have b : PyData.bulkAll l ≤ (m + 1) * k := Nat.le_trans h5 (Nat.mul_le_mul_left _ hl)
  exact ⟨⟨h1, h2, by show PyData.depthAll l + 1 ≤ n + 1; omega, h4, b, h6⟩, ⟨h1, h2, by show PyData.depthAll l + 1 ≤ n + 1; omega, h4, b, h6⟩⟩
theorem Fact.mono {n m n' m' : Nat} {d : PyData} (f : Fact n m d) (h : n ≤ n') (g : m ≤ m') : Fact n' m' d := ⟨f.sh, f.nd, Nat.le_trans f.dp h, f.ls, Nat.le_trans f.bk g, f.cl⟩
theorem Part.fact : ∀ {d : PyData}, Part d → Fact 1 63 d
  | .tuple l, h => ((fact_seq (fun x hx => Leaf.fact (h.2 x hx)) h.1).1)
  | .list l, h => ((fact_seq (fun x hx => Leaf.fact (h.2 x hx)) h.1).2)
  | .none, h => (Leaf.fact (d := .none) h).mono (by decide) (by decide)
  | .bool b, h => (Leaf.fact (d := .bool b) h).mono (by decide) (by decide)
  | .int n, h => (Leaf.fact (d := .int n) h).mono (by decide) (by decide)
  | .str s, h => (Leaf.fact (d := .str s) h).mono (by decide) (by decide)
  | .dict kvs, h => h.elim
theorem OkD.fact : ∀ {d : PyData}, OkD d → Fact 2 3840 d
  | .tuple l, h => ((fact_seq (fun x hx => Part.fact (h.2 x hx)) h.1).1)
  | .list l, h => ((fact_seq (fun x hx => Part.fact (h.2 x hx)) h.1).2)
  | .none, h => (Leaf.fact (d := .none) h).mono (by decide) (by decide)
  | .bool b, h => (Leaf.fact (d := .bool b) h).mono (by decide) (by decide)
  | .int n, h => (Leaf.fact (d := .int n) h).mono (by decide) (by decide)
  | .str s, h => (Leaf.fact (d := .str s) h).mono (by decide) (by decide)
  | .dict kvs, h => h.elim
theorem Fact.shaped {n m : Nat} {d : PyData} (f : Fact n m d) (h : n ≤ 60) : SeqAt.shaped d = true := by
  unfold SeqAt.shaped
  rw [Bool.and_eq_true]
  exact ⟨f.cl, decide_eq_true (by have := f.dp; omega)⟩
theorem Fact.shows {n m : Nat} {d : PyData} (f : Fact n m d) (h : n ≤ 8) (g : m ≤ 100000) : Shows d := by
  refine ⟨f.sh, f.nd, Nat.le_trans f.dp h, ?_⟩
  have b := PyData.shown_le_bulk 8 (by decide) d f.ls
  have h6 : (1100000 : Nat) ≤ sizeLine := by decide
  have := f.bk
  omega
end My
set_option Elab.async false
set_option linter.all false
set_option maxRecDepth 100000
set_option maxHeartbeats 2000000
namespace K06
open PySem PySem.Spec PyProof.Rows L2 My LamX
theorem takes_len {X : Cx} {W : WX} (t : L2.Takes X W) : L2.Takes X (fun c d σ H => σ.length = X.N.length → W c d σ H) := fun u s' ⟨a, B, sI, pins, σ, H, cls, d, e, I, nb, up, sky, na, os, ag, wi⟩ =>
  t u s' ⟨a, B, sI, pins, σ, H, cls, d, e, I, nb, up, sky, na, os, ag, wi I.len⟩
theorem vals3 {a b c : Addr} : ∀ us, Vals [V.ref a, V.ref b, V.ref c] us → us = [Value.ref a, Value.ref b, Value.ref c] := by
  intro us h
  cases h with
  | cons h1 h => cases h with
    | cons h2 h => cases h with
      | cons h3 h =>
        cases h
        cases (show _ = Value.ref a from h1)
        cases (show _ = Value.ref b from h2)
        cases (show _ = Value.ref c from h3)
        rfl
/-- what _law_raised makes of the deed: the object that NoPlace bears, as a tuple, or None -/
def TRaise (C : Addr) : (XK → Hp → VK → Prop) → Hp → VK → Prop := fun tl H Q =>
  tl (fun cls d H' => cls = .ref C ∧ ∃ (dd : Addr) (v : V), d = some dd ∧ H' dd = some (.xd [("place", v)]) ∧ ∀ H'' p, Same H' H'' → H'' p = some (.tup [v]) → Q (.ref p) H'') H (fun _ H' => Q .non H')
theorem raised_gives {X : Cx} (T : Top X.K X.mg) {cdg : Value} {q : Str} : GivesTo X N_L_raised "_law_raised" (defScope s_L_raised) T.f__law_raised cdg (defBody s_L_raised) "_law_deed" q (TRaise T.C_NoPlace) := by
  intro f c' s H Q tl act hc h
  refine ⟨_, (pss_cons (ps_try_as (X := (cxOf C8.CX0 X.prog X.w X.K X.mg X.base N_L_raised "_law_raised" (defScope s_L_raised) T.f__law_raised cdg X.A X.stack s H C8.E0).nox) (i := 1)
      (tb := fun W D σ H => ∃ Ech : XK, (∀ cls d σ' H', Ech cls d H' → σ'.length = 2 → W cls d σ' H') ∧ σ[0]? = some (some (.ref f)) ∧ H c' = some (CodeO c' q) ∧ tl Ech H (fun _ H' => D.nx σ H'))
      rfl rfl scL_raised.nd rfl rfl ⟨rfl, by decide, .inl T.g_NoPlace⟩ LamX.takes0 (fun W pn xe tk _ => ?_)
      (fun a oe cls d pn hz hf => pss_cons (ps_if (PW.pt (pw_or (pt_val (pe_callB (call_isGT T.ec_NoPlace hz hf) (by rfl) T.m_isinstance (by decide +kernel) (pa_cons (pv 1) (pa_cons (pe_tup (pa_cons (pe_glob (v := .ref T.C_NoSlot) (by rfl) T.g_NoSlot rfl) (pa_cons (pe_glob (v := .ref T.C_NoChain) (by rfl) T.g_NoChain rfl) (pa_cons (pe_glob (v := .ref T.C_BadText) (by rfl) T.g_BadText rfl) pa_nil)))) pa_nil))))
            (pw_or1 (pt_not (pt_val (pe_callB (call_isG T.ec_NoPlace hz hf) (by rfl) T.m_isinstance (by decide +kernel) (pa_cons (pv 1) (pa_cons (pe_bltn (v := .ty "LookupError") (by rfl) T.m_LookupError (by decide +kernel) rfl) pa_nil)))))))) (pss_one (ps_ret pe_str)) pss_nil)
          (pss_one (ps_ret (pe_tup (pa_cons (pe_xf (C := T.C_NoPlace) ⟨T.ec_NoPlace.hg, T.ec_NoPlace.hk, T.ec_NoPlace.hs, T.ec_NoPlace.hd⟩ T.nf_NoPlace_place hz hf (pv 1)) pa_nil))))))
      (pss_one (ps_ret pe_non))), ?_⟩
  · refine ⟨fun pins s' σ H' D I h' => ?_⟩
    obtain ⟨Ech, hW, h1, h2, h3⟩ := h'
    have hp := fun p1 p2 => act _ pn xe Ech p1 p2 (takes_len tk) (fun cls d σ' H' hE hl => hW cls d σ' H' hE hl)
    exact (pss_one (ps_expr (hp _ _))).run pins s' σ H' D I ⟨h1, h2, h3⟩
  · refine ⟨_, fun cls d σ' H' hE hl => ?_, rfl, hc, h⟩
    obtain ⟨rfl, dd, v, rfl, hd, qq⟩ := hE
    obtain ⟨x0, x1, rfl⟩ : ∃ x0 x1, σ' = [x0, x1] := by
      match σ', hl with
      | [x0, x1], _ => exact ⟨x0, x1, rfl⟩
    refine ⟨true, T.xm_NoPlace, fun _ a na => ?_, fun h => nomatch h⟩
    refine ⟨.ref a, rfl, (by show 3 ≤ sizeLine; decide), fun tp ntp => ?_⟩
    have s2 := same_new (o := .tup [.ref T.C_NoSlot, .ref T.C_NoChain, .ref T.C_BadText]) ntp
    have e2 : upd H' tp (.tup [.ref T.C_NoSlot, .ref T.C_NoChain, .ref T.C_BadText]) tp = some (.tup [.ref T.C_NoSlot, .ref T.C_NoChain, .ref T.C_BadText]) := upd_same
    have hd2 := s2 _ _ hd
    generalize upd H' tp (.tup [.ref T.C_NoSlot, .ref T.C_NoChain, .ref T.C_BadText]) = H2 at s2 e2 hd2
    refine ⟨rfl, tp, _, [.ref T.C_NoSlot, .ref T.C_NoChain, .ref T.C_BadText], false, rfl, SqT.of e2, vals3, kitAny_cons T.ko_NoPlace_NoSlot (fun _ => kitAny_cons T.ko_NoPlace_NoChain (fun _ => kitAny_cons T.ko_NoPlace_BadText (fun _ => kitAny_nil) (fun h => nomatch h)) (fun h => nomatch h)) (fun h => nomatch h), (fun dd e => by cases e; exact ⟨_, hd2⟩), false, rfl, iteF ?_⟩
    refine ⟨.ref a, rfl, rfl, .ty "LookupError", .type "LookupError", true, rfl, (fun u r => r), T.kt_NoPlace_LookupError, (fun dd e => by cases e; exact ⟨_, hd2⟩), true, rfl, iteF ?_⟩
    refine ⟨.ref a, rfl, rfl, rfl, dd, _, v, rfl, hd2, rfl, (by show 1 ≤ sizeLine; decide), fun p np => ?_⟩
    exact qq _ p (s2.trans (same_new np)) upd_same
end K06

set_option Elab.async false
set_option linter.all false
set_option maxRecDepth 100000
/-! The turns of a walk, whatever is done in each (for comprehensions of two clauses). -/
namespace My
open PySem PySem.Spec PyProof.Rows L2
theorem it_turns {J : It} {n : Nat} {G : Hp → Prop} {Y : Nat → Hp → V → Hp → Prop} (w : Walk J n G Y) {B : V → Hp → (Hp → Prop) → Prop} {H0 : Hp} {Qd : Hp → Prop} (Pv : Nat → Hp → Prop) (h0 : Pv 0 H0) (hG : ∀ i H, i ≤ n → Pv i H → G H)
    (hs : ∀ i x H H', i < n → Pv i H → Y i H x H' → B x H' (Pv (i + 1))) (hd : ∀ H, Pv n H → Qd H) :
    ∃ W : Nat → Nat → Hp → Prop, (∃ m, W 0 m H0) ∧ ∀ i m H, W i m H → (J.stop i H ∧ Qd H) ∨ (J.go i H ∧ ∃ Nx : Hp → Prop, (∀ H', Nx H' → ∃ m', m' < m ∧ W (i + 1) m' H') ∧ ∀ x H', J.yld i H x H' → B x H' Nx) := by
  refine ⟨fun i m H => m = n - i ∧ i ≤ n ∧ Pv i H, ⟨n, by simp, Nat.zero_le _, h0⟩, ?_⟩
  rintro i m H ⟨rfl, hi, p⟩
  have q := hG i H hi p
  by_cases lt : i < n
  · exact .inr ⟨w.goes i H lt q, Pv (i + 1), fun H' p' => ⟨n - (i + 1), by omega, rfl, lt, p'⟩, fun x H' y => hs i x H H' lt p (w.yields i H x H' lt q y)⟩
  · have e : i = n := by omega
    subst e
    exact .inl ⟨w.stops H q, hd H p⟩
end My
set_option Elab.async false
set_option linter.all false
set_option maxRecDepth 100000
/-! Which data are an ascending tuple of some of these claims. Pure. -/
namespace My
open PySem PySem.Spec PyProof.Rows L2
def itemsD : PyData → List PyData
  | .tuple l => l
  | _ => []
def SelC (cs : List Cl) (d : PyData) : Prop := ∃ L : List Cl, d = .tuple (L.map clD) ∧ (∀ c ∈ L, c ∈ cs) ∧ L.Pairwise ltC
theorem eqv_tup_of {z : PyData} {ys : List PyData} (h : PyData.eqv z (.tuple ys) = true) : ∃ xs, z = .tuple xs ∧ PyData.eqvAll xs ys = true := by
  cases z with
  | tuple xs => exact ⟨xs, rfl, h⟩
  | _ => cases h
theorem eqvAll_two {xs : List PyData} {a b : PyData} (h : PyData.eqvAll xs [a, b] = true) : ∃ x y, xs = [x, y] ∧ PyData.eqv x a = true ∧ PyData.eqv y b = true := by
  match xs, h with
  | [x, y], h =>
    have h : (PyData.eqv x a && (PyData.eqv y b && true)) = true := h
    rw [Bool.and_true, Bool.and_eq_true] at h
    exact ⟨x, y, rfl, h.1, h.2⟩
  | [x], h =>
    have h : (PyData.eqv x a && false) = true := h
    rw [Bool.and_false] at h
    cases h
  | x :: y :: w :: r, h =>
    have h : (PyData.eqv x a && (PyData.eqv y b && false)) = true := h
    rw [Bool.and_false, Bool.and_false] at h
    cases h
theorem eqv_int_of {z : PyData} {n : Int} (h : PyData.eqv z (.int n) = true) (nb : isBoolD z = false) : z = .int n := by
  cases z with
  | int m =>
    have h : (m == n) = true := h
    rw [beq_iff_eq.mp h]
  | bool b => cases nb
  | _ => cases h
theorem eqv_str_of {z : PyData} {s : Str} (h : PyData.eqv z (.str s) = true) : z = .str s := by
  cases z with
  | str t =>
    have h : (t == s) = true := h
    rw [beq_iff_eq.mp h]
  | _ => cases h
theorem eqv_cl_of {z : PyData} {c : Cl} (h : PyData.eqv z (clD c) = true) (nb : (itemsD z).any isBoolD = false) : z = clD c := by
  obtain ⟨xs, rfl, h⟩ := eqv_tup_of h
  obtain ⟨x, y, rfl, h1, h2⟩ := eqvAll_two h
  have nb : (isBoolD x || (isBoolD y || false)) = false := nb
  rw [Bool.or_eq_false_iff] at nb
  rw [eqv_int_of h1 nb.1, eqv_str_of h2]
  rfl
theorem all_cl_of : ∀ {ds : List PyData} {L : List Cl}, PyData.eqvAll ds (L.map clD) = true → (ds.flatMap itemsD).any isBoolD = false → ds = L.map clD
  | [], [], _, _ => rfl
  | [], c :: r, h, _ => by cases h
  | z :: q, [], h, _ => by cases h
  | z :: q, c :: r, h, nb => by
    have h : (PyData.eqv z (clD c) && PyData.eqvAll q (r.map clD)) = true := h
    rw [Bool.and_eq_true] at h
    rw [List.flatMap_cons, List.any_append, Bool.or_eq_false_iff] at nb
    rw [eqv_cl_of h.1 nb.1, all_cl_of h.2 nb.2]
    rfl
theorem no_bools (L : List Cl) : ((L.map clD).flatMap itemsD).any isBoolD = false := by
  induction L with
  | nil => rfl
  | cons c r ih =>
    rw [List.map_cons, List.flatMap_cons, List.any_append, ih]
    rfl
theorem ltC_asym (a b : Cl) (h : ltC a b) : ¬ ltC b a := fun g => ltC_irr (ltC_trans h g)
/-- those of the choices that are in it -/
def pickC (cs : List Cl) (ds : List PyData) : List Cl := cs.filter fun c => ds.any fun z => PyData.eqv z (clD c)
theorem pick_of {cs L : List Cl} (asc : cs.Pairwise ltC) (sub : ∀ c ∈ L, c ∈ cs) (aL : L.Pairwise ltC) : pickC cs (L.map clD) = L := by
  refine sorted_eq ltC_asym _ _ (asc.filter _) aL fun c => ?_
  unfold pickC
  rw [List.mem_filter, any_cl, decide_eq_true_eq]
  exact ⟨fun h => h.2, fun h => ⟨sub c h, h⟩⟩
theorem sel_no {cs : List Cl} {ds : List PyData} (asc : cs.Pairwise ltC) (h : PyData.eqvAll ds ((pickC cs ds).map clD) = false) : ¬ SelC cs (.tuple ds) := by
  rintro ⟨L, e, sub, aL⟩
  injection e with e
  subst e
  rw [pick_of asc sub aL, eqvAll_cl, decide_eq_true rfl] at h
  cases h
theorem sel_yes {cs : List Cl} {ds : List PyData} (asc : cs.Pairwise ltC) (h : PyData.eqvAll ds ((pickC cs ds).map clD) = true) : (!(ds.flatMap itemsD).any isBoolD) = true ↔ SelC cs (.tuple ds) := by
  rw [Bool.not_eq_true']
  constructor
  · intro nb
    exact ⟨pickC cs ds, by rw [← all_cl_of h nb], fun c hc => (List.mem_filter.mp hc).1, asc.filter _⟩
  · rintro ⟨L, e, _, _⟩
    injection e with e
    rw [e]
    exact no_bools L
def CovC (E : List (Int × Int)) (cs : List Cl) (d : PyData) : Prop := ∃ L : List Cl, d = .tuple (L.map clD) ∧ (∀ c ∈ L, c ∈ cs) ∧ L.Pairwise ltC ∧ Cov E L
theorem clD_inj {a b : Cl} (h : clD a = clD b) : a = b := by
  have := eqv_cl a b
  rw [h, eqv_cl, decide_eq_true rfl] at this
  exact of_decide_eq_true this.symm
theorem map_clD_inj {a b : List Cl} (h : a.map clD = b.map clD) : a = b := by
  have := eqvAll_cl a b
  rw [h, eqvAll_cl, decide_eq_true rfl] at this
  exact of_decide_eq_true this.symm
end My
set_option Elab.async false
set_option linter.all false
/-! The place of a claim in an ascending list. Pure. -/
namespace My
def posC : List Cl → Cl → Nat
  | [], _ => 0
  | a :: r, c => if a = c then 0 else posC r c + 1
theorem pos_at : ∀ {cs : List Cl} {c : Cl}, c ∈ cs → cs[posC cs c]? = some c
  | a :: r, c, h => by
    unfold posC
    by_cases e : a = c
    · rw [if_pos e, e]; rfl
    · rw [if_neg e, List.getElem?_cons_succ]
      exact pos_at ((List.mem_cons.mp h).elim (fun z => (e z.symm).elim) id)
theorem pos_no : ∀ {cs : List Cl} {c : Cl} {m : Nat} {x : Cl}, m < posC cs c → cs[m]? = some x → x ≠ c
  | a :: r, c, m, x, h, hx => by
    unfold posC at h
    by_cases e : a = c
    · rw [if_pos e] at h; exact absurd h (Nat.not_lt_zero _)
    · rw [if_neg e] at h
      cases m with
      | zero => cases hx; exact e
      | succ m => exact pos_no (Nat.lt_of_succ_lt_succ h) hx
theorem pos_lt {cs : List Cl} (asc : cs.Pairwise ltC) {a b : Cl} (ha : a ∈ cs) (hb : b ∈ cs) : posC cs a < posC cs b ↔ ltC a b := by
  have ga := pos_at ha
  have gb := pos_at hb
  have key : ∀ {a b : Cl}, cs[posC cs a]? = some a → cs[posC cs b]? = some b → posC cs a < posC cs b → ltC a b := fun {a b} ga gb h => by
    obtain ⟨la, ea⟩ := List.getElem?_eq_some_iff.mp ga
    obtain ⟨lb, eb⟩ := List.getElem?_eq_some_iff.mp gb
    have := List.pairwise_iff_getElem.mp asc _ _ la lb h
    rw [ea, eb] at this
    exact this
  constructor
  · exact key ga gb
  · intro h
    rcases Nat.lt_trichotomy (posC cs a) (posC cs b) with z | z | z
    · exact z
    · rw [z, gb] at ga
      rw [Option.some.inj ga] at h
      exact (ltC_irr h).elim
    · exact (ltC_irr (ltC_trans h (key gb ga z))).elim
theorem adj_asc {α : Type} {R : α → α → Prop} (tr : ∀ a b c, R a b → R b c → R a c) : ∀ {l : List α}, (∀ (k : Nat) (a b : α), l[k]? = some a → l[k + 1]? = some b → R a b) → l.Pairwise R
  | [], _ => List.Pairwise.nil
  | [a], _ => List.pairwise_singleton _ _
  | a :: b :: r, h => by
    have ih := adj_asc tr (l := b :: r) fun k x y hx hy => h (k + 1) x y hx hy
    refine List.pairwise_cons.mpr ⟨fun x hx => ?_, ih⟩
    have ab := h 0 a b rfl rfl
    rcases List.mem_cons.mp hx with e | hx
    · rw [e]; exact ab
    · exact tr _ _ _ ab ((List.pairwise_cons.mp ih).1 x hx)
theorem asc_adj {α : Type} {R : α → α → Prop} {l : List α} (h : l.Pairwise R) {k : Nat} {a b : α} (ha : l[k]? = some a) (hb : l[k + 1]? = some b) : R a b := by
  obtain ⟨la, ea⟩ := List.getElem?_eq_some_iff.mp ha
  obtain ⟨lb, eb⟩ := List.getElem?_eq_some_iff.mp hb
  have := List.pairwise_iff_getElem.mp h _ _ la lb (Nat.lt_succ_self _)
  rw [ea, eb] at this
  exact this
end My
set_option Elab.async false
set_option linter.all false
set_option maxRecDepth 100000
/-! Parts whose ints are at most m. -/
namespace My
open PySem PySem.Spec PyProof.Rows L2
def LeafB (m : Int) : PyData → Prop
  | .none => True
  | .bool _ => True
  | .int n => 0 ≤ n ∧ n ≤ m
  | .str s => Plain 20 s
  | _ => False
def PartB (m : Int) : PyData → Prop
  | .tuple l => l.length ≤ 3 ∧ ∀ x ∈ l, LeafB m x
  | .list l => l.length ≤ 3 ∧ ∀ x ∈ l, LeafB m x
  | d => LeafB m d
theorem LeafB.mono {m n : Int} (h : m ≤ n) : ∀ {d : PyData}, LeafB m d → LeafB n d
  | .none, _ => trivial
  | .bool _, _ => trivial
  | .int k, g => ⟨g.1, Int.le_trans g.2 h⟩
  | .str s, g => g
theorem PartB.mono {m n : Int} (h : m ≤ n) : ∀ {d : PyData}, PartB m d → PartB n d
  | .tuple l, g => ⟨g.1, fun x hx => (g.2 x hx).mono h⟩
  | .list l, g => ⟨g.1, fun x hx => (g.2 x hx).mono h⟩
  | .none, _ => trivial
  | .bool _, _ => trivial
  | .int k, g => ⟨g.1, Int.le_trans g.2 h⟩
  | .str s, g => g
theorem LeafB.leaf {m : Int} (h : m ≤ 1000) : ∀ {d : PyData}, LeafB m d → Leaf d
  | .none, _ => trivial
  | .bool _, _ => trivial
  | .int k, g => ⟨g.1, Int.le_trans g.2 h⟩
  | .str s, g => g
theorem PartB.part {m : Int} (h : m ≤ 1000) : ∀ {d : PyData}, PartB m d → Part d
  | .tuple l, g => ⟨g.1, fun x hx => (g.2 x hx).leaf h⟩
  | .list l, g => ⟨g.1, fun x hx => (g.2 x hx).leaf h⟩
  | .none, _ => trivial
  | .bool _, _ => trivial
  | .int k, g => ⟨g.1, Int.le_trans g.2 h⟩
  | .str s, g => g
theorem plain_side (b : Bool) : Plain 20 (side b) := by
  cases b
  · exact plain_all (cs := [side false]) (by decide +kernel) _ List.mem_cons_self
  · exact plain_all (cs := [side true]) (by decide +kernel) _ List.mem_cons_self
theorem part_cl {m : Int} {c : Cl} (h0 : 0 ≤ c.1) (h1 : c.1 ≤ m) : PartB m (clD c) := by
  refine ⟨by show 2 ≤ 3; decide, fun x hx => ?_⟩
  rcases List.mem_cons.mp hx with e | hx
  · subst e; exact ⟨h0, h1⟩
  · rw [List.mem_singleton.mp hx]; exact plain_side _
theorem part_clI {m : Int} {c : Cl} (h : PartB m (clD c)) : 0 ≤ c.1 ∧ c.1 ≤ m := h.2 _ List.mem_cons_self
/-- the text of a small number -/
theorem plain_num {n : Int} (h0 : 0 ≤ n) (h1 : n ≤ 1000) : Plain 20 (toString n : String) := by
  obtain ⟨k, rfl⟩ := Int.eq_ofNat_of_zero_le h0
  have hk : k ≤ 1000 := by omega
  have all : ((List.range 1001).all fun k => decide ((Str.ofString (toString (k : Int))).length ≤ 20) && (Str.ofString (toString (k : Int))).cps.toList.all fun c => decide (c < 128)) = true := by decide +kernel
  have := List.all_eq_true.mp all k (List.mem_range.mpr (by omega))
  rw [Bool.and_eq_true] at this
  exact ⟨of_decide_eq_true this.1, fun c hc => of_decide_eq_true (List.all_eq_true.mp this.2 c hc)⟩
theorem DKs.len {b : Addr} {H : Hp} {vs : List V} {ds : List PyData} (h : DKs b H vs ds) : vs.length = ds.length := h.now.len
theorem DKs.get {b : Addr} {H : Hp} {vs : List V} {ds : List PyData} (h : DKs b H vs ds) {i : Nat} {v : V} (e : vs[i]? = some v) : ∃ d, ds[i]? = some d ∧ DK b H v d := by
  obtain ⟨d, hd, _⟩ := h.now.get e
  refine ⟨d, hd, fun H' k => ?_⟩
  obtain ⟨d', hd', g⟩ := (h H' k).get e
  rw [hd] at hd'
  cases hd'
  exact g
theorem DKs.sub {b : Addr} {H : Hp} : ∀ {us : List V}, (∀ v ∈ us, ∃ d, DK b H v d ∧ True) → ∃ es, DKs b H us es ∧ es.length = us.length
  | [], _ => ⟨[], .nil, rfl⟩
  | v :: r, h => by
    obtain ⟨d, hd, _⟩ := h v List.mem_cons_self
    obtain ⟨es, he, hl⟩ := DKs.sub (us := r) fun u hu => h u (List.mem_cons_of_mem _ hu)
    exact ⟨d :: es, .cons hd he, by rw [List.length_cons, List.length_cons, hl]⟩
/-- values that are parts -/
def PV (b : Addr) (H : Hp) (m : Int) (v : V) : Prop := ∃ d, DK b H v d ∧ PartB m d
theorem PV.keep {b : Addr} {H H' : Hp} {m : Int} {v : V} (h : PV b H m v) (k : Kept b H H') : PV b H' m v := by
  obtain ⟨d, hd, p⟩ := h
  exact ⟨d, hd.keep k, p⟩
theorem PV.all {b : Addr} {H : Hp} {m : Int} : ∀ {us : List V}, (∀ v ∈ us, PV b H m v) → ∃ es, DKs b H us es ∧ es.length = us.length ∧ ∀ z ∈ es, PartB m z
  | [], _ => ⟨[], .nil, rfl, fun _ h => nomatch h⟩
  | v :: r, h => by
    obtain ⟨d, hd, p⟩ := h v List.mem_cons_self
    obtain ⟨es, he, hl, hp⟩ := PV.all (us := r) fun u hu => h u (List.mem_cons_of_mem _ hu)
    refine ⟨d :: es, .cons hd he, by rw [List.length_cons, List.length_cons, hl], fun z hz => ?_⟩
    rcases List.mem_cons.mp hz with e | hz
    · rw [e]; exact p
    · exact hp z hz
theorem mem_cut {xs : List V} {lo hi : Option Int} {v : V} (h : v ∈ cutV xs lo hi) : v ∈ xs := by
  unfold cutV at h
  exact List.mem_of_mem_drop (List.mem_of_mem_take h)
end My
set_option Elab.async false
set_option linter.all false
set_option maxRecDepth 100000
set_option maxHeartbeats 4000000
namespace K06
open PySem PySem.Spec PyProof.Rows L2 My LamX
theorem ext_of {H H1 : Hp} (e : ExtN H H1) {a : Addr} {o : HO} (h : H a = some o) (n : ∀ ps, o ≠ .tbl ps) : H1 a = some o := e a o h n
theorem _root_.My.FileP.ext {C : Addr} {H0 H H1 : Hp} {x : Addr} {t : Str} {rows : List Str} {fs : FS} {A : Parts} (f : FileP C H0 H x t rows fs A) (e : ExtN H H1) : FileP C (fun _ => none) H1 x t rows fs A :=
  ⟨(fun _ _ h => nomatch h), ext_of e f.ob (fun _ z => nomatch z), ext_of e f.er (fun _ z => nomatch z), ext_of e f.eh (fun _ z => nomatch z), ext_of e f.es (fun _ z => nomatch z), ext_of e f.ek (fun _ z => nomatch z), ext_of e f.eb (fun _ z => nomatch z), ext_of e f.el (fun _ z => nomatch z),
    Paired.mapP f.bs fun p q z => ⟨z.1, ext_of e z.2.1 (fun _ z => nomatch z), z.2.2.1, z.2.2.2.1, rfl⟩, f.rh, f.rl, f.hl, f.sb, ⟨rfl, rfl, rfl, rfl, rfl, rfl, rfl⟩, f.ok⟩
mutual
theorem dd_ext {H H1 : Hp} (e : ExtN H H1) : ∀ {v : V} {d : PyData}, DD H v d → DD H1 v d
  | _, _, .non => .non
  | _, _, .bl b => .bl b
  | _, _, .int i => .int i
  | _, _, .str z => .str z
  | _, _, .lst h t => .lst (ext_of e h (fun _ z => nomatch z)) (dds_ext e t)
  | _, _, .tup h t => .tup (ext_of e h (fun _ z => nomatch z)) (dds_ext e t)
theorem dds_ext {H H1 : Hp} (e : ExtN H H1) : ∀ {vs : List V} {ds : List PyData}, DDs H vs ds → DDs H1 vs ds
  | _, _, .nil => .nil
  | _, _, .cons h t => .cons (dd_ext e h) (dds_ext e t)
end
theorem ext_same {H H1 : Hp} (s : Same H H1) : ExtN H H1 := ExtN.of s
/-- a file's blocks: one for each header and setting -/
def Blk (fs : FS) : Prop := ∀ y, (y ∈ fs.headers ∨ y ∈ fs.settings.map (·.1)) → y ∈ fs.blocks.map (·.1)
theorem blk_step {fs fs' : FS} {z : Str} (h : Blk fs) (e : My.stepF fs z = some fs') : Blk fs' := by
  unfold My.stepF at e
  split at e
  · cases e; exact h
  split at e
  · split at e
    · cases e
    · split at e
      · cases e
      · cases e; exact h
  split at e
  · split at e
    · cases e
    · cases e
      intro y hy
      show y ∈ (fs.blocks ++ [(headOf z, fs.loose)]).map (·.1)
      rw [List.map_append]
      rcases hy with hy | hy
      · rcases List.mem_append.mp hy with w | w
        · exact List.mem_append_left _ (h y (.inl w))
        · exact List.mem_append_right _ w
      · exact List.mem_append_left _ (h y (.inr hy))
  split at e
  · cases e
  split at e
  · cases e
  split at e
  · cases e
  · cases e
    intro y hy
    rw [List.map_append]
    rcases hy with hy | hy
    · exact List.mem_append_left _ (h y (.inl hy))
    · simp only [List.map_append, List.mem_append] at hy
      rcases hy with w | w
      · exact List.mem_append_left _ (h y (.inr w))
      · exact List.mem_append_right _ w
theorem blk_run : ∀ {rows : List Str} {fs fs' : FS}, Blk fs → runF fs rows = some fs' → Blk fs'
  | [], _, _, h, e => by cases e; exact h
  | z :: r, fs, fs', h, e => by
    have e : ((My.stepF fs z).bind fun f => runF f r) = some fs' := e
    cases hs : My.stepF fs z with
    | none => rw [hs] at e; cases e
    | some f => rw [hs] at e; exact blk_run (blk_step h hs) e
theorem blk0 : Blk fs0 := fun y h => by rcases h with h | h <;> simp [fs0] at h
end K06

set_option Elab.async false
set_option linter.all false
set_option maxRecDepth 100000
set_option maxHeartbeats 4000000
namespace K06
open PySem PySem.Spec PyProof.Rows L2 My LamX
section
variable {P : Program} {w : World} {K : PySem.W.Frag} {mg : Str → Option Value} {base : Heap}
/-- the name of the lambdas -/
abbrev lamQ : Str := (envOfC "_law_is_right" (defScope s_L_is_right) 0 0 .none).qual ++ "<lambda>"
def sp_L_is_right (K : PySem.W.Frag) (T : Top K mg) : Sp := fun vs H Q _ => ∃ (H0 : Hp) (x : Addr) (t : Str) (rows : List Str) (fs : FS) (A : Parts) (v : V) (d : PyData) (wd hd : Addr), vs = [.ref x, v, .ref wd, .ref hd] ∧ FileP T.C_SettingsFile H0 H x t rows fs A ∧ Blk fs ∧ DD H v d ∧ Part d ∧ (∀ y, v = .str y → y.length ≤ 1000) ∧
  Tabs [(T.pp__law_is_right, lamQ)] H ∧ H wd = some (.dK (setKV fs.settings)) ∧ H hd = some (.lst (fs.headers.map V.str)) ∧ (∀ p ∈ fs.settings, Plain 20 p.2) ∧ ∀ H', ExtN H H' → Tabs [(T.pp__law_is_right, lamQ)] H' → Q (.bl true) H'
theorem ok_L_is_right (T : Top K mg) (TB : TabB base mg T.cc__law_is_right T.pp__law_is_right) : FnG P w K mg base 7 T.f__law_is_right T.d__law_is_right ["_law_file", "_law_what", "_law_worths", "_law_heads"] (sp_L_is_right K T) := by
  have G_SettingsFile___contains__ : FnOk P w K mg base CX0 1 T.f_SettingsFile___contains__ T.d_SettingsFile___contains__ ["self", "x"] (sp_SettingsFile___contains__ K T) := ok_SettingsFile___contains__ T
  have G_SettingsFile_value : FnOk P w K mg base (L2.CX P w) 3 T.f_SettingsFile_value T.d_SettingsFile_value ["self", "place"] (sp_SettingsFile_value K T) := ok_SettingsFile_value T
  have G_SettingsFile_block : FnOk P w K mg base (L2.CX P w) 3 T.f_SettingsFile_block T.d_SettingsFile_block ["self", "thing"] (sp_SettingsFile_block K T) := ok_SettingsFile_block T
  obtain ⟨ocR, odR, kVR, docR, pmR, anR, cdR, ctR, oslR, eR, lkR, hcR⟩ := T.F__law_raised.ex
  have bR := T.b__law_raised
  rw [eR] at bR lkR
  refine My.Fun.okGC T.F__law_is_right T.co__law_is_right scL_is_right (fun vs H Q E h => ?_) (fun A outer s H vs Q E hr hgd h => ?_)
  · obtain ⟨H0, x, t, rows, fs, A, v, d, wd, hd, rfl, _⟩ := h
    rfl
  · obtain ⟨H0, x, t, rows, fs, A', v, d, wd, hd, rfl, f, bk, dv, pd, hlen, tb, hwd, hhd, plv, q⟩ := h
    have hr5 : Room (3 + 2) (cxOf CX0 P w K mg base N_L_is_right "_law_is_right" (defScope s_L_is_right) T.f__law_is_right (.ref T.cc__law_is_right) A outer s H E).nox.A := hr.mono (by decide)
    have RG := raised_gives (X := (cxOf CX0 P w K mg base N_L_is_right "_law_is_right" (defScope s_L_is_right) T.f__law_is_right (.ref T.cc__law_is_right) A outer s H E).nox) T (cdg := cdR) (q := lamQ)
    have nov : ∀ {n : Str}, ¬ n = "loose" → ¬ n = "blocks" → ¬ n = "kept_read" → ¬ n = "settings_read" → ¬ n = "headers" → ¬ n = "rows" → ¬ n = "text" → (flds t A'.r A'.h A'.s A'.k A'.b A'.l).lookup n = none := fun h1 h2 h3 h4 h5 h6 h7 => f_no _ _ _ _ _ _ _ h1 h2 h3 h4 h5 h6 h7
    have lvl : (flds t A'.r A'.h A'.s A'.k A'.b A'.l).lookup ("value" : Str) = none := nov (by decide +kernel) (by decide +kernel) (by decide +kernel) (by decide +kernel) (by decide +kernel) (by decide +kernel) (by decide +kernel)
    have lbl : (flds t A'.r A'.h A'.s A'.k A'.b A'.l).lookup ("block" : Str) = none := nov (by decide +kernel) (by decide +kernel) (by decide +kernel) (by decide +kernel) (by decide +kernel) (by decide +kernel) (by decide +kernel)
    have strD : ∀ {y : Str}, v = .str y → d = .str y := fun {y} e => by rw [e] at dv; cases dv; rfl
    have ask : ∀ {H1 : Hp}, DD H1 v d → Ask K H1 v := fun {H1} dv1 => by
      cases hv : isStrD d with
      | true =>
        obtain ⟨y, rfl⟩ : ∃ y, d = .str y := by
          cases d with
          | str y => exact ⟨y, rfl⟩
          | _ => cases hv
        have ev : v = .str y := by cases dv; rfl
        exact .inl ⟨y, ev, hlen y ev⟩
      | false =>
        refine .inr ⟨fun g => ?_, tyOf d, dv1.ty, by rw [kit_str, hv]⟩
        cases v with
        | str y => rw [strD rfl] at hv; cases hv
        | _ => rfl
    have shw : Shows (.tuple [d]) := ((fact_seq (l := [d]) (n := 1) (m := 63) (k := 1) (fun z hz => by rw [List.mem_singleton.mp hz]; exact Part.fact pd) (Nat.le_refl _)).1).shows (by decide) (by decide)
    have inBe : ∀ y, inB fs.blocks (.str y) = (inS fs.settings (.str y) || decide (y ∈ fs.headers)) := fun y => by
      show decide (y ∈ fs.blocks.map (·.1)) = (decide (y ∈ fs.settings.map (·.1)) || decide (y ∈ fs.headers))
      rw [← Bool.decide_or]
      exact decide_eq_decide.mpr ⟨fun h => (f.ok.bk y h).symm, fun h => bk y h.symm⟩
    have strV : ∀ {H1 : Hp}, inB fs.blocks v = true → ∃ y, v = .str y := fun h => by
      cases v with
      | str y => exact ⟨y, rfl⟩
      | _ => cases h
    -- the second lambda and what follows
    obtain ⟨t5, p5, q5⟩ : ∃ t', PSs (cxOf CX0 P w K mg base N_L_is_right "_law_is_right" (defScope s_L_is_right) T.f__law_is_right (.ref T.cc__law_is_right) A outer s H E).nox ((defBody s_L_is_right).drop 5) t' ∧ ∀ (H3 : Hp) (y5 z6 : Option V), ExtN H H3 → Tabs [(T.pp__law_is_right, lamQ)] H3 → t' { nx := fun _ H' => Q .non H', rt := Q } [some (.ref x), some v, some (.ref wd), some (.ref hd), some (.bl (inS fs.settings v)), y5, z6] H3 := by
      refine ⟨_, (pss_cons (ps_set (i := 5) scL_is_right.nd rfl (.inl rfl) (pe_lamcall (T := [(T.pp__law_is_right, lamQ)]) (TT := TRaise T.C_NoPlace) (k := 3) (by rfl) T.g__law_raised T.F__law_raised.kp lkR hcR bR scL_raised rfl (.inl rfl) RG TB rfl List.mem_cons_self (fun p hp _ => by rw [List.mem_singleton.mp hp]; rfl) hr5 (lamS_by (show lamSB (defScope s_L_is_right) _ = true by decide +kernel)) rfl (fun _ _ _ _ _ => rfl) (fun A outer s H E f c' hr2 => pe_meth (pv 0) T.cl_SettingsFile T.me_SettingsFile_block G_SettingsFile_block hr2 T.b_SettingsFile_block .nil (passes_call (takes_of rfl rfl rfl rfl) (fun _ _ _ _ h => h)) (pa_cons (pv 1) pa_nil))))
      (pss_cons (ps_if (PW.pt (pw_or (pt_val (pv 4)) (pw_or1 (PW.pt (pw_and (pt_val (pe_callB call_isi (by rfl) T.m_isinstance (by decide +kernel) (pa_cons (pv 1) (pa_cons (pe_bltn (v := .ty "str") (by rfl) T.m_str (by decide +kernel) rfl) pa_nil)))) (pw_and1 (pt_cmpR op_in_seq (pv 1) (pv 3) (by rfl)))))))) (pss_one (ps_ret (pe_and (pe_cmpR op_isN (pv 5) pe_non (nomark _)) (pe_one (pe_callB call_isi (by rfl) T.m_isinstance (by decide +kernel) (pa_cons (pe_meth (pv 0) T.cl_SettingsFile T.me_SettingsFile_block G_SettingsFile_block (hr.mono (by decide)) T.b_SettingsFile_block .nil passL (pa_cons (pv 1) pa_nil)) (pa_cons (pe_bltn (v := .ty "list") (by rfl) T.m_list (by decide +kernel) rfl) pa_nil))))))) pss_nil)
      (pss_one (ps_ret (pe_cmpR op_eq (pe_callB (call_repr hgd hr.units) (by rfl) T.m_repr (by decide +kernel) (pa_cons (pv 5) pa_nil)) (pe_callB (call_repr hgd hr.units) (by rfl) T.m_repr (by decide +kernel) (pa_cons (pe_tup (pa_cons (pv 1) pa_nil)) pa_nil)) (nomark _)))))), fun H3 y5 z6 x3 tb3 => ⟨tb3, fun H4 x4 tb4 => ?_⟩⟩
      have x4 := x3.trans x4
      have f4 := f.ext x4
      have dv4 := dd_ext x4 dv
      refine ⟨.ref x, rfl, x, _, _, rfl, f4.ob, lbl, v, rfl, _, x, t, rows, fs, A', v, rfl, f4, ask dv4, fun hb H5 p ls s5 np hp => ?_, fun hb H5 dd s5 nd hd5 => ⟨rfl, dd, v, rfl, hd5, fun H6 p s6 hp => ?_⟩⟩
      · obtain ⟨y, rfl⟩ := strV (H1 := H5) hb
        have x5 := x4.trans (ext_same s5)
        have f5 := f.ext x5
        have dv5 := dd_ext x5 dv
        have tb5 := tb4.ext s5
        have hhd5 := ext_of x5 hhd (fun _ z => nomatch z)
        -- the block is there
        have blk : ∀ {H6 : Hp}, Same H5 H6 → DD H6 (.str y) d → FileP T.C_SettingsFile (fun _ => none) H6 x t rows fs A' → Tabs [(T.pp__law_is_right, lamQ)] H6 → tAndV (tOp (fun x y H Q => y = V.non ∧ Q (V.bl (decide (x = V.non))) H) (tVar 5) (tC V.non)) (tCB (rIsi K) (tCons (tMeth T.C_SettingsFile "block" (sp_SettingsFile_block K T) [] E0 (tVar 0) (tCons (tVar 1) tNil)) (tCons (tC (V.ty "list")) tNil))) [some (.ref x), some (.str y), some (.ref wd), some (.ref hd), some (.bl (inS fs.settings (.str y))), some .non, z6] H6 Q := by
          intro H6 s6 dv6 f6 tb6
          refine ⟨.non, rfl, rfl, true, rfl, iteT ?_⟩
          refine ⟨.ref x, rfl, x, _, _, rfl, f6.ob, lbl, .str y, rfl, _, x, t, rows, fs, A', .str y, rfl, f6, ask dv6, fun _ H7 p7 ls7 s7 np7 hp7 => ?_, fun h => by rw [hb] at h; cases h⟩
          refine ⟨_, _, _, _, true, rfl, ClsV.ty "list", (.base (.lst hp7) : TyX K H7 (.ref p7) (.type "list")), kit_ty (by decide +kernel), ?_⟩
          exact q _ (x5.trans (ext_same (s6.trans s7))) (tb6.ext s7)
        refine ⟨.bl (inS fs.settings (.str y)), rfl, _, rfl, ?_⟩
        cases hi : inS fs.settings (.str y) with
        | true =>
          have b5 := blk (Same.refl _) dv5 f5 tb5
          rw [hi] at b5
          exact iteT (iteT b5)
        | false =>
          refine iteF ⟨.str y, rfl, _, _, _, _, true, rfl, ClsV.ty "str", .base (.str y), kit_ty (by decide +kernel), true, rfl, iteT ?_⟩
          have hy : y ∈ fs.headers := by
            have h := inBe y
            rw [hb, hi, Bool.false_or] at h
            exact of_decide_eq_true h.symm
          refine ⟨.str y, rfl, .ref hd, rfl, hd, _, rfl, .inl (SqL.of hhd5), rfl, (by rw [List.all_map]; exact List.all_eq_true.mpr fun _ _ => rfl), _, rfl, ?_⟩
          rw [in_strs, decide_eq_true hy]
          have b5 := blk (Same.refl _) dv5 f5 tb5
          rw [hi] at b5
          exact iteT b5
      · -- it is not
        have s56 := s5.trans s6
        have x6 := x4.trans (ext_same s56)
        have dv6 := dd_ext x6 dv
        have hhd6 := ext_of x6 hhd (fun _ z => nomatch z)
        have tb6 := tb4.ext s56
        have hi : inS fs.settings v = false := by
          cases v with
          | str y => have h := inBe y; rw [hb] at h; exact (Bool.or_eq_false_iff.mp h.symm).1
          | _ => rfl
        have fin : ∀ {z6 : Option V}, (tOp rEq (tCB (fun xs H Q => ∃ x d, xs = [x] ∧ Dp K H x d ∧ d.showable = true ∧ d.hasDict = false ∧ d.depth ≤ 8 ∧ d.shown.length ≤ sizeLine ∧ Q (V.str d.shown) H) (tCons (tVar 5) tNil)) (tCB (fun xs H Q => ∃ x d, xs = [x] ∧ Dp K H x d ∧ d.showable = true ∧ d.hasDict = false ∧ d.depth ≤ 8 ∧ d.shown.length ≤ sizeLine ∧ Q (V.str d.shown) H) (tCons (tTup (tCons (tVar 1) tNil)) tNil))) [some (.ref x), some v, some (.ref wd), some (.ref hd), some (.bl (inS fs.settings v)), some (.ref p), z6] H6 Q := by
          intro z6
          have dp : DD H6 (.ref p) (.tuple [d]) := .tup hp (.cons dv6 .nil)
          refine ⟨.ref p, rfl, _, .tuple [d], rfl, dp.dp, shw.s, shw.n, shw.p, shw.z, v, rfl, (by show 1 ≤ sizeLine; decide), fun tp ntp => ?_⟩
          have s7 := same_new (o := .tup [v]) ntp
          refine ⟨_, .tuple [d], rfl, (DD.tup upd_same (.cons (dv6.same s7) .nil)).dp, shw.s, shw.n, shw.p, shw.z, rfl, ?_⟩
          rw [decide_eq_true rfl]
          exact q _ (x6.trans (ext_same s7)) (tb6.ext s7)
        refine ⟨.bl (inS fs.settings v), rfl, _, rfl, ?_⟩
        rw [hi] at fin ⊢
        refine iteF ?_
        cases hv : isStrD d with
        | false => exact ⟨v, rfl, _, _, _, _, false, rfl, ClsV.ty "str", dv6.ty, kit_ty (by rw [kit_str, hv]), false, rfl, iteF (iteF fin)⟩
        | true =>
          obtain ⟨y, rfl⟩ : ∃ y, d = .str y := by
            cases d with
            | str y => exact ⟨y, rfl⟩
            | _ => cases hv
          obtain rfl : v = .str y := by cases dv; rfl
          have hy : y ∉ fs.headers := fun h => by
            have e := inBe y
            rw [hb, hi, decide_eq_true h] at e
            cases e
          refine ⟨.str y, rfl, _, _, _, _, true, rfl, ClsV.ty "str", .base (.str y), kit_ty (by decide +kernel), true, rfl, iteT ?_⟩
          refine ⟨.str y, rfl, .ref hd, rfl, hd, _, rfl, .inl (SqL.of hhd6), rfl, (by rw [List.all_map]; exact List.all_eq_true.mpr fun _ _ => rfl), _, rfl, ?_⟩
          rw [in_strs, decide_eq_false hy]
          exact iteF fin
    -- from the third statement on
    obtain ⟨t2, p2, q2⟩ : ∃ t', PSs (cxOf CX0 P w K mg base N_L_is_right "_law_is_right" (defScope s_L_is_right) T.f__law_is_right (.ref T.cc__law_is_right) A outer s H E).nox ((defBody s_L_is_right).drop 2) t' ∧ ∀ (H2 : Hp) (u : V), ExtN H H2 → Tabs [(T.pp__law_is_right, lamQ)] H2 → ((inS fs.settings v = true ∧ u = .non) ∨ (inS fs.settings v = false ∧ ∃ p, u = .ref p ∧ H2 p = some (.tup [v]))) → t' { nx := fun _ H' => Q .non H', rt := Q } [some (.ref x), some v, some (.ref wd), some (.ref hd), some (.bl (inS fs.settings v)), some u, none] H2 := by
      refine ⟨_, (pss_cons (ps_if (PW.pt (pw_or (pt_cmpR op_ne (pe_cmpR (op_inOwn T.me_SettingsFile___contains__ G_SettingsFile___contains__ (hr.mono (by decide)) T.b_SettingsFile___contains__) (pv 1) (pv 0) (by rfl)) (pv 4) (nomark _)) (pw_or1 (pt_cmpR op_ne (pe_cmpR op_isN (pv 5) pe_non (nomark _)) (pv 4) (nomark _))))) (pss_one (ps_ret pe_bl)) pss_nil)
      (pss_cons (ps_if (pt_val (pv 4)) (pss_cons (ps_set (i := 6) scL_is_right.nd rfl (.inl rfl) (pe_lst (pa_cons (pe_meth (pv 0) T.cl_SettingsFile T.me_SettingsFile_value G_SettingsFile_value (hr.mono (by decide)) T.b_SettingsFile_value .nil passL (pa_cons (pv 1) pa_nil)) (pa_cons (pe_methKX (pv 0) T.cl_SettingsFile T.me_SettingsFile_value G_SettingsFile_value passL (hr.mono (by decide)) T.kb_SettingsFile_value (pk_cons (pv 1) pk_nil)) pa_nil))))
      (pss_one (ps_if (pt_cmpR (op_neD hr.units) (pv 6) (pe_lst (pa_cons (pe_dget (hu_of hr) (pv 2) (pv 1) (fun _ _ => rfl)) (pa_cons (pe_dget (hu_of hr) (pv 2) (pv 1) (fun _ _ => rfl)) pa_nil))) (nomark _)) (pss_one (ps_ret pe_bl)) pss_nil))) pss_nil)
      (pss_cons (ps_if (PW.pt (pw_and (pt_not (pt_val (pv 4))) (pw_and1 (pt_cmpR op_ne (pe_callB (call_repr hgd hr.units) (by rfl) T.m_repr (by decide +kernel) (pa_cons (pv 5) pa_nil)) (pe_callB (call_repr hgd hr.units) (by rfl) T.m_repr (by decide +kernel) (pa_cons (pe_tup (pa_cons (pv 1) pa_nil)) pa_nil)) (nomark _))))) (pss_one (ps_ret pe_bl)) pss_nil)
      p5))), fun H2 u x2 tb2 hu => ?_⟩
      have f2 := f.ext x2
      have dv2 := dd_ext x2 dv
      have hwd2 := ext_of x2 hwd (fun _ z => nomatch z)
      have un : decide (u = .non) = inS fs.settings v := by
        rcases hu with ⟨e, rfl⟩ | ⟨e, p, rfl, _⟩
        · rw [e]; rfl
        · rw [e]; rfl
      refine ⟨v, rfl, .ref x, rfl, x, _, _, rfl, f2.ob, ⟨_, x, t, rows, fs, A', v, rfl, f2, ask dv2, _, rfl, .bl (inS fs.settings v), rfl, rfl, _, rfl, ?_⟩⟩
      refine (if_neg (by simp)).mpr ?_
      refine ⟨u, rfl, rfl, .bl (inS fs.settings v), rfl, rfl, _, rfl, ?_⟩
      rw [un]
      refine (if_neg (by simp)).mpr ?_
      refine ⟨.bl (inS fs.settings v), rfl, _, rfl, ?_⟩
      rcases hu with ⟨hi, rfl⟩ | ⟨hi, p, rfl, hp⟩
      · rw [hi]
        refine iteT ?_
        obtain ⟨y, rfl⟩ : ∃ y, v = .str y := by
          cases v with
          | str y => exact ⟨y, rfl⟩
          | _ => cases hi
        obtain ⟨u, hu⟩ : ∃ u, valS fs.settings y = some u := by
          have hi : decide (y ∈ fs.settings.map (·.1)) = true := hi
          rw [← valS_some] at hi
          exact Option.isSome_iff_exists.mp hi
        have no : ∀ {H' : Hp} {dd : Addr}, inS fs.settings (.str y) = false → False := fun h => by rw [hi] at h; cases h
        refine ⟨.ref x, rfl, x, _, _, rfl, f2.ob, lvl, .str y, rfl, _, x, t, rows, fs, A', .str y, rfl, f2, ask dv2, fun y1 u1 ey hu1 => ?_, fun h => (no (H' := H2) (dd := x) h).elim⟩
        cases ey
        rw [hu] at hu1
        cases hu1
        refine ⟨.ref x, rfl, x, _, _, rfl, f2.ob, lvl, .str y, rfl, _, x, t, rows, fs, A', .str y, rfl, f2, ask dv2, fun y1 u1 ey hu1 => ?_, fun h => (no (H' := H2) (dd := x) h).elim⟩
        cases ey
        rw [hu] at hu1
        cases hu1
        refine ⟨(by show 2 ≤ sizeLine; decide), fun l nl => ?_⟩
        have s3 := same_new (o := .lst [.str u, .str u]) nl
        have e3 : upd H2 l (.lst [.str u, .str u]) l = some (.lst [.str u, .str u]) := upd_same
        generalize upd H2 l (.lst [.str u, .str u]) = H3 at s3 e3
        have hwd3 := s3 _ _ hwd2
        refine ⟨.ref l, rfl, .ref wd, rfl, .str y, rfl, wd, .str u, rfl, (by have := DGet.k (k := (Sum.inr y : Key)) hwd3; rw [val_get, hu] at this; exact this), .ref wd, rfl, .str y, rfl, wd, .str u, rfl, (by have := DGet.k (k := (Sum.inr y : Key)) hwd3; rw [val_get, hu] at this; exact this), (by show 2 ≤ sizeLine; decide), fun l2 nl2 => ?_⟩
        have s4 := same_new (o := .lst [.str u, .str u]) nl2
        have pu : Plain 20 u := by
          unfold valS at hu
          rw [Option.map_eq_some_iff] at hu
          obtain ⟨pr, hpr, rfl⟩ := hu
          exact plv pr (List.mem_of_find?_eq_some hpr)
        have sh : SeqAt.shaped (.list [.str u, .str u]) = true := (Part.fact (d := .list [.str u, .str u]) ⟨by show 2 ≤ 3; decide, fun z hz => by
          rcases List.mem_cons.mp hz with w | hz
          · rw [w]; exact pu
          · rw [List.mem_singleton.mp hz]; exact pu⟩).shaped (by decide)
        refine ⟨.list [.str u, .str u], .list [.str u, .str u], .lst (SqL.of (s4 _ _ e3)) (.cons (.str _) (.cons (.str _) .nil)), .lst (SqL.of upd_same) (.cons (.str _) (.cons (.str _) .nil)), sh, sh, _, rfl, ?_⟩
        rw [eqv_of sh]
        refine iteF ?_
        refine ⟨.bl true, rfl, true, rfl, iteF (iteF ?_)⟩
        have s34 := s3.trans s4
        have q5' := q5 _ (some .non) (some (.ref l)) (x2.trans (ext_same s34)) (tb2.ext s34)
        rw [hi] at q5'
        exact q5'
      · rw [hi]
        refine iteF ?_
        refine ⟨.bl false, rfl, false, rfl, iteT ?_⟩
        have dp : DD H2 (.ref p) (.tuple [d]) := .tup hp (.cons dv2 .nil)
        refine ⟨.ref p, rfl, _, .tuple [d], rfl, dp.dp, shw.s, shw.n, shw.p, shw.z, v, rfl, (by show 1 ≤ sizeLine; decide), fun tp ntp => ?_⟩
        have s3 := same_new (o := .tup [v]) ntp
        refine ⟨_, .tuple [d], rfl, (DD.tup upd_same (.cons (dv2.same s3) .nil)).dp, shw.s, shw.n, shw.p, shw.z, rfl, _, rfl, ?_⟩
        rw [decide_eq_true rfl]
        refine iteF ?_
        have q5' := q5 _ (some (.ref p)) none (x2.trans (ext_same s3)) (tb2.ext s3)
        rw [hi] at q5'
        exact q5'
    -- the first lambda
    obtain ⟨t1, p1, q1⟩ : ∃ t', PSs (cxOf CX0 P w K mg base N_L_is_right "_law_is_right" (defScope s_L_is_right) T.f__law_is_right (.ref T.cc__law_is_right) A outer s H E).nox ((defBody s_L_is_right).drop 1) t' ∧ t' { nx := fun _ H' => Q .non H', rt := Q } [some (.ref x), some v, some (.ref wd), some (.ref hd), some (.bl (inS fs.settings v)), none, none] H := by
      refine ⟨_, (pss_cons (ps_set (i := 5) scL_is_right.nd rfl (.inl rfl) (pe_lamcall (T := [(T.pp__law_is_right, lamQ)]) (TT := TRaise T.C_NoPlace) (k := 3) (by rfl) T.g__law_raised T.F__law_raised.kp lkR hcR bR scL_raised rfl (.inl rfl) RG TB rfl List.mem_cons_self (fun p hp _ => by rw [List.mem_singleton.mp hp]; rfl) hr5 (lamS_by (show lamSB (defScope s_L_is_right) _ = true by decide +kernel)) rfl (fun _ _ _ _ _ => rfl) (fun A outer s H E f c' hr2 => pe_meth (pv 0) T.cl_SettingsFile T.me_SettingsFile_value G_SettingsFile_value hr2 T.b_SettingsFile_value .nil (passes_call (takes_of rfl rfl rfl rfl) (fun _ _ _ _ h => h)) (pa_cons (pv 1) pa_nil)))) p2), tb, fun H1 x1 tb1 => ?_⟩
      have f1 := f.ext x1
      have dv1 := dd_ext x1 dv
      refine ⟨.ref x, rfl, x, _, _, rfl, f1.ob, lvl, v, rfl, _, x, t, rows, fs, A', v, rfl, f1, ask dv1, fun y u ev hu => ?_, fun hi H2 dd s2 nd hd2 => ?_⟩
      · have hi : inS fs.settings v = true := by
          rw [ev]
          show decide (y ∈ fs.settings.map (·.1)) = true
          rw [← valS_some, hu]
          rfl
        exact q2 _ _ x1 tb1 (.inl ⟨hi, rfl⟩)
      · refine ⟨rfl, dd, v, rfl, hd2, fun H3 p s3 hp => ?_⟩
        exact q2 _ _ (x1.trans (ext_same (s2.trans s3))) (tb1.ext (s2.trans s3)) (.inr ⟨hi, p, rfl, hp⟩)
    refine ⟨_, (pss_cons (ps_set (i := 4) scL_is_right.nd rfl (.inl rfl) (pe_and (pe_callB call_isi (by rfl) T.m_isinstance (by decide +kernel) (pa_cons (pv 1) (pa_cons (pe_bltn (v := .ty "str") (by rfl) T.m_str (by decide +kernel) rfl) pa_nil))) (pe_one (pe_cmp (pc_din (hu_of hr) (pv 1) (pv 2)) rfl))))
      p1), ?_⟩
    cases hv : isStrD d with
    | false =>
      have hi : inS fs.settings v = false := by
        cases v with
        | str y => rw [strD rfl] at hv; cases hv
        | _ => rfl
      rw [hi] at q1
      exact ⟨v, rfl, _, _, _, _, false, rfl, ClsV.ty "str", dv.ty, kit_ty (by rw [kit_str, hv]), false, rfl, iteF q1⟩
    | true =>
      obtain ⟨y, rfl⟩ : ∃ y, d = .str y := by
        cases d with
        | str y => exact ⟨y, rfl⟩
        | _ => cases hv
      obtain rfl : v = .str y := by cases dv; rfl
      refine ⟨.str y, rfl, _, _, _, _, true, rfl, ClsV.ty "str", .base (.str y), kit_ty (by decide +kernel), true, rfl, iteT ?_⟩
      refine ⟨.str y, rfl, .ref wd, rfl, wd, _, rfl, DGet.k (k := Sum.inr y) hwd, ?_⟩
      have e : (valV (setKV fs.settings) (Sum.inr y : Key)).isSome = inS fs.settings (.str y) := by
        rw [val_get, Option.isSome_map, valS_some]
        rfl
      rw [e]
      exact q1
end
end K06

set_option Elab.async false
set_option linter.all false
set_option maxRecDepth 100000
set_option maxHeartbeats 4000000
namespace K06
open PySem PySem.Spec PyProof.Rows L2 My LamX
theorem plain_app {a b : Nat} {x y : Str} (h : Plain a x) (g : Plain b y) : Plain (a + b) (x ++ y) := by
  refine ⟨by rw [Str.length_append]; have := h.len; have := g.len; omega, fun c hc => ?_⟩
  rw [TL.tl_append] at hc
  rcases List.mem_append.mp hc with w | w
  · exact h.small c w
  · exact g.small c w
theorem plain_cut {a : Nat} {x : Str} (h : Plain a x) (lo hi : Option Int) : Plain a (cutS x lo hi) := by
  refine ⟨Nat.le_trans (cutS_length _ _ _) h.len, fun c hc => h.small c ?_⟩
  have hc : c ∈ (x.cps.toList.drop (HT.sIx x.length 0 lo)).take (HT.sIx x.length x.length hi - HT.sIx x.length 0 lo) := hc
  exact List.mem_of_mem_drop (List.mem_of_mem_take hc)
theorem plain_upper {a : Nat} {x : Str} (h : Plain a x) : Plain a (Txt.upper x) := by
  rw [PyProof.Rows.upper_ascii (x := x) h.small]
  refine ⟨?_, fun c hc => ?_⟩
  · show (x.cps.map up1).size ≤ a
    rw [Array.size_map]
    exact h.len
  · have hc : c ∈ (x.cps.map up1).toList := hc
    rw [Array.toList_map] at hc
    obtain ⟨c0, h0, rfl⟩ := List.mem_map.mp hc
    have := h.small c0 h0
    unfold up1
    split <;> omega
theorem signs_plain {z : Str} (h : z ∈ (["a", ".", " ", "z", "]"] : List Str)) : Plain 1 z := plain_all (cs := ["a", ".", " ", "z", "]"]) (by decide +kernel) _ h
section
variable {P : Program} {w : World} {K : PySem.W.Frag} {mg : Str → Option Value} {base : Heap}
def sp_L_object (K : PySem.W.Frag) : Sp := fun vs H Q _ => ∃ (b l : Addr) (names : List Str), vs = [.ref b, .ref l] ∧ Bag H b ∧ l ≠ b ∧ H l = some (.lst (names.map V.str)) ∧ names ≠ [] ∧ names.length ≤ 1000 ∧ (∀ z ∈ names, Plain 9 z) ∧
  ∀ (H' : Hp) (v : V) (d : PyData), Kept b H H' → Bag H' b → DD H' v d → Part d → (∀ y, v = .str y → y.length ≤ 1000) → Q v H'
theorem ok_L_object (T : Top K mg) : FnOk P w K mg base CX0 3 T.f__law_object T.d__law_object ["_law_bag_here", "_law_names"] (sp_L_object K) := by
  have G__law_of : FnOk P w K mg base CX0 2 T.f__law_of T.d__law_of ["_law_bag_here", "_law_some"] (sp_L_of K) := ok_L_of T
  have G__law_take : FnOk P w K mg base CX0 1 T.f__law_take T.d__law_take ["_law_bag_here", "_law_many"] (sp_L_take K) := ok_L_take T
  refine T.F__law_object.ok scL_object (fun vs H Q E h => ?_) (fun cdv A outer s H vs Q E hr h => ?_)
  · obtain ⟨b, l, names, rfl, _⟩ := h
    rfl
  · obtain ⟨b, l, names, rfl, hb, lb, hl, hne, hlen, pn, q⟩ := h
    refine ⟨_, (pss_cons (ps_set (i := 2) scL_object.nd rfl (.inl rfl) (pe_call G__law_of (hr.mono (by decide)) (by rfl) T.g__law_of T.F__law_of.kp T.b__law_of .nil pass0 (pa_cons (pv 0) (pa_cons (pv 1) pa_nil))))
      (pss_cons (ps_par (i := 3) (j := 4) (by rfl) scL_object.nd rfl rfl (by decide) rfl rfl (pa_cons (pe_call G__law_take (hr.mono (by decide)) (by rfl) T.g__law_take T.F__law_take.kp T.b__law_take .nil pass0 (pa_cons (pv 0) (pa_cons (pe_op op_add (pe_callB call_len_str (by rfl) T.m_len (by decide +kernel) (pa_cons (pv 2) pa_nil)) pe_int) pa_nil))) (pa_cons (pe_call G__law_of (hr.mono (by decide)) (by rfl) T.g__law_of T.F__law_of.kp T.b__law_of .nil pass0 (pa_cons (pv 0) (pa_cons (pe_lst (pa_cons pe_str (pa_cons pe_str (pa_cons pe_str (pa_cons pe_str (pa_cons pe_str pa_nil)))))) pa_nil))) pa_nil)) (by rfl))
      (pss_cons (ps_set (i := 5) scL_object.nd rfl (.inl rfl) (pe_op op_add_str (pe_op op_add_str (pe_slice sl_str (pv 2) po_none (po_some (pv 3))) (pv 4)) (pe_slice sl_str (pv 2) (po_some (pv 3)) po_none)))
      (pss_cons (ps_set (i := 6) scL_object.nd rfl (.inl rfl) (pe_op op_add_str (pe_slice sl_str (pv 2) po_none (po_some (pv 3))) (pe_slice sl_str (pv 2) (po_some (pe_op op_add (pv 3) pe_int)) po_none)))
      (pss_cons (ps_set (i := 7) scL_object.nd rfl (.inl rfl) (pe_lst (pa_cons (pv 2) (pa_cons (pv 2) (pa_cons (pv 5) (pa_cons (pv 6) (pa_cons (pe_m0 F.slot_str_upper F.type_str_upper mt_upper (pv 2)) (pa_cons (pe_op op_add_str (pv 2) pe_str) (pa_cons (pe_op op_add_str (pe_op op_add_str pe_str (pv 2)) pe_str) (pa_cons (pe_tup (pa_cons (pv 2) pa_nil)) (pa_cons (pe_lst (pa_cons (pv 2) pa_nil)) (pa_cons pe_non (pa_cons pe_int (pa_cons pe_bl (pa_cons pe_str pa_nil)))))))))))))))
      (pss_one (ps_ret (pe_call G__law_of (hr.mono (by decide)) (by rfl) T.g__law_of T.F__law_of.kp T.b__law_of .nil pass0 (pa_cons (pv 0) (pa_cons (pv 7) pa_nil)))))))))), ?_⟩
    have big : ∀ {n : Nat}, n ≤ 1000 → n ≤ sizeLine := fun {n} h => Nat.le_trans h (by decide)
    refine ⟨.ref b, rfl, .ref l, rfl, b, l, _, rfl, hb, hl, lb, (fun h => hne (List.map_eq_nil_iff.mp h)), (by rw [List.length_map]; exact hlen), fun v1 n1 n2 hv1 n10 n20 n21 => ?_⟩
    obtain ⟨one, hone, rfl⟩ := List.mem_map.mp hv1
    have p1 := pn one hone
    have l1 := p1.len
    have k1 : Kept b H (upd H b (.lst [.int n1, .int n2])) := Kept.at
    have b1 : Bag (upd H b (.lst [.int n1, .int n2])) b := Bag.at n10 n20 n21
    generalize upd H b (.lst [.int n1, .int n2]) = H1 at k1 b1
    refine ⟨.ref b, rfl, .str one, rfl, one, rfl, big (by omega), _, _, rfl, rfl, b, _, rfl, b1, (by omega), (by omega), fun sp m1 m2 sp0 sp1 m10 m20 m21 => ?_⟩
    have k2 := k1.trans (Kept.at (b := b) (o := .lst [.int m1, .int m2]))
    have b2 : Bag (upd H1 b (.lst [.int m1, .int m2])) b := Bag.at m10 m20 m21
    generalize upd H1 b (.lst [.int m1, .int m2]) = H2 at k2 b2
    have hsg : ((["a", ".", " ", "z", "]"] : List Str).map V.str) = [.str "a", .str ".", .str " ", .str "z", .str "]"] := rfl
    refine ⟨.ref b, rfl, (by show 5 ≤ sizeLine; decide), fun l3 nl3 => ?_⟩
    rw [← hsg]
    have k3 := k2.trans (Kept.new (b := b) (o := .lst ((["a", ".", " ", "z", "]"] : List Str).map V.str)) nl3)
    have b3 := b2.new (o := .lst ((["a", ".", " ", "z", "]"] : List Str).map V.str)) nl3
    have e3 : upd H2 l3 (.lst ((["a", ".", " ", "z", "]"] : List Str).map V.str)) l3 = some (.lst ((["a", ".", " ", "z", "]"] : List Str).map V.str)) := upd_same
    have l3b : l3 ≠ b := b2.ne nl3
    generalize upd H2 l3 (.lst ((["a", ".", " ", "z", "]"] : List Str).map V.str)) = H3 at k3 b3 e3
    refine ⟨b, l3, _, rfl, b3, e3, l3b, (fun h => nomatch h), (by show 5 ≤ 1000; decide), fun v4 r1 r2 hv4 r10 r20 r21 => ?_⟩
    obtain ⟨sg, hsg4, rfl⟩ := List.mem_map.mp hv4
    have psg := signs_plain hsg4
    have lsg := psg.len
    have k4 := k3.trans (Kept.at (b := b) (o := .lst [.int r1, .int r2]))
    have b4 : Bag (upd H3 b (.lst [.int r1, .int r2])) b := Bag.at r10 r20 r21
    generalize upd H3 b (.lst [.int r1, .int r2]) = H4 at k4 b4
    refine ⟨_, _, rfl, ?_⟩
    -- the texts
    have pa := plain_cut p1 none (some sp)
    have pb := plain_cut p1 (some sp) none
    have pc := plain_cut p1 (some (sp + 1)) none
    have pm := plain_app (plain_app pa psg) pb
    have pl := plain_app pa pc
    have la := pa.len
    have lb' := pb.len
    have lc := pc.len
    have las : (cutS one none (some sp) ++ sg).length ≤ 10 := (plain_app pa psg).len
    refine ⟨.str one, rfl, .int sp, rfl, sp, rfl, one, rfl, big (by omega), .str sg, rfl, _, _, rfl, rfl, big (by omega), .str one, rfl, .int sp, rfl, sp, rfl, one, rfl, big (by omega), _, _, rfl, rfl, big (by omega), ?_⟩
    refine ⟨.str one, rfl, .int sp, rfl, sp, rfl, one, rfl, big (by omega), .str one, rfl, .int sp, rfl, _, _, rfl, rfl, _, rfl, one, rfl, big (by omega), _, _, rfl, rfl, big (by omega), ?_⟩
    have lub := (plain_app (a := 1) (b := 9) (x := "[") (plain_all (cs := ["["]) (by decide +kernel) _ List.mem_cons_self) p1)
    have lub' := lub.len
    refine ⟨.str one, rfl, .str one, rfl, .str _, rfl, .str _, rfl, .str one, rfl, ⟨one, rfl⟩, one, rfl, rfl, (by omega), .str one, rfl, _, _, rfl, rfl, big (by show one.length + 1 ≤ 1000; omega), .str one, rfl, _, _, rfl, rfl, big (by show 1 + one.length ≤ 1000; omega), _, _, rfl, rfl, big (by show (("[" : Str) ++ one).length + 1 ≤ 1000; omega), .str one, rfl, (by show 1 ≤ sizeLine; decide), fun tp ntp => ?_⟩
    have s5 := same_new (o := .tup [.str one]) ntp
    have e5 : upd H4 tp (.tup [.str one]) tp = some (.tup [.str one]) := upd_same
    generalize upd H4 tp (.tup [.str one]) = H5 at s5 e5
    refine ⟨.str one, rfl, (by show 1 ≤ sizeLine; decide), fun lp nlp => ?_⟩
    have s6 := same_new (o := .lst [.str one]) nlp
    have e6 : upd H5 lp (.lst [.str one]) lp = some (.lst [.str one]) := upd_same
    have e56 := s6 _ _ e5
    have s6 := s5.trans s6
    generalize upd H5 lp (.lst [.str one]) = H6 at s6 e6 e56
    have b5 := b4.same s5
    refine ⟨(by show 13 ≤ sizeLine; decide), fun l7 nl7 => ?_⟩
    obtain ⟨xs, hxs⟩ : ∃ xs : List V, xs = [.str one, .str one, .str (cutS one none (some sp) ++ sg ++ cutS one (some sp) none), .str (cutS one none (some sp) ++ cutS one (some (sp + 1)) none), .str (Txt.upper one), .str (one ++ ("\n" : Str)), .str (("[" : Str) ++ one ++ ("]" : Str)), .ref tp, .ref lp, .non, .int 0, .bl true, .str ""] := ⟨_, rfl⟩
    rw [← hxs]
    have s7 := same_new (o := .lst xs) nl7
    have e7 : upd H6 l7 (.lst xs) l7 = some (.lst xs) := upd_same
    have e67 := s7 _ _ e6
    have e57 := s7 _ _ e56
    have s7 := s6.trans s7
    have b6 := b4.same s6
    have l7b : l7 ≠ b := b6.ne nl7
    have tpb : tp ≠ b := b4.ne ntp
    have lpb : lp ≠ b := b5.ne nlp
    have k7 := k4.trans (Kept.same (b := b) s7)
    have b7 := b4.same s7
    generalize upd H6 l7 (.lst xs) = H7 at s7 e7 e67 e57 k7 b7
    refine ⟨.ref b, rfl, .ref l7, rfl, b, l7, xs, rfl, b7, e7, l7b, (by rw [hxs]; exact fun h => nomatch h), (by rw [hxs]; show 13 ≤ 1000; decide), fun v t1 t2 hv t10 t20 t21 => ?_⟩
    have k8 : Kept b H7 (upd H7 b (.lst [.int t1, .int t2])) := Kept.at
    have b8 : Bag (upd H7 b (.lst [.int t1, .int t2])) b := Bag.at t10 t20 t21
    have e68 := k8 _ _ lpb e67
    have e58 := k8 _ _ tpb e57
    have k8 := k7.trans k8
    generalize upd H7 b (.lst [.int t1, .int t2]) = H8 at k8 b8 e68 e58
    rw [hxs] at hv
    have str : ∀ {z : Str}, Plain 20 z → Q (.str z) H8 := fun {z} pz => q _ _ _ k8 b8 (.str z) (show Part (.str z) from pz) (fun y e => by cases e; have := pz.len; omega)
    have p20 := p1.mono (m := 20) (by decide)
    have one1 : ∀ x ∈ [(PyData.str one)], Leaf x := fun x hx => by rw [List.mem_singleton.mp hx]; exact p20
    rcases List.mem_cons.mp hv with w | hv
    · rw [w]; exact str p20
    rcases List.mem_cons.mp hv with w | hv
    · rw [w]; exact str p20
    rcases List.mem_cons.mp hv with w | hv
    · rw [w]; exact str (pm.mono (by decide))
    rcases List.mem_cons.mp hv with w | hv
    · rw [w]; exact str (pl.mono (by decide))
    rcases List.mem_cons.mp hv with w | hv
    · rw [w]; exact str (plain_upper p20)
    rcases List.mem_cons.mp hv with w | hv
    · rw [w]; exact str ((plain_app p1 (plain_all (n := 1) (cs := ["\n"]) (by decide +kernel) _ List.mem_cons_self)).mono (by decide))
    rcases List.mem_cons.mp hv with w | hv
    · rw [w]; exact str ((plain_app lub (plain_all (n := 1) (cs := ["]"]) (by decide +kernel) _ List.mem_cons_self)).mono (by decide))
    rcases List.mem_cons.mp hv with w | hv
    · rw [w]; exact q _ _ _ k8 b8 (.tup e58 (.cons (.str _) .nil)) ⟨by show 1 ≤ 3; decide, one1⟩ (fun y e => nomatch e)
    rcases List.mem_cons.mp hv with w | hv
    · rw [w]; exact q _ _ _ k8 b8 (.lst e68 (.cons (.str _) .nil)) ⟨by show 1 ≤ 3; decide, one1⟩ (fun y e => nomatch e)
    rcases List.mem_cons.mp hv with w | hv
    · rw [w]; exact q _ _ _ k8 b8 .non trivial (fun y e => nomatch e)
    rcases List.mem_cons.mp hv with w | hv
    · rw [w]; exact q _ _ _ k8 b8 (.int 0) ⟨by decide, by decide⟩ (fun y e => nomatch e)
    rcases List.mem_cons.mp hv with w | hv
    · rw [w]; exact q _ _ _ k8 b8 (.bl true) trivial (fun y e => nomatch e)
    · rw [List.mem_singleton.mp hv]; exact str (plain_all (n := 20) (cs := [""]) (by decide +kernel) _ List.mem_cons_self)
end
end K06

set_option Elab.async false
set_option linter.all false
set_option maxRecDepth 100000
set_option maxHeartbeats 4000000
namespace K06
open PySem PySem.Spec PyProof.Rows L2 My LamX
theorem place_inj {h h' k k' : Str} (n : nameS h = true) (n' : nameS h' = true) (e : h ++ "." ++ k = h' ++ "." ++ k') : h = h' ∧ k = k' := by
  have a : Txt.partition (h ++ "." ++ k) "." = (h, (("." : Str), k)) := TL.partition_app (y := ("." : Str)) (s := 46) (S := []) (by decide +kernel) (name_free n)
  have b : Txt.partition (h' ++ "." ++ k') "." = (h', (("." : Str), k')) := TL.partition_app (y := ("." : Str)) (s := 46) (S := []) (by decide +kernel) (name_free n')
  rw [e, b] at a
  injection a with a1 a2
  injection a2 with a2 a3
  exact ⟨a1.symm, a3.symm⟩
theorem step_loose {fs : FS} {z : Str} (h : looseS z = true) : My.stepF fs z = some { fs with loose := fs.loose ++ [z] } := by unfold My.stepF; rw [if_pos h]
theorem step_head {fs : FS} {z h : Str} (h1 : looseS z = false) (h2 : Txt.startswith z markS = false) (h3 : headS z = true) (h4 : headOf z = h) (h5 : h ∉ fs.headers) : My.stepF fs z = some { fs with headers := fs.headers ++ [h], blocks := fs.blocks ++ [(h, fs.loose)], loose := [] } := by
  unfold My.stepF
  rw [h1, if_neg Bool.false_ne_true, h2, if_neg Bool.false_ne_true, if_pos h3, h4, if_neg h5]
theorem step_set {fs : FS} {z k v h : Str} (h1 : looseS z = false) (h2 : Txt.startswith z markS = false) (h3 : headS z = false) (h4 : setS z = some (k, v)) (h5 : fs.headers.getLast? = some h) (h6 : h ++ "." ++ k ∉ fs.settings.map (·.1)) :
    My.stepF fs z = some { fs with settings := fs.settings ++ [(h ++ "." ++ k, v)], blocks := fs.blocks ++ [(h ++ "." ++ k, fs.loose)], loose := [] } := by
  unfold My.stepF
  rw [h1, if_neg Bool.false_ne_true, h2, if_neg Bool.false_ne_true, h3, if_neg Bool.false_ne_true, h4]
  show (match fs.headers.getLast? with | none => none | some h => _) = _
  rw [h5]
  exact if_neg h6
theorem cut_take (ys : List Str) {d : Int} (h0 : 0 ≤ d) : cutV (ys.map V.str) none (some d) = (ys.take d.toNat).map V.str := by
  unfold cutV
  rw [HT.sIx_none]
  have e : HT.sIx (ys.map V.str).length (ys.map V.str).length (some d) = min d.toNat (ys.map V.str).length := by
    have := HT.sIx_nat (ys.map V.str).length (ys.map V.str).length d.toNat
    rwa [show ((d.toNat : Nat) : Int) = d by omega] at this
  rw [e, List.drop_zero, Nat.sub_zero, List.map_take, List.length_map]
  by_cases h : d.toNat ≤ ys.length
  · rw [Nat.min_eq_left h]
  · rw [Nat.min_eq_right (by omega), List.take_of_length_le (by rw [List.length_map]; exact Nat.le_refl _), List.take_of_length_le (by rw [List.length_map]; omega)]
theorem take_at {α : Type} {l : List α} {n i : Nat} {x : α} (h : (l.take n)[i]? = some x) : l[i]? = some x := by
  rw [List.getElem?_take] at h
  split at h
  · exact h
  · cases h
theorem _root_.My.Kept.off {b p : Addr} {H H3 : Hp} {o : HO} (k : Kept b H H3) (np : H p = none) : Kept b H (upd H3 p o) := fun x u h e => by
  rw [upd_ne (ne_of_none e np)]
  exact k x u h e
theorem _root_.My.Bag.off {b p : Addr} {H3 : Hp} {o : HO} (h : Bag H3 b) (ne : p ≠ b) : Bag (upd H3 p o) b := by
  obtain ⟨n, m, e, r⟩ := h
  exact ⟨n, m, by rw [upd_ne ne.symm]; exact e, r⟩
theorem map_at {l : List Str} {i : Nat} {v : V} (h : (l.map V.str)[i]? = some v) : ∃ z, l[i]? = some z ∧ v = .str z := by
  rw [List.getElem?_map] at h
  cases e : l[i]? with
  | none => rw [e] at h; cases h
  | some z => rw [e] at h; exact ⟨z, rfl, (Option.some.inj h).symm⟩
abbrev lf : Str := "\n"
theorem tl_lf : TL.tl lf = 10 :: [] := by decide
/-- lines that are joined and cut again -/
theorem rows_join {lines : List Str} (h : ∀ z ∈ lines, 10 ∉ TL.tl z) : rowsOf (Txt.join lf lines) = if lines = [("" : Str)] then [] else lines := by
  unfold rowsOf
  cases lines with
  | nil => rfl
  | cons a r =>
    have sp := TL.split_join (y := lf) tl_lf (by decide +kernel) (parts := a :: r) (by simp) h
    by_cases e : (a :: r) = [("" : Str)]
    · rw [if_pos e, e]
      rfl
    · rw [if_neg e]
      have ne : ¬ Txt.join lf (a :: r) = "" := fun z => by
        have z2 : TL.tl (Txt.join lf (a :: r)) = [] := by rw [z]; rfl
        rw [TL.join_eq, TL.tl_join, tl_lf] at z2
        cases r with
        | nil =>
          have z3 : TL.tl a = [] := z2
          apply e
          have : a = "" := by
            obtain ⟨cps⟩ := a
            have : cps = #[] := Array.toList_eq_nil_iff.mp z3
            rw [this]
            rfl
          rw [this]
        | cons b r2 =>
          have z3 : TL.tl a ++ ([10] ++ TL.joinL [10] ((b :: r2).map TL.tl)) = [] := z2
          simp at z3
      rw [if_neg ne]
      exact sp
theorem joined_len : ∀ {lines : List Str}, (∀ z ∈ lines, z.length ≤ 100) → (lines.map (·.length)).sum ≤ 100 * lines.length
  | [], _ => Nat.le_refl _
  | a :: r, h => by
    have h1 := h a (by simp)
    have h2 := joined_len (lines := r) fun z hz => h z (List.mem_cons_of_mem _ hz)
    rw [List.map_cons, List.sum_cons, List.length_cons]
    omega
theorem joinL_len {S : List Nat} : ∀ {l : List (List Nat)}, (TL.joinL S l).length ≤ (l.map (·.length)).sum + l.length * S.length
  | [] => Nat.zero_le _
  | [a] => by
    show a.length ≤ _
    simp
  | a :: b :: r => by
    have ih := joinL_len (S := S) (l := b :: r)
    show (a ++ (S ++ TL.joinL S (b :: r))).length ≤ _
    rw [List.length_append, List.length_append, List.map_cons, List.sum_cons, List.length_cons, Nat.add_mul, Nat.one_mul]
    omega
theorem join_short {lines : List Str} (h : ∀ z ∈ lines, z.length ≤ 100) (hl : lines.length ≤ 1000) : (Txt.join lf lines).length ≤ 1000000 := by
  have h1 := joined_len h
  rw [TL.len_tl, TL.join_eq, TL.tl_join, tl_lf]
  have h2 := joinL_len (S := [10]) (l := lines.map TL.tl)
  rw [List.map_map, List.length_map] at h2
  have e : (lines.map ((fun x => x.length) ∘ TL.tl)).sum = (lines.map (·.length)).sum := rfl
  rw [e] at h2
  rw [show ([10] : List Nat).length = 1 from rfl, Nat.mul_one] at h2
  omega
/-! ### the files that are drawn -/
def headsL : List Str := ["net", "a", "zz"]
def keysL : List Str := ["a", "net", "port"]
def worthsL : List Str := ["a", "net", "1"]
def headLine (h : Str) : Str := ("[" : Str) ++ h ++ "]"
def setLine (k v : Str) : Str := k ++ " = " ++ v
def firsts : List Str := ["#~ 3 ui.b = 1", "#~ 4 net.a"]
theorem firsts_run : ∃ f, runF fs0 firsts = some f ∧ f.headers = [] ∧ f.settings = [] := by
  have h : (match runF fs0 firsts with | some f => decide (f.headers = []) && decide (f.settings = []) | none => false) = true := by decide +kernel
  cases e : runF fs0 firsts with
  | none => rw [e] at h; cases h
  | some f =>
    rw [e] at h
    simp only [Bool.and_eq_true, decide_eq_true_eq] at h
    exact ⟨f, rfl, h.1, h.2⟩
theorem head_facts {h : Str} (hh : h ∈ headsL) : looseS (headLine h) = false ∧ Txt.startswith (headLine h) markS = false ∧ headS (headLine h) = true ∧ headOf (headLine h) = h ∧ nameS h = true ∧ h.length ≤ 8 ∧ Plain 9 h ∧ (headLine h).length ≤ 100 ∧ 10 ∉ TL.tl (headLine h) := by
  have all : (headsL.all fun h => !looseS (headLine h) && (!Txt.startswith (headLine h) markS && (headS (headLine h) && (decide (headOf (headLine h) = h) && (nameS h && (decide (h.length ≤ 8) && ((decide (h.length ≤ 9) && (TL.tl h).all fun c => decide (c < 128)) && (decide ((headLine h).length ≤ 100) && !decide (10 ∈ TL.tl (headLine h)))))))))) = true := by decide +kernel
  have := List.all_eq_true.mp all h hh
  simp only [Bool.and_eq_true, Bool.not_eq_true', decide_eq_true_eq, decide_eq_false_iff_not, List.all_eq_true] at this
  obtain ⟨a1, a2, a3, a4, a5, a6, ⟨a7, a8⟩, a9, a10⟩ := this
  exact ⟨a1, a2, a3, a4, a5, a6, ⟨a7, a8⟩, a9, a10⟩
theorem set_facts {k v : Str} (hk : k ∈ keysL) (hv : v ∈ worthsL) : looseS (setLine k v) = false ∧ Txt.startswith (setLine k v) markS = false ∧ headS (setLine k v) = false ∧ setS (setLine k v) = some (k, v) ∧ (setLine k v).length ≤ 100 ∧ 10 ∉ TL.tl (setLine k v) ∧ k.length ≤ 8 ∧ v.length ≤ 8 ∧ Plain 20 v := by
  have all : (keysL.all fun k => worthsL.all fun v => !looseS (setLine k v) && (!Txt.startswith (setLine k v) markS && (!headS (setLine k v) && (decide (setS (setLine k v) = some (k, v)) && (decide ((setLine k v).length ≤ 100) && (!decide (10 ∈ TL.tl (setLine k v)) && (decide (k.length ≤ 8) && (decide (v.length ≤ 8) && (decide (v.length ≤ 20) && (TL.tl v).all fun c => decide (c < 128)))))))))) = true := by decide +kernel
  have := List.all_eq_true.mp (List.all_eq_true.mp all k hk) v hv
  simp only [Bool.and_eq_true, Bool.not_eq_true', decide_eq_true_eq, decide_eq_false_iff_not, List.all_eq_true] at this
  obtain ⟨a1, a2, a3, a4, a5, a6, a7, a8, a9, a10⟩ := this
  exact ⟨a1, a2, a3, a4, a5, a6, a7, a8, ⟨a9, a10⟩⟩
theorem place_plain {h k : Str} (hh : h ∈ headsL) (hk : k ∈ keysL) : Plain 9 (h ++ "." ++ k) := by
  have all : (headsL.all fun h => keysL.all fun k => decide ((h ++ "." ++ k : Str).length ≤ 9) && (TL.tl (h ++ "." ++ k)).all fun c => decide (c < 128)) = true := by decide +kernel
  have := List.all_eq_true.mp (List.all_eq_true.mp all h hh) k hk
  simp only [Bool.and_eq_true, decide_eq_true_eq, List.all_eq_true] at this
  exact ⟨this.1, this.2⟩
theorem heads_nd {i : Nat} {h : Str} (e : headsL[i]? = some h) : h ∉ headsL.take i ∧ headsL.take (i + 1) = headsL.take i ++ [h] ∧ i < 3 := by
  refine ⟨?_, by rw [List.take_add_one, e]; rfl, (List.getElem?_eq_some_iff.mp e).1⟩
  have nd : headsL.Nodup := by decide +kernel
  intro x
  have t : headsL.take (i + 1) = headsL.take i ++ [h] := by rw [List.take_add_one, e]; rfl
  have := (List.take_sublist (i + 1) headsL).nodup nd
  rw [t, List.nodup_append] at this
  exact this.2.2 _ x _ (List.mem_singleton.mpr rfl) rfl
theorem keys_nd {i : Nat} {h : Str} (e : keysL[i]? = some h) : h ∉ keysL.take i ∧ keysL.take (i + 1) = keysL.take i ++ [h] ∧ i < 3 := by
  refine ⟨?_, by rw [List.take_add_one, e]; rfl, (List.getElem?_eq_some_iff.mp e).1⟩
  have nd : keysL.Nodup := by decide +kernel
  intro x
  have t : keysL.take (i + 1) = keysL.take i ++ [h] := by rw [List.take_add_one, e]; rfl
  have := (List.take_sublist (i + 1) keysL).nodup nd
  rw [t, List.nodup_append] at this
  exact this.2.2 _ x _ (List.mem_singleton.mpr rfl) rfl
/-- the state after the headers hs, the keys ks below the last one: the settings so far -/
structure Gd (ls hs ks : List Str) (set : List (Str × Str)) : Prop where
  run : ∃ fs, runF fs0 ls = some fs ∧ fs.headers = hs ∧ fs.settings = set
  st : ∀ p ∈ set, ∃ h k, h ∈ hs ∧ k ∈ keysL ∧ p.1 = h ++ "." ++ k ∧ (hs.getLast? = some h → k ∈ ks)
  pv : ∀ p ∈ set, Plain 20 p.2
  al : ∀ z ∈ ls, z.length ≤ 100 ∧ 10 ∉ TL.tl z
  pr : ∃ r, ls = firsts ++ r
theorem gd0 : Gd firsts [] [] [] := by
  obtain ⟨f, r, a, b⟩ := firsts_run
  refine ⟨⟨f, r, a, b⟩, (fun _ h => nomatch h), (fun _ h => nomatch h), ?_, ⟨[], by simp⟩⟩
  decide +kernel
theorem gd_head {ls hs ks : List Str} {set : List (Str × Str)} {h : Str} (g : Gd ls hs ks set) (hh : h ∈ headsL) (nw : h ∉ hs) : Gd (ls ++ [("" : Str), headLine h]) (hs ++ [h]) [] set := by
  obtain ⟨fs, r, a, b⟩ := g.run
  obtain ⟨a1, a2, a3, a4, a5, a6, a7, a8, a9⟩ := head_facts hh
  refine ⟨⟨{ fs with headers := fs.headers ++ [h], blocks := fs.blocks ++ [(h, fs.loose ++ [("" : Str)])], loose := [] }, ?_, by show fs.headers ++ [h] = _; rw [a], b⟩, fun p hp => ?_, g.pv, fun z hz => ?_, (by obtain ⟨r, e⟩ := g.pr; exact ⟨r ++ [("" : Str), headLine h], by rw [e, List.append_assoc]⟩)⟩
  · rw [runF_app, r]
    show (My.stepF fs "").bind (fun f => runF f [headLine h]) = _
    rw [step_loose (z := "") (by decide +kernel)]
    show (My.stepF { fs with loose := fs.loose ++ [("" : Str)] } (headLine h)).bind (fun f => runF f []) = _
    rw [step_head a1 a2 a3 a4 (by show h ∉ fs.headers; rw [a]; exact nw)]
    rfl
  · obtain ⟨h', k, x1, x2, x3, x4⟩ := g.st p hp
    refine ⟨h', k, List.mem_append_left _ x1, x2, x3, fun e => ?_⟩
    rw [List.getLast?_concat] at e
    cases e
    exact absurd x1 nw
  · rcases List.mem_append.mp hz with w | w
    · exact g.al z w
    · rcases List.mem_cons.mp w with w | w
      · rw [w]; decide +kernel
      · rw [List.mem_singleton.mp w]; exact ⟨a8, a9⟩
theorem gd_set {ls hs ks : List Str} {set : List (Str × Str)} {h k v : Str} (g : Gd ls hs ks set) (hl : hs.getLast? = some h) (hb : ∀ x ∈ hs, x ∈ headsL) (hk : k ∈ keysL) (nk : k ∉ ks) (hv : v ∈ worthsL) :
    h ++ "." ++ k ∉ set.map (·.1) ∧ Gd (ls ++ [setLine k v]) hs (ks ++ [k]) (set ++ [(h ++ "." ++ k, v)]) := by
  obtain ⟨fs, r, a, b⟩ := g.run
  obtain ⟨a1, a2, a3, a4, a5, a6, a7, a8, a9⟩ := set_facts hk hv
  have hm : h ∈ hs := List.mem_of_getLast? hl
  have nh := (head_facts (hb h hm)).2.2.2.2.1
  have new : h ++ "." ++ k ∉ set.map (·.1) := fun x => by
    obtain ⟨p, hp, e⟩ := List.mem_map.mp x
    obtain ⟨h', k', x1, x2, x3, x4⟩ := g.st p hp
    have e2 : h ++ "." ++ k = h' ++ "." ++ k' := e.symm.trans x3
    obtain ⟨e1, e2⟩ := place_inj nh (head_facts (hb h' x1)).2.2.2.2.1 e2
    rw [← e1] at x4
    rw [e2] at nk
    exact nk (x4 hl)
  refine ⟨new, ⟨{ fs with settings := fs.settings ++ [(h ++ "." ++ k, v)], blocks := fs.blocks ++ [(h ++ "." ++ k, fs.loose)], loose := [] }, ?_, a, by show fs.settings ++ [_] = _; rw [b]⟩, fun p hp => ?_, fun p hp => ?_, fun z hz => ?_, (by obtain ⟨r, e⟩ := g.pr; exact ⟨r ++ [setLine k v], by rw [e, List.append_assoc]⟩)⟩
  · rw [runF_app, r]
    show (My.stepF fs (setLine k v)).bind (fun f => runF f []) = _
    rw [step_set a1 a2 a3 a4 (by rw [a]; exact hl) (by rw [b]; exact new)]
    rfl
  · rcases List.mem_append.mp hp with w | w
    · obtain ⟨h', k', x1, x2, x3, x4⟩ := g.st p w
      exact ⟨h', k', x1, x2, x3, fun e => List.mem_append_left _ (x4 e)⟩
    · rw [List.mem_singleton.mp w]
      exact ⟨h, k, hm, hk, rfl, fun _ => List.mem_append_right _ (List.mem_singleton.mpr rfl)⟩
  · rcases List.mem_append.mp hp with w | w
    · exact g.pv p w
    · rw [List.mem_singleton.mp w]; exact a9
  · rcases List.mem_append.mp hz with w | w
    · exact g.al z w
    · rw [List.mem_singleton.mp w]; exact ⟨a5, a6⟩
/-! ### heaps: the bag and the tables may change -/
theorem tabs_kept {T : List (Addr × Str)} {b : Addr} {H H' : Hp} (hb : Bag H b) (k : Kept b H H') (t : Tabs T H) : Tabs T H' := by
  obtain ⟨n, m, e, _⟩ := hb
  intro p hp
  obtain ⟨ps, h1, h2, h3⟩ := t p hp
  refine ⟨ps, k _ _ (fun z => by rw [z, e] at h1; cases h1) h1, h2, fun pos cv hc => ?_⟩
  obtain ⟨c, e1, e2⟩ := h3 pos cv hc
  exact ⟨c, e1, k _ _ (fun z => by rw [z, e] at e2; cases e2) e2⟩
def KeepE (b : Addr) (H H' : Hp) : Prop := ∀ x o, x ≠ b → H x = some o → (∀ ps, o ≠ .tbl ps) → H' x = some o
theorem KeepE.of {b : Addr} {H H' : Hp} (k : Kept b H H') : KeepE b H H' := fun x o h e _ => k x o h e
theorem KeepE.ext {b : Addr} {H H' : Hp} (k : ExtN H H') : KeepE b H H' := fun x o _ e n => k x o e n
theorem KeepE.trans {b : Addr} {H H1 H2 : Hp} (a : KeepE b H H1) (c : KeepE b H1 H2) : KeepE b H H2 := fun x o h e n => c x o h (a x o h e n) n
theorem bag_ext {b : Addr} {H H' : Hp} (hb : Bag H b) (k : ExtN H H') : Bag H' b := by
  obtain ⟨n, m, e, r⟩ := hb
  exact ⟨n, m, k _ _ e (fun _ z => nomatch z), r⟩
/-- a file that the bag and the tables do not touch -/
def FK (C b : Addr) (H : Hp) (x : Addr) (t : Str) (rows : List Str) (fs : FS) (A : Parts) : Prop := ∀ H', KeepE b H H' → FileP C (fun _ => none) H' x t rows fs A
theorem FK.of {C b : Addr} {H0 H H1 : Hp} {x : Addr} {t : Str} {rows : List Str} {fs : FS} {A : Parts} {o : HO} (f : FileP C H0 H x t rows fs A) (hb : H0 b = some o) (s : Same H H1) : FK C b H1 x t rows fs A := by
  intro H' k
  have key : ∀ {c : Addr} {o : HO}, H0 c = none → H c = some o → (∀ ps, o ≠ .tbl ps) → H' c = some o := fun {c} {o} n e nt => k c o (fun z => by rw [z, hb] at n; cases n) (s _ _ e) nt
  obtain ⟨n1, n2, n3, n4, n5, n6, n7⟩ := f.n
  exact ⟨(fun _ _ e => nomatch e), key n1 f.ob (fun _ z => nomatch z), key n2 f.er (fun _ z => nomatch z), key n3 f.eh (fun _ z => nomatch z), key n4 f.es (fun _ z => nomatch z), key n5 f.ek (fun _ z => nomatch z), key n6 f.eb (fun _ z => nomatch z), key n7 f.el (fun _ z => nomatch z), Paired.mapP f.bs fun p q z => ⟨z.1, key z.2.2.2.2 z.2.1 (fun _ z => nomatch z), z.2.2.1, z.2.2.2.1, rfl⟩, f.rh, f.rl, f.hl, f.sb, ⟨rfl, rfl, rfl, rfl, rfl, rfl, rfl⟩, f.ok⟩
theorem heldE {K : PySem.W.Frag} {H H1 : Hp} {p a : Addr} {xs : List V} (h : SqL K H a xs) (s : Same H H1) (np : H p = none) : ∀ H', KeepE p H1 H' → SqL K H' a xs := by
  intro H' k
  rcases h with (h | ⟨o, h⟩) | h
  · exact .inl (.inl (k _ _ (ne_of_none h np) (s _ _ h) (fun _ z => nomatch z)))
  · exact .inl (.inr ⟨o, k _ _ (ne_of_none h np) (s _ _ h) (fun _ z => nomatch z)⟩)
  · exact .inr h
end K06

set_option Elab.async false
set_option linter.all false
set_option maxRecDepth 100000
set_option maxHeartbeats 4000000
namespace K06
open PySem PySem.Spec PyProof.Rows L2 My LamX
/-- the state of the drawing -/
structure Ln (H : Hp) (b wd : Addr) (H3 : Hp) (pl : Addr) (ls hs ks : List Str) (set : List (Str × Str)) (M N : Nat) : Prop where
  bag : Bag H3 b
  kp : Kept b H H3
  npl : H pl = none
  plb : pl ≠ b
  hl : H3 pl = some (.lst (ls.map V.str))
  nwd : H wd = none
  wdb : wd ≠ b
  hw : H3 wd = some (.dK (setKV set))
  gd : Gd ls hs ks set
  ll : ls.length ≤ M
  sl : set.length ≤ N
theorem Ln.keep {H H3 H4 : Hp} {b wd pl : Addr} {ls hs ks : List Str} {set : List (Str × Str)} {M N : Nat} (d : Ln H b wd H3 pl ls hs ks set M N) (k : Kept b H3 H4) (hb : Bag H4 b) : Ln H b wd H4 pl ls hs ks set M N :=
  ⟨hb, d.kp.trans k, d.npl, d.plb, k _ _ d.plb d.hl, d.nwd, d.wdb, k _ _ d.wdb d.hw, d.gd, d.ll, d.sl⟩
theorem Ln.pw {H H3 : Hp} {b wd pl : Addr} {ls hs ks : List Str} {set : List (Str × Str)} {M N : Nat} (d : Ln H b wd H3 pl ls hs ks set M N) : pl ≠ wd := fun z => by
  have h1 := d.hl
  rw [z, d.hw] at h1
  cases h1
section
variable {P : Program} {w : World} {K : PySem.W.Frag} {mg : Str → Option Value} {base : Heap}
def sp_law (K : PySem.W.Frag) (pp : Addr) : Sp := fun vs H Q _ => ∃ (a : Addr) (ns : List Int), vs = [.ref a] ∧ SqL K H a (ns.map V.int) ∧ ns.length ≤ 63 ∧ Tabs [(pp, lamQ)] H ∧ ∀ H', Q (.bl true) H'
theorem ok_law (T : Top K mg) (TB : TabB base mg T.cc__law_is_right T.pp__law_is_right) : FnG P w K mg base 9 T.f_law T.d_law ["_law_script"] (sp_law K T.pp__law_is_right) := by
  have G__law_bag : FnOk P w K mg base CX0 1 T.f__law_bag T.d__law_bag ["_law_script", "_law_at"] (sp_L_bag K) := ok_L_bag T
  have G__law_take : FnOk P w K mg base CX0 1 T.f__law_take T.d__law_take ["_law_bag_here", "_law_many"] (sp_L_take K) := ok_L_take T
  have G__law_of : FnOk P w K mg base CX0 2 T.f__law_of T.d__law_of ["_law_bag_here", "_law_some"] (sp_L_of K) := ok_L_of T
  have G_SettingsFile___init__ : FnOk P w K mg base CX0 7 T.f_SettingsFile___init__ T.d_SettingsFile___init__ ["self", "text"] (sp_SettingsFile___init__ K T) := ok_SettingsFile___init__ T
  have G__law_is_right : FnG P w K mg base 7 T.f__law_is_right T.d__law_is_right ["_law_file", "_law_what", "_law_worths", "_law_heads"] (sp_L_is_right K T) := ok_L_is_right T TB
  have G__law_object : FnOk P w K mg base CX0 3 T.f__law_object T.d__law_object ["_law_bag_here", "_law_names"] (sp_L_object K) := ok_L_object T
  refine My.Fun.okG T.F_law sclaw (fun vs H Q E h => ?_) (fun cdv A outer s H vs Q E hr hgd h => ?_)
  · obtain ⟨a, ns, rfl, _⟩ := h
    rfl
  · obtain ⟨a, ns, rfl, hS, hl, tb0, q⟩ := h
    have big : ∀ {n : Nat}, n ≤ 1000 → n ≤ sizeLine := fun {n} h => Nat.le_trans h (by decide)
    refine ⟨_, (pss_cons (ps_for PassesOwn.never rfl (pi_range1 (by rfl) T.m_range (pa_cons (pe_callB (call_max2 rfl) (by rfl) T.m_max (by decide +kernel) (pa_cons pe_int (pa_cons (pe_callB (call_min2 rfl) (by rfl) T.m_min (by decide +kernel) (pa_cons pe_int (pa_cons (pe_callB call_len_seq (by rfl) T.m_len (by decide +kernel) (pa_cons (pv 0) pa_nil)) pa_nil))) pa_nil))) pa_nil)) (pg_name (i := 1) sclaw.nd rfl (.inl rfl)) (pss_cons (ps_par3 (i := 2) (j := 3) (l := 4) (by rfl) sclaw.nd rfl rfl rfl (by decide) (by decide) (by decide) rfl rfl rfl (pa_cons (pe_call G__law_bag (hr.mono (by decide)) (by rfl) T.g__law_bag T.F__law_bag.kp T.b__law_bag .nil pass0 (pa_cons (pv 0) (pa_cons (pv 1) pa_nil))) (pa_cons (pe_lst (pa_cons pe_str (pa_cons pe_str pa_nil))) (pa_cons pe_dnewK pa_nil))) (by rfl))
      (pss_cons (ps_set (i := 5) sclaw.nd rfl (.inl rfl) (pe_slice sl_list (pe_lst (pa_cons pe_str (pa_cons pe_str (pa_cons pe_str pa_nil)))) po_none (po_some (pe_call G__law_take (hr.mono (by decide)) (by rfl) T.g__law_take T.F__law_take.kp T.b__law_take .nil pass0 (pa_cons (pv 2) (pa_cons pe_int pa_nil))))))
      (pss_cons (ps_for PassesOwn.never rfl (pi_list (pv 5)) (pg_name (i := 6) sclaw.nd rfl (.inl rfl)) (pss_cons (ps_set (i := 3) sclaw.nd rfl (.inl rfl) (pe_op op_cat (pv 3) (pe_lst (pa_cons pe_str (pa_cons (pe_op op_add_str (pe_op op_add_str pe_str (pv 6)) pe_str) pa_nil)))))
      (pss_one (ps_for PassesOwn.never rfl (pi_list (pe_slice sl_list (pe_lst (pa_cons pe_str (pa_cons pe_str (pa_cons pe_str pa_nil)))) po_none (po_some (pe_call G__law_take (hr.mono (by decide)) (by rfl) T.g__law_take T.F__law_take.kp T.b__law_take .nil pass0 (pa_cons (pv 2) (pa_cons pe_int pa_nil)))))) (pg_name (i := 7) sclaw.nd rfl (.inl rfl)) (pss_cons (ps_dput (hu_of hr) (pv 4) (pe_op op_add_str (pe_op op_add_str (pv 6) pe_str) (pv 7)) (pe_call G__law_of (hr.mono (by decide)) (by rfl) T.g__law_of T.F__law_of.kp T.b__law_of .nil pass0 (pa_cons (pv 2) (pa_cons (pe_lst (pa_cons pe_str (pa_cons pe_str (pa_cons pe_str pa_nil)))) pa_nil))) rfl)
      (pss_one (ps_expr (pe_bm PySem.F.plainAttrs_list PySem.F.slot_list_append PySem.F.type_list_append mt_append (pv 3) (pa_cons (pe_op op_add_str (pe_op op_add_str (pv 7) pe_str) (pe_dget (hu_of hr) (pv 4) (pe_op op_add_str (pe_op op_add_str (pv 6) pe_str) (pv 7)) (fun _ _ => rfl))) pa_nil)))))))))
      (pss_cons (ps_set (i := 8) sclaw.nd rfl (.inl rfl) (pe_make T.mk_SettingsFile G_SettingsFile___init__ (hr.mono (by decide)) (by rfl) T.g_SettingsFile T.b_SettingsFile___init__ .nil pass0 (pa_cons (pe_m1 F.slot_str_join F.type_str_join mt_join pe_str (pv 3)) pa_nil)))
      (pss_cons (ps_set (i := 9) sclaw.nd rfl (.inl rfl) (pe_op op_cat (pe_op op_cat (pv 5) (pe_callTy (call_listD rfl) (by rfl) T.m_list (by decide +kernel) (pa_cons (pv 4) pa_nil))) (pe_lst (pa_cons pe_str (pa_cons pe_str (pa_cons pe_str (pa_cons pe_str (pa_cons pe_str (pa_cons pe_str (pa_cons pe_str (pa_cons pe_str pa_nil)))))))))))
      (pss_one (ps_for PassesOwn.never rfl (pi_range1 (by rfl) T.m_range (pa_cons pe_int pa_nil)) (pg_name (i := 10) sclaw.nd rfl (.inl rfl)) (pss_one (ps_if (pt_not (pt_val (pe_callG G__law_is_right hgd (hr.mono (by decide)) (by rfl) T.g__law_is_right T.F__law_is_right.kp T.b__law_is_right (pa_cons (pv 8) (pa_cons (pe_call G__law_object (hr.mono (by decide)) (by rfl) T.g__law_object T.F__law_object.kp T.b__law_object .nil pass0 (pa_cons (pv 2) (pa_cons (pv 9) pa_nil))) (pa_cons (pv 4) (pa_cons (pv 5) pa_nil))))))) (pss_one (ps_ret pe_bl)) pss_nil))))))))))
      (pss_one (ps_ret pe_bl))), ?_⟩
    refine ⟨.ref a, rfl, a, _, rfl, .inl hS, _, _, rfl, _, _, rfl, ?_⟩
    obtain ⟨M, hM, M1, M4⟩ : ∃ M : Int, (if (if (((ns.map V.int).length : Nat) : Int) < 4 then (((ns.map V.int).length : Nat) : Int) else 4) > 1 then (if (((ns.map V.int).length : Nat) : Int) < 4 then (((ns.map V.int).length : Nat) : Int) else 4) else 1) = M ∧ 0 ≤ M ∧ M ≤ 4 := by
      refine ⟨_, rfl, ?_, ?_⟩
      · split <;> split <;> omega
      · split <;> split <;> omega
    refine ⟨M, congrArg (fun z => [V.int z]) hM, by omega, by omega, for_it walk_range (fun _ σ H3 => ∃ y1 y2 y3 y4 y5 y6 y7 y8 y9 y10, σ = [some (.ref a), y1, y2, y3, y4, y5, y6, y7, y8, y9, y10] ∧ SqL K H3 a (ns.map V.int) ∧ Tabs [(T.pp__law_is_right, lamQ)] H3) ?_ (fun _ _ _ _ _ => trivial) ?_ ?_⟩
    · exact ⟨none, none, none, none, none, none, none, none, none, none, rfl, hS, tb0⟩
    · rintro i x σ H1' H1 hi ⟨y1, y2, y3, y4, y5, y6, y7, y8, y9, y10, rfl, hS1, tb1⟩ ⟨rfl, rfl⟩
      refine ⟨.ref a, rfl, .int (0 + (i : Int)), rfl, a, _, ns, rfl, hS1, hl, by omega, by omega, fun H2 b s2 nb b2 => ?_⟩
      have hold := heldE hS1 s2 nb
      have tb2 := tb1.ext s2
      refine ⟨(by show 2 ≤ sizeLine; decide), fun pl npl => ?_⟩
      have hf : firsts.map V.str = [.str "#~ 3 ui.b = 1", .str "#~ 4 net.a"] := rfl
      rw [← hf]
      have s3 := same_new (o := .lst (firsts.map V.str)) npl
      have e3 : upd H2 pl (.lst (firsts.map V.str)) pl = some (.lst (firsts.map V.str)) := upd_same
      have plb : pl ≠ b := b2.ne npl
      generalize upd H2 pl (.lst (firsts.map V.str)) = H3 at s3 e3
      intro wd nwd
      have s4 := same_new (o := .dK []) nwd
      have ew : upd H3 wd (.dK []) wd = some (.dK (setKV [])) := upd_same
      have e34 := s4 _ _ e3
      have b3 := b2.same s3
      have wdb : wd ≠ b := b3.ne nwd
      have nwd2 : H2 wd = none := s3.free nwd
      have s4 := s3.trans s4
      have b4 := b2.same s4
      generalize upd H3 wd (.dK []) = H4 at s4 ew e34 b4
      refine ⟨_, _, _, rfl, ?_⟩
      have ln0 : Ln H2 b wd H4 pl firsts [] [] [] 2 0 := ⟨b4, Kept.same s4, npl, plb, e34, nwd2, wdb, ew, gd0, Nat.le_refl _, Nat.le_refl _⟩
      -- the sections
      have hh : headsL.map V.str = [.str "net", .str "a", .str "zz"] := rfl
      refine ⟨(by show 3 ≤ sizeLine; decide), fun l5 nl5 => ?_⟩
      rw [← hh]
      have s5 := same_new (o := .lst (headsL.map V.str)) nl5
      have e5 : upd H4 l5 (.lst (headsL.map V.str)) l5 = some (.lst (headsL.map V.str)) := upd_same
      have l5b : l5 ≠ b := b4.ne nl5
      have ln5 := ln0.keep (Kept.same s5) (b4.same s5)
      generalize upd H4 l5 (.lst (headsL.map V.str)) = H5 at e5 ln5
      refine ⟨.ref b, rfl, b, 4, rfl, ln5.bag, by decide, by decide, fun c m1 m2 c0 c1 m10 m20 m21 => ⟨c, rfl, ?_⟩⟩
      have k6 : Kept b H5 (upd H5 b (.lst [.int m1, .int m2])) := Kept.at
      have ln6 := ln5.keep k6 (Bag.at m10 m20 m21)
      have e6 := k6 _ _ l5b e5
      generalize upd H5 b (.lst [.int m1, .int m2]) = H6 at e6 ln6
      refine ⟨l5, _, rfl, SqL.of e6, fun hd nhd => ?_⟩
      rw [cut_take _ c0]
      have s7 := same_new (o := .lst ((headsL.take c.toNat).map V.str)) nhd
      have e7 : upd H6 hd (.lst ((headsL.take c.toNat).map V.str)) hd = some (.lst ((headsL.take c.toNat).map V.str)) := upd_same
      have hdb : hd ≠ b := ln6.bag.ne nhd
      have hdw : hd ≠ wd := fun z => by have := ln6.hw; rw [← z, nhd] at this; cases this
      have hdp : pl ≠ hd := fun z => by have := ln6.hl; rw [z, nhd] at this; cases this
      have ln7 := ln6.keep (Kept.same s7) (ln6.bag.same s7)
      generalize upd H6 hd (.lst ((headsL.take c.toNat).map V.str)) = H7 at e7 ln7
      refine ⟨.ref hd, rfl, hd, rfl, ⟨_, SqL.of e7⟩, for_it (walk_list (xs := (headsL.take c.toNat).map V.str)) (fun i' σ H8 => ∃ (pl : Addr) (ls ks : List Str) (set : List (Str × Str)) (z6 z7 z8 z9 z10 : Option V), σ = [some (.ref a), some (.int (0 + (i : Int))), some (.ref b), some (.ref pl), some (.ref wd), some (.ref hd), z6, z7, z8, z9, z10] ∧ Ln H2 b wd H8 pl ls (headsL.take i') ks set (2 + 5 * i') (3 * i') ∧ H8 hd = some (.lst ((headsL.take c.toNat).map V.str))) ?_ ?_ ?_ ?_⟩
      · exact ⟨pl, firsts, [], [], _, _, _, _, _, rfl, ln7, e7⟩
      · rintro i' σ H8 _ ⟨_, _, _, _, _, _, _, _, _, _, _, e⟩
        exact SqL.of e
      · rintro i' v σ H8' H8 hi' ⟨pl, ls, ks, set, z6, z7, z8, z9, z10, rfl, ln, e8⟩ ⟨rfl, hv⟩
        obtain ⟨h, hh1, rfl⟩ := map_at hv
        obtain ⟨hnew, htk, hi3⟩ := heads_nd (take_at hh1)
        have hmem : h ∈ headsL := List.mem_of_getElem? (take_at hh1)
        obtain ⟨_, _, _, _, _, hlen, _, _, _⟩ := head_facts hmem
        have lll := ln.ll
        have a1 : (("[" : Str) ++ h).length = 1 + h.length := by rw [Str.length_append]; rfl
        refine ⟨.ref pl, rfl, .str h, rfl, _, _, rfl, rfl, big (by show 1 + h.length ≤ 1000; omega), _, _, rfl, rfl, big (by rw [a1]; show 1 + h.length + 1 ≤ 1000; omega), (by show 2 ≤ sizeLine; decide), fun p9 np9 => ?_⟩
        have hp9 : ([("" : Str), headLine h]).map V.str = [.str "", .str (("[" : Str) ++ h ++ "]")] := rfl
        rw [← hp9]
        have s9 := same_new (o := .lst (([("" : Str), headLine h]).map V.str)) np9
        have e9 : upd H8 p9 (.lst (([("" : Str), headLine h]).map V.str)) p9 = some (.lst (([("" : Str), headLine h]).map V.str)) := upd_same
        have ln9 := ln.keep (Kept.same s9) (ln.bag.same s9)
        have e89 := s9 _ _ e8
        generalize upd H8 p9 (.lst (([("" : Str), headLine h]).map V.str)) = H9 at e9 ln9 e89
        refine ⟨pl, p9, _, _, rfl, rfl, ln9.hl, e9, big (n := (ls.map V.str).length + 2) (by rw [List.length_map]; omega), fun p10 np10 => ?_⟩
        rw [← List.map_append]
        have s10 := same_new (o := .lst ((ls ++ [("" : Str), headLine h]).map V.str)) np10
        have e10 : upd H9 p10 (.lst ((ls ++ [("" : Str), headLine h]).map V.str)) p10 = some (.lst ((ls ++ [("" : Str), headLine h]).map V.str)) := upd_same
        have b10 := ln9.bag.same s10
        have ln10 : Ln H2 b wd (upd H9 p10 (.lst ((ls ++ [("" : Str), headLine h]).map V.str))) p10 (ls ++ [("" : Str), headLine h]) (headsL.take (i' + 1)) (keysL.take 0) set (4 + 5 * i' + 0) (3 * i' + 0) :=
          ⟨b10, ln9.kp.trans (Kept.same s10), ln9.kp.free ln9.bag np10, ln9.bag.ne np10, e10, ln.nwd, ln.wdb, s10 _ _ ln9.hw, by rw [htk]; exact gd_head ln.gd hmem hnew, by rw [List.length_append]; show _ + 2 ≤ _; omega, ln.sl⟩
        have e810 := s10 _ _ e89
        generalize upd H9 p10 (.lst ((ls ++ [("" : Str), headLine h]).map V.str)) = H10 at ln10 e810
        -- the keys
        have hk : keysL.map V.str = [.str "a", .str "net", .str "port"] := rfl
        refine ⟨(by show 3 ≤ sizeLine; decide), fun l11 nl11 => ?_⟩
        rw [← hk]
        have s11 := same_new (o := .lst (keysL.map V.str)) nl11
        have e11 : upd H10 l11 (.lst (keysL.map V.str)) l11 = some (.lst (keysL.map V.str)) := upd_same
        have l11b : l11 ≠ b := ln10.bag.ne nl11
        have ln11 := ln10.keep (Kept.same s11) (ln10.bag.same s11)
        have e811 := s11 _ _ e810
        generalize upd H10 l11 (.lst (keysL.map V.str)) = H11 at e11 ln11 e811
        refine ⟨.ref b, rfl, b, 4, rfl, ln11.bag, by decide, by decide, fun f q1 q2 f0 f1 q10 q20 q21 => ⟨f, rfl, ?_⟩⟩
        have k12 : Kept b H11 (upd H11 b (.lst [.int q1, .int q2])) := Kept.at
        have ln12 := ln11.keep k12 (Bag.at q10 q20 q21)
        have e12 := k12 _ _ l11b e11
        have e812 := k12 _ _ hdb e811
        generalize upd H11 b (.lst [.int q1, .int q2]) = H12 at ln12 e12 e812
        refine ⟨l11, _, rfl, SqL.of e12, fun sk nsk => ?_⟩
        rw [cut_take _ f0]
        have s13 := same_new (o := .lst ((keysL.take f.toNat).map V.str)) nsk
        have e13 : upd H12 sk (.lst ((keysL.take f.toNat).map V.str)) sk = some (.lst ((keysL.take f.toNat).map V.str)) := upd_same
        have skb : sk ≠ b := ln12.bag.ne nsk
        have skp : p10 ≠ sk := fun z => by have := ln12.hl; rw [z, nsk] at this; cases this
        have skw : sk ≠ wd := fun z => by have := ln12.hw; rw [← z, nsk] at this; cases this
        have ln13 := ln12.keep (Kept.same s13) (ln12.bag.same s13)
        have e813 := s13 _ _ e812
        have hdp10 : p10 ≠ hd := fun z => by rw [z, e89] at np10; cases np10
        generalize upd H12 sk (.lst ((keysL.take f.toNat).map V.str)) = H13 at e13 ln13 e813
        refine ⟨sk, rfl, ⟨_, SqL.of e13⟩, for_it (walk_list (xs := (keysL.take f.toNat).map V.str)) (fun j σ H14 => ∃ (ls : List Str) (set : List (Str × Str)) (z7 z8 z9 z10 : Option V), σ = [some (.ref a), some (.int (0 + (i : Int))), some (.ref b), some (.ref p10), some (.ref wd), some (.ref hd), some (.str h), z7, z8, z9, z10] ∧ Ln H2 b wd H14 p10 ls (headsL.take (i' + 1)) (keysL.take j) set (4 + 5 * i' + j) (3 * i' + j) ∧ H14 hd = some (.lst ((headsL.take c.toNat).map V.str)) ∧ H14 sk = some (.lst ((keysL.take f.toNat).map V.str))) ?_ ?_ ?_ ?_⟩
        · exact ⟨_, set, _, _, _, _, rfl, ln13, e813, e13⟩
        · rintro j σ H14 _ ⟨_, _, _, _, _, _, _, _, _, e⟩
          exact SqL.of e
        · rintro j v σ H14' H14 hj ⟨ls, set, z7, z8, z9, z10, rfl, ln, e14h, e14k⟩ ⟨rfl, hv⟩
          obtain ⟨ky, hk1, rfl⟩ := map_at hv
          obtain ⟨knew, ktk, hj3⟩ := keys_nd (take_at hk1)
          have kmem : ky ∈ keysL := List.mem_of_getElem? (take_at hk1)
          have klen := (set_facts kmem (v := "a") (by decide +kernel)).2.2.2.2.2.2.1
          have lll := ln.ll
          have lsl := ln.sl
          have hw : worthsL.map V.str = [.str "a", .str "net", .str "1"] := rfl
          refine ⟨.ref b, rfl, (by show 3 ≤ sizeLine; decide), fun l15 nl15 => ?_⟩
          rw [← hw]
          have s15 := same_new (o := .lst (worthsL.map V.str)) nl15
          have e15 : upd H14 l15 (.lst (worthsL.map V.str)) l15 = some (.lst (worthsL.map V.str)) := upd_same
          have l15b : l15 ≠ b := ln.bag.ne nl15
          have ln15 := ln.keep (Kept.same s15) (ln.bag.same s15)
          have e15h := s15 _ _ e14h
          have e15k := s15 _ _ e14k
          generalize upd H14 l15 (.lst (worthsL.map V.str)) = H15 at e15 ln15 e15h e15k
          refine ⟨b, l15, _, rfl, ln15.bag, e15, l15b, (fun h => nomatch h), (by show 3 ≤ 1000; decide), fun wv t1 t2 hwv t10 t20 t21 => ?_⟩
          obtain ⟨v, vmem, rfl⟩ := List.mem_map.mp hwv
          have k16 : Kept b H15 (upd H15 b (.lst [.int t1, .int t2])) := Kept.at
          have ln16 := ln15.keep k16 (Bag.at t10 t20 t21)
          have e16h := k16 _ _ hdb e15h
          have e16k := k16 _ _ skb e15k
          generalize upd H15 b (.lst [.int t1, .int t2]) = H16 at ln16 e16h e16k
          have vlen := (set_facts kmem vmem).2.2.2.2.2.2.2.1
          have hlast : (headsL.take (i' + 1)).getLast? = some h := by rw [htk, List.getLast?_concat]
          obtain ⟨new, gd2⟩ := gd_set ln.gd hlast (fun x hx => List.mem_of_mem_take hx) kmem knew vmem
          have a2 : (h ++ ("." : Str)).length = h.length + 1 := by rw [Str.length_append]; rfl
          have newV := val_set new
          have kvl : (setKV set).length ≤ 1000 := by unfold setKV; rw [List.length_map]; omega
          refine ⟨.ref wd, rfl, .str h, rfl, _, _, rfl, rfl, big (by show h.length + 1 ≤ 1000; omega), .str ky, rfl, _, _, rfl, rfl, big (by rw [a2]; omega), wd, _, rfl, DPut.k (k := Sum.inr (h ++ "." ++ ky)) ln16.hw (small1000 kvl), ?_⟩
          rw [putK_new _ newV]
          have eKV : setKV set ++ [(Sum.inr (h ++ "." ++ ky), V.str v)] = setKV (set ++ [(h ++ "." ++ ky, v)]) := by
            unfold setKV
            rw [List.map_append]
            rfl
          rw [eKV]
          have hw17 : upd H16 wd (.dK (setKV (set ++ [(h ++ "." ++ ky, v)]))) wd = some (.dK (setKV (set ++ [(h ++ "." ++ ky, v)]))) := upd_same
          have k17 := ln16.kp.off (o := .dK (setKV (set ++ [(h ++ "." ++ ky, v)]))) ln16.nwd
          have b17 : Bag (upd H16 wd (.dK (setKV (set ++ [(h ++ "." ++ ky, v)])))) b := ln16.bag.off ln16.wdb
          have hl17 : upd H16 wd (.dK (setKV (set ++ [(h ++ "." ++ ky, v)]))) p10 = some (.lst (ls.map V.str)) := by rw [upd_ne ln16.pw]; exact ln16.hl
          have e17h : upd H16 wd (.dK (setKV (set ++ [(h ++ "." ++ ky, v)]))) hd = some (.lst ((headsL.take c.toNat).map V.str)) := by rw [upd_ne hdw]; exact e16h
          have e17k : upd H16 wd (.dK (setKV (set ++ [(h ++ "." ++ ky, v)]))) sk = some (.lst ((keysL.take f.toNat).map V.str)) := by rw [upd_ne skw]; exact e16k
          generalize upd H16 wd (.dK (setKV (set ++ [(h ++ "." ++ ky, v)]))) = H17 at hw17 k17 b17 hl17 e17h e17k
          have a3 : (ky ++ (" = " : Str)).length = ky.length + 3 := by rw [Str.length_append]; rfl
          have gv : valV (setKV (set ++ [(h ++ "." ++ ky, v)])) (Sum.inr (h ++ "." ++ ky) : Key) = some (.str v) := by
            rw [val_get]
            have : valS (set ++ [(h ++ "." ++ ky, v)]) (h ++ "." ++ ky) = some v := by
              unfold valS
              rw [List.find?_append, List.find?_eq_none.mpr (fun p hp e => new (List.mem_map.mpr ⟨p, hp, of_decide_eq_true e⟩))]
              simp
            rw [this]
            rfl
          refine ⟨.ref p10, rfl, .inl ⟨rfl, _, SqL.of hl17⟩, .str ky, rfl, _, _, rfl, rfl, big (by show ky.length + 3 ≤ 1000; omega), .ref wd, rfl, .str h, rfl, _, _, rfl, rfl, big (by show h.length + 1 ≤ 1000; omega), .str ky, rfl, _, _, rfl, rfl, big (by rw [a2]; omega), wd, .str v, rfl, (by have := DGet.k (k := (Sum.inr (h ++ "." ++ ky) : Key)) hw17; rw [gv] at this; exact this), _, _, rfl, rfl, big (by rw [a3]; omega), p10, _, _, rfl, rfl, hl17, small1000 (by rw [List.length_map]; omega), ?_⟩
          have el18 : ls.map V.str ++ [V.str (ky ++ (" = " : Str) ++ v)] = (ls ++ [setLine ky v]).map V.str := by rw [List.map_append]; rfl
          rw [el18]
          refine ⟨ls ++ [setLine ky v], set ++ [(h ++ "." ++ ky, v)], _, _, _, _, rfl, ⟨b17.off ln.plb, k17.off ln.npl, ln.npl, ln.plb, upd_same, ln.nwd, ln.wdb, by rw [upd_ne ln.pw.symm]; exact hw17, by rw [ktk]; exact gd2, by rw [List.length_append]; show _ + 1 ≤ _; omega, by rw [List.length_append]; show _ + 1 ≤ _; omega⟩, by rw [upd_ne hdp10.symm]; exact e17h, by rw [upd_ne skp.symm]; exact e17k⟩
        · rintro σ H14 ⟨ls, set, z7, z8, z9, z10, rfl, ln, e14h, e14k⟩
          have hfl : ((keysL.take f.toNat).map V.str).length ≤ 3 := by rw [List.length_map, List.length_take]; exact Nat.min_le_right _ _
          have lll := ln.ll
          have lsl := ln.sl
          exact ⟨p10, ls, _, set, _, _, _, _, _, rfl, ⟨ln.bag, ln.kp, ln.npl, ln.plb, ln.hl, ln.nwd, ln.wdb, ln.hw, ln.gd, by omega, by omega⟩, e14h⟩
      · rintro σ H8 ⟨pl, ls, ks, set, z6, z7, z8, z9, z10, rfl, ln, e8⟩
        have hc3 : ((headsL.take c.toNat).map V.str).length ≤ 3 := by rw [List.length_map, List.length_take]; exact Nat.min_le_right _ _
        have lll := ln.ll
        have lsl := ln.sl
        obtain ⟨fs, r1, fh, fset⟩ := ln.gd.run
        have ehd : headsL.take ((headsL.take c.toNat).map V.str).length = headsL.take c.toNat := by
          rw [List.length_map, List.length_take, Nat.min_eq_left (by show c.toNat ≤ 3; omega)]
        rw [ehd] at fh
        have lens : ∀ z ∈ ls, z.length ≤ 100 := fun z hz => (ln.gd.al z hz).1
        have sm := joined_len lens
        have rws := rows_join (lines := ls) fun z hz => (ln.gd.al z hz).2
        have tlen := join_short lens (by omega)
        have nb' : ¬ ls = [("" : Str)] := fun e => by
          obtain ⟨r, er⟩ := ln.gd.pr
          rw [er] at e
          have := congrArg List.length e
          rw [List.length_append] at this
          have h2 : firsts.length = 2 := rfl
          rw [h2] at this
          simp at this
          omega
        rw [if_neg nb'] at rws
        refine ⟨⟨_, rfl⟩, .ref pl, rfl, _, pl, ls, rfl, rfl, .inl (SqL.of ln.hl), (by show (ls.map (·.length)).sum + ls.length * 1 ≤ 16777216; omega), ?_⟩
        obtain ⟨t0, et0⟩ : ∃ t0, t0 = Txt.join lf ls := ⟨_, rfl⟩
        rw [show Txt.join lf ls = t0 from et0.symm]
        rw [← et0] at rws tlen
        refine fun x dx nx ndx nex => ⟨H8, x, dx, t0, fs, rfl, rfl, nx, ndx, nex, tlen, by rw [rws]; omega, (by rw [rws]; intro z hz; have := lens z hz; omega), (by rw [rws]; exact r1), fun H9 A9 pf => ⟨rfl, ?_⟩⟩
        have s9 : Same H8 H9 := pf.same
        have hwd9 := s9 _ _ ln.hw
        have e9 := s9 _ _ e8
        have b9 := ln.bag.same s9
        -- the names
        have fixed : (["net", "a", "a.a", "net.port", "port", "ui.b", "ui", "zz.net"] : List Str).map V.str = [.str "net", .str "a", .str "a.a", .str "net.port", .str "port", .str "ui.b", .str "ui", .str "zz.net"] := rfl
        have keys : (setKV set).map (fun kv => kV kv.1) = (set.map (·.1)).map V.str := by unfold setKV; rw [List.map_map, List.map_map]; rfl
        refine ⟨.ref hd, rfl, .ref wd, rfl, wd, _, rfl, .inl hwd9, fun p10 np10 => ?_⟩
        rw [keys]
        have s10 := same_new (o := .lst ((set.map (·.1)).map V.str)) np10
        have e10 : upd H9 p10 (.lst ((set.map (·.1)).map V.str)) p10 = some (.lst ((set.map (·.1)).map V.str)) := upd_same
        have e910 := s10 _ _ e9
        generalize upd H9 p10 (.lst ((set.map (·.1)).map V.str)) = H10 at s10 e10 e910
        refine ⟨hd, p10, _, _, rfl, rfl, e910, e10, big (by rw [List.length_map (as := set.map (·.1)), List.length_map (as := set)]; omega), fun p11 np11 => ?_⟩
        rw [← List.map_append]
        have s11 := same_new (o := .lst ((headsL.take c.toNat ++ set.map (·.1)).map V.str)) np11
        have e11 : upd H10 p11 (.lst ((headsL.take c.toNat ++ set.map (·.1)).map V.str)) p11 = some (.lst ((headsL.take c.toNat ++ set.map (·.1)).map V.str)) := upd_same
        have s11 := s10.trans s11
        generalize upd H10 p11 (.lst ((headsL.take c.toNat ++ set.map (·.1)).map V.str)) = H11 at s11 e11
        refine ⟨(by show 8 ≤ sizeLine; decide), fun p12 np12 => ?_⟩
        rw [← fixed]
        have s12 := same_new (o := .lst ((["net", "a", "a.a", "net.port", "port", "ui.b", "ui", "zz.net"] : List Str).map V.str)) np12
        have e12 : upd H11 p12 (.lst ((["net", "a", "a.a", "net.port", "port", "ui.b", "ui", "zz.net"] : List Str).map V.str)) p12 = some (.lst ((["net", "a", "a.a", "net.port", "port", "ui.b", "ui", "zz.net"] : List Str).map V.str)) := upd_same
        have e1112 := s12 _ _ e11
        have s12 := s11.trans s12
        generalize upd H11 p12 (.lst ((["net", "a", "a.a", "net.port", "port", "ui.b", "ui", "zz.net"] : List Str).map V.str)) = H12 at s12 e12 e1112
        have lh3 : (headsL.take c.toNat).length ≤ 3 := by rw [List.length_map] at hc3; exact hc3
        refine ⟨p11, p12, _, _, rfl, rfl, e1112, e12, big (n := ((headsL.take c.toNat ++ set.map (·.1)).map V.str).length + 8) (by rw [List.length_map, List.length_append, List.length_map]; omega), fun nm nnm => ?_⟩
        rw [← List.map_append]
        obtain ⟨names, hnames⟩ : ∃ names : List Str, names = (headsL.take c.toNat ++ set.map (·.1)) ++ (["net", "a", "a.a", "net.port", "port", "ui.b", "ui", "zz.net"] : List Str) := ⟨_, rfl⟩
        rw [← hnames]
        have s13 := same_new (o := .lst (names.map V.str)) nnm
        have e13 : upd H12 nm (.lst (names.map V.str)) nm = some (.lst (names.map V.str)) := upd_same
        have nmb : nm ≠ b := (b9.same s12).ne nnm
        have s13 := s12.trans s13
        generalize upd H12 nm (.lst (names.map V.str)) = H13 at s13 e13
        have b13 := b9.same s13
        have hwd13 := s13 _ _ hwd9
        have e913 := s13 _ _ e9
        have k13 : Kept b H2 H13 := ln.kp.trans (Kept.same (s9.trans s13))
        have tb13 := tabs_kept b2 k13 tb2
        obtain ⟨bo, hbo⟩ : ∃ o, H8 b = some o := by obtain ⟨_, _, h, _⟩ := ln.bag; exact ⟨_, h⟩
        have fk : FK T.C_SettingsFile b H13 x t0 (rowsOf t0) fs A9 := FK.of pf hbo s13
        have blk := blk_run blk0 r1
        have pnames : ∀ z ∈ names, Plain 9 z := fun z hz => by
          rw [hnames] at hz
          rcases List.mem_append.mp hz with hz | hz
          · rcases List.mem_append.mp hz with hz | hz
            · exact (head_facts (List.mem_of_mem_take hz)).2.2.2.2.2.2.1
            · obtain ⟨p, hp, rfl⟩ := List.mem_map.mp hz
              obtain ⟨h', k', x1, x2, x3, _⟩ := ln.gd.st p hp
              rw [x3]
              exact place_plain (List.mem_of_mem_take x1) x2
          · exact plain_all (cs := ["net", "a", "a.a", "net.port", "port", "ui.b", "ui", "zz.net"]) (by decide +kernel) _ hz
        have nne : names ≠ [] := by rw [hnames]; exact fun h => by simp at h
        have nln : names.length ≤ 1000 := by rw [hnames, List.length_append, List.length_append, List.length_map]; show _ + 8 ≤ 1000; omega
        refine ⟨30, rfl, by decide, by decide, for_it walk_range (fun _ σ H14 => ∃ z10, σ = [some (.ref a), some (.int (0 + (i : Int))), some (.ref b), some (.ref pl), some (.ref wd), some (.ref hd), z6, z7, some (.ref x), some (.ref nm), z10] ∧ Bag H14 b ∧ KeepE b H13 H14 ∧ Tabs [(T.pp__law_is_right, lamQ)] H14) ?_ (fun _ _ _ _ _ => trivial) ?_ ?_⟩
        · exact ⟨_, rfl, b13, fun _ _ _ e _ => e, tb13⟩
        · rintro j x2 σ H14' H14 hj ⟨z10', rfl, b14, k14, tb14⟩ ⟨rfl, rfl⟩
          have nm14 := k14 _ _ nmb e13 (fun _ z => nomatch z)
          refine ⟨.ref x, rfl, .ref b, rfl, .ref nm, rfl, b, nm, names, rfl, b14, nmb, nm14, nne, nln, pnames, fun H15 v d k15 b15 dv pd hlen => ?_⟩
          have k15' := k14.trans (KeepE.of k15)
          have f15 := fk H15 k15'
          have hwd15 := k15' _ _ ln.wdb hwd13 (fun _ z => nomatch z)
          have hhd15 := k15' _ _ hdb e913 (fun _ z => nomatch z)
          rw [← fset] at hwd15
          rw [← fh] at hhd15
          refine ⟨.ref wd, rfl, .ref hd, rfl, _, x, t0, rowsOf t0, fs, A9, v, d, wd, hd, rfl, f15, blk, dv, pd, hlen, tabs_kept b14 k15 tb14, hwd15, hhd15, (by rw [fset]; exact ln.gd.pv), fun H16 x16 tb16 => ⟨true, rfl, iteF ?_⟩⟩
          exact ⟨_, rfl, bag_ext b15 x16, k15'.trans (KeepE.ext x16), tb16⟩
        · rintro σ H14 ⟨z10', rfl, b14, k14, tb14⟩
          exact ⟨_, _, _, _, _, _, _, _, _, _, rfl, hold _ ((KeepE.of k13).trans k14), tb14⟩
    · rintro σ H3 ⟨y1, y2, y3, y4, y5, y6, y7, y8, y9, y10, rfl, hS3, tb3⟩
      exact q _
end
end K06

set_option Elab.async false
set_option linter.all false
set_option maxRecDepth 100000
set_option maxHeartbeats 2000000
namespace My
open PySem PySem.Spec PyProof.Rows L2 LamX
/-- the goal that the head leaves, by the law's promise; xs: the defs that make lambdas -/
theorem walk_ofTW {l : PySem.W.OpenLaw} {n k : Nat} {q : Program} {loose : List Str} {XP : (Str → Option Value) → Heap → Prop} {YP : World → Heap → Prop} {d : DefRec} {K : Params → PySem.W.Frag} {sp : PySem.W.Frag → List (Addr × Addr) → Sp} {x : Str}
    (hn : l.most = some n) (hn2 : n ≤ sizeLine) (hdf : d.params.defaults = []) (hr : Room k callerA) (hY : ∀ (w : World) (h : Heap), YP w h → (K w.params).In h)
    (F : ∀ (w : World) (mg : Str → Option Value) (fa : Addr) (h : Heap), (K w.params).In h → h.Ns mainGlobals mg → mg d.name = some (.ref fa) →
      ∃ (fd : FuncData) (cs : List (Addr × Addr)), (∀ p ∈ cs, ∃ (x : Str) (r : DefRec), (recsOf q).find? (fun e => e.name == x) = some r ∧ PySem.W.tabIn (K w.params) x = some p) ∧ (∀ p ∈ cs, (K w.params).lookup p.2 = none) ∧ (∀ (s : Shared) (u : Value), BindsTo s fd ⟨[u], []⟩ [(x, u)]) ∧
        (∀ (H : Hp) (a : Addr) (ns : List Int), ns.length ≤ n → (∀ p ∈ cs, H p.2 = some (.tbl #[])) → SqL (K w.params) H a (ns.map V.int) → sp (K w.params) cs [.ref a] H (fun v _ => v = .bl true) fun _ _ _ => False) ∧
        ∀ base : Heap, (K w.params).In base → base.Ns mainGlobals mg → (∀ p ∈ cs, TabB base mg p.1 p.2) → FnG l.prog w (K w.params) mg base k fa fd [x] (sp (K w.params) cs)) :
    PySem.W.WalkO q loose XP YP l.row.toRowW d [] (fun f vs => PySem.call f vs) := by
  apply Att.attach_call hn hdf
  intro w s₀ s₁ mg mb fa o pm cd doc a vs ns G Y ho hd hcd hmg hobj hints hlen hgens
  have KX := hY w _ Y
  obtain ⟨fd, cs, h1, h2, hb, hsp, hF⟩ := F w mg fa _ KX G.T.g hmg
  have both : ∀ p ∈ cs, PySem.W.CodeHd s₁.heap p.1 p.2 ∧ s₁.heap.get? p.2 = some (PySem.W.tabObj #[]) := by
    intro p hp
    obtain ⟨y, r, e1, e2⟩ := h1 p hp
    exact PySem.W.tab_of G.T KX e1 e2
  exact law_callTG KX G.T.g G.T.b G.T.builtins G.T.nolimit hgens (fun p hp => (both p hp).2) h2 (fun p hp => (both p hp).1) G.T.bmain hobj hints (Nat.le_trans hlen hn2) hr hF hb (fun H h1 h2 => hsp H a ns hlen h1 h2)
end My
set_option Elab.async false
set_option linter.all false
set_option maxRecDepth 100000
namespace K06
open PySem PySem.Spec PyProof.Rows L2 My
/-! ### the end -/
/-- the law's promise, told by its table -/
def spc (K : PySem.W.Frag) : List (Addr × Addr) → Sp
  | [(_, P)] => sp_law K P
  | _ => fun _ _ _ _ => False
def top_mk {h : Heap} {K : PySem.W.Frag} {mg : Str → Option Value} (X : K.In h) (G : h.Ns mainGlobals mg)
    {C0 : Addr} (aC0 : PySem.W.nsIn K mainGlobals "SettingsFile" = some (some (.ref C0))) (pg0 : PySem.W.plainGet K C0 Str.empty = true) (hd0 : PySem.W.hasDictIn K C0 = true) (po0 : PySem.W.plainOver K C0 = true) (sa0 : PySem.W.findIn K (.ref C0) "__setattr__" = some (some (.builtin "object.__setattr__"))) (mk0 : PySem.W.makesIn K C0 = true) (kc0 : PySem.W.keepIn K (.ref C0) = true)
    (nb0 : PySem.W.findIn K (.ref C0) "__bool__" = some none)
    (na0_0 : PySem.W.findIn K (.ref C0) "text" = some none)
    (na0_1 : PySem.W.findIn K (.ref C0) "rows" = some none)
    (na0_2 : PySem.W.findIn K (.ref C0) "headers" = some none)
    (na0_3 : PySem.W.findIn K (.ref C0) "settings_read" = some none)
    (na0_4 : PySem.W.findIn K (.ref C0) "kept_read" = some none)
    (na0_5 : PySem.W.findIn K (.ref C0) "blocks" = some none)
    (na0_6 : PySem.W.findIn K (.ref C0) "loose" = some none)
    {E0 : Addr} (eg0 : PySem.W.nsIn K mainGlobals "NoPlace" = some (some (.ref E0))) (eini0 : PySem.W.excInitIn K E0 [.type "LookupError", .type "Exception", .type "BaseException", .type "object"] "LookupError.__new__" = true) (eovr0 : PySem.W.excOver K E0 [.type "LookupError", .type "Exception", .type "BaseException", .type "object"] = true) (edic0 : PySem.W.hasDictIn K E0 = true) (esa0 : PySem.W.findIn K (.ref E0) "__setattr__" = some (some (.builtin "object.__setattr__"))) (eex0 : PySem.W.subIn K (.ref E0) (.type "BaseException") = some true) (ety0 : PySem.W.typeIn K (.ref E0) = some (.type "type")) (ekc0 : PySem.W.keepIn K (.ref E0) = true) (ehg0 : PySem.W.findIn K (.ref E0) "__getattribute__" = some (some (.builtin "BaseException.__getattribute__"))) (ehk0 : PySem.W.findIn K (.ref E0) "__getattr__" = some none) (eha0 : PySem.W.findIn K (.ref E0) "__class__" = some (some (.builtin "object.__class__"))) (ehn0 : PySem.W.specialIn K (.builtin "object.__class__") "__get__" = some (some (.builtin "getset_descriptor.__get__"))) (eht0 : PySem.W.takesIn K (.builtin "object.__class__") = some true) (ehm0 : PySem.W.mroIn K E0 (.type "object") = some true) (esc0 : PySem.W.subIn K (.ref E0) (.ref E0) = some true)
    (enf0_0 : PySem.W.findIn K (.ref E0) "place" = some none)
    {O0_0 : Addr} (og0_0 : PySem.W.nsIn K mainGlobals "NoSlot" = some (some (.ref O0_0))) {odd0_0 : Option Addr} {ocd0_0 : ClassData} {osl0_0 : Array (Option Value)} (ol0_0 : K.lookup O0_0 = some ⟨.type "type", odd0_0, .cls ocd0_0, osl0_0⟩) (os0_0 : PySem.W.subIn K (.ref E0) (.ref O0_0) = some false)
    {O0_1 : Addr} (og0_1 : PySem.W.nsIn K mainGlobals "NoChain" = some (some (.ref O0_1))) {odd0_1 : Option Addr} {ocd0_1 : ClassData} {osl0_1 : Array (Option Value)} (ol0_1 : K.lookup O0_1 = some ⟨.type "type", odd0_1, .cls ocd0_1, osl0_1⟩) (os0_1 : PySem.W.subIn K (.ref E0) (.ref O0_1) = some false)
    {O0_2 : Addr} (og0_2 : PySem.W.nsIn K mainGlobals "BadText" = some (some (.ref O0_2))) {odd0_2 : Option Addr} {ocd0_2 : ClassData} {osl0_2 : Array (Option Value)} (ol0_2 : K.lookup O0_2 = some ⟨.type "type", odd0_2, .cls ocd0_2, osl0_2⟩) (os0_2 : PySem.W.subIn K (.ref E0) (.ref O0_2) = some false)
    (ebs0_0 : PySem.W.subIn K (.ref E0) (.type "LookupError") = some true)
    {f0 : Addr} {od0 an0 : Option Addr} {sl0 : Array (Option Value)} {oc0 kV0 dc0 pm0 cd0 ct0 : Value} (a0 : PySem.W.nsIn K mainGlobals "is_made_of" = some (some (.ref f0))) (l0 : K.lookup f0 = some ⟨oc0, od0, .func (PySem.W.fnOf "is_made_of" "is_made_of" (defArgs s_is_made_of) (defBody s_is_made_of) (defScope s_is_made_of) .none kV0 dc0 pm0 an0 cd0 ct0), sl0⟩) (c0 : PySem.W.codeIn K cd0 "is_made_of" = true) (k0 : PySem.W.keepIn K (.ref f0) = true)
    {f1 : Addr} {od1 an1 : Option Addr} {sl1 : Array (Option Value)} {oc1 kV1 dc1 pm1 cd1 ct1 : Value} (a1 : PySem.W.nsIn K mainGlobals "is_name" = some (some (.ref f1))) (l1 : K.lookup f1 = some ⟨oc1, od1, .func (PySem.W.fnOf "is_name" "is_name" (defArgs s_is_name) (defBody s_is_name) (defScope s_is_name) .none kV1 dc1 pm1 an1 cd1 ct1), sl1⟩) (c1 : PySem.W.codeIn K cd1 "is_name" = true) (k1 : PySem.W.keepIn K (.ref f1) = true)
    {f2 : Addr} {od2 an2 : Option Addr} {sl2 : Array (Option Value)} {oc2 kV2 dc2 pm2 cd2 ct2 : Value} (a2 : PySem.W.nsIn K mainGlobals "is_place" = some (some (.ref f2))) (l2 : K.lookup f2 = some ⟨oc2, od2, .func (PySem.W.fnOf "is_place" "is_place" (defArgs s_is_place) (defBody s_is_place) (defScope s_is_place) .none kV2 dc2 pm2 an2 cd2 ct2), sl2⟩) (c2 : PySem.W.codeIn K cd2 "is_place" = true) (k2 : PySem.W.keepIn K (.ref f2) = true)
    {f3 : Addr} {od3 an3 : Option Addr} {sl3 : Array (Option Value)} {oc3 kV3 dc3 pm3 cd3 ct3 : Value} (a3 : PySem.W.nsIn K mainGlobals "is_value" = some (some (.ref f3))) (l3 : K.lookup f3 = some ⟨oc3, od3, .func (PySem.W.fnOf "is_value" "is_value" (defArgs s_is_value) (defBody s_is_value) (defScope s_is_value) .none kV3 dc3 pm3 an3 cd3 ct3), sl3⟩) (c3 : PySem.W.codeIn K cd3 "is_value" = true) (k3 : PySem.W.keepIn K (.ref f3) = true)
    {f4 : Addr} {od4 an4 : Option Addr} {sl4 : Array (Option Value)} {oc4 kV4 dc4 pm4 cd4 ct4 : Value} (a4 : PySem.W.nsIn K mainGlobals "is_release_word" = some (some (.ref f4))) (l4 : K.lookup f4 = some ⟨oc4, od4, .func (PySem.W.fnOf "is_release_word" "is_release_word" (defArgs s_is_release_word) (defBody s_is_release_word) (defScope s_is_release_word) .none kV4 dc4 pm4 an4 cd4 ct4), sl4⟩) (c4 : PySem.W.codeIn K cd4 "is_release_word" = true) (k4 : PySem.W.keepIn K (.ref f4) = true)
    {f5 : Addr} {od5 an5 : Option Addr} {sl5 : Array (Option Value)} {oc5 kV5 dc5 pm5 cd5 ct5 : Value} (a5 : PySem.W.nsIn K mainGlobals "is_header" = some (some (.ref f5))) (l5 : K.lookup f5 = some ⟨oc5, od5, .func (PySem.W.fnOf "is_header" "is_header" (defArgs s_is_header) (defBody s_is_header) (defScope s_is_header) .none kV5 dc5 pm5 an5 cd5 ct5), sl5⟩) (c5 : PySem.W.codeIn K cd5 "is_header" = true) (k5 : PySem.W.keepIn K (.ref f5) = true)
    {f6 : Addr} {od6 an6 : Option Addr} {sl6 : Array (Option Value)} {oc6 kV6 dc6 pm6 cd6 ct6 : Value} (a6 : PySem.W.nsIn K mainGlobals "is_loose" = some (some (.ref f6))) (l6 : K.lookup f6 = some ⟨oc6, od6, .func (PySem.W.fnOf "is_loose" "is_loose" (defArgs s_is_loose) (defBody s_is_loose) (defScope s_is_loose) .none kV6 dc6 pm6 an6 cd6 ct6), sl6⟩) (c6 : PySem.W.codeIn K cd6 "is_loose" = true) (k6 : PySem.W.keepIn K (.ref f6) = true)
    {f7 : Addr} {od7 an7 : Option Addr} {sl7 : Array (Option Value)} {oc7 kV7 dc7 pm7 cd7 ct7 : Value} (a7 : PySem.W.nsIn K mainGlobals "read_setting" = some (some (.ref f7))) (l7 : K.lookup f7 = some ⟨oc7, od7, .func (PySem.W.fnOf "read_setting" "read_setting" (defArgs s_read_setting) (defBody s_read_setting) (defScope s_read_setting) .none kV7 dc7 pm7 an7 cd7 ct7), sl7⟩) (c7 : PySem.W.codeIn K cd7 "read_setting" = true) (k7 : PySem.W.keepIn K (.ref f7) = true)
    {f8 : Addr} {od8 an8 : Option Addr} {sl8 : Array (Option Value)} {oc8 kV8 dc8 pm8 cd8 ct8 : Value} (a8 : PySem.W.nsIn K mainGlobals "read_kept" = some (some (.ref f8))) (l8 : K.lookup f8 = some ⟨oc8, od8, .func (PySem.W.fnOf "read_kept" "read_kept" (defArgs s_read_kept) (defBody s_read_kept) (defScope s_read_kept) .none kV8 dc8 pm8 an8 cd8 ct8), sl8⟩) (c8 : PySem.W.codeIn K cd8 "read_kept" = true) (k8 : PySem.W.keepIn K (.ref f8) = true)
    {f9 : Addr} {od9 an9 : Option Addr} {sl9 : Array (Option Value)} {oc9 kV9 dc9 pm9 cd9 ct9 : Value} (a9 : PySem.W.nsIn K mainGlobals "_law_bag" = some (some (.ref f9))) (l9 : K.lookup f9 = some ⟨oc9, od9, .func (PySem.W.fnOf "_law_bag" "_law_bag" (defArgs s_L_bag) (defBody s_L_bag) (defScope s_L_bag) .none kV9 dc9 pm9 an9 cd9 ct9), sl9⟩) (c9 : PySem.W.codeIn K cd9 "_law_bag" = true) (k9 : PySem.W.keepIn K (.ref f9) = true)
    {f10 : Addr} {od10 an10 : Option Addr} {sl10 : Array (Option Value)} {oc10 kV10 dc10 pm10 cd10 ct10 : Value} (a10 : PySem.W.nsIn K mainGlobals "_law_take" = some (some (.ref f10))) (l10 : K.lookup f10 = some ⟨oc10, od10, .func (PySem.W.fnOf "_law_take" "_law_take" (defArgs s_L_take) (defBody s_L_take) (defScope s_L_take) .none kV10 dc10 pm10 an10 cd10 ct10), sl10⟩) (c10 : PySem.W.codeIn K cd10 "_law_take" = true) (k10 : PySem.W.keepIn K (.ref f10) = true)
    {f11 : Addr} {od11 an11 : Option Addr} {sl11 : Array (Option Value)} {oc11 kV11 dc11 pm11 cd11 ct11 : Value} (a11 : PySem.W.nsIn K mainGlobals "_law_of" = some (some (.ref f11))) (l11 : K.lookup f11 = some ⟨oc11, od11, .func (PySem.W.fnOf "_law_of" "_law_of" (defArgs s_L_of) (defBody s_L_of) (defScope s_L_of) .none kV11 dc11 pm11 an11 cd11 ct11), sl11⟩) (c11 : PySem.W.codeIn K cd11 "_law_of" = true) (k11 : PySem.W.keepIn K (.ref f11) = true)
    {f12 : Addr} {od12 an12 : Option Addr} {sl12 : Array (Option Value)} {oc12 kV12 dc12 pm12 cd12 ct12 : Value} (a12 : PySem.W.nsIn K mainGlobals "_law_raised" = some (some (.ref f12))) (l12 : K.lookup f12 = some ⟨oc12, od12, .func (PySem.W.fnOf "_law_raised" "_law_raised" (defArgs s_L_raised) (defBody s_L_raised) (defScope s_L_raised) .none kV12 dc12 pm12 an12 cd12 ct12), sl12⟩) (c12 : PySem.W.codeIn K cd12 "_law_raised" = true) (k12 : PySem.W.keepIn K (.ref f12) = true)
    {f13 : Addr} {od13 an13 : Option Addr} {sl13 : Array (Option Value)} {oc13 kV13 dc13 pm13 cd13 ct13 : Value} (a13 : PySem.W.nsIn K mainGlobals "_law_object" = some (some (.ref f13))) (l13 : K.lookup f13 = some ⟨oc13, od13, .func (PySem.W.fnOf "_law_object" "_law_object" (defArgs s_L_object) (defBody s_L_object) (defScope s_L_object) .none kV13 dc13 pm13 an13 cd13 ct13), sl13⟩) (c13 : PySem.W.codeIn K cd13 "_law_object" = true) (k13 : PySem.W.keepIn K (.ref f13) = true)
    {f14 : Addr} {od14 an14 : Option Addr} {sl14 : Array (Option Value)} {oc14 kV14 dc14 pm14 cd14 ct14 : Value} (a14 : PySem.W.nsIn K mainGlobals "_law_is_right" = some (some (.ref f14))) (l14 : K.lookup f14 = some ⟨oc14, od14, .func (PySem.W.fnOf "_law_is_right" "_law_is_right" (defArgs s_L_is_right) (defBody s_L_is_right) (defScope s_L_is_right) .none kV14 dc14 pm14 an14 cd14 ct14), sl14⟩) (c14 : PySem.W.codeIn K cd14 "_law_is_right" = true) (k14 : PySem.W.keepIn K (.ref f14) = true)
    {cc14 pp14 : Addr} (tb14 : PySem.W.tabIn K "_law_is_right" = some (cc14, pp14)) (np14 : K.lookup pp14 = none) (co14 : cd14 = .ref cc14)
    {f15 : Addr} {od15 an15 : Option Addr} {sl15 : Array (Option Value)} {oc15 kV15 dc15 pm15 cd15 ct15 : Value} (a15 : PySem.W.nsIn K mainGlobals "law" = some (some (.ref f15))) (l15 : K.lookup f15 = some ⟨oc15, od15, .func (PySem.W.fnOf "law" "law" (defArgs s_law) (defBody s_law) (defScope s_law) .none kV15 dc15 pm15 an15 cd15 ct15), sl15⟩) (c15 : PySem.W.codeIn K cd15 "law" = true) (k15 : PySem.W.keepIn K (.ref f15) = true)
    {f16 : Addr} {od16 an16 : Option Addr} {sl16 : Array (Option Value)} {oc16 kV16 dc16 pm16 cd16 ct16 : Value} (a16 : PySem.W.findIn K (.ref C0) "__init__" = some (some (.ref f16))) (i16 : PySem.W.isFn K (.ref f16) = true) (l16 : K.lookup f16 = some ⟨oc16, od16, .func (PySem.W.fnOf "__init__" "SettingsFile.__init__" (defArgs s_SettingsFile___init__) (defBody s_SettingsFile___init__) (defScope s_SettingsFile___init__) .none kV16 dc16 pm16 an16 cd16 ct16), sl16⟩) (c16 : PySem.W.codeIn K cd16 "SettingsFile.__init__" = true) (k16 : PySem.W.keepIn K (.ref f16) = true)
    {f17 : Addr} {od17 an17 : Option Addr} {sl17 : Array (Option Value)} {oc17 kV17 dc17 pm17 cd17 ct17 : Value} (a17 : PySem.W.findIn K (.ref C0) "take" = some (some (.ref f17))) (i17 : PySem.W.isFn K (.ref f17) = true) (l17 : K.lookup f17 = some ⟨oc17, od17, .func (PySem.W.fnOf "take" "SettingsFile.take" (defArgs s_SettingsFile_take) (defBody s_SettingsFile_take) (defScope s_SettingsFile_take) .none kV17 dc17 pm17 an17 cd17 ct17), sl17⟩) (c17 : PySem.W.codeIn K cd17 "SettingsFile.take" = true) (k17 : PySem.W.keepIn K (.ref f17) = true)
    {f18 : Addr} {od18 an18 : Option Addr} {sl18 : Array (Option Value)} {oc18 kV18 dc18 pm18 cd18 ct18 : Value} (a18 : PySem.W.findIn K (.ref C0) "take_kept" = some (some (.ref f18))) (i18 : PySem.W.isFn K (.ref f18) = true) (l18 : K.lookup f18 = some ⟨oc18, od18, .func (PySem.W.fnOf "take_kept" "SettingsFile.take_kept" (defArgs s_SettingsFile_take_kept) (defBody s_SettingsFile_take_kept) (defScope s_SettingsFile_take_kept) .none kV18 dc18 pm18 an18 cd18 ct18), sl18⟩) (c18 : PySem.W.codeIn K cd18 "SettingsFile.take_kept" = true) (k18 : PySem.W.keepIn K (.ref f18) = true)
    {f19 : Addr} {od19 an19 : Option Addr} {sl19 : Array (Option Value)} {oc19 kV19 dc19 pm19 cd19 ct19 : Value} (a19 : PySem.W.findIn K (.ref C0) "take_header" = some (some (.ref f19))) (i19 : PySem.W.isFn K (.ref f19) = true) (l19 : K.lookup f19 = some ⟨oc19, od19, .func (PySem.W.fnOf "take_header" "SettingsFile.take_header" (defArgs s_SettingsFile_take_header) (defBody s_SettingsFile_take_header) (defScope s_SettingsFile_take_header) .none kV19 dc19 pm19 an19 cd19 ct19), sl19⟩) (c19 : PySem.W.codeIn K cd19 "SettingsFile.take_header" = true) (k19 : PySem.W.keepIn K (.ref f19) = true)
    {f20 : Addr} {od20 an20 : Option Addr} {sl20 : Array (Option Value)} {oc20 kV20 dc20 pm20 cd20 ct20 : Value} (a20 : PySem.W.findIn K (.ref C0) "take_setting" = some (some (.ref f20))) (i20 : PySem.W.isFn K (.ref f20) = true) (l20 : K.lookup f20 = some ⟨oc20, od20, .func (PySem.W.fnOf "take_setting" "SettingsFile.take_setting" (defArgs s_SettingsFile_take_setting) (defBody s_SettingsFile_take_setting) (defScope s_SettingsFile_take_setting) .none kV20 dc20 pm20 an20 cd20 ct20), sl20⟩) (c20 : PySem.W.codeIn K cd20 "SettingsFile.take_setting" = true) (k20 : PySem.W.keepIn K (.ref f20) = true)
    {f21 : Addr} {od21 an21 : Option Addr} {sl21 : Array (Option Value)} {oc21 kV21 dc21 pm21 cd21 ct21 : Value} (a21 : PySem.W.findIn K (.ref C0) "close_block" = some (some (.ref f21))) (i21 : PySem.W.isFn K (.ref f21) = true) (l21 : K.lookup f21 = some ⟨oc21, od21, .func (PySem.W.fnOf "close_block" "SettingsFile.close_block" (defArgs s_SettingsFile_close_block) (defBody s_SettingsFile_close_block) (defScope s_SettingsFile_close_block) .none kV21 dc21 pm21 an21 cd21 ct21), sl21⟩) (c21 : PySem.W.codeIn K cd21 "SettingsFile.close_block" = true) (k21 : PySem.W.keepIn K (.ref f21) = true)
    {f22 : Addr} {od22 an22 : Option Addr} {sl22 : Array (Option Value)} {oc22 kV22 dc22 pm22 cd22 ct22 : Value} (a22 : PySem.W.findIn K (.ref C0) "value" = some (some (.ref f22))) (i22 : PySem.W.isFn K (.ref f22) = true) (l22 : K.lookup f22 = some ⟨oc22, od22, .func (PySem.W.fnOf "value" "SettingsFile.value" (defArgs s_SettingsFile_value) (defBody s_SettingsFile_value) (defScope s_SettingsFile_value) .none kV22 dc22 pm22 an22 cd22 ct22), sl22⟩) (c22 : PySem.W.codeIn K cd22 "SettingsFile.value" = true) (k22 : PySem.W.keepIn K (.ref f22) = true)
    {f23 : Addr} {od23 an23 : Option Addr} {sl23 : Array (Option Value)} {oc23 kV23 dc23 pm23 cd23 ct23 : Value} (a23 : PySem.W.findIn K (.ref C0) "block" = some (some (.ref f23))) (i23 : PySem.W.isFn K (.ref f23) = true) (l23 : K.lookup f23 = some ⟨oc23, od23, .func (PySem.W.fnOf "block" "SettingsFile.block" (defArgs s_SettingsFile_block) (defBody s_SettingsFile_block) (defScope s_SettingsFile_block) .none kV23 dc23 pm23 an23 cd23 ct23), sl23⟩) (c23 : PySem.W.codeIn K cd23 "SettingsFile.block" = true) (k23 : PySem.W.keepIn K (.ref f23) = true)
    {f24 : Addr} {od24 an24 : Option Addr} {sl24 : Array (Option Value)} {oc24 kV24 dc24 pm24 cd24 ct24 : Value} (a24 : PySem.W.findIn K (.ref C0) "__contains__" = some (some (.ref f24))) (i24 : PySem.W.isFn K (.ref f24) = true) (l24 : K.lookup f24 = some ⟨oc24, od24, .func (PySem.W.fnOf "__contains__" "SettingsFile.__contains__" (defArgs s_SettingsFile___contains__) (defBody s_SettingsFile___contains__) (defScope s_SettingsFile___contains__) .none kV24 dc24 pm24 an24 cd24 ct24), sl24⟩) (c24 : PySem.W.codeIn K cd24 "SettingsFile.__contains__" = true) (k24 : PySem.W.keepIn K (.ref f24) = true)
    {f25 : Addr} {od25 an25 : Option Addr} {sl25 : Array (Option Value)} {oc25 kV25 dc25 pm25 cd25 ct25 : Value} (a25 : PySem.W.findIn K (.ref E0) "__init__" = some (some (.ref f25))) (i25 : PySem.W.typeIn K (.ref f25) = some (.type "function")) (l25 : K.lookup f25 = some ⟨oc25, od25, .func (PySem.W.fnOf "__init__" "NoPlace.__init__" (defArgs s_NoPlace___init__) (defBody s_NoPlace___init__) (defScope s_NoPlace___init__) .none kV25 dc25 pm25 an25 cd25 ct25), sl25⟩) (c25 : PySem.W.codeIn K cd25 "NoPlace.__init__" = true) (k25 : PySem.W.keepIn K (.ref f25) = true)
    {t0 : Tok} (q0 : PySem.W.nsIn K mainGlobals "LONGEST_NAME" = some (some (.int 8 t0)))
    {t1 : Tok} (q1 : PySem.W.nsIn K mainGlobals "LETTERS" = some (some (.str "abcdefghijklmnopqrstuvwxyz" t1)))
    {t2 : Tok} (q2 : PySem.W.nsIn K mainGlobals "LONGEST_VALUE" = some (some (.int 12 t2)))
    {t3 : Tok} (q3 : PySem.W.nsIn K mainGlobals "DIGITS" = some (some (.str "0123456789" t3)))
    {t4 : Tok} (q4 : PySem.W.nsIn K mainGlobals "LONGEST_RELEASE" = some (some (.int 2 t4)))
    {t5 : Tok} (q5 : PySem.W.nsIn K mainGlobals "KEPT_MARK" = some (some (.str "#~" t5)))
    (z0 : PySem.W.nsIn K mainGlobals "LookupError" = some none)
    (z1 : PySem.W.nsIn K mainGlobals "len" = some none)
    (z2 : PySem.W.nsIn K mainGlobals "isinstance" = some none)
    (z3 : PySem.W.nsIn K mainGlobals "str" = some none)
    (z4 : PySem.W.nsIn K mainGlobals "all" = some none)
    (z5 : PySem.W.nsIn K mainGlobals "int" = some none)
    (z6 : PySem.W.nsIn K mainGlobals "enumerate" = some none)
    (z7 : PySem.W.nsIn K mainGlobals "abs" = some none)
    (z8 : PySem.W.nsIn K mainGlobals "repr" = some none)
    (z9 : PySem.W.nsIn K mainGlobals "list" = some none)
    (z10 : PySem.W.nsIn K mainGlobals "range" = some none)
    (z11 : PySem.W.nsIn K mainGlobals "max" = some none)
    (z12 : PySem.W.nsIn K mainGlobals "min" = some none) : Top K mg := {
    C_SettingsFile := C0, cl_SettingsFile := ⟨pg0, hd0, po0, sa0⟩, g_SettingsFile := PySem.W.mg_of X G aC0,
    nb_SettingsFile := nb0,
    no_SettingsFile_text := na0_0,
    no_SettingsFile_rows := na0_1,
    no_SettingsFile_headers := na0_2,
    no_SettingsFile_settings_read := na0_3,
    no_SettingsFile_kept_read := na0_4,
    no_SettingsFile_blocks := na0_5,
    no_SettingsFile_loose := na0_6,
    C_NoPlace := E0, g_NoPlace := PySem.W.mg_of X G eg0, ox_NoPlace := ⟨PySem.F.excBase_LookupError, PySem.F.store_LookupError, eini0, eovr0, edic0, esa0, eex0, ety0, ekc0⟩, ec_NoPlace := ⟨ehg0, ehk0, eex0, edic0, eha0, ehn0, eht0, ehm0⟩, xm_NoPlace := PySem.W.exm_ref eex0 edic0 ety0 esc0,
    nf_NoPlace_place := enf0_0,
    C_NoSlot := O0_0, g_NoSlot := PySem.W.mg_of X G og0_0, ko_NoPlace_NoSlot := kit_other ol0_0 esc0 os0_0,
    C_NoChain := O0_1, g_NoChain := PySem.W.mg_of X G og0_1, ko_NoPlace_NoChain := kit_other ol0_1 esc0 os0_1,
    C_BadText := O0_2, g_BadText := PySem.W.mg_of X G og0_2, ko_NoPlace_BadText := kit_other ol0_2 esc0 os0_2,
    kt_NoPlace_LookupError := kit_base (by decide +kernel) ebs0_0,
    f_is_made_of := f0, d_is_made_of := _, F_is_made_of := fun_mk (st := s_is_made_of) l0 c0 k0, b_is_made_of := (fun_mk (st := s_is_made_of) l0 c0 k0).binds (ps := ["thing", "characters", "most"]) (fun _ _ _ _ _ _ us hl => match us, hl with | [_, _, _], _ => rfl), g_is_made_of := PySem.W.mg_of X G a0,
    f_is_name := f1, d_is_name := _, F_is_name := fun_mk (st := s_is_name) l1 c1 k1, b_is_name := (fun_mk (st := s_is_name) l1 c1 k1).binds (ps := ["thing"]) (fun _ _ _ _ _ _ us hl => match us, hl with | [_], _ => rfl), g_is_name := PySem.W.mg_of X G a1,
    f_is_place := f2, d_is_place := _, F_is_place := fun_mk (st := s_is_place) l2 c2 k2, b_is_place := (fun_mk (st := s_is_place) l2 c2 k2).binds (ps := ["thing"]) (fun _ _ _ _ _ _ us hl => match us, hl with | [_], _ => rfl), g_is_place := PySem.W.mg_of X G a2,
    f_is_value := f3, d_is_value := _, F_is_value := fun_mk (st := s_is_value) l3 c3 k3, b_is_value := (fun_mk (st := s_is_value) l3 c3 k3).binds (ps := ["thing"]) (fun _ _ _ _ _ _ us hl => match us, hl with | [_], _ => rfl), g_is_value := PySem.W.mg_of X G a3,
    f_is_release_word := f4, d_is_release_word := _, F_is_release_word := fun_mk (st := s_is_release_word) l4 c4 k4, b_is_release_word := (fun_mk (st := s_is_release_word) l4 c4 k4).binds (ps := ["thing"]) (fun _ _ _ _ _ _ us hl => match us, hl with | [_], _ => rfl), g_is_release_word := PySem.W.mg_of X G a4,
    f_is_header := f5, d_is_header := _, F_is_header := fun_mk (st := s_is_header) l5 c5 k5, b_is_header := (fun_mk (st := s_is_header) l5 c5 k5).binds (ps := ["line"]) (fun _ _ _ _ _ _ us hl => match us, hl with | [_], _ => rfl), g_is_header := PySem.W.mg_of X G a5,
    f_is_loose := f6, d_is_loose := _, F_is_loose := fun_mk (st := s_is_loose) l6 c6 k6, b_is_loose := (fun_mk (st := s_is_loose) l6 c6 k6).binds (ps := ["line"]) (fun _ _ _ _ _ _ us hl => match us, hl with | [_], _ => rfl), g_is_loose := PySem.W.mg_of X G a6,
    f_read_setting := f7, d_read_setting := _, F_read_setting := fun_mk (st := s_read_setting) l7 c7 k7, b_read_setting := (fun_mk (st := s_read_setting) l7 c7 k7).binds (ps := ["line"]) (fun _ _ _ _ _ _ us hl => match us, hl with | [_], _ => rfl), g_read_setting := PySem.W.mg_of X G a7,
    f_read_kept := f8, d_read_kept := _, F_read_kept := fun_mk (st := s_read_kept) l8 c8 k8, b_read_kept := (fun_mk (st := s_read_kept) l8 c8 k8).binds (ps := ["line"]) (fun _ _ _ _ _ _ us hl => match us, hl with | [_], _ => rfl), g_read_kept := PySem.W.mg_of X G a8,
    f__law_bag := f9, d__law_bag := _, F__law_bag := fun_mk (st := s_L_bag) l9 c9 k9, b__law_bag := (fun_mk (st := s_L_bag) l9 c9 k9).binds (ps := ["_law_script", "_law_at"]) (fun _ _ _ _ _ _ us hl => match us, hl with | [_, _], _ => rfl), g__law_bag := PySem.W.mg_of X G a9,
    f__law_take := f10, d__law_take := _, F__law_take := fun_mk (st := s_L_take) l10 c10 k10, b__law_take := (fun_mk (st := s_L_take) l10 c10 k10).binds (ps := ["_law_bag_here", "_law_many"]) (fun _ _ _ _ _ _ us hl => match us, hl with | [_, _], _ => rfl), g__law_take := PySem.W.mg_of X G a10,
    f__law_of := f11, d__law_of := _, F__law_of := fun_mk (st := s_L_of) l11 c11 k11, b__law_of := (fun_mk (st := s_L_of) l11 c11 k11).binds (ps := ["_law_bag_here", "_law_some"]) (fun _ _ _ _ _ _ us hl => match us, hl with | [_, _], _ => rfl), g__law_of := PySem.W.mg_of X G a11,
    f__law_raised := f12, d__law_raised := _, F__law_raised := fun_mk (st := s_L_raised) l12 c12 k12, b__law_raised := (fun_mk (st := s_L_raised) l12 c12 k12).binds (ps := ["_law_deed"]) (fun _ _ _ _ _ _ us hl => match us, hl with | [_], _ => rfl), g__law_raised := PySem.W.mg_of X G a12,
    f__law_object := f13, d__law_object := _, F__law_object := fun_mk (st := s_L_object) l13 c13 k13, b__law_object := (fun_mk (st := s_L_object) l13 c13 k13).binds (ps := ["_law_bag_here", "_law_names"]) (fun _ _ _ _ _ _ us hl => match us, hl with | [_, _], _ => rfl), g__law_object := PySem.W.mg_of X G a13,
    f__law_is_right := f14, d__law_is_right := _, F__law_is_right := fun_mk (st := s_L_is_right) l14 c14 k14, b__law_is_right := (fun_mk (st := s_L_is_right) l14 c14 k14).binds (ps := ["_law_file", "_law_what", "_law_worths", "_law_heads"]) (fun _ _ _ _ _ _ us hl => match us, hl with | [_, _, _, _], _ => rfl), g__law_is_right := PySem.W.mg_of X G a14, cc__law_is_right := cc14, pp__law_is_right := pp14, co__law_is_right := co14, ti__law_is_right := tb14, np__law_is_right := np14,
    f_law := f15, d_law := _, F_law := fun_mk (st := s_law) l15 c15 k15, b_law := (fun_mk (st := s_law) l15 c15 k15).binds (ps := ["_law_script"]) (fun _ _ _ _ _ _ us hl => match us, hl with | [_], _ => rfl), g_law := PySem.W.mg_of X G a15,
    f_SettingsFile___init__ := f16, d_SettingsFile___init__ := _, F_SettingsFile___init__ := fun_mk (st := s_SettingsFile___init__) l16 c16 k16, b_SettingsFile___init__ := (fun_mk (st := s_SettingsFile___init__) l16 c16 k16).binds (ps := ["self", "text"]) (fun _ _ _ _ _ _ us hl => match us, hl with | [_, _], _ => rfl), mk_SettingsFile := ⟨mk0, a16, i16, kc0⟩,
    f_SettingsFile_take := f17, d_SettingsFile_take := _, F_SettingsFile_take := fun_mk (st := s_SettingsFile_take) l17 c17 k17, b_SettingsFile_take := (fun_mk (st := s_SettingsFile_take) l17 c17 k17).binds (ps := ["self", "line"]) (fun _ _ _ _ _ _ us hl => match us, hl with | [_, _], _ => rfl), me_SettingsFile_take := ⟨a17, i17, k17⟩,
    f_SettingsFile_take_kept := f18, d_SettingsFile_take_kept := _, F_SettingsFile_take_kept := fun_mk (st := s_SettingsFile_take_kept) l18 c18 k18, b_SettingsFile_take_kept := (fun_mk (st := s_SettingsFile_take_kept) l18 c18 k18).binds (ps := ["self", "line"]) (fun _ _ _ _ _ _ us hl => match us, hl with | [_, _], _ => rfl), me_SettingsFile_take_kept := ⟨a18, i18, k18⟩,
    f_SettingsFile_take_header := f19, d_SettingsFile_take_header := _, F_SettingsFile_take_header := fun_mk (st := s_SettingsFile_take_header) l19 c19 k19, b_SettingsFile_take_header := (fun_mk (st := s_SettingsFile_take_header) l19 c19 k19).binds (ps := ["self", "name"]) (fun _ _ _ _ _ _ us hl => match us, hl with | [_, _], _ => rfl), me_SettingsFile_take_header := ⟨a19, i19, k19⟩,
    f_SettingsFile_take_setting := f20, d_SettingsFile_take_setting := _, F_SettingsFile_take_setting := fun_mk (st := s_SettingsFile_take_setting) l20 c20 k20, b_SettingsFile_take_setting := (fun_mk (st := s_SettingsFile_take_setting) l20 c20 k20).binds (ps := ["self", "key", "value"]) (fun _ _ _ _ _ _ us hl => match us, hl with | [_, _, _], _ => rfl), me_SettingsFile_take_setting := ⟨a20, i20, k20⟩,
    f_SettingsFile_close_block := f21, d_SettingsFile_close_block := _, F_SettingsFile_close_block := fun_mk (st := s_SettingsFile_close_block) l21 c21 k21, b_SettingsFile_close_block := (fun_mk (st := s_SettingsFile_close_block) l21 c21 k21).binds (ps := ["self", "thing"]) (fun _ _ _ _ _ _ us hl => match us, hl with | [_, _], _ => rfl), me_SettingsFile_close_block := ⟨a21, i21, k21⟩,
    f_SettingsFile_value := f22, d_SettingsFile_value := _, F_SettingsFile_value := fun_mk (st := s_SettingsFile_value) l22 c22 k22, b_SettingsFile_value := (fun_mk (st := s_SettingsFile_value) l22 c22 k22).binds (ps := ["self", "place"]) (fun _ _ _ _ _ _ us hl => match us, hl with | [_, _], _ => rfl), me_SettingsFile_value := ⟨a22, i22, k22⟩,
    kb_SettingsFile_value := (fun s u ws _ hl => match ws, hl with | [_], _ => .of_eq rfl),
    f_SettingsFile_block := f23, d_SettingsFile_block := _, F_SettingsFile_block := fun_mk (st := s_SettingsFile_block) l23 c23 k23, b_SettingsFile_block := (fun_mk (st := s_SettingsFile_block) l23 c23 k23).binds (ps := ["self", "thing"]) (fun _ _ _ _ _ _ us hl => match us, hl with | [_, _], _ => rfl), me_SettingsFile_block := ⟨a23, i23, k23⟩,
    f_SettingsFile___contains__ := f24, d_SettingsFile___contains__ := _, F_SettingsFile___contains__ := fun_mk (st := s_SettingsFile___contains__) l24 c24 k24, b_SettingsFile___contains__ := (fun_mk (st := s_SettingsFile___contains__) l24 c24 k24).binds (ps := ["self", "x"]) (fun _ _ _ _ _ _ us hl => match us, hl with | [_, _], _ => rfl), me_SettingsFile___contains__ := ⟨a24, i24, k24⟩,
    f_NoPlace___init__ := f25, d_NoPlace___init__ := _, F_NoPlace___init__ := fun_mk (st := s_NoPlace___init__) l25 c25 k25, b_NoPlace___init__ := (fun_mk (st := s_NoPlace___init__) l25 c25 k25).binds (ps := ["self", "place"]) (fun _ _ _ _ _ _ us hl => match us, hl with | [_, _], _ => rfl), ei_NoPlace := a25, et_NoPlace := i25,
    t_LONGEST_NAME := t0, g_LONGEST_NAME := PySem.W.mg_of X G q0,
    t_LETTERS := t1, g_LETTERS := PySem.W.mg_of X G q1,
    t_LONGEST_VALUE := t2, g_LONGEST_VALUE := PySem.W.mg_of X G q2,
    t_DIGITS := t3, g_DIGITS := PySem.W.mg_of X G q3,
    t_LONGEST_RELEASE := t4, g_LONGEST_RELEASE := PySem.W.mg_of X G q4,
    t_KEPT_MARK := t5, g_KEPT_MARK := PySem.W.mg_of X G q5,
    m_LookupError := PySem.W.mg_none_of X G z0,
    m_len := PySem.W.mg_none_of X G z1,
    m_isinstance := PySem.W.mg_none_of X G z2,
    m_str := PySem.W.mg_none_of X G z3,
    m_all := PySem.W.mg_none_of X G z4,
    m_int := PySem.W.mg_none_of X G z5,
    m_enumerate := PySem.W.mg_none_of X G z6,
    m_abs := PySem.W.mg_none_of X G z7,
    m_repr := PySem.W.mg_none_of X G z8,
    m_list := PySem.W.mg_none_of X G z9,
    m_range := PySem.W.mg_none_of X G z10,
    m_max := PySem.W.mg_none_of X G z11,
    m_min := PySem.W.mg_none_of X G z12 }
theorem all_mk {l : PySem.W.OpenLaw} {q : Program} (hq : ∃ r, (recsOf q).find? (fun e => e.name == ("_law_is_right" : Str)) = some r) {w : World} {K : PySem.W.Frag} {h : Heap} {mg : Str → Option Value} {fa : Addr} (X : K.In h) (G : h.Ns mainGlobals mg) (hfa : mg "law" = some (.ref fa))
    {C0 : Addr} (aC0 : PySem.W.nsIn K mainGlobals "SettingsFile" = some (some (.ref C0))) (pg0 : PySem.W.plainGet K C0 Str.empty = true) (hd0 : PySem.W.hasDictIn K C0 = true) (po0 : PySem.W.plainOver K C0 = true) (sa0 : PySem.W.findIn K (.ref C0) "__setattr__" = some (some (.builtin "object.__setattr__"))) (mk0 : PySem.W.makesIn K C0 = true) (kc0 : PySem.W.keepIn K (.ref C0) = true)
    (nb0 : PySem.W.findIn K (.ref C0) "__bool__" = some none)
    (na0_0 : PySem.W.findIn K (.ref C0) "text" = some none)
    (na0_1 : PySem.W.findIn K (.ref C0) "rows" = some none)
    (na0_2 : PySem.W.findIn K (.ref C0) "headers" = some none)
    (na0_3 : PySem.W.findIn K (.ref C0) "settings_read" = some none)
    (na0_4 : PySem.W.findIn K (.ref C0) "kept_read" = some none)
    (na0_5 : PySem.W.findIn K (.ref C0) "blocks" = some none)
    (na0_6 : PySem.W.findIn K (.ref C0) "loose" = some none)
    {E0 : Addr} (eg0 : PySem.W.nsIn K mainGlobals "NoPlace" = some (some (.ref E0))) (eini0 : PySem.W.excInitIn K E0 [.type "LookupError", .type "Exception", .type "BaseException", .type "object"] "LookupError.__new__" = true) (eovr0 : PySem.W.excOver K E0 [.type "LookupError", .type "Exception", .type "BaseException", .type "object"] = true) (edic0 : PySem.W.hasDictIn K E0 = true) (esa0 : PySem.W.findIn K (.ref E0) "__setattr__" = some (some (.builtin "object.__setattr__"))) (eex0 : PySem.W.subIn K (.ref E0) (.type "BaseException") = some true) (ety0 : PySem.W.typeIn K (.ref E0) = some (.type "type")) (ekc0 : PySem.W.keepIn K (.ref E0) = true) (ehg0 : PySem.W.findIn K (.ref E0) "__getattribute__" = some (some (.builtin "BaseException.__getattribute__"))) (ehk0 : PySem.W.findIn K (.ref E0) "__getattr__" = some none) (eha0 : PySem.W.findIn K (.ref E0) "__class__" = some (some (.builtin "object.__class__"))) (ehn0 : PySem.W.specialIn K (.builtin "object.__class__") "__get__" = some (some (.builtin "getset_descriptor.__get__"))) (eht0 : PySem.W.takesIn K (.builtin "object.__class__") = some true) (ehm0 : PySem.W.mroIn K E0 (.type "object") = some true) (esc0 : PySem.W.subIn K (.ref E0) (.ref E0) = some true)
    (enf0_0 : PySem.W.findIn K (.ref E0) "place" = some none)
    {O0_0 : Addr} (og0_0 : PySem.W.nsIn K mainGlobals "NoSlot" = some (some (.ref O0_0))) {odd0_0 : Option Addr} {ocd0_0 : ClassData} {osl0_0 : Array (Option Value)} (ol0_0 : K.lookup O0_0 = some ⟨.type "type", odd0_0, .cls ocd0_0, osl0_0⟩) (os0_0 : PySem.W.subIn K (.ref E0) (.ref O0_0) = some false)
    {O0_1 : Addr} (og0_1 : PySem.W.nsIn K mainGlobals "NoChain" = some (some (.ref O0_1))) {odd0_1 : Option Addr} {ocd0_1 : ClassData} {osl0_1 : Array (Option Value)} (ol0_1 : K.lookup O0_1 = some ⟨.type "type", odd0_1, .cls ocd0_1, osl0_1⟩) (os0_1 : PySem.W.subIn K (.ref E0) (.ref O0_1) = some false)
    {O0_2 : Addr} (og0_2 : PySem.W.nsIn K mainGlobals "BadText" = some (some (.ref O0_2))) {odd0_2 : Option Addr} {ocd0_2 : ClassData} {osl0_2 : Array (Option Value)} (ol0_2 : K.lookup O0_2 = some ⟨.type "type", odd0_2, .cls ocd0_2, osl0_2⟩) (os0_2 : PySem.W.subIn K (.ref E0) (.ref O0_2) = some false)
    (ebs0_0 : PySem.W.subIn K (.ref E0) (.type "LookupError") = some true)
    {f0 : Addr} {od0 an0 : Option Addr} {sl0 : Array (Option Value)} {oc0 kV0 dc0 pm0 cd0 ct0 : Value} (a0 : PySem.W.nsIn K mainGlobals "is_made_of" = some (some (.ref f0))) (l0 : K.lookup f0 = some ⟨oc0, od0, .func (PySem.W.fnOf "is_made_of" "is_made_of" (defArgs s_is_made_of) (defBody s_is_made_of) (defScope s_is_made_of) .none kV0 dc0 pm0 an0 cd0 ct0), sl0⟩) (c0 : PySem.W.codeIn K cd0 "is_made_of" = true) (k0 : PySem.W.keepIn K (.ref f0) = true)
    {f1 : Addr} {od1 an1 : Option Addr} {sl1 : Array (Option Value)} {oc1 kV1 dc1 pm1 cd1 ct1 : Value} (a1 : PySem.W.nsIn K mainGlobals "is_name" = some (some (.ref f1))) (l1 : K.lookup f1 = some ⟨oc1, od1, .func (PySem.W.fnOf "is_name" "is_name" (defArgs s_is_name) (defBody s_is_name) (defScope s_is_name) .none kV1 dc1 pm1 an1 cd1 ct1), sl1⟩) (c1 : PySem.W.codeIn K cd1 "is_name" = true) (k1 : PySem.W.keepIn K (.ref f1) = true)
    {f2 : Addr} {od2 an2 : Option Addr} {sl2 : Array (Option Value)} {oc2 kV2 dc2 pm2 cd2 ct2 : Value} (a2 : PySem.W.nsIn K mainGlobals "is_place" = some (some (.ref f2))) (l2 : K.lookup f2 = some ⟨oc2, od2, .func (PySem.W.fnOf "is_place" "is_place" (defArgs s_is_place) (defBody s_is_place) (defScope s_is_place) .none kV2 dc2 pm2 an2 cd2 ct2), sl2⟩) (c2 : PySem.W.codeIn K cd2 "is_place" = true) (k2 : PySem.W.keepIn K (.ref f2) = true)
    {f3 : Addr} {od3 an3 : Option Addr} {sl3 : Array (Option Value)} {oc3 kV3 dc3 pm3 cd3 ct3 : Value} (a3 : PySem.W.nsIn K mainGlobals "is_value" = some (some (.ref f3))) (l3 : K.lookup f3 = some ⟨oc3, od3, .func (PySem.W.fnOf "is_value" "is_value" (defArgs s_is_value) (defBody s_is_value) (defScope s_is_value) .none kV3 dc3 pm3 an3 cd3 ct3), sl3⟩) (c3 : PySem.W.codeIn K cd3 "is_value" = true) (k3 : PySem.W.keepIn K (.ref f3) = true)
    {f4 : Addr} {od4 an4 : Option Addr} {sl4 : Array (Option Value)} {oc4 kV4 dc4 pm4 cd4 ct4 : Value} (a4 : PySem.W.nsIn K mainGlobals "is_release_word" = some (some (.ref f4))) (l4 : K.lookup f4 = some ⟨oc4, od4, .func (PySem.W.fnOf "is_release_word" "is_release_word" (defArgs s_is_release_word) (defBody s_is_release_word) (defScope s_is_release_word) .none kV4 dc4 pm4 an4 cd4 ct4), sl4⟩) (c4 : PySem.W.codeIn K cd4 "is_release_word" = true) (k4 : PySem.W.keepIn K (.ref f4) = true)
    {f5 : Addr} {od5 an5 : Option Addr} {sl5 : Array (Option Value)} {oc5 kV5 dc5 pm5 cd5 ct5 : Value} (a5 : PySem.W.nsIn K mainGlobals "is_header" = some (some (.ref f5))) (l5 : K.lookup f5 = some ⟨oc5, od5, .func (PySem.W.fnOf "is_header" "is_header" (defArgs s_is_header) (defBody s_is_header) (defScope s_is_header) .none kV5 dc5 pm5 an5 cd5 ct5), sl5⟩) (c5 : PySem.W.codeIn K cd5 "is_header" = true) (k5 : PySem.W.keepIn K (.ref f5) = true)
    {f6 : Addr} {od6 an6 : Option Addr} {sl6 : Array (Option Value)} {oc6 kV6 dc6 pm6 cd6 ct6 : Value} (a6 : PySem.W.nsIn K mainGlobals "is_loose" = some (some (.ref f6))) (l6 : K.lookup f6 = some ⟨oc6, od6, .func (PySem.W.fnOf "is_loose" "is_loose" (defArgs s_is_loose) (defBody s_is_loose) (defScope s_is_loose) .none kV6 dc6 pm6 an6 cd6 ct6), sl6⟩) (c6 : PySem.W.codeIn K cd6 "is_loose" = true) (k6 : PySem.W.keepIn K (.ref f6) = true)
    {f7 : Addr} {od7 an7 : Option Addr} {sl7 : Array (Option Value)} {oc7 kV7 dc7 pm7 cd7 ct7 : Value} (a7 : PySem.W.nsIn K mainGlobals "read_setting" = some (some (.ref f7))) (l7 : K.lookup f7 = some ⟨oc7, od7, .func (PySem.W.fnOf "read_setting" "read_setting" (defArgs s_read_setting) (defBody s_read_setting) (defScope s_read_setting) .none kV7 dc7 pm7 an7 cd7 ct7), sl7⟩) (c7 : PySem.W.codeIn K cd7 "read_setting" = true) (k7 : PySem.W.keepIn K (.ref f7) = true)
    {f8 : Addr} {od8 an8 : Option Addr} {sl8 : Array (Option Value)} {oc8 kV8 dc8 pm8 cd8 ct8 : Value} (a8 : PySem.W.nsIn K mainGlobals "read_kept" = some (some (.ref f8))) (l8 : K.lookup f8 = some ⟨oc8, od8, .func (PySem.W.fnOf "read_kept" "read_kept" (defArgs s_read_kept) (defBody s_read_kept) (defScope s_read_kept) .none kV8 dc8 pm8 an8 cd8 ct8), sl8⟩) (c8 : PySem.W.codeIn K cd8 "read_kept" = true) (k8 : PySem.W.keepIn K (.ref f8) = true)
    {f9 : Addr} {od9 an9 : Option Addr} {sl9 : Array (Option Value)} {oc9 kV9 dc9 pm9 cd9 ct9 : Value} (a9 : PySem.W.nsIn K mainGlobals "_law_bag" = some (some (.ref f9))) (l9 : K.lookup f9 = some ⟨oc9, od9, .func (PySem.W.fnOf "_law_bag" "_law_bag" (defArgs s_L_bag) (defBody s_L_bag) (defScope s_L_bag) .none kV9 dc9 pm9 an9 cd9 ct9), sl9⟩) (c9 : PySem.W.codeIn K cd9 "_law_bag" = true) (k9 : PySem.W.keepIn K (.ref f9) = true)
    {f10 : Addr} {od10 an10 : Option Addr} {sl10 : Array (Option Value)} {oc10 kV10 dc10 pm10 cd10 ct10 : Value} (a10 : PySem.W.nsIn K mainGlobals "_law_take" = some (some (.ref f10))) (l10 : K.lookup f10 = some ⟨oc10, od10, .func (PySem.W.fnOf "_law_take" "_law_take" (defArgs s_L_take) (defBody s_L_take) (defScope s_L_take) .none kV10 dc10 pm10 an10 cd10 ct10), sl10⟩) (c10 : PySem.W.codeIn K cd10 "_law_take" = true) (k10 : PySem.W.keepIn K (.ref f10) = true)
    {f11 : Addr} {od11 an11 : Option Addr} {sl11 : Array (Option Value)} {oc11 kV11 dc11 pm11 cd11 ct11 : Value} (a11 : PySem.W.nsIn K mainGlobals "_law_of" = some (some (.ref f11))) (l11 : K.lookup f11 = some ⟨oc11, od11, .func (PySem.W.fnOf "_law_of" "_law_of" (defArgs s_L_of) (defBody s_L_of) (defScope s_L_of) .none kV11 dc11 pm11 an11 cd11 ct11), sl11⟩) (c11 : PySem.W.codeIn K cd11 "_law_of" = true) (k11 : PySem.W.keepIn K (.ref f11) = true)
    {f12 : Addr} {od12 an12 : Option Addr} {sl12 : Array (Option Value)} {oc12 kV12 dc12 pm12 cd12 ct12 : Value} (a12 : PySem.W.nsIn K mainGlobals "_law_raised" = some (some (.ref f12))) (l12 : K.lookup f12 = some ⟨oc12, od12, .func (PySem.W.fnOf "_law_raised" "_law_raised" (defArgs s_L_raised) (defBody s_L_raised) (defScope s_L_raised) .none kV12 dc12 pm12 an12 cd12 ct12), sl12⟩) (c12 : PySem.W.codeIn K cd12 "_law_raised" = true) (k12 : PySem.W.keepIn K (.ref f12) = true)
    {f13 : Addr} {od13 an13 : Option Addr} {sl13 : Array (Option Value)} {oc13 kV13 dc13 pm13 cd13 ct13 : Value} (a13 : PySem.W.nsIn K mainGlobals "_law_object" = some (some (.ref f13))) (l13 : K.lookup f13 = some ⟨oc13, od13, .func (PySem.W.fnOf "_law_object" "_law_object" (defArgs s_L_object) (defBody s_L_object) (defScope s_L_object) .none kV13 dc13 pm13 an13 cd13 ct13), sl13⟩) (c13 : PySem.W.codeIn K cd13 "_law_object" = true) (k13 : PySem.W.keepIn K (.ref f13) = true)
    {f14 : Addr} {od14 an14 : Option Addr} {sl14 : Array (Option Value)} {oc14 kV14 dc14 pm14 cd14 ct14 : Value} (a14 : PySem.W.nsIn K mainGlobals "_law_is_right" = some (some (.ref f14))) (l14 : K.lookup f14 = some ⟨oc14, od14, .func (PySem.W.fnOf "_law_is_right" "_law_is_right" (defArgs s_L_is_right) (defBody s_L_is_right) (defScope s_L_is_right) .none kV14 dc14 pm14 an14 cd14 ct14), sl14⟩) (c14 : PySem.W.codeIn K cd14 "_law_is_right" = true) (k14 : PySem.W.keepIn K (.ref f14) = true)
    {cc14 pp14 : Addr} (tb14 : PySem.W.tabIn K "_law_is_right" = some (cc14, pp14)) (np14 : K.lookup pp14 = none) (co14 : cd14 = .ref cc14)
    {f15 : Addr} {od15 an15 : Option Addr} {sl15 : Array (Option Value)} {oc15 kV15 dc15 pm15 cd15 ct15 : Value} (a15 : PySem.W.nsIn K mainGlobals "law" = some (some (.ref f15))) (l15 : K.lookup f15 = some ⟨oc15, od15, .func (PySem.W.fnOf "law" "law" (defArgs s_law) (defBody s_law) (defScope s_law) .none kV15 dc15 pm15 an15 cd15 ct15), sl15⟩) (c15 : PySem.W.codeIn K cd15 "law" = true) (k15 : PySem.W.keepIn K (.ref f15) = true)
    {f16 : Addr} {od16 an16 : Option Addr} {sl16 : Array (Option Value)} {oc16 kV16 dc16 pm16 cd16 ct16 : Value} (a16 : PySem.W.findIn K (.ref C0) "__init__" = some (some (.ref f16))) (i16 : PySem.W.isFn K (.ref f16) = true) (l16 : K.lookup f16 = some ⟨oc16, od16, .func (PySem.W.fnOf "__init__" "SettingsFile.__init__" (defArgs s_SettingsFile___init__) (defBody s_SettingsFile___init__) (defScope s_SettingsFile___init__) .none kV16 dc16 pm16 an16 cd16 ct16), sl16⟩) (c16 : PySem.W.codeIn K cd16 "SettingsFile.__init__" = true) (k16 : PySem.W.keepIn K (.ref f16) = true)
    {f17 : Addr} {od17 an17 : Option Addr} {sl17 : Array (Option Value)} {oc17 kV17 dc17 pm17 cd17 ct17 : Value} (a17 : PySem.W.findIn K (.ref C0) "take" = some (some (.ref f17))) (i17 : PySem.W.isFn K (.ref f17) = true) (l17 : K.lookup f17 = some ⟨oc17, od17, .func (PySem.W.fnOf "take" "SettingsFile.take" (defArgs s_SettingsFile_take) (defBody s_SettingsFile_take) (defScope s_SettingsFile_take) .none kV17 dc17 pm17 an17 cd17 ct17), sl17⟩) (c17 : PySem.W.codeIn K cd17 "SettingsFile.take" = true) (k17 : PySem.W.keepIn K (.ref f17) = true)
    {f18 : Addr} {od18 an18 : Option Addr} {sl18 : Array (Option Value)} {oc18 kV18 dc18 pm18 cd18 ct18 : Value} (a18 : PySem.W.findIn K (.ref C0) "take_kept" = some (some (.ref f18))) (i18 : PySem.W.isFn K (.ref f18) = true) (l18 : K.lookup f18 = some ⟨oc18, od18, .func (PySem.W.fnOf "take_kept" "SettingsFile.take_kept" (defArgs s_SettingsFile_take_kept) (defBody s_SettingsFile_take_kept) (defScope s_SettingsFile_take_kept) .none kV18 dc18 pm18 an18 cd18 ct18), sl18⟩) (c18 : PySem.W.codeIn K cd18 "SettingsFile.take_kept" = true) (k18 : PySem.W.keepIn K (.ref f18) = true)
    {f19 : Addr} {od19 an19 : Option Addr} {sl19 : Array (Option Value)} {oc19 kV19 dc19 pm19 cd19 ct19 : Value} (a19 : PySem.W.findIn K (.ref C0) "take_header" = some (some (.ref f19))) (i19 : PySem.W.isFn K (.ref f19) = true) (l19 : K.lookup f19 = some ⟨oc19, od19, .func (PySem.W.fnOf "take_header" "SettingsFile.take_header" (defArgs s_SettingsFile_take_header) (defBody s_SettingsFile_take_header) (defScope s_SettingsFile_take_header) .none kV19 dc19 pm19 an19 cd19 ct19), sl19⟩) (c19 : PySem.W.codeIn K cd19 "SettingsFile.take_header" = true) (k19 : PySem.W.keepIn K (.ref f19) = true)
    {f20 : Addr} {od20 an20 : Option Addr} {sl20 : Array (Option Value)} {oc20 kV20 dc20 pm20 cd20 ct20 : Value} (a20 : PySem.W.findIn K (.ref C0) "take_setting" = some (some (.ref f20))) (i20 : PySem.W.isFn K (.ref f20) = true) (l20 : K.lookup f20 = some ⟨oc20, od20, .func (PySem.W.fnOf "take_setting" "SettingsFile.take_setting" (defArgs s_SettingsFile_take_setting) (defBody s_SettingsFile_take_setting) (defScope s_SettingsFile_take_setting) .none kV20 dc20 pm20 an20 cd20 ct20), sl20⟩) (c20 : PySem.W.codeIn K cd20 "SettingsFile.take_setting" = true) (k20 : PySem.W.keepIn K (.ref f20) = true)
    {f21 : Addr} {od21 an21 : Option Addr} {sl21 : Array (Option Value)} {oc21 kV21 dc21 pm21 cd21 ct21 : Value} (a21 : PySem.W.findIn K (.ref C0) "close_block" = some (some (.ref f21))) (i21 : PySem.W.isFn K (.ref f21) = true) (l21 : K.lookup f21 = some ⟨oc21, od21, .func (PySem.W.fnOf "close_block" "SettingsFile.close_block" (defArgs s_SettingsFile_close_block) (defBody s_SettingsFile_close_block) (defScope s_SettingsFile_close_block) .none kV21 dc21 pm21 an21 cd21 ct21), sl21⟩) (c21 : PySem.W.codeIn K cd21 "SettingsFile.close_block" = true) (k21 : PySem.W.keepIn K (.ref f21) = true)
    {f22 : Addr} {od22 an22 : Option Addr} {sl22 : Array (Option Value)} {oc22 kV22 dc22 pm22 cd22 ct22 : Value} (a22 : PySem.W.findIn K (.ref C0) "value" = some (some (.ref f22))) (i22 : PySem.W.isFn K (.ref f22) = true) (l22 : K.lookup f22 = some ⟨oc22, od22, .func (PySem.W.fnOf "value" "SettingsFile.value" (defArgs s_SettingsFile_value) (defBody s_SettingsFile_value) (defScope s_SettingsFile_value) .none kV22 dc22 pm22 an22 cd22 ct22), sl22⟩) (c22 : PySem.W.codeIn K cd22 "SettingsFile.value" = true) (k22 : PySem.W.keepIn K (.ref f22) = true)
    {f23 : Addr} {od23 an23 : Option Addr} {sl23 : Array (Option Value)} {oc23 kV23 dc23 pm23 cd23 ct23 : Value} (a23 : PySem.W.findIn K (.ref C0) "block" = some (some (.ref f23))) (i23 : PySem.W.isFn K (.ref f23) = true) (l23 : K.lookup f23 = some ⟨oc23, od23, .func (PySem.W.fnOf "block" "SettingsFile.block" (defArgs s_SettingsFile_block) (defBody s_SettingsFile_block) (defScope s_SettingsFile_block) .none kV23 dc23 pm23 an23 cd23 ct23), sl23⟩) (c23 : PySem.W.codeIn K cd23 "SettingsFile.block" = true) (k23 : PySem.W.keepIn K (.ref f23) = true)
    {f24 : Addr} {od24 an24 : Option Addr} {sl24 : Array (Option Value)} {oc24 kV24 dc24 pm24 cd24 ct24 : Value} (a24 : PySem.W.findIn K (.ref C0) "__contains__" = some (some (.ref f24))) (i24 : PySem.W.isFn K (.ref f24) = true) (l24 : K.lookup f24 = some ⟨oc24, od24, .func (PySem.W.fnOf "__contains__" "SettingsFile.__contains__" (defArgs s_SettingsFile___contains__) (defBody s_SettingsFile___contains__) (defScope s_SettingsFile___contains__) .none kV24 dc24 pm24 an24 cd24 ct24), sl24⟩) (c24 : PySem.W.codeIn K cd24 "SettingsFile.__contains__" = true) (k24 : PySem.W.keepIn K (.ref f24) = true)
    {f25 : Addr} {od25 an25 : Option Addr} {sl25 : Array (Option Value)} {oc25 kV25 dc25 pm25 cd25 ct25 : Value} (a25 : PySem.W.findIn K (.ref E0) "__init__" = some (some (.ref f25))) (i25 : PySem.W.typeIn K (.ref f25) = some (.type "function")) (l25 : K.lookup f25 = some ⟨oc25, od25, .func (PySem.W.fnOf "__init__" "NoPlace.__init__" (defArgs s_NoPlace___init__) (defBody s_NoPlace___init__) (defScope s_NoPlace___init__) .none kV25 dc25 pm25 an25 cd25 ct25), sl25⟩) (c25 : PySem.W.codeIn K cd25 "NoPlace.__init__" = true) (k25 : PySem.W.keepIn K (.ref f25) = true)
    {t0 : Tok} (q0 : PySem.W.nsIn K mainGlobals "LONGEST_NAME" = some (some (.int 8 t0)))
    {t1 : Tok} (q1 : PySem.W.nsIn K mainGlobals "LETTERS" = some (some (.str "abcdefghijklmnopqrstuvwxyz" t1)))
    {t2 : Tok} (q2 : PySem.W.nsIn K mainGlobals "LONGEST_VALUE" = some (some (.int 12 t2)))
    {t3 : Tok} (q3 : PySem.W.nsIn K mainGlobals "DIGITS" = some (some (.str "0123456789" t3)))
    {t4 : Tok} (q4 : PySem.W.nsIn K mainGlobals "LONGEST_RELEASE" = some (some (.int 2 t4)))
    {t5 : Tok} (q5 : PySem.W.nsIn K mainGlobals "KEPT_MARK" = some (some (.str "#~" t5)))
    (z0 : PySem.W.nsIn K mainGlobals "LookupError" = some none)
    (z1 : PySem.W.nsIn K mainGlobals "len" = some none)
    (z2 : PySem.W.nsIn K mainGlobals "isinstance" = some none)
    (z3 : PySem.W.nsIn K mainGlobals "str" = some none)
    (z4 : PySem.W.nsIn K mainGlobals "all" = some none)
    (z5 : PySem.W.nsIn K mainGlobals "int" = some none)
    (z6 : PySem.W.nsIn K mainGlobals "enumerate" = some none)
    (z7 : PySem.W.nsIn K mainGlobals "abs" = some none)
    (z8 : PySem.W.nsIn K mainGlobals "repr" = some none)
    (z9 : PySem.W.nsIn K mainGlobals "list" = some none)
    (z10 : PySem.W.nsIn K mainGlobals "range" = some none)
    (z11 : PySem.W.nsIn K mainGlobals "max" = some none)
    (z12 : PySem.W.nsIn K mainGlobals "min" = some none) :
    ∃ (fd : FuncData) (cs : List (Addr × Addr)), (∀ p ∈ cs, ∃ (x : Str) (r : DefRec), (recsOf q).find? (fun e => e.name == x) = some r ∧ PySem.W.tabIn K x = some p) ∧ (∀ p ∈ cs, K.lookup p.2 = none) ∧ (∀ (s : Shared) (u : Value), BindsTo s fd ⟨[u], []⟩ [("_law_script", u)]) ∧
      (∀ (H : Hp) (a : Addr) (ns : List Int), ns.length ≤ 63 → (∀ p ∈ cs, H p.2 = some (.tbl #[])) → SqL K H a (ns.map V.int) → spc K cs [.ref a] H (fun v _ => v = .bl true) fun _ _ _ => False) ∧
      ∀ base : Heap, K.In base → base.Ns mainGlobals mg → (∀ p ∈ cs, LamX.TabB base mg p.1 p.2) → FnG l.prog w K mg base 9 fa fd ["_law_script"] (spc K cs) := by
  have e := hfa.symm.trans (PySem.W.mg_of X G a15)
  cases e
  refine ⟨_, [(((top_mk X G aC0 pg0 hd0 po0 sa0 mk0 kc0 nb0 na0_0 na0_1 na0_2 na0_3 na0_4 na0_5 na0_6 eg0 eini0 eovr0 edic0 esa0 eex0 ety0 ekc0 ehg0 ehk0 eha0 ehn0 eht0 ehm0 esc0 enf0_0 og0_0 ol0_0 os0_0 og0_1 ol0_1 os0_1 og0_2 ol0_2 os0_2 ebs0_0 a0 l0 c0 k0 a1 l1 c1 k1 a2 l2 c2 k2 a3 l3 c3 k3 a4 l4 c4 k4 a5 l5 c5 k5 a6 l6 c6 k6 a7 l7 c7 k7 a8 l8 c8 k8 a9 l9 c9 k9 a10 l10 c10 k10 a11 l11 c11 k11 a12 l12 c12 k12 a13 l13 c13 k13 a14 l14 c14 k14 tb14 np14 co14 a15 l15 c15 k15 a16 i16 l16 c16 k16 a17 i17 l17 c17 k17 a18 i18 l18 c18 k18 a19 i19 l19 c19 k19 a20 i20 l20 c20 k20 a21 i21 l21 c21 k21 a22 i22 l22 c22 k22 a23 i23 l23 c23 k23 a24 i24 l24 c24 k24 a25 i25 l25 c25 k25 q0 q1 q2 q3 q4 q5 z0 z1 z2 z3 z4 z5 z6 z7 z8 z9 z10 z11 z12)).cc__law_is_right, ((top_mk X G aC0 pg0 hd0 po0 sa0 mk0 kc0 nb0 na0_0 na0_1 na0_2 na0_3 na0_4 na0_5 na0_6 eg0 eini0 eovr0 edic0 esa0 eex0 ety0 ekc0 ehg0 ehk0 eha0 ehn0 eht0 ehm0 esc0 enf0_0 og0_0 ol0_0 os0_0 og0_1 ol0_1 os0_1 og0_2 ol0_2 os0_2 ebs0_0 a0 l0 c0 k0 a1 l1 c1 k1 a2 l2 c2 k2 a3 l3 c3 k3 a4 l4 c4 k4 a5 l5 c5 k5 a6 l6 c6 k6 a7 l7 c7 k7 a8 l8 c8 k8 a9 l9 c9 k9 a10 l10 c10 k10 a11 l11 c11 k11 a12 l12 c12 k12 a13 l13 c13 k13 a14 l14 c14 k14 tb14 np14 co14 a15 l15 c15 k15 a16 i16 l16 c16 k16 a17 i17 l17 c17 k17 a18 i18 l18 c18 k18 a19 i19 l19 c19 k19 a20 i20 l20 c20 k20 a21 i21 l21 c21 k21 a22 i22 l22 c22 k22 a23 i23 l23 c23 k23 a24 i24 l24 c24 k24 a25 i25 l25 c25 k25 q0 q1 q2 q3 q4 q5 z0 z1 z2 z3 z4 z5 z6 z7 z8 z9 z10 z11 z12)).pp__law_is_right)], fun p hp => ?_, fun p hp => ?_, fun s v => .of_eq rfl, fun H a ns hl ht hS => ⟨a, ns, rfl, hS, hl, fun p hp => ?_, fun _ => rfl⟩, fun base _ _ tb => ok_law (top_mk X G aC0 pg0 hd0 po0 sa0 mk0 kc0 nb0 na0_0 na0_1 na0_2 na0_3 na0_4 na0_5 na0_6 eg0 eini0 eovr0 edic0 esa0 eex0 ety0 ekc0 ehg0 ehk0 eha0 ehn0 eht0 ehm0 esc0 enf0_0 og0_0 ol0_0 os0_0 og0_1 ol0_1 os0_1 og0_2 ol0_2 os0_2 ebs0_0 a0 l0 c0 k0 a1 l1 c1 k1 a2 l2 c2 k2 a3 l3 c3 k3 a4 l4 c4 k4 a5 l5 c5 k5 a6 l6 c6 k6 a7 l7 c7 k7 a8 l8 c8 k8 a9 l9 c9 k9 a10 l10 c10 k10 a11 l11 c11 k11 a12 l12 c12 k12 a13 l13 c13 k13 a14 l14 c14 k14 tb14 np14 co14 a15 l15 c15 k15 a16 i16 l16 c16 k16 a17 i17 l17 c17 k17 a18 i18 l18 c18 k18 a19 i19 l19 c19 k19 a20 i20 l20 c20 k20 a21 i21 l21 c21 k21 a22 i22 l22 c22 k22 a23 i23 l23 c23 k23 a24 i24 l24 c24 k24 a25 i25 l25 c25 k25 q0 q1 q2 q3 q4 q5 z0 z1 z2 z3 z4 z5 z6 z7 z8 z9 z10 z11 z12) (tb _ List.mem_cons_self)⟩
  · rw [List.mem_singleton.mp hp]
    obtain ⟨r, hr⟩ := hq
    exact ⟨_, r, hr, ((top_mk X G aC0 pg0 hd0 po0 sa0 mk0 kc0 nb0 na0_0 na0_1 na0_2 na0_3 na0_4 na0_5 na0_6 eg0 eini0 eovr0 edic0 esa0 eex0 ety0 ekc0 ehg0 ehk0 eha0 ehn0 eht0 ehm0 esc0 enf0_0 og0_0 ol0_0 os0_0 og0_1 ol0_1 os0_1 og0_2 ol0_2 os0_2 ebs0_0 a0 l0 c0 k0 a1 l1 c1 k1 a2 l2 c2 k2 a3 l3 c3 k3 a4 l4 c4 k4 a5 l5 c5 k5 a6 l6 c6 k6 a7 l7 c7 k7 a8 l8 c8 k8 a9 l9 c9 k9 a10 l10 c10 k10 a11 l11 c11 k11 a12 l12 c12 k12 a13 l13 c13 k13 a14 l14 c14 k14 tb14 np14 co14 a15 l15 c15 k15 a16 i16 l16 c16 k16 a17 i17 l17 c17 k17 a18 i18 l18 c18 k18 a19 i19 l19 c19 k19 a20 i20 l20 c20 k20 a21 i21 l21 c21 k21 a22 i22 l22 c22 k22 a23 i23 l23 c23 k23 a24 i24 l24 c24 k24 a25 i25 l25 c25 k25 q0 q1 q2 q3 q4 q5 z0 z1 z2 z3 z4 z5 z6 z7 z8 z9 z10 z11 z12)).ti__law_is_right⟩
  · rw [List.mem_singleton.mp hp]
    exact ((top_mk X G aC0 pg0 hd0 po0 sa0 mk0 kc0 nb0 na0_0 na0_1 na0_2 na0_3 na0_4 na0_5 na0_6 eg0 eini0 eovr0 edic0 esa0 eex0 ety0 ekc0 ehg0 ehk0 eha0 ehn0 eht0 ehm0 esc0 enf0_0 og0_0 ol0_0 os0_0 og0_1 ol0_1 os0_1 og0_2 ol0_2 os0_2 ebs0_0 a0 l0 c0 k0 a1 l1 c1 k1 a2 l2 c2 k2 a3 l3 c3 k3 a4 l4 c4 k4 a5 l5 c5 k5 a6 l6 c6 k6 a7 l7 c7 k7 a8 l8 c8 k8 a9 l9 c9 k9 a10 l10 c10 k10 a11 l11 c11 k11 a12 l12 c12 k12 a13 l13 c13 k13 a14 l14 c14 k14 tb14 np14 co14 a15 l15 c15 k15 a16 i16 l16 c16 k16 a17 i17 l17 c17 k17 a18 i18 l18 c18 k18 a19 i19 l19 c19 k19 a20 i20 l20 c20 k20 a21 i21 l21 c21 k21 a22 i22 l22 c22 k22 a23 i23 l23 c23 k23 a24 i24 l24 c24 k24 a25 i25 l25 c25 k25 q0 q1 q2 q3 q4 q5 z0 z1 z2 z3 z4 z5 z6 z7 z8 z9 z10 z11 z12)).np__law_is_right
  · rw [List.mem_singleton.mp hp]
    exact LamX.TabS.nil (ht _ List.mem_cons_self)
end K06
open PySem PySem.W PyProof.Rows
set_option maxHeartbeats 0 in
theorem PySem.Challenge.cw_settingsmerge_k06_lookups_of_any_object_holds : PySem.Challenge.rw_settingsmerge_k06_lookups_of_any_object.Holds := by
  w_on; o_law; k_head; (case hw => w_witness2)
  k_fill
  refine My.walk_ofTW (l := PySem.Challenge.rw_settingsmerge_k06_lookups_of_any_object) (n := 63) (k := 9) (x := "_law_script") (sp := K06.spc) rfl (by decide) rfl ⟨rfl, by decide, by decide⟩ (fun w h Y => PySem.W.km_in_of Y) ?F
  case F =>
    intro w mg fa h KX G hmg
    refine' K06.all_mk ?hq KX G hmg ?aC0 ?pg0 ?hd0 ?po0 ?sa0 ?mk0 ?kc0 ?nb0 ?na0_0 ?na0_1 ?na0_2 ?na0_3 ?na0_4 ?na0_5 ?na0_6 ?eg0 ?eini0 ?eovr0 ?edic0 ?esa0 ?eex0 ?ety0 ?ekc0 ?ehg0 ?ehk0 ?eha0 ?ehn0 ?eht0 ?ehm0 ?esc0 ?enf0_0 ?og0_0 ?ol0_0 ?os0_0 ?og0_1 ?ol0_1 ?os0_1 ?og0_2 ?ol0_2 ?os0_2 ?ebs0_0 ?a0 ?l0 ?c0 ?k0 ?a1 ?l1 ?c1 ?k1 ?a2 ?l2 ?c2 ?k2 ?a3 ?l3 ?c3 ?k3 ?a4 ?l4 ?c4 ?k4 ?a5 ?l5 ?c5 ?k5 ?a6 ?l6 ?c6 ?k6 ?a7 ?l7 ?c7 ?k7 ?a8 ?l8 ?c8 ?k8 ?a9 ?l9 ?c9 ?k9 ?a10 ?l10 ?c10 ?k10 ?a11 ?l11 ?c11 ?k11 ?a12 ?l12 ?c12 ?k12 ?a13 ?l13 ?c13 ?k13 ?a14 ?l14 ?c14 ?k14 ?tb14 ?np14 ?co14 ?a15 ?l15 ?c15 ?k15 ?a16 ?i16 ?l16 ?c16 ?k16 ?a17 ?i17 ?l17 ?c17 ?k17 ?a18 ?i18 ?l18 ?c18 ?k18 ?a19 ?i19 ?l19 ?c19 ?k19 ?a20 ?i20 ?l20 ?c20 ?k20 ?a21 ?i21 ?l21 ?c21 ?k21 ?a22 ?i22 ?l22 ?c22 ?k22 ?a23 ?i23 ?l23 ?c23 ?k23 ?a24 ?i24 ?l24 ?c24 ?k24 ?a25 ?i25 ?l25 ?c25 ?k25 ?q0 ?q1 ?q2 ?q3 ?q4 ?q5 ?z0 ?z1 ?z2 ?z3 ?z4 ?z5 ?z6 ?z7 ?z8 ?z9 ?z10 ?z11 ?z12
    (case hq => exact ⟨_, rfl⟩); (case aC0 => k_is); (case pg0 => k_is); (case hd0 => k_is); (case po0 => k_is); (case sa0 => k_is); (case mk0 => k_is); (case kc0 => k_is); (case nb0 => k_is); (case na0_0 => k_is); (case na0_1 => k_is); (case na0_2 => k_is); (case na0_3 => k_is); (case na0_4 => k_is); (case na0_5 => k_is); (case na0_6 => k_is); (case eg0 => first | rfl | k_is | kx_is); (case eini0 => first | rfl | k_is | kx_is); (case eovr0 => first | rfl | k_is | kx_is); (case edic0 => first | rfl | k_is | kx_is); (case esa0 => first | rfl | k_is | kx_is); (case eex0 => first | rfl | k_is | kx_is); (case ety0 => first | rfl | k_is | kx_is); (case ekc0 => first | rfl | k_is | kx_is); (case ehg0 => first | rfl | k_is | kx_is); (case ehk0 => first | rfl | k_is | kx_is); (case eha0 => first | rfl | k_is | kx_is); (case ehn0 => first | rfl | k_is | kx_is); (case eht0 => first | rfl | k_is | kx_is); (case ehm0 => first | rfl | k_is | kx_is); (case esc0 => first | rfl | k_is | kx_is); (case enf0_0 => first | rfl | k_is | kx_is); (case og0_0 => k_is); (case ol0_0 => k_is); (case os0_0 => k_is); (case og0_1 => k_is); (case ol0_1 => k_is); (case os0_1 => k_is); (case og0_2 => k_is); (case ol0_2 => k_is); (case os0_2 => k_is); (case ebs0_0 => first | rfl | k_is | kx_is); (case a0 => k_is); (case l0 => k_is); (case c0 => k_is); (case k0 => k_is); (case a1 => k_is); (case l1 => k_is); (case c1 => k_is); (case k1 => k_is); (case a2 => k_is); (case l2 => k_is); (case c2 => k_is); (case k2 => k_is); (case a3 => k_is); (case l3 => k_is); (case c3 => k_is); (case k3 => k_is); (case a4 => k_is); (case l4 => k_is); (case c4 => k_is); (case k4 => k_is); (case a5 => k_is); (case l5 => k_is); (case c5 => k_is); (case k5 => k_is); (case a6 => k_is); (case l6 => k_is); (case c6 => k_is); (case k6 => k_is); (case a7 => k_is); (case l7 => k_is); (case c7 => k_is); (case k7 => k_is); (case a8 => k_is); (case l8 => k_is); (case c8 => k_is); (case k8 => k_is); (case a9 => k_is); (case l9 => k_is); (case c9 => k_is); (case k9 => k_is); (case a10 => k_is); (case l10 => k_is); (case c10 => k_is); (case k10 => k_is); (case a11 => k_is); (case l11 => k_is); (case c11 => k_is); (case k11 => k_is); (case a12 => k_is); (case l12 => k_is); (case c12 => k_is); (case k12 => k_is); (case a13 => k_is); (case l13 => k_is); (case c13 => k_is); (case k13 => k_is); (case a14 => k_is); (case l14 => k_is); (case c14 => k_is); (case k14 => k_is); (case tb14 => first | rfl | k_is | decide +kernel); (case np14 => first | rfl | k_is | decide +kernel); (case co14 => first | rfl | k_is | decide +kernel); (case a15 => k_is); (case l15 => k_is); (case c15 => k_is); (case k15 => k_is); (case a16 => k_is); (case i16 => k_is); (case l16 => k_is); (case c16 => k_is); (case k16 => k_is); (case a17 => k_is); (case i17 => k_is); (case l17 => k_is); (case c17 => k_is); (case k17 => k_is); (case a18 => k_is); (case i18 => k_is); (case l18 => k_is); (case c18 => k_is); (case k18 => k_is); (case a19 => k_is); (case i19 => k_is); (case l19 => k_is); (case c19 => k_is); (case k19 => k_is); (case a20 => k_is); (case i20 => k_is); (case l20 => k_is); (case c20 => k_is); (case k20 => k_is); (case a21 => k_is); (case i21 => k_is); (case l21 => k_is); (case c21 => k_is); (case k21 => k_is); (case a22 => k_is); (case i22 => k_is); (case l22 => k_is); (case c22 => k_is); (case k22 => k_is); (case a23 => k_is); (case i23 => k_is); (case l23 => k_is); (case c23 => k_is); (case k23 => k_is); (case a24 => k_is); (case i24 => k_is); (case l24 => k_is); (case c24 => k_is); (case k24 => k_is); (case a25 => k_is); (case i25 => k_is); (case l25 => k_is); (case c25 => k_is); (case k25 => k_is); (case q0 => k_is); (case q1 => k_is); (case q2 => k_is); (case q3 => k_is); (case q4 => k_is); (case q5 => k_is); (case z0 => k_is); (case z1 => k_is); (case z2 => k_is); (case z3 => k_is); (case z4 => k_is); (case z5 => k_is); (case z6 => k_is); (case z7 => k_is); (case z8 => k_is); (case z9 => k_is); (case z10 => k_is); (case z11 => k_is); (case z12 => k_is)


