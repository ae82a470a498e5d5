import PyProof.Rows.All
import Wide.All
import OpenK.AllK
import Wide.FinOn
import HandS.ForMost
import HandS.Walk
import HandS.IsInst
import HandS.Style
import KE.KCallOwn
import HandS.GenBody
import HandS.GenYield
import HandS.GenList
import PyProof.GenComp
import HandS.DictSub
import HandS.Small
import HandS.Property
import HandS.More
import HandS.WordsDict
import HandS.ExcInit
import KE.KExcInit
import HandS.ExcIs
import HandS.ExcField
import HandS.HotCalls
import HandS.Star
import HandS.Defaults
import HandS.MakeKwOnly
import HandS.DictComp
import PyProof.DictUpdate
import PyProof.MeetsSeq2
import KE.GoesMore
import PyProof.Draws
import PyProof.EnumMake
import HandS.TupSets
import HandS.SetFor
import HandS.Strs
import HandS.SetKeys
import HandS.ClsMeth
import HandS.RaiseMore
import HandS.SortOrd
import HandS.Deep
import PySem.Challenge.RW_settingsmerge_k16_releases_kept_apart
set_option Elab.async false
set_option linter.all false
set_option maxRecDepth 100000
/-! words of my own over the hand layer: repr of data, a text times a number, calls by keywords alone, defs that may ask for a repr -/
namespace My
open PySem PySem.Spec PyProof.Rows L2
section
variable {X : Cx}
/-- repr(x), x any data, where no other repr is under way -/
theorem call_repr (hg : X.A.guards = some []) (hu : X.A.units + 64 < cLine) : CallR X (.builtin "repr") (fun xs H Q => ∃ x d, xs = [x] ∧ Dp X.K H x d ∧ d.showable = true ∧ d.hasDict = false ∧ d.depth ≤ 8 ∧ d.shown.length ≤ sizeLine ∧ Q (.str d.shown) H) := by
  intro pins s σ H xs us Q I rr h
  obtain ⟨x, d, rfl, hd, hs, hn, hp, hz, q⟩ := h
  obtain ⟨u, rfl, ru⟩ := vals1 rr
  obtain ⟨as, rd⟩ := Dp.reads I d x u hd ru
  cases hd with
  | non =>
    cases (show u = Value.none from ru)
    exact PySem.P.repr_of_none ⟨.str _, H, I.tok _, ⟨_, rfl⟩, q⟩
  | bl b =>
    cases (show u = Value.bool b from ru)
    refine PySem.P.repr_of_bool ⟨.str _, H, I.tok _, ⟨_, rfl⟩, ?_⟩
    have e : (PyData.bool b).shown = (if b then ("True" : Str) else "False") := by cases b <;> rfl
    rw [e] at q
    cases b <;> exact q
  | int i =>
    obtain ⟨t, rfl⟩ := (show ∃ t, u = Value.int i t from ru)
    exact PySem.P.repr_of_int (of_decide_eq_true (by simpa [PyData.showable] using hs)) ⟨.str _, H, I.tok _, ⟨_, rfl⟩, q⟩
  | str z =>
    obtain ⟨t, rfl⟩ := (show ∃ t, u = Value.str z t from ru)
    exact PySem.P.repr_of_str ⟨.str _, H, I.tok _, ⟨_, rfl⟩, q⟩ hz
  | @lst a xs ds hS hA =>
    cases (show u = Value.ref a from ru)
    exact repr_of_reads' rd hs (PyData.noDict_hsm hn) hg (by omega) (fun _ _ e => e) (fun h' u tk hk => ⟨.str _, H, I.kept hk, ⟨_, rfl⟩, q⟩) hz
  | @tup a xs ds hS hA =>
    cases (show u = Value.ref a from ru)
    exact repr_of_reads' rd hs (PyData.noDict_hsm hn) hg (by omega) (fun _ _ e => e) (fun h' u tk hk => ⟨.str _, H, I.kept hk, ⟨_, rfl⟩, q⟩) hz
/-- a text n times, n from 2 to 1000 -/
theorem op_mulS : OpR X (binaryOp .Mult) (fun x y H Q => ∃ (z : Str) (n : Int), x = .str z ∧ y = .int n ∧ 2 ≤ n ∧ n ≤ 1000 ∧ 1 ≤ z.length ∧ z.length ≤ 1000 ∧ PySem.Builtin.Str.tooLong (z.length * n.toNat) = false ∧
    (⟨(List.replicate n.toNat z.cps).foldl (· ++ ·) #[]⟩ : Str).length ≤ sizeLine ∧ Q (.str ⟨(List.replicate n.toNat z.cps).foldl (· ++ ·) #[]⟩) H) := by
  intro pins s σ H x y v u Q I rx ry h
  obtain ⟨z, n, rfl, rfl, h1, h2, h3, h4, h5, h6, q⟩ := h
  obtain ⟨t, rfl⟩ := (show ∃ t, v = Value.str z t from rx)
  obtain ⟨t', rfl⟩ := (show ∃ t, u = Value.int n t from ry)
  have e0 : ¬ n < 1 := by omega
  have e1 : (n == 1 || z.length == 0) = false := by
    rw [Bool.or_eq_false_iff]
    exact ⟨beq_eq_false_iff_ne.mpr (by omega), beq_eq_false_iff_ne.mpr (by omega)⟩
  refine PySem.P.mul_str (by
      rw [decide_eq_false (show ¬ n < -(2 ^ 63 : Int) by omega), decide_eq_false (show ¬ n ≥ 2 ^ 63 by omega)]; rfl) (fun _ _ => ?_) (fun _ _ => h5) ?_
  · have : (1000 : Int) ≤ (2 ^ 63 - 1) / n := by
      rw [Int.le_ediv_iff_mul_le (by omega)]
      omega
    omega
  · rw [if_neg e0, if_neg (by rw [e1]; exact Bool.false_ne_true)]
    exact ⟨h6, ⟨.str _, H, I.tok _, ⟨_, rfl⟩, q⟩⟩
end

/-! ### a list against the empty list -/
section
variable {X : Cx}
theorem isL {pins : List (Addr × Obj)} {σ : L2.St} {H : Hp} {s : Shared} {a : Addr} {xs : List V} (I : Inv X pins σ H s) (h : SqL X.K H a xs) : ∃ its : Array Value, its.size = xs.length ∧ s.heap.IsList a its := by
  obtain ⟨its, r, ⟨o, n, h1, h2, _, h4⟩, _⟩ := I.list h
  exact ⟨its.toArray, r.length.symm, o, h1, h2, n, h4⟩
theorem op_eqNil (hu : X.A.units < cLine) : OpR X (compareOp .Eq) (fun x y H Q => ∃ (a b : Addr) (xs : List V), x = .ref a ∧ y = .ref b ∧ SqL X.K H a xs ∧ SqL X.K H b [] ∧ Q (.bl xs.isEmpty) H) := by
  intro pins s σ H x y v u Q I rx ry h
  obtain ⟨a, b, xs, rfl, rfl, h1, h2, q⟩ := h
  cases (show v = Value.ref a from rx)
  cases (show u = Value.ref b from ry)
  obtain ⟨i1, z1, l1⟩ := isL I h1
  obtain ⟨i2, z2, l2⟩ := isL I h2
  cases xs with
  | nil =>
    have zz : i1.size = i2.size := by rw [z1, z2]
    refine PySem.SeqAt.eq_listAt (e := fun _ => true) l1 l2 zz hu (fun j h3 _ => ?_) ?_
    · rw [z1] at h3
      cases h3
    · rw [z1]
      exact ⟨.bl true, H, I, rfl, q⟩
  | cons y ys =>
    refine PySem.SeqAt.eq_list_lengthsAt l1 l2 ?_ hu ⟨.bl false, H, I, rfl, q⟩
    rw [z1, z2]
    rfl
end

/-! ### a call by keywords alone -/
/-- all parameters are given by name -/
def KB0 (K : PySem.W.Frag) (fd : FuncData) (ps : List Str) : Prop := ∀ (s : Shared) (ws : List Value), K.In s.heap → ws.length = ps.length → BindsTo s fd ⟨[], ps.zip ws⟩ (ps.zip ws)
def tCallK0 (sp : Sp) (tk : TA) : TE := fun σ H Q => tk σ H fun zs H1 => sp zs H1 Q E0
section
variable {X : Cx} {k : Nat} {f : Addr} {fd : FuncData} {ps : List Str} {sp : Sp} {x : Str} {p pos : Pos} {kws : List Keyword} {tk : TA}
theorem pe_callK0 (F : FnOk X.prog X.w X.K X.mg X.base CX0 k f fd ps sp) (hr : Room k X.A) (hg : Gl X x) (hm : X.mg x = some (.ref f)) (hk : PySem.W.keepIn X.K (.ref f) = true) (hb : KB0 X.K fd ps) (hkw : PK X kws tk)
    (hall : (backToKw pos (keywordEach kws X.env)).all (·.1.isSome) = true := by rfl) (hks : (backToKw pos (keywordEach kws X.env)).filterMap (·.1) = ps := by rfl) (hdb : (x == ("__debug__" : Str)) = false := by decide)
    (hpl : ((backTo pos (starEach [] X.env)).any (·.1) || (backToKw pos (keywordEach kws X.env)).any (·.1.isNone)) = false := by rfl) :
    PE X (.Call (.Name x p) [] kws pos) (tCallK0 sp tk) := by
  constructor
  intro pins s σ H Q I h
  apply wpAny_Call_Name_kw
  apply ld_glob I hg hm _ hdb
  apply PySem.W.callWith_KW0 (h₀ := X.base) I.ok.mod.kin hk hall _ hpl
  apply thn (hkw.run pos pins s σ H _ I h)
  rintro ws s2 ⟨zs, H2, I2, rz, q2⟩
  refine ⟨I2.kIn, ?_⟩
  have hl : ws.length = ps.length := rz.length.symm.trans (F.len _ _ _ _ q2)
  have go := F.run X.A X.stack s2 H2 ⟨[], ps.zip ws⟩ ws zs Q E0 hr I2.env0 (hb s2 ws I2.kIn hl) rz q2
  rw [hks]
  refine wpAny_call (codeAny_mono go fun r s' hq => ?_)
  match r, hq with
  | .error _, hq => exact False.elim hq
  | .ok (.ret _), hq => exact I2.after hq
  | .ok .next, hq => exact False.elim hq
  | .ok .brk, hq => exact False.elim hq
  | .ok .cont, hq => exact False.elim hq
end

/-! ### defs that may ask for a repr: no repr is under way -/
structure FnG (P : Program) (w : World) (K : PySem.W.Frag) (mg : Str → Option Value) (base : Heap) (k : Nat) (f : Addr) (fd : FuncData) (ps : List Str) (sp : Sp) : Prop where
  len : ∀ vs H Q E, sp vs H Q E → vs.length = ps.length
  run : ∀ (A : Around) (outer : List Env) (s : Shared) (H : Hp) (args : Args) (us : List Value) (vs : List V) (Q : VK) (E : XK), Room k A → A.guards = some [] → Env0 P w K mg base A outer s H →
    BindsTo s fd args (ps.zip us) → Vals vs us → sp vs H Q E → codeAny (model P w) A (.call (.ref f) args) (CR CX0 outer P w H s Q E) s
section
variable {P : Program} {w : World} {K : PySem.W.Frag} {mg : Str → Option Value} {base : Heap}
theorem Fun.okG {x qual : Str} {st : Stmt} {f : Addr} {fd : FuncData} {N ps : List Str} {k : Nat} {sp : Sp} (F : Fun K x qual st f fd) (S : FnScope N ps (defScope st)) (len : ∀ vs H Q E, sp vs H Q E → vs.length = ps.length)
    (hbody : ∀ (cdv : Value) (A : Around) (outer : List Env) (s : Shared) (H : Hp) (vs : List V) (Q : VK) (E : XK), Room k (A.deeper (envOfC qual (defScope st) s.heap.objs.size f cdv)) → A.guards = some [] → sp vs H Q E →
      ∃ t, PSs (cxOf CX0 P w K mg base N qual (defScope st) f cdv A outer s H E).nox (defBody st) t ∧ t { nx := fun _ H' => Q .non H', rt := Q } (start N vs) H) : FnG P w K mg base (k + 1) f fd ps sp := by
  obtain ⟨c0, d0, v0, e0, p0, n0, cv, t0, l0, rfl, hl0, hc0⟩ := F.ex
  constructor
  · exact len
  intro A outer s H args us vs Q E hr hgd en hb rv hsp
  have hlen := len _ _ _ _ hsp
  have hkept : ∀ b o, base.get? b = some o → s.heap.get? b = some o := fun b o e => (en.bs b o e).1
  have hK : K.In s.heap := en.mod.kin.keeps hkept
  have hlim : s.heap.NoLimit := en.mod.nolimit.keeps hkept
  have hpar : ∀ y ∈ ps.zip us, (defScope st).names.lookup y.1 = some .local ∨ ((defScope st).names.lookup y.1 = some .cell ∧ ((cellsFrom (s.heap.objs.size + 1) (defScope st).names []).lookup y.1).isSome = true) := by
    rintro ⟨n, v⟩ hy
    rcases S.par n (List.of_mem_zip hy).1 with q | q
    · exact Or.inl q
    · exact Or.inr ⟨q, PySem.W.cellsFrom_some _ _ _ (Or.inl q)⟩
  apply codeAny_call_function hr.depth (hK _ _ hl0) rfl S.co S.gen rfl (PySem.W.codeRec_of hK hc0)
  apply hb
  apply wpAny_newFunctionEnv_cells S.kind hpar
  rintro env he s1 inC
  subst he
  refine ⟨hlim.keeps inC.toInCall.keep, codeAny_func ?_⟩
  obtain ⟨t, ht, hq⟩ := hbody cv A outer s H vs Q E (hr.deeper _) hgd hsp
  have I := inv_start (CX := CX0) (E := E) S hr.hd en hlen rv inC
  refine wpAny_mono (ht.nox.run [] s1 (start N vs) H _ I hq) ?_ (fun _ _ z => z)
  intro fl s' hs
  match fl, hs with
  | .ret u, ⟨v, σ', H', J, r2, q⟩ => exact ⟨v, H', J.os, J.bare, J.base, J.hok, r2, q⟩
  | .next, ⟨σ', H', J, q⟩ => exact ⟨V.non, H', J.os, J.bare, J.base, J.hok, rfl, q⟩
  | .brk, ⟨_, _, _, q⟩ => exact False.elim q
  | .cont, ⟨_, _, _, q⟩ => exact False.elim q
end
section
variable {X : Cx} {k : Nat} {f : Addr} {fd : FuncData} {ps : List Str} {sp : Sp} {x : Str} {p pos : Pos} {e : Expr} {es : List Expr} {t : TA}
/-- f(e, ..) of such a def -/
theorem pe_callG (F : FnG X.prog X.w X.K X.mg X.base k f fd ps sp) (hgd : X.A.guards = some []) (hr : Room k X.A) (hg : Gl X x) (hm : X.mg x = some (.ref f)) (hk : PySem.W.keepIn X.K (.ref f) = true) (hb : Binds X.K fd ps []) (ha : PA X (e :: es) t)
    (hdb : (x == ("__debug__" : Str)) = false := by decide) (he : starEach (e :: es) X.env = (false, eval e X.env) :: starEach es X.env := by rfl) (hpl : (backTo pos (starEach es X.env)).any (·.1) = false := by rfl) :
    PE X (.Call (.Name x p) (e :: es) [] pos) (tCall sp [] E0 t) := by
  constructor
  intro pins s σ H Q I h
  apply wpAny_Call_Name_kw
  apply ld_glob I hg hm _ hdb
  refine PySem.W.callWith_K (h₀ := X.base) I.ok.mod.kin hk ?_ he hpl
  apply thn (ha.run pos pins s σ H _ I h)
  rintro us s1 ⟨vs, H1, I1, r, q⟩
  refine ⟨I1.kIn, ?_⟩
  have r2 : Vals (vs ++ []) (us ++ []) := r.append .nil
  have hl : (us ++ []).length = ps.length := by rw [← r2.length]; exact F.len _ _ _ _ q
  have go := F.run X.A X.stack s1 H1 ⟨us, []⟩ (us ++ []) (vs ++ []) Q E0 hr hgd I1.env0 (hb s1 us I1.kIn hl) r2 q
  refine wpAny_call (codeAny_mono go fun r s' hq => ?_)
  match r, hq with
  | .error _, hq => exact False.elim hq
  | .ok (.ret _), hq => exact I1.after hq
  | .ok .next, hq => exact False.elim hq
  | .ok .brk, hq => exact False.elim hq
  | .ok .cont, hq => exact False.elim hq
end

/-! ### a method called by keywords alone -/
def KM0 (K : PySem.W.Frag) (fd : FuncData) (ps : List Str) : Prop := ∀ (s : Shared) (u : Value) (ws : List Value), K.In s.heap → ws.length + 1 = ps.length → BindsTo s fd ⟨[u], (ps.drop 1).zip ws⟩ (ps.zip (u :: ws))
def tMethK0 (C : Addr) (m : Str) (sp : Sp) (ta : TE) (tk : TA) : TE := fun σ H Q => ta σ H fun x H1 => ∃ a dx fs, x = .ref a ∧ H1 a = some (.ins C dx fs) ∧ fs.lookup m = none ∧ tk σ H1 fun zs H2 => sp (x :: zs) H2 Q E0
section
variable {X : Cx} {k : Nat} {f C : Addr} {fd : FuncData} {ps : List Str} {sp : Sp} {m : Str} {apos pos : Pos} {o : Expr} {kws : List Keyword} {ta : TE} {tk : TA}
theorem pe_methK0 {pl : Sem Bool} (he : PE X o ta) (c : Cls X.K C) (hm : Meth X.K C m f) (F : FnOk X.prog X.w X.K X.mg X.base CX0 k f fd ps sp) (hr : Room k X.A) (hb : KM0 X.K fd ps) (hkw : PK X kws tk)
    (hall : (backToKw pos (keywordEach kws X.env)).all (·.1.isSome) = true := by rfl) (hks : (backToKw pos (keywordEach kws X.env)).filterMap (·.1) = ps.drop 1 := by rfl)
    (hpl : ((backTo pos (starEach [] X.env)).any (·.1) || (backToKw pos (keywordEach kws X.env)).any (·.1.isNone)) = false := by rfl)
    (ht : eval (.Call (.Attribute o m apos) [] kws pos) X.env = (do
      let ov ← eval o X.env
      standAt apos.atName
      let (f, first) ← holding [ov] (getMethod ov m pl)
      callWith pos f first (backTo pos (starEach [] X.env)) (backToKw pos (keywordEach kws X.env))) := by rfl) :
    PE X (.Call (.Attribute o m apos) [] kws pos) (tMethK0 C m sp ta tk) := by
  constructor
  intro pins s σ H Q I h
  apply PySem.W.methodCall_KW (pl := pl) _ ht
  apply thn (he.run pins s σ H _ I h)
  rintro u s1 ⟨x, H1, I1, rx, a, dx, fs, rfl, ea, l, q⟩
  have eu : u = Value.ref a := rx
  subst eu
  apply getmeth_ok I1 ea c hm l
  apply PySem.W.callWith_KW0 (h₀ := X.base) (first := [.ref a]) I1.ok.mod.kin hm.kp hall _ hpl
  apply thn (hkw.run pos pins s1 σ H1 _ I1 q)
  rintro ws s2 ⟨zs, H2, I2, rz, q2⟩
  refine ⟨I2.kIn, ?_⟩
  have hl : ws.length + 1 = ps.length := by
    rw [← rz.length]
    exact F.len _ _ _ _ q2
  have rz2 : Vals (V.ref a :: zs) (Value.ref a :: ws) := .cons rfl rz
  have go := F.run X.A X.stack s2 H2 ⟨[.ref a], (ps.drop 1).zip ws⟩ (.ref a :: ws) (.ref a :: zs) Q E0 hr I2.env0 (hb s2 (.ref a) ws I2.kIn hl) rz2 q2
  rw [hks]
  refine wpAny_call (codeAny_mono go fun r s' hq => ?_)
  match r, hq with
  | .error _, hq => exact False.elim hq
  | .ok (.ret _), hq => exact I2.after hq
  | .ok .next, hq => exact False.elim hq
  | .ok .brk, hq => exact False.elim hq
  | .ok .cont, hq => exact False.elim hq
end

/-! ### the end of a law whose def may ask for a repr -/
section
variable {P : Program} {w : World} {K : PySem.W.Frag} {mg mb : Str → Option Value} {k : Nat} {fa a : Addr} {fd : FuncData} {x : Str} {sp : Sp} {s₁ : Shared} {vs : List Value} {ns : List Int} {H : Hp}
/-- what is tracked is the script at most: the state at the law's call -/
theorem env_law (KX : K.In s₁.heap) (hns : s₁.heap.Ns mainGlobals mg) (hb : s₁.heap.Ns builtinsNs mb) (hbb : ∀ x : Str, x ≠ "__name__" → mb x = bootBuiltins x) (hlim : s₁.heap.NoLimit) (hg : s₁.gens = #[])
    (ha : s₁.heap.get? a = some { cls := .type "list", data := .seq vs.toArray }) (hA : ∀ b, H b ≠ none → b = a) (hK : H a ≠ none → K.lookup a = none) (hok : HOk P w H s₁.heap) :
    K.In (hidT s₁.heap H) ∧ (hidT s₁.heap H).Ns mainGlobals mg ∧ Env0 P w K mg (hidT s₁.heap H) callerA [] s₁ H := by
  have free : ∀ {b : Addr} {o : Obj}, s₁.heap.get? b = some o → (∀ es ep, o.data = .dict es ep → False) ∨ H b = none := by
    intro b o e
    by_cases hb : H b = none
    · exact Or.inr hb
    · left
      intro es ep hd
      have := hA b hb
      subst this
      rw [ha] at e
      cases e
      cases hd
  have nsOf : ∀ {b : Addr} {m : Str → Option Value}, s₁.heap.Ns b m → (hidT s₁.heap H).Ns b m := by
    rintro b m ⟨o, es, ep, e, hd, rest⟩
    rcases free e with z | z
    · exact (z es ep hd).elim
    · exact ⟨o, es, ep, hidT_get e z, hd, rest⟩
  have kIn : K.In (hidT s₁.heap H) := by
    intro b o e
    refine hidT_get (KX b o e) ?_
    by_cases hb : H b = none
    · exact hb
    · have := hA b hb
      subst this
      rw [hK hb] at e
      cases e
  have md : Mod K mg (hidT s₁.heap H) := by
    obtain ⟨mc, h1, h2⟩ := hlim
    exact ⟨kIn, nsOf hns, ⟨mb, nsOf hb, hbb⟩, ⟨mc, nsOf h1, h2⟩⟩
  refine ⟨kIn, nsOf hns, ⟨rfl, md, fun b o e => of_hidT e, Nat.le_of_eq (hidT_size _ _), trivial, ?_, hok, .of_eq hg⟩⟩
  intro b z
  cases (show b ∈ ([] : List Addr) from z)
/-- the law's own call -/
theorem law_callG (KX : K.In s₁.heap) (hns : s₁.heap.Ns mainGlobals mg) (hb : s₁.heap.Ns builtinsNs mb) (hbb : ∀ x : Str, x ≠ "__name__" → mb x = bootBuiltins x) (hlim : s₁.heap.NoLimit) (hg : s₁.gens = #[])
    (ha : s₁.heap.get? a = some { cls := .type "list", data := .seq vs.toArray }) (hi : IntsAre vs ns) (hl : ns.length ≤ sizeLine) (hr : Room k callerA)
    (F : ∀ base : Heap, K.In base → base.Ns mainGlobals mg → FnG P w K mg base k fa fd [x] sp) (hbind : ∀ (s : Shared) (u : Value), BindsTo s fd ⟨[u], []⟩ [(x, u)])
    (hsp : ∀ H : Hp, Only H → SqL K H a (ns.map V.int) → sp [.ref a] H (fun v _ => v = .bl true) fun _ _ _ => False) :
    codeAny (model P w) callerA (.call (.ref fa) ⟨[.ref a], []⟩) (fun r s' => r = .ok (.ret (.bool true)) ∧ OldK s₁.heap s'.heap ∧ s'.os = s₁.os ∧ AllBare s'.gens) s₁ := by
  have main : ∀ H : Hp, Only H → SqL K H a (ns.map V.int) → HOk P w H s₁.heap → (∀ b, H b ≠ none → b = a) → (H a ≠ none → K.lookup a = none) →
      codeAny (model P w) callerA (.call (.ref fa) ⟨[.ref a], []⟩) (fun r s' => r = .ok (.ret (.bool true)) ∧ OldK s₁.heap s'.heap ∧ s'.os = s₁.os ∧ AllBare s'.gens) s₁ := by
    intro H only seq hok hA hK
    obtain ⟨k1, k2, en⟩ := env_law KX hns hb hbb hlim hg ha hA hK hok
    have go := (F _ k1 k2).run callerA [] s₁ H ⟨[.ref a], []⟩ [.ref a] [.ref a] (fun v _ => v = .bl true) (fun _ _ _ => False) hr rfl en (hbind s₁ (.ref a)) (.cons rfl .nil) (hsp H only seq)
    refine codeAny_mono go fun r s' hq => ?_
    match r, hq with
    | .error _, hq => exact False.elim hq
    | .ok .next, hq => exact False.elim hq
    | .ok .brk, hq => exact False.elim hq
    | .ok .cont, hq => exact False.elim hq
    | .ok (.ret u), ⟨v, H', os, bare, un, hok', ru, ev⟩ =>
      have ev' : v = .bl true := ev
      subst ev'
      have eu : u = Value.bool true := ru
      subst eu
      refine ⟨rfl, OldK.of_keep ?_, os, bare⟩
      intro b o e
      rcases only b with z | ⟨ob, xs, z⟩
      · exact un.keep b o e z (by intro z2; cases (show b ∈ ([] : List Addr) from z2)) (by intro z2; cases z2)
      · have after := (hok' b _ (un.frzs b ob _ z)).1
        have ahead := (hok b _ z).1
        rw [e] at ahead
        cases ahead
        exact after
  have rv := vals_ints hi
  cases hk : K.lookup a with
  | some o =>
    have e := KX a o hk
    rw [ha] at e
    cases e
    refine main (fun _ => none) (fun _ => Or.inl rfl) (Or.inr ⟨_, vs.toArray, _, hk, rfl, rfl, rfl, ?_, ?_⟩) ?_ (fun b z => absurd rfl z) (fun z => absurd rfl z)
    · rw [List.size_toArray, hi.length]
      exact hl
    · simpa using rv
    · intro b u z
      cases (show (none : Option HO) = some u from z)
  | none =>
    let H0 : Hp := fun b => if b = a then some (.frz { cls := .type "list", data := .seq vs.toArray } (.lst (ns.map V.int))) else none
    have at0 : H0 a = some (.frz { cls := .type "list", data := .seq vs.toArray } (.lst (ns.map V.int))) := if_pos rfl
    have off : ∀ b, b ≠ a → H0 b = none := fun b h => if_neg h
    refine main H0 ?_ (Or.inl (Or.inr ⟨_, at0⟩)) ?_ ?_ (fun _ => hk)
    · intro b
      by_cases h : b = a
      · subst h
        exact Or.inr ⟨_, _, at0⟩
      · exact Or.inl (off b h)
    · intro b u z
      by_cases h : b = a
      · subst h
        rw [at0] at z
        cases z
        refine ⟨ha, ?_, vs, _, rv, ha⟩
        rw [List.length_map]
        exact hl
      · rw [off b h] at z
        cases z
    · intro b z
      by_cases h : b = a
      · exact h
      · exact absurd (off b h) z
end
/-- the goal that the head leaves, by the law's promise -/
theorem walk_ofG {l : PySem.W.OpenLaw} {n k : Nat} {q : Program} {loose : List Str} {XP : (Str → Option Value) → Heap → Prop} {YP : World → Heap → Prop} {d : DefRec} {K : Params → PySem.W.Frag} {sp : World → Sp} {x : Str}
    (hn : l.most = some n) (hn2 : n ≤ sizeLine) (hdf : d.params.defaults = []) (hr : Room k callerA) (hY : ∀ (w : World) (h : Heap), YP w h → (K w.params).In h)
    (F : ∀ (w : World) (mg : Str → Option Value) (fa : Addr) (h : Heap), (K w.params).In h → h.Ns mainGlobals mg → mg d.name = some (.ref fa) →
      ∃ fd : FuncData, (∀ (s : Shared) (u : Value), BindsTo s fd ⟨[u], []⟩ [(x, u)]) ∧ ∀ base : Heap, (K w.params).In base → base.Ns mainGlobals mg → FnG l.prog w (K w.params) mg base k fa fd [x] (sp w))
    (hsp : ∀ (w : World) (H : Hp) (a : Addr) (ns : List Int), ns.length ≤ n → Only H → SqL (K w.params) H a (ns.map V.int) → sp w [.ref a] H (fun v _ => v = .bl true) fun _ _ _ => False) :
    PySem.W.WalkO q loose XP YP l.row.toRowW d [] (fun f vs => PySem.call f vs) := by
  apply Att.attach_call hn hdf
  intro w s₀ s₁ mg mb fa o pm cd doc a vs ns G Y ho hd hcd hmg hobj hints hlen hgens
  obtain ⟨fd, hb, hF⟩ := F w mg fa _ (hY w _ Y) G.T.g hmg
  exact law_callG (hY w _ Y) G.T.g G.T.b G.T.builtins G.T.nolimit hgens hobj hints (Nat.le_trans hlen hn2) hr hF hb (fun H h1 h2 => hsp w H a ns hlen h1 h2)
end My
set_option Elab.async false
set_option linter.all false
set_option maxRecDepth 100000
/-! own __contains__, __len__, __str__ read by in, not in, len, str -/
namespace My
open PySem PySem.Spec PyProof.Rows L2
section
variable {X : Cx} {k : Nat} {f C : Addr} {fd : FuncData} {ps : List Str} {sp : Sp}
/-- the def at f is called with these values, one C call deeper or not -/
theorem run_own {pins : List (Addr × Obj)} {σ : L2.St} {H : Hp} {s : Shared} {us : List Value} {vs : List V} {Q : VK} {A : Around} (F : FnOk X.prog X.w X.K X.mg X.base CX0 k f fd ps sp) (hr : Room k A) (en : Env0 X.prog X.w X.K X.mg X.base A X.stack s H) (hb : Binds X.K fd ps [])
    (I : Inv X pins σ H s) (r : Vals vs us) (h : sp vs H Q E0) {R : Value → Shared → Prop} (hR : ∀ u s', EP X pins σ Q u s' → R u s') : wpAny (model X.prog X.w) A (call (.ref f) us) R X.xe s := by
  have r2 : Vals (vs ++ []) (us ++ []) := r.append .nil
  have h2 : sp (vs ++ []) H Q E0 := by rw [List.append_nil]; exact h
  have hl : (us ++ []).length = ps.length := by rw [← r2.length]; exact F.len _ _ _ _ h2
  have go := F.run A X.stack s H ⟨us, []⟩ (us ++ []) (vs ++ []) Q E0 hr en (hb s us I.kIn hl) r2 h2
  refine wpAny_call (codeAny_mono go fun r s' hq => ?_)
  match r, hq with
  | .error _, hq => exact False.elim hq
  | .ok (.ret u), hq => exact hR u s' (I.after hq)
  | .ok .next, hq => exact False.elim hq
  | .ok .brk, hq => exact False.elim hq
  | .ok .cont, hq => exact False.elim hq
theorem inst_of {pins : List (Addr × Obj)} {σ : L2.St} {H : Hp} {s : Shared} {a dx : Addr} {fs : List (Str × V)} (I : Inv X pins σ H s) (e : H a = some (.ins C dx fs)) : ∃ od, PySem.W.InstAt s.heap a (PySem.W.instObj C dx) C (some od) := by
  obtain ⟨mA, O, _⟩ := ins_get I.hok e
  obtain ⟨od, J, _⟩ := O.look
  exact ⟨od, J⟩
/-- x in o, o an instance whose class tells it -/
def rInOwn (C : Addr) (sp : Sp) (neg : Bool) : R2 := fun x y H Q => ∃ a dx fs, y = .ref a ∧ H a = some (.ins C dx fs) ∧ sp [.ref a, x] H (fun v H' => ∃ b, v = .bl b ∧ Q (.bl (if neg then !b else b)) H') E0
theorem op_inOwn (m : Meth X.K C "__contains__" f) (F : FnOk X.prog X.w X.K X.mg X.base CX0 k f fd ps sp) (hr : Room k X.A) (hb : Binds X.K fd ps []) : OpR X (compareOp .In) (rInOwn C sp false) := by
  intro pins s σ H x y v u Q I rx ry h
  obtain ⟨a, dx, fs, rfl, ea, hsp⟩ := h
  cases (show u = Value.ref a from ry)
  obtain ⟨od, J⟩ := inst_of I ea
  obtain ⟨mm, Fm⟩ := I.fr
  refine PySem.W.in_K Fm I.mod.kin J m.at_ m.fn (run_own F hr I.env0 hb I (vs := [.ref a, x]) (.cons rfl (.cons rx .nil)) hsp fun u s' hu => ?_)
  obtain ⟨z, H', I', rz, b, rfl, q⟩ := hu
  cases (show u = Value.bool b from rz)
  exact wpAny_truthy_bool ⟨.bl b, H', I', rfl, q⟩
theorem op_notInOwn (m : Meth X.K C "__contains__" f) (F : FnOk X.prog X.w X.K X.mg X.base CX0 k f fd ps sp) (hr : Room k X.A) (hb : Binds X.K fd ps []) : OpR X (compareOp .NotIn) (rInOwn C sp true) := by
  intro pins s σ H x y v u Q I rx ry h
  obtain ⟨a, dx, fs, rfl, ea, hsp⟩ := h
  cases (show u = Value.ref a from ry)
  obtain ⟨od, J⟩ := inst_of I ea
  obtain ⟨mm, Fm⟩ := I.fr
  refine PySem.W.notIn_K Fm I.mod.kin J m.at_ m.fn (run_own F hr I.env0 hb I (vs := [.ref a, x]) (.cons rfl (.cons rx .nil)) hsp fun u s' hu => ?_)
  obtain ⟨z, H', I', rz, b, rfl, q⟩ := hu
  cases (show u = Value.bool b from rz)
  exact wpAny_truthy_bool ⟨.bl (!b), H', I', rfl, q⟩
/-- len(o) -/
theorem call_lenOwn (m : Meth X.K C "__len__" f) (F : FnOk X.prog X.w X.K X.mg X.base CX0 k f fd ps sp) (hr : Room (k + 1) X.A) (hb : Binds X.K fd ps []) :
    CallR X (.builtin "len") (fun xs H Q => ∃ a dx fs, xs = [.ref a] ∧ H a = some (.ins C dx fs) ∧ sp [.ref a] H (fun v H' => ∃ n : Int, v = .int n ∧ 0 ≤ n ∧ n ≤ 1000000 ∧ Q (.int n) H') E0) := by
  intro pins s σ H xs us Q I r h
  obtain ⟨a, dx, fs, rfl, ea, hsp⟩ := h
  obtain ⟨u, rfl, ru⟩ := vals1 r
  cases (show u = Value.ref a from ru)
  obtain ⟨od, J⟩ := inst_of I ea
  obtain ⟨mm, Fm⟩ := I.fr
  refine PySem.W.len_K Fm I.mod.kin J m.at_ m.fn (run_own F hr.in1 I.env0.in1 hb I (vs := [.ref a]) (.cons rfl .nil) hsp fun u s' hu => ?_)
  obtain ⟨z, H', I', rz, n, rfl, n0, n1, q⟩ := hu
  obtain ⟨t, rfl⟩ := (show ∃ t, u = Value.int n t from rz)
  exact ⟨⟨by omega, by omega⟩, ⟨.int n, H', I'.tok _, ⟨_, rfl⟩, q⟩⟩
/-- str(o) -/
theorem call_strOwn (m : Meth X.K C "__str__" f) (F : FnOk X.prog X.w X.K X.mg X.base CX0 k f fd ps sp) (hr : Room (k + 2) X.A) (hb : Binds X.K fd ps []) :
    CallR X (.type "str") (fun xs H Q => ∃ a dx fs, xs = [.ref a] ∧ H a = some (.ins C dx fs) ∧ sp [.ref a] H (fun v H' => ∃ z : Str, v = .str z ∧ Q (.str z) H') E0) := by
  intro pins s σ H xs us Q I r h
  obtain ⟨a, dx, fs, rfl, ea, hsp⟩ := h
  obtain ⟨u, rfl, ru⟩ := vals1 r
  cases (show u = Value.ref a from ru)
  obtain ⟨od, J⟩ := inst_of I ea
  refine PySem.W.kso_call (by have := hr.un; show X.A.units + 1 + 1 < cLine; omega) I.kIn J m.at_ m.fn (run_own F hr.in1.in1 I.env0.in1.in1 hb I (vs := [.ref a]) (.cons rfl .nil) hsp fun u s' hu => ?_)
  obtain ⟨z, H', I', rz, y, rfl, q⟩ := hu
  obtain ⟨t, rfl⟩ := (show ∃ t, u = Value.str y t from rz)
  exact ⟨.str y, H', I', ⟨_, rfl⟩, q⟩
end
end My
set_option Elab.async false
set_option linter.all false
set_option maxRecDepth 100000
set_option maxHeartbeats 1000000
/-! for inside a generator -/
namespace My
open PySem PySem.Spec PyProof.Rows L2 GenW
section
variable {M : Model} {A : Around} {R : GenEnd} {Y : Protocol} {n : Nat} {s₀ : Shared} {c : Code} {fs : List Frame} {s : Shared} {env : Env}
  {K : Flow → Sem PySem.Fin} {J : Value → Sem PySem.Fin} {gd : Bool → Bool} {lv : List Value → List Value}
theorem seg_For {target iter : Expr} {body orelse : List Stmt} {pos : Pos} (hs : ∀ x, foldedSetIterable iter env x = pure x)
    (h : wpAny M (A.over c fs) (eval iter env) (fun x s1 => wpAny M (A.over c fs) (pyIter x) (fun it s2 => ∀ p, Seg M A R Y n s₀ (.forLoop target it body orelse env) (M.den (.forLoop target it body orelse env))
      (.ret (fun r => ((match r with | .ok f => (.pure f : Sem Flow) | .error e => .raise e).onRaise (cameBack env)).wrap K J gd lv) none (gd false) (lv []) c p [] :: fs) s2)
      (fun x s' => Seg M A R Y n s₀ c (J x) fs s') s1) (fun x s' => Seg M A R Y n s₀ c (J x) fs s') s) :
    Seg M A R Y n s₀ c ((exec (.For target iter body orelse pos) env).wrap K J gd lv) fs s := by
  rw [exec_For]
  refine seg_bind_wrap (wpAny_standAt ?_)
  refine seg_bind_wrap (wpAny_mono h (fun x s1 h1 => ?_) fun _ _ h' => h')
  refine seg_bind_wrap (wpAny_of_eq (hs x) ?_)
  refine seg_bind_wrap (wpAny_standAt ?_)
  refine seg_bind_wrap (wpAny_holding (wpAny_mono h1 (fun it s2 h2 => ?_) fun _ _ h' => h'))
  exact seg_call h2
end
section
variable {prog : Program} {w : World} {A : Around} {R : GenEnd} {Y : Protocol} {n : Nat} {s₀ : Shared} {fs : List Frame} {s : Shared} {env : Env}
/-- what a loop's code does with an exception -/
abbrev noted (env : Env) (x : Value) : Sem PySem.Fin := (do noteFrame x env; theTreesLotGoes x : Sem Unit).wrap (fun _ => .raise x) .raise id id
theorem noted_eq (x : Value) : ((do noteFrame x env; theTreesLotGoes x : Sem Unit).bind fun _ => (.raise x : Sem PySem.Fin)) = noted env x := by
  first | exact Sem.bind_eq_wrap _ _ | rw [Sem.bind_eq_wrap]
theorem seg_forLoop {target : Expr} {it : Value} {body orelse : List Stmt}
    (h : wpAny (model prog w) (A.over (.forLoop target it body orelse env) fs) (pyNext it) (fun r s1 => match r with
      | none => Seg (model prog w) A R Y n s₀ (.forLoop target it body orelse env) (.pure (.again (.block orelse env))) fs s1
      | some v => wpAny (model prog w) (A.over (.forLoop target it body orelse env) fs) (letOwnedTupleGo target it v) (fun _ s2 =>
          wpAny (model prog w) (A.over (.forLoop target it body orelse env) fs) (assign target env v) (fun _ s3 =>
            Seg (model prog w) A R Y n s₀ (.forLoop target it body orelse env) ((execs body env).wrap (fun f => match f with
              | .next | .cont => .pure (.again (.forLoop target it body orelse env))
              | .brk => .pure (.done .next)
              | .ret v => .pure (.done (.ret v))) (noted env) id id) fs s3)
            (fun x s' => Seg (model prog w) A R Y n s₀ (.forLoop target it body orelse env) (noted env x) fs s') s2)
          (fun x s' => Seg (model prog w) A R Y n s₀ (.forLoop target it body orelse env) (noted env x) fs s') s1)
      (fun x s' => Seg (model prog w) A R Y n s₀ (.forLoop target it body orelse env) (noted env x) fs s') s) :
    Seg (model prog w) A R Y n s₀ (.forLoop target it body orelse env) ((model prog w).den (.forLoop target it body orelse env)) fs s := by
  show Seg _ A R Y n s₀ _ ((forTurn target it body orelse env).onRaise (fun x => do noteFrame x env; theTreesLotGoes x)) fs s
  unfold forTurn
  rw [Sem.onRaise_eq_wrap]
  refine seg_bind_wrap (wpAny_standAt ?_)
  refine seg_bind_wrap (wpAny_onRaise (wpAny_mono h (fun r s1 h1 => ?_) fun x s' hx => wpAny_standAt ?_))
  · cases r with
    | none => exact h1
    | some v =>
      refine seg_bind_wrap (wpAny_mono h1 (fun _ s2 h2 => ?_) fun x s' hx => ?_)
      · refine seg_bind_wrap (wpAny_mono h2 (fun _ s3 h3 => ?_) fun x s' hx => ?_)
        · rw [Sem.bind_eq_wrap', Sem.wrap_wrap]
          rw [Sem.wrap_congr (execs body env) _ _ (K' := fun f => match f with
              | .next | .cont => .pure (.again (.forLoop target it body orelse env))
              | .brk => .pure (.done .next)
              | .ret v => .pure (.done (.ret v))) (H' := noted env)
            (fun f => by cases f <;> rfl) (fun e => by exact noted_eq e)]
          exact h3
        · rw [noted_eq]; exact hx
      · rw [noted_eq]; exact hx
  · rw [noted_eq]; exact hx
theorem seg_blockNil {env' : Env} {k : Result → Sem PySem.Fin} {hh g l c₁ p₁ kp} (h : Seg (model prog w) A R Y n s₀ c₁ (k (.ok .next)) fs s) :
    Seg (model prog w) A R Y n s₀ (.block [] env') ((model prog w).den (.block [] env')) (.ret k hh g l c₁ p₁ kp :: fs) s := by
  show Seg _ A R Y n s₀ _ (do return PySem.Fin.done (← (execs [] env').onRaise (fun x => do noteFrame x env'; theTreesLotGoes x))) _ s
  exact seg_leaf (.ok .next) h
end
section
variable {X : Cx} {tg : Expr}
/-- for in a generator: W: the invariant by the turn, a measure, and what is out -/
def tGFor (wi : TI) (g : TG) (tb : TGn) : TGn := fun D ys σ H => wi σ H fun J H1 => ∃ W : Nat → Nat → List V → L2.St → Hp → Prop, (∃ m, W 0 m ys σ H1) ∧ ∀ i m ys σ H, W i m ys σ H →
  (J.stop i H ∧ D.nx ys σ H) ∨ (J.go i H ∧ ∃ N : List V → L2.St → Hp → Prop, (∀ ys' σ' H', N ys' σ' H' → ∃ m', m' < m ∧ W (i + 1) m' ys' σ' H') ∧ ∀ x H', J.yld i H x H' → g x σ H' fun σ2 H2 => tb { D with nx := N, ct := N, bk := D.nx } ys σ2 H2)
theorem gs_for {iter : Expr} {body : List Stmt} {wi : TI} {g : TG} {tb : TGn} {pos : Pos} (hp : PassesOwn (model X.prog X.w) X.A X.env X.xe) (hc : X.calm = true) (hi : PI X tg iter wi) (hg : PG X tg g) (hb : GSs X body tb)
    (hs : ∀ x, foldedSetIterable iter X.env x = pure x := by intro _; rfl) : GS X (.For tg iter body [] pos) (tGFor wi g tb) := by
  refine ⟨fun A S ip R n ys s₀ c fs K J gd lv s σ H D gg hn k hI ht => ?_⟩
  obtain ⟨acc, cc, rr, I⟩ := hI
  refine seg_For hs ?_
  rw [gg.over]
  refine wpAny_mono (hi.run _ s σ H _ I ht) (fun v s1 h1 => wpAny_mono h1 (fun itv s2 h2 p => ?_) fun x s' hx => k.exc n s₀ x s' hx) fun x s' hx => k.exc n s₀ x s' hx
  obtain ⟨it, fp, tn, Jt, H2, e, I2, T, st2, f2, W, ⟨m0, w0⟩, turn⟩ := h2
  subst e
  have gl := fun (kk : Result → Sem PySem.Fin) => gc_loop (k := kk) (c' := .forLoop tg (.ref it) body [] X.env) (l := lv []) (kp := []) (p := p) gg rfl rfl
  have nS : ∀ b ∈ fp, b ≠ S := fun b hb e => (f2 b hb).2.2.2.2.2 (S, lstObj acc cc) (List.mem_append_right _ List.mem_cons_self) e.symm
  have stat : ∀ {H' : Hp} {acc' : Array Value} {cc' : Nat}, (∀ b ∈ fp, H' b = none) → ∀ b ∈ fp, FpOk X ((S, lstObj acc' cc') :: ip) H' b := fun {H' acc' cc'} hn b hb => by
    obtain ⟨z1, z2, z3, z4, z5, z6⟩ := f2 b hb
    refine ⟨hn b hb, z2, z3, z4, z5, fun q hq => ?_⟩
    rcases List.mem_append.mp hq with hq | hq
    · exact z6 q (List.mem_append_left _ hq)
    · rcases List.mem_cons.mp hq with rfl | hq
      · exact z6 (S, lstObj acc cc) (List.mem_append_right _ List.mem_cons_self)
      · exact z6 q (List.mem_append_right _ (List.mem_cons_of_mem _ hq))
  have loop : ∀ (m i n : Nat) (ys : List V) (s₀ s : Shared) (σ : L2.St) (H : Hp), n + ys.length = sizeLine → W i m ys σ H → GI X S ip ys σ H s → tn i s.heap → (∀ b ∈ fp, H b = none) →
      Seg (model X.prog X.w) A R (GY X S) n s₀ (.forLoop tg (.ref it) body [] X.env) ((model X.prog X.w).den (.forLoop tg (.ref it) body [] X.env))
        (.ret (fun r => ((match r with | .ok f => (.pure f : Sem Flow) | .error e => .raise e).onRaise (cameBack X.env)).wrap K J gd lv) none (gd false) (lv []) c p [] :: fs) s := by
    intro m
    induction m using Nat.strongRecOn with
    | ind m ih =>
      intro i n ys s₀ s3 σ3 H3 hn w3 hI3 st3 fr3
      have ee : ∀ (n : Nat) (s₀ : Shared) (x : Value) (s' : Shared), X.xe x s' → Seg (model X.prog X.w) A R (GY X S) n s₀ (.forLoop tg (.ref it) body [] X.env) (noted X.env x)
          (.ret (fun r => ((match r with | .ok f => (.pure f : Sem Flow) | .error e => .raise e).onRaise (cameBack X.env)).wrap K J gd lv) none (gd false) (lv []) c p [] :: fs) s' := fun n s₀ x s' hx => by
        refine seg_wrap ?_
        rw [(gl _).over]
        refine wpAny_bind (wpAny_mono (hp x s' hx) (fun _ s'' hcb => wpAny_theTreesLotGoes ?_) fun y s'' hcb => ?_)
        · exact seg_leaf (.error x) (seg_cameBack gg k hcb)
        · exact seg_leaf (.error y) (seg_cameBack gg k hcb)
      obtain ⟨acc3, c3, r3, I3⟩ := hI3
      refine seg_forLoop ?_
      rw [(gl _).over]
      rcases turn i m ys σ3 H3 w3 with ⟨stop, qn⟩ | ⟨go, N, hN, step⟩
      · refine wpAny_mono (T.done X rfl rfl rfl hc i _ s3 σ3 H3 X.xe I3 (stat fr3) st3 stop) (fun r s4 ⟨hr, I4⟩ => ?_) fun x s' hx => ee n s₀ x s' hx
        subst hr
        exact seg_again rfl (seg_blockNil (k.ok n ys s₀ s4 .next hn ⟨σ3, H3, ⟨acc3, c3, r3, I4⟩, qn⟩))
      · refine wpAny_mono (T.item X rfl rfl rfl hc i _ s3 σ3 H3 X.xe I3 (stat fr3) st3 go) (fun r s4 ⟨u, hr, h4⟩ => ?_) fun x s' hx => ee n s₀ x s' hx
        subst hr
        refine wpAny_mono h4 (fun _ s5 ⟨x, H5, I5, r5, y5, st5, fr5⟩ => ?_) fun x s' hx => ee n s₀ x s' hx
        have I5' := I5.pinned (stat fr5) (T.obj _ _ st5)
        refine wpAny_mono (hg.run _ s5 σ3 H5 x u _ I5' r5 (step x H5 y5)) (fun _ s6 ⟨σ6, H6, I6, q6⟩ => ?_) fun x s' hx => ee n s₀ x s' hx
        have g2 : GC X S (ip ++ pinsAt fp s5.heap) A (.forLoop tg (.ref it) body [] X.env) (.ret (fun r => ((match r with | .ok f => (.pure f : Sem Flow) | .error e => .raise e).onRaise (cameBack X.env)).wrap K J gd lv) none (gd false) (lv []) c p [] :: fs) id :=
          let z := gl _
          { pn := z.pn, apart := z.apart, over := z.over, split := z.split, guard := z.guard, gd := z.gd, ip := fun q hq => (List.mem_append.mp hq).elim (fun h => z.ip q h) fun h => nS _ (of_pinsAt h).1 }
        refine hb.run A S (ip ++ pinsAt fp s5.heap) R n ys s₀ _ _ _ _ id id s6 σ6 H6 { D with nx := N, ct := N, bk := D.nx } g2 hn ⟨fun n' ys' s₀' s7 f hn' hs => ?_, fun n' s₀' x s7 hx => ee n' s₀' x s7 hx⟩ ⟨acc3, c3, r3, I6⟩ q6
        have un : ∀ {ys' : List V} {σ7 : L2.St} {H7 : Hp}, GI X S (ip ++ pinsAt fp s5.heap) ys' σ7 H7 s7 → GI X S ip ys' σ7 H7 s7 := fun ⟨a7, c7, r7, I7⟩ => ⟨a7, c7, r7, Inv.unpinned (pins := (S, lstObj a7 c7) :: ip) I7⟩
        have again : ∀ {σ7 : L2.St} {H7 : Hp}, GI X S (ip ++ pinsAt fp s5.heap) ys' σ7 H7 s7 → N ys' σ7 H7 → Seg (model X.prog X.w) A R (GY X S) n' s₀' (.forLoop tg (.ref it) body [] X.env) (.pure (.again (.forLoop tg (.ref it) body [] X.env)))
            (.ret (fun r => ((match r with | .ok f => (.pure f : Sem Flow) | .error e => .raise e).onRaise (cameBack X.env)).wrap K J gd lv) none (gd false) (lv []) c p [] :: fs) s7 := fun {σ7 H7} G7 n7 => by
          obtain ⟨m', hm, w7⟩ := hN ys' σ7 H7 n7
          obtain ⟨a7, c7, r7, I7⟩ := id G7
          have at7 : ∀ b ∈ fp, ∀ o, s5.heap.get? b = some o → (b, o) ∈ X.pn ++ ((S, lstObj a7 c7) :: (ip ++ pinsAt fp s5.heap)) := fun b hb o e => List.mem_append_right _ (List.mem_cons_of_mem _ (List.mem_append_right _ (mem_pinsAt hb e)))
          refine seg_again rfl (ih m' hm (i + 1) n' ys' s₀' s7 σ7 H7 hn' w7 (un G7) (T.keep _ _ _ st5 fun b hb o e => (I7.pin (b, o) (at7 b hb o e)).1) fun b hb => ?_)
          obtain ⟨o, e, d⟩ := T.obj _ _ st5 b hb
          exact (I7.pin (b, o) (at7 b hb o e)).2.1
        cases f with
        | next => obtain ⟨σ7, H7, G7, n7⟩ := hs; exact again G7 n7
        | cont => obtain ⟨σ7, H7, G7, n7⟩ := hs; exact again G7 n7
        | brk => obtain ⟨σ7, H7, G7, n7⟩ := hs; exact seg_leaf (.ok .next) (k.ok n' ys' s₀' s7 .next hn' ⟨σ7, H7, un G7, n7⟩)
        | ret v => obtain ⟨x7, σ7, H7, G7, r7, q7⟩ := hs; exact seg_leaf (.ok (.ret v)) (k.ok n' ys' s₀' s7 (.ret v) hn' ⟨x7, σ7, H7, un G7, r7, q7⟩)
  exact loop m0 0 n ys s₀ s2 σ H2 hn w0 ⟨acc, cc, rr, I2⟩ st2 fun b hb => (f2 b hb).1
end
end My
set_option Elab.async false
set_option linter.all false
set_option maxRecDepth 100000
set_option maxHeartbeats 1000000
/-! the truth of an object with its own __len__; a lock in a generator; a generator def by its body -/
namespace My
open PySem PySem.Spec PyProof.Rows L2 GenW
section
variable {X : Cx} {k : Nat} {f C : Addr} {fd : FuncData} {ps : List Str} {sp : Sp} {ta : TE} {a : Expr} {pos : Pos}
theorem special_noX {M : Model} {A : Around} {E : Value → Shared → Prop} {s : Shared} {K : PySem.W.Frag} {a : Addr} {ox : Obj} {C : Addr} {name : Str} {args : List Value} {Q : Option Value → Shared → Prop} (X : K.In s.heap) (I : PySem.W.InstAt s.heap a ox C dd) (hf : PySem.W.findIn K (.ref C) name = some none) (h : Q none s) : wpAny M A (callSpecial? (.ref a) name args) Q E s := by
  unfold callSpecial? specialOf
  exact wpAny_bind (wpAny_bind (I.type.here ((PySem.W.looks_findIn X hf).here (wpAny_pure h))))
/-- what the truth of o wants: no __bool__, __len__ by the def at f -/
abbrev LenSp (C : Addr) (sp : Sp) (x : V) (H : Hp) (Q : Bool → Hp → Prop) : Prop := ∃ a dx fs, x = .ref a ∧ H a = some (.ins C dx fs) ∧ sp [.ref a] H (fun v H' => ∃ n : Int, v = .int n ∧ 0 ≤ n ∧ n ≤ 1000000 ∧ Q (n != 0) H') E0
theorem truthy_own (hno : PySem.W.findIn X.K (.ref C) "__bool__" = some none) (m : Meth X.K C "__len__" f) (F : FnOk X.prog X.w X.K X.mg X.base CX0 k f fd ps sp) (hb : Binds X.K fd ps [])
    {A : Around} (hr : Room (k + 1) A) {pins : List (Addr × Obj)} {σ : L2.St} {H : Hp} {s : Shared} {x : V} {u : Value} {Q : Bool → Hp → Prop} {R : Bool → Shared → Prop} (hen : Env0 X.prog X.w X.K X.mg X.base A X.stack s H)
    (I : Inv X pins σ H s) (rx : RelV x u) (h : LenSp C sp x H Q) (hR : ∀ b H' s', Inv X pins σ H' s' → Q b H' → R b s') : wpAny (model X.prog X.w) A (truthy u) R X.xe s := by
  obtain ⟨a, dx, fs, rfl, ea, hsp⟩ := h
  cases (show u = Value.ref a from rx)
  obtain ⟨od, J⟩ := inst_of I ea
  obtain ⟨mm, Fm⟩ := I.fr
  have key : wpAny (model X.prog X.w) A (runValue (.builtin "len" ⟨[.ref a], []⟩)) (fun r s' => ∃ n t H', r = .int n t ∧ Inv X pins σ H' s' ∧ Q (n != 0) H') X.xe s := by
    refine wpAny_runValue (codeAny_builtin entry_len ?_)
    rw [Around.under_plainId plain_len _]
    unfold Builtin.«len»
    refine wpAny_bind (m := oneArg "len" _) (wpAny_pure ?_)
    refine wpAny_bind (m := callSpecial? (.ref a) (Str.ofString "__len__")) (PySem.W.special_fn (I.mod.kin.keeps Fm.keep) J m.at_ (beq_iff_eq.mp m.fn) (run_own F hr.in1 hen.in1 hb I (vs := [.ref a]) (.cons rfl .nil) hsp fun u s' hu => ?_))
    obtain ⟨z, H', I', rz, n, rfl, n0, n1, q⟩ := hu
    obtain ⟨t, rfl⟩ := (show ∃ t, u = Value.int n t from rz)
    refine wpAny_bind (wpAny_holding (wpAny_pure ?_))
    refine wpAny_bind (wpAny_letGo ?_)
    show wpAny _ _ (if n < 0 then _ else _) _ _ _
    rw [if_neg (by omega)]
    show wpAny _ _ (if n ≥ 2 ^ 63 then _ else _) _ _ _
    rw [if_neg (by omega)]
    exact wpAny_bind (wpAny_mkInt (wpAny_pure ⟨n, _, H', rfl, I'.tok _, q⟩))
  have hspe : ∀ {Q' : Option Value → Shared → Prop}, Q' (some (.ref f)) s → wpAny (model X.prog X.w) A (specialOf (.ref a) "__len__") Q' X.xe s := fun q => by
    unfold specialOf
    exact wpAny_bind (J.type.here ((PySem.W.looks_findIn I.kIn m.at_).here q))
  unfold truthy
  first
    | refine wpAny_bind (special_noX (name := Str.ofString "__bool__") I.kIn J hno ?_)
    | refine wpAny_bind (wpAny_pure (wpAny_bind (special_noX (name := Str.ofString "__bool__") I.kIn J hno ?_)))
  first
    | refine wpAny_bind (hspe ?_)
    | refine wpAny_bind (wpAny_pure (wpAny_bind (hspe ?_)))
  first
    | exact wpAny_bind (wpAny_mono key (fun r s' h' => by obtain ⟨n, t, H', rfl, I', q⟩ := h'; exact wpAny_pure (hR _ H' s' I' q)) fun _ _ e => e)
    | exact wpAny_bind (wpAny_pure (wpAny_bind (wpAny_mono key (fun r s' h' => by obtain ⟨n, t, H', rfl, I', q⟩ := h'; exact wpAny_pure (hR _ H' s' I' q)) fun _ _ e => e)))
/-- not o -/
def tNotOwn (C : Addr) (sp : Sp) (ta : TE) : TE := fun σ H Q => ta σ H fun x H1 => LenSp C sp x H1 fun b H2 => Q (.bl (!b)) H2
theorem pe_notOwn (hno : PySem.W.findIn X.K (.ref C) "__bool__" = some none) (m : Meth X.K C "__len__" f) (F : FnOk X.prog X.w X.K X.mg X.base CX0 k f fd ps sp) (hr : Room (k + 1) X.A) (hb : Binds X.K fd ps []) (ha : PE X a ta) : PE X (.UnaryOp .Not a pos) (tNotOwn C sp ta) := by
  refine ⟨fun pins s σ H Q I h => ?_⟩
  refine UnaryOp_ (thn (ha.run pins s σ H _ I h) fun v s1 ⟨x, H1, I1, r1, q1⟩ => ?_)
  exact not_of (truthy_own hno m F hb hr I1.env0 I1 r1 q1 fun b H' s' I' q => ⟨.bl (!b), H', I', rfl, q⟩)
/-- bool(o) -/
theorem call_boolOwn (hno : PySem.W.findIn X.K (.ref C) "__bool__" = some none) (m : Meth X.K C "__len__" f) (F : FnOk X.prog X.w X.K X.mg X.base CX0 k f fd ps sp) (hr : Room (k + 3) X.A) (hb : Binds X.K fd ps []) :
    CallR X (.type "bool") (fun xs H Q => ∃ x, xs = [x] ∧ LenSp C sp x H fun b H' => Q (.bl b) H') := by
  intro pins s σ H xs us Q I r h
  obtain ⟨x, rfl, h⟩ := h
  obtain ⟨u, rfl, ru⟩ := vals1 r
  refine callType_codes (T := "bool") (Bi := Builtin.«object.__init__») (Q₁ := fun r s₁ => ∃ b, r = .bool b ∧ EP X pins σ Q (.bool b) s₁) PySem.F.called_bool (PySem.F.typeCall_bool_1 _) PySem.F.entry_object_init ?_ ?_
  · refine codeAny_of_tree ?_
    show wpAny _ X.A.in1.in1 (do checkBuiltinCall "bool.__new__" ⟨[.type "bool", u], []⟩; again (.builtin "bool.__new__" ⟨[.type "bool", u], []⟩)) _ _ s
    refine wpAny_bind (wpAny_of_eq (PySem.F.newCall_bool_1 _) (wpAny_pure ⟨plainId_quiet (by decide +kernel) _, codeAny_builtin PySem.F.entry_bool_new ?_⟩))
    rw [Around.under_plainId (by decide +kernel) _]
    have f1 := PySem.F.conv_sub_bool
    have tr : wpAny (model X.prog X.w) X.A.in1.in1 (truthy u) (fun b s' => EP X pins σ Q (.bool b) s') X.xe s := truthy_own hno m F hb hr.in1.in1 I.env0.in1.in1 I ru h fun b H' s' I' q => ⟨.bl b, H', I', rfl, q⟩
    unfold Builtin.«bool.__new__»
    repeat (any_goals (first | assumption | (with_reducible refine wpAny_mono tr (fun b s' hb' => ?_) fun _ _ e => e) | wp_step))
    all_goals first | exact ⟨_, rfl, _, rfl, hb'⟩ | exact ⟨_, rfl, hb'⟩ | skip
  · rintro obj s₁ ⟨b, rfl, hq⟩
    exact ⟨PySem.typeIs_bool _ _, PySem.F.args_object_init_2 _ _, object_init_meets PySem.F.called_bool.init.lookup PySem.F.called_bool.made (by decide) X.prog X.w X.A.in1 _ s₁ ⟨PySem.typeIs_bool _ _, rfl, hq⟩⟩
end
section
variable {X : Cx}
def tGLock (t : TGn) : TGn := fun D ys σ H => ∃ d u, H d = some u ∧ Mut (some u) ∧ ∀ od, t ⟨fun ys' σ' H' => H' d = some (.frz od u) ∧ D.nx ys' σ' (upd H' d u), fun ys' v H' => H' d = some (.frz od u) ∧ D.rt ys' v (upd H' d u), fun ys' σ' H' => H' d = some (.frz od u) ∧ D.bk ys' σ' (upd H' d u), fun ys' σ' H' => H' d = some (.frz od u) ∧ D.ct ys' σ' (upd H' d u)⟩ ys σ (upd H d (.frz od u))
theorem gs_lock {st : Stmt} {t : TGn} (h : GS X st t) : GS X st (tGLock t) := by
  refine ⟨fun A S ip R n ys s₀ c fs K J gd lv s σ H D g hn k hI ht => ?_⟩
  obtain ⟨d, u, hd, mu, ht⟩ := ht
  obtain ⟨acc, cc, r, I⟩ := hI
  have nf := I.nofrz hd mu
  obtain ⟨od, I1⟩ := I.lock hd mu
  refine h.run A S ip R n ys s₀ c fs K J gd lv s σ _ _ g hn ⟨fun n' ys' s₀' s' f hn' hs => ?_, k.exc⟩ ⟨acc, cc, r, I1⟩ (ht od)
  have un : ∀ {ys' : List V} {σ' : L2.St} {H' : Hp}, GI X S ip ys' σ' H' s' → H' d = some (.frz od u) → GI X S ip ys' σ' (upd H' d u) s' := fun ⟨a7, c7, r7, I7⟩ e => ⟨a7, c7, r7, I7.unlock e nf⟩
  cases f with
  | next => obtain ⟨σ', H', G, e, q⟩ := hs; exact k.ok n' ys' s₀' s' .next hn' ⟨σ', _, un G e, q⟩
  | brk => obtain ⟨σ', H', G, e, q⟩ := hs; exact k.ok n' ys' s₀' s' .brk hn' ⟨σ', _, un G e, q⟩
  | cont => obtain ⟨σ', H', G, e, q⟩ := hs; exact k.ok n' ys' s₀' s' .cont hn' ⟨σ', _, un G e, q⟩
  | ret v => obtain ⟨x, σ', H', G, rr, e, q⟩ := hs; exact k.ok n' ys' s₀' s' (.ret v) hn' ⟨x, σ', _, un G e, rr, q⟩
theorem gss_one {st : Stmt} {t : TGn} (h : GS X st t) : GSs X [st] (tGThen t tG0) := gss_cons h gss_nil
end
section
variable {P : Program} {w : World} {K : PySem.W.Frag} {mg : Str → Option Value} {base : Heap}
/-- a generator def by its body -/
theorem Fun.okY {x qual : Str} {st : Stmt} {f : Addr} {fd : FuncData} {N ps : List Str} {k : Nat} {sp : SpG} (F : Fun K x qual st f fd) (S : GScope N ps (defScope st)) (len : ∀ vs H Q E, sp vs H Q E → vs.length = ps.length)
    (hbody : ∀ (cdv : Value) (A : Around) (outer : List Env) (s : Shared) (H : Hp) (vs : List V) (Q : List V → Hp → Prop) (E : XK) (pn : List (Addr × Obj)), Room k (A.deeper (envOfC qual (defScope st) s.heap.objs.size f cdv)) → sp vs H Q E →
      ∃ t, GSs (gcxOf P w K mg base N qual (defScope st) f cdv A outer s H E pn) (defBody st) t ∧ t { nx := fun ys _ H' => Q ys H', rt := fun ys v H' => v = .non ∧ Q ys H' } [] (start N vs) H) : GFn P w K mg base (k + 1) f fd ps sp := by
  obtain ⟨oc, od, kV, doc, pm, an, cdv, ct, osl, rfl, lk, hcd⟩ := F.ex
  exact gfn_of lk hcd S len fun A outer s H vs Q E pn hr hsp => hbody cdv A outer s H vs Q E pn hr hsp
end
/-- no exception at all -/
theorem noStop0 {K : PySem.W.Frag} : NoStop K E0 := fun _ _ _ h => h.elim
theorem passE0 {X : Cx} : Passes (CX X.prog X.w) X E0 := fun _ _ _ _ _ _ _ h => by
  obtain ⟨_, _, _, _, _, _, _, _, _, _, _, _, w⟩ := h
  exact w.elim
end My
set_option Elab.async false
set_option linter.all false
set_option maxRecDepth 100000
set_option maxHeartbeats 2000000
/-! own errors with fields over any built-in error (LookupError, IndexError, RuntimeError, ..) -/
namespace My
open PySem PySem.Spec PyProof.Rows L2
/-- what the written part says of such a class; bmB: the built-in's own line of classes -/
structure OexB (K : PySem.W.Frag) (C : Addr) (B newId initId : String) (bmB : List Value) : Prop where
  fb : ExcBaseFacts B newId initId bmB
  sf : StoreFacts B bmB "object.__setattr__" "object"
  ini : PySem.W.excInitIn K C bmB newId = true
  ovr : PySem.W.excOver K C bmB = true
  dic : PySem.W.hasDictIn K C = true
  sa : PySem.W.findIn K (.ref C) "__setattr__" = some (some (.builtin "object.__setattr__"))
  exC : PySem.W.subIn K (.ref C) (.type "BaseException") = some true
  tyC : PySem.W.typeIn K (.ref C) = some (.type "type")
  kC : PySem.W.keepIn K (.ref C) = true
section
open Builtin Builtin.ObjectAttr
variable {prog : Program} {w : World} {A : Around} {R : Result → Shared → Prop} {hp : Heap} {g : Array GenState} {d : Drawn} {t : Nat} {os : OsState} {K : PySem.W.Frag} {C : Addr} {B newId initId : String} {bmB : List Value}
/-- the first field: the object gets its dict -/
theorem put_first {name : Str} {tk : Tok} {v : Value} {x : Addr} {fv : Array Value} (T : OexB K C B newId initId bmB) (X : K.In hp) (hx : hp.get? x = some { cls := .ref C, data := .fields fv }) (ha : PySem.W.findIn K (.ref C) name = some none)
    (hq : ∀ h' tk' dx, (∀ b o, b ≠ x → hp.get? b = some o → h'.get? b = some o) → hp.objs.size ≤ dx → dx ≠ x → h'.get? x = some { cls := .ref C, dict := some dx, data := .fields fv } → h'.Ns1 dx (fun y => if y = name then some v else none) → R (.ok (.ret .none)) ⟨h', g, d, tk', os⟩) :
    codeAny (model prog w) A (.call (.builtin "object.__setattr__") ⟨[.ref x, .str name tk, v], []⟩) R ⟨hp, g, d, t, os⟩ := by
  obtain ⟨cd, hcd, hh⟩ := PySem.W.any_some T.dic
  have inst : PySem.W.InstAt hp x { cls := .ref C, data := .fields fv } C none := ⟨hx, rfl, rfl, trivial⟩
  have xne : x ≠ hp.objs.size := Nat.ne_of_lt (Heap.lt_size hx)
  have look : PySem.W.Looks (model prog w) hp (classData C) cd := PySem.W.looks_clsIn X hcd
  refine PySem.W.osa_openX (s := ⟨hp, g, d, t, os⟩) (r := none) T.sf X inst T.ovr (by unfold PySem.W.takerIn; rw [ha]; rfl) fun b => ?_
  show wpAny _ _ (storeInOwnDict (.ref x) (.ref C) (.str name tk) name v b) _ _ _
  obtain ⟨c1, c2, c3, c4, c5, c6, c7, c8, c9, c10, c11⟩ := cd
  have hh : c6 = true := hh
  subst hh
  unfold storeInOwnDict ownDictForStores
  repeat (first | with_reducible refine PySem.HandSPX.store_in_new ?_ ?_ | with_reducible refine wpAny_loadPart_at hx ?_ | with_reducible refine look.at ?_ | wp_step)
  · exact ⟨_, #[], _, (Heap.get?_update_ne _ _ _ _ xne.symm).trans (Heap.get?_push_at rfl rfl), rfl, fun e he => absurd he (by simp), fun _ => rfl⟩
  · intro h' tk' ns sb
    refine hq h' tk' hp.objs.size (fun c o hc ho => ?_) (Nat.le_refl _) xne.symm ?_ ns
    · exact (sb.2 c (Nat.ne_of_lt (Heap.lt_size ho))).trans ((Heap.get?_update_ne _ _ _ _ hc).trans (Heap.get?_push_of_some _ ho))
    · exact (sb.2 x xne).trans (Heap.get?_update_self _ (Heap.get?_push_of_some _ hx) rfl)
/-- a further field -/
theorem put_more {name : Str} {tk : Tok} {v : Value} {x dx : Addr} {fv : Array Value} {m0 : Str → Option Value} {nl : List Str} (T : OexB K C B newId initId bmB) (X : K.In hp) (hx : hp.get? x = some { cls := .ref C, dict := some dx, data := .fields fv }) (hns : hp.Ns1 dx m0) (hw : Within m0 nl) (hz : nl.length ≤ 1000) (ha : PySem.W.findIn K (.ref C) name = some none)
    (hq : ∀ h' tk', (∀ b o, b ≠ dx → hp.get? b = some o → h'.get? b = some o) → h'.Ns1 dx (fun y => if y = name then some v else m0 y) → R (.ok (.ret .none)) ⟨h', g, d, tk', os⟩) :
    codeAny (model prog w) A (.call (.builtin "object.__setattr__") ⟨[.ref x, .str name tk, v], []⟩) R ⟨hp, g, d, t, os⟩ := by
  obtain ⟨cd, hcd, hh⟩ := PySem.W.any_some T.dic
  obtain ⟨oD, _, _, hoD, _, _⟩ := hns.count hw
  have inst : PySem.W.InstAt hp x { cls := .ref C, dict := some dx, data := .fields fv } C (some oD) := ⟨hx, rfl, rfl, hoD⟩
  have look : PySem.W.Looks (model prog w) hp (classData C) cd := PySem.W.looks_clsIn X hcd
  refine PySem.W.osa_openX (s := ⟨hp, g, d, t, os⟩) (r := none) T.sf X inst T.ovr (by unfold PySem.W.takerIn; rw [ha]; rfl) fun b => ?_
  show wpAny _ _ (storeInOwnDict (.ref x) (.ref C) (.str name tk) name v b) _ _ _
  obtain ⟨c1, c2, c3, c4, c5, c6, c7, c8, c9, c10, c11⟩ := cd
  have hh : c6 = true := hh
  subst hh
  unfold storeInOwnDict ownDictForStores
  repeat (first | with_reducible refine PySem.OEX.store_in_old hns hw hz ?_ | with_reducible refine wpAny_loadPart_at hx ?_ | with_reducible refine look.at ?_ | wp_step)
  intro h' tk' ns sb
  exact hq h' tk' (fun c o hc ho => (sb.2 c hc).trans ho) ns
end
section
variable {X : Cx} {pins : List (Addr × Obj)} {σ : L2.St} {H : Hp} {s : Shared} {a C dx : Addr} {f : Str} {y : V} {u : Value} {fs : List (Str × V)} {Q : Unit → Shared → Prop} {E : Value → Shared → Prop} {A : Around} {B newId initId : String} {bmB : List Value}
/-- self.f = y, the first one -/
theorem set_first (T : OexB X.K C B newId initId bmB) (I : Inv X pins σ H s) (e : H a = some (exo a C none)) (hno : PySem.W.findIn X.K (.ref C) f = some none) (ry : RelV y u)
    (h : ∀ dx s', H dx = none → dx ≠ a → Inv X pins σ (upd (upd H dx (exd dx [(f, y)])) a (exo a C (some dx))) s' → Q () s') : wpAny (model X.prog X.w) A (setAttr (.ref a) f u) Q E s := by
  obtain ⟨t1, ho⟩ := exo_at I.hok e
  obtain ⟨hp, gg, dd, t, os⟩ := s
  refine PySem.W.set_plain I.kIn (ox := { cls := .ref C, dict := none, data := .fields #[.ref t1, .none, .none, .none, .bool false, .none] }) (od := none) ⟨ho, rfl, rfl, trivial⟩ T.sa ?_
  refine put_first T I.kIn ho hno fun h' tk' dx k dn dne hx hn => ?_
  have free : H dx = none := I.hok.fresh dn
  have young : ∀ {b : Addr} {o : Obj}, hp.get? b = some o → b ≠ dx := fun q => Nat.ne_of_lt (Nat.lt_of_lt_of_le (Heap.lt_size q) dn)
  have other : ∀ {b : Addr}, H b = none → b ≠ a := fun n z => by rw [z, e] at n; cases n
  have both : ∀ {b : Addr} {o : HO}, H b = some o → exo a C none ≠ o → (upd (upd H dx (exd dx [(f, y)])) a (exo a C (some dx))) b = some o := fun q n => by
    rw [upd_ne (at_ne e q n), upd_ne (ne_of_none q free)]
    exact q
  have U : Un X.fs [] H (upd (upd H dx (exd dx [(f, y)])) a (exo a C (some dx))) hp h' :=
    { keep := fun b o q n _ _ => k b o (other n) q
      slot := fun b o q n _ _ => ⟨o.slots, k b o (other n) q⟩
      free := fun b o q n _ => by rw [upd_ne (other n), upd_ne (young q)]; exact n
      there := fun b o q _ => by
        by_cases z : b = a
        · subst z; exact ⟨_, hx⟩
        · exact ⟨o, k b o z q⟩
      tups := fun b xs q => both q exo_tup
      frzs := fun b o v q => both q exo_frz
      tbls := fun b ps q => ⟨#[], by rw [both q exo_tbl]; simp⟩ }
  refine h dx _ free dne (I.un (t' := tk') U fun b o q => ?_)
  by_cases z : b = a
  · subst z
    rw [upd_same] at q
    cases q
    exact exo_ok hx
  rw [upd_ne z] at q
  by_cases z2 : b = dx
  · subst z2
    rw [upd_same] at q
    cases q
    exact exd_ok hn (relO_put (fs := []) ry fun _ => True.intro)
  rw [upd_ne z2] at q
  refine (I.hok b o q).stay (fun c v hc z3 => k c v ?_ z3) (fun c hc => both hc exo_own) fun c xs hc => both hc exo_tup
  rcases hc with hc | hc
  · rw [hc]; exact z
  · exact at_ne e hc exo_own
/-- self.f = y, a further one -/
theorem set_more (T : OexB X.K C B newId initId bmB) (I : Inv X pins σ H s) (e : H a = some (exo a C (some dx))) (ed : H dx = some (exd dx fs)) (hl : fs.length ≤ 900) (hno : PySem.W.findIn X.K (.ref C) f = some none) (ry : RelV y u)
    (h : ∀ s', Inv X pins σ (upd H dx (exd dx ((f, y) :: fs))) s' → Q () s') : wpAny (model X.prog X.w) A (setAttr (.ref a) f u) Q E s := by
  obtain ⟨t1, ho⟩ := exo_at I.hok e
  obtain ⟨mA, hns, rel⟩ := exd_at I.hok ed
  have hw := within_of rel
  obtain ⟨hp, gg, dd, t, os⟩ := s
  obtain ⟨oD, _, _, hoD, _, _⟩ := hns.count hw
  refine PySem.W.set_plain I.kIn (ox := { cls := .ref C, dict := some dx, data := .fields #[.ref t1, .none, .none, .none, .bool false, .none] }) (od := some oD) ⟨ho, rfl, rfl, hoD⟩ T.sa ?_
  refine put_more T I.kIn ho hns hw (by rw [List.length_map]; omega) hno fun h' tk' k hn => ?_
  have there : ∃ o, h'.get? dx = some o := let ⟨o, _, _, e', _⟩ := hn; ⟨o, e'⟩
  exact h _ (I.write (t' := tk') (x := dx) (e := dx) (o := exd dx ((f, y) :: fs)) (by rw [ed]; trivial) (.inl rfl) k there (exd_ok hn (relO_put ry rel)))
end
/-- self.f = e in such a class's __init__ -/
def tOstB (K : PySem.W.Frag) (f : Str) (to te : TE) : TS := fun D σ H => te σ H fun y H1 => to σ H1 fun x H2 => ∃ (a C : Addr) (B newId initId : String) (bmB : List Value), x = .ref a ∧ OexB K C B newId initId bmB ∧ PySem.W.findIn K (.ref C) f = some none ∧
  ((H2 a = some (exo a C none) ∧ ∀ dx, H2 dx = none → dx ≠ a → D.nx σ (upd (upd H2 dx (exd dx [(f, y)])) a (exo a C (some dx)))) ∨
    ∃ (dx : Addr) (fs : List (Str × V)), H2 a = some (exo a C (some dx)) ∧ H2 dx = some (exd dx fs) ∧ fs.length ≤ 900 ∧ D.nx σ (upd H2 dx (exd dx ((f, y) :: fs))))
section
variable {X : Cx} {o e : Expr} {to te : TE} {f : Str} {p p' pos : Pos} {es : List Expr} {ta : TA} {B newId initId : String} {bmB : List Value}
theorem ps_ostB (ho : PE X o to) (he : PE X e te) (hs : swapsWith e (some (.Attribute o f p')) pos.line X.env = pure false := by rfl) : PS X (.Assign [.Attribute o f p'] e pos) (tOstB X.K f to te) := by
  refine ⟨fun pins s σ H D I h => ?_⟩
  refine plainObj_wpAny_Assign_Attribute (thn (he.run pins s σ H _ I h) fun v s1 ⟨y, H1, I1, r1, q1⟩ => thn (ho.run pins s1 σ H1 _ I1 q1) fun u s2 hu => ?_) hs
  obtain ⟨x, H2, I2, r2, a, C, B, n, i, bm, rfl, T, hno, q⟩ := hu
  cases (show u = Value.ref a from r2)
  rcases q with ⟨ea, q⟩ | ⟨dx, fs, ea, ed, hl, q⟩
  · exact set_first T I2 ea hno r1 fun dx s' n ne J => ⟨σ, _, J, q dx n ne⟩
  · exact set_more T I2 ea ed hl hno r1 fun s' J => ⟨σ, _, J, q⟩
/-- C(e, ..): its own __init__ keeps sp -/
theorem pmk_oexB {x : Str} {C fI : Addr} {k : Nat} {fd : FuncData} {ps : List Str} {sp : Sp} (T : OexB X.K C B newId initId bmB) (iC : PySem.W.findIn X.K (.ref C) "__init__" = some (some (.ref fI))) (tI : PySem.W.typeIn X.K (.ref fI) = some (.type "function"))
    (F1 : FnOk X.prog X.w X.K X.mg X.base CX0 k fI fd ps sp) (hr : Room (k + 1) X.A) (hb : Binds X.K fd ps []) (hg : Gl X x) (hm : X.mg x = some (.ref C)) (ha : PA X (e :: es) ta)
    (hdb : (x == ("__debug__" : Str)) = false := by decide) (he : starEach (e :: es) X.env = (false, eval e X.env) :: starEach es X.env := by rfl) (hpl : (backTo pos (starEach es X.env)).any (·.1) = false := by rfl) :
    PMk X (.Call (.Name x p) (e :: es) [] pos) (tMkO C sp [] ta) := by
  intro pins s σ H Q I h
  refine wpAny_Call_Name_kw (ld_glob I hg hm ?_ hdb)
  refine PySem.W.callWith_K (h₀ := X.base) I.ok.mod.kin T.kC (thn (ha.run pos pins s σ H _ I h) fun us s1 ⟨vs, H1, I1, r1, hz, q1⟩ => ⟨I1.kIn, ?_⟩) he hpl
  show wpAny _ _ (call (.ref C) us) _ _ _
  obtain ⟨nm, N, qn, bs, bm, hdct, sn, sub, ab, col, dd, k0, k1, k2, k3, k5, hC, hT⟩ := PySem.W.excInit_of I1.kIn T.ini
  obtain ⟨hp, gg, dr, tk, os⟩ := s1
  have up1 : hp.objs.size ≤ hp.objs.size + 1 := Nat.le_succ _
  have hq := q1 (hp.objs.size + 1) (I1.hok.fresh up1)
  have kk : ∀ b o, hp.get? b = some o → ((hp.push (PySem.W.kdv_tup us)).push (PySem.HandSPX.excO C hp.objs.size)).get? b = some o := fun b o q => Heap.get?_push_of_some _ (Heap.get?_push_of_some _ q)
  have at1 : ((hp.push (PySem.W.kdv_tup us)).push (PySem.HandSPX.excO C hp.objs.size)).get? (hp.objs.size + 1) = some (PySem.HandSPX.excO C hp.objs.size) := by heap_get
  have I2 : Inv X pins σ (upd H1 (hp.objs.size + 1) (exo (hp.objs.size + 1) C none)) ⟨(hp.push (PySem.W.kdv_tup us)).push (PySem.HandSPX.excO C hp.objs.size), gg, dr, tk, os⟩ := I1.laid (t' := tk) (o := exo (hp.objs.size + 1) C none) kk up1 (exo_ok at1)
  have r2 : Vals (V.ref (hp.objs.size + 1) :: (vs ++ [])) (Value.ref (hp.objs.size + 1) :: (us ++ [])) := .cons rfl (r1.append .nil)
  have hl : (Value.ref (hp.objs.size + 1) :: us ++ []).length = ps.length := by
    have := r2.length
    rw [F1.len _ _ _ _ hq] at this
    exact this.symm
  have few : us.length ≤ sizeLine := by
    rw [← Paired.length r1, sizeLine_eq]
    omega
  refine wpAny_call (PySem.HandSPX.call_own T.fb hT hC (PySem.W.looks_findIn I1.kIn iC) (fun self => PySem.W.bind_fn I1.kIn self tI) few (codeAny_mono (F1.run _ X.stack _ _ ⟨Value.ref (hp.objs.size + 1) :: us, []⟩ (Value.ref (hp.objs.size + 1) :: (us ++ [])) _ _ (fun _ _ _ => False) (hr.make C us []) (I2.env0.make C us []) (by rw [← List.cons_append]; exact hb _ (Value.ref (hp.objs.size + 1) :: us) I2.kIn hl) r2 hq) fun r s' z => ?_))
  match r, z with
  | .error _, z => exact z.elim
  | .ok .next, z => exact z.elim
  | .ok .brk, z => exact z.elim
  | .ok .cont, z => exact z.elim
  | .ok (.ret u), z =>
    obtain ⟨v, H2, os2, bare2, un2, hok2, rv, ev, dA, fs, ea, ed, hd1, q2⟩ := z
    subst ev
    obtain ⟨h2, g2, d2, t2, os'⟩ := s'
    exact ⟨rv, mk_end (raises_own T.exC T.tyC) I1 up1 kk un2 hok2 os2 bare2 ea ed hd1 q2⟩
end
end My
set_option Elab.async false
set_option linter.all false
set_option maxRecDepth 100000
set_option maxHeartbeats 4000000
/-! isinstance(e, c) and isinstance(e, (c, ..)), e a caught error that has fields. -/
namespace My
open PySem PySem.Spec PySem.Calls PyProof.Rows PySem.W L2
section
variable {prog : Program} {w : World} {A : Around} {E : Value → Shared → Prop} {s : Shared} {K : Frag} {x D : Addr} {ox : Obj} {od : Option Obj}
/-- what e.__class__ is, whatever e's own dict holds -/
theorem class_of {Q : Option Value → Shared → Prop} (T : ExcC K D) (X : K.In s.heap) (I : InstAt s.heap x ox D od) (h : Q (some (.ref D)) { s with toks := s.toks + 1 }) : wpAny (model prog w) A (getAttr? (.ref x) "__class__") Q E s := by
  have found : findObj K D od "__class__" = some (.bind (.builtin "getset_descriptor.__get__") (.builtin "object.__class__")) := by
    obtain ⟨cd, hc, _⟩ := any_some T.hd
    unfold findObj
    rw [hc, Option.bind_some, T.ha, Option.bind_some]
    simp [T.hn, T.ht]
  obtain ⟨hp, g, d, t, os⟩ := s
  have ty := I.type (M := model prog w)
  have isE : Looks (model prog w) hp (isInstance (.ref x) (.type "BaseException")) true := ty.andThen (looks_subIn X T.hs)
  have ne : (Value.builtin "BaseException.__getattribute__" == Value.builtin "object.__getattribute__") = false := by decide +kernel
  unfold getAttr? getAttrBy? getAttrBy
  refine wpAny_bind (wpAny_mkText (wpAny_bind (wpAny_attempt (wpAny_holding (wpAny_bind (ty.at (wpAny_bind ((looks_findIn (M := model prog w) X T.hg).at ?_))))))))
  dsimp only
  rw [if_neg (by rw [ne, Bool.and_false]; exact Bool.false_ne_true)]
  unfold getAttrByItsOwn hookBefore
  refine wpAny_bind ?_
  rw [if_pos (show onTheHeap (Value.ref D) = true from rfl)]
  refine (looks_findIn (M := model prog w) X T.hk).at (wpAny_bind (wpAny_attempt (wpAny_holding ?_)))
  unfold callGetattribute
  rw [if_neg (by show ¬ (false && onTheHeap (Value.builtin "BaseException.__getattribute__")) = true; exact Bool.false_ne_true)]
  unfold boundAndCalled
  rw [PySem.F.excAttr_ValueError.ga.bind (.ref x)]
  refine wpAny_bind (wpAny_pure ?_)
  refine (wpAny_call (codeAny_call_builtin PySem.F.excAttr_ValueError.ga.plain PySem.F.entry_bexc_ga ?_) : wpAny _ _ (call (.builtin "BaseException.__getattribute__") [.ref x, .str "__class__" t]) _ _ _)
  refine @check_slot (model prog w) _ _ ⟨hp, g, d, t + 1, os⟩ "BaseException.__getattribute__" "BaseException" "__getattribute__" (.ref x) [.str "__class__" t] [] _ (by decide +kernel) (by decide +kernel) isE (PySem.F.args_bexc_ga (.ref x) (.str "__class__" t)) ?_
  unfold Builtin.«object.__getattribute__»
  refine wpAny_bind (wpAny_of_eq (a := ((Value.ref x : Value), [Value.str "__class__" t])) (by first | rfl | (simp only [slotArgs]; rfl)) ?_)
  refine wpAny_bind (wpAny_pure (wpAny_bind (ty.at (wpAny_bind ((looks_find (M := model prog w) X I found).at ?_)))))
  refine (wpAny_bind (wpAny_holding (wpAny_call (class_get (s := ⟨hp, g, d, t + 1, os⟩) X I T.hm ?_))) : wpAny _ _ (holding [Value.builtin "object.__class__"] (call (.builtin "getset_descriptor.__get__") [.builtin "object.__class__", .ref x, .ref D]) >>= ret) _ _ _)
  refine wpAny_pure ?_
  show wpAny _ _ (handedOut (.ref D)) _ _ _
  rw [handedOut_of (v := .ref D) rfl]
  first
    | exact wpAny_pure (wpAny_pure h)
    | exact wpAny_pure h
    | exact wpAny_pure (wpAny_bind (wpAny_pure (wpAny_pure h)))
/-- an error, with or without fields, for isinstance -/
theorem kit_err (T : ExcC K D) : KitX K (.ref x) (.ref D) (fun h => ∃ od, InstAt h x ox D od) := by
  have Z := handS_kitx_exc (x := x) (ox := ox) T.hg T.hk T.hs T.hd T.ha T.hn T.ht T.hm
  obtain ⟨cd, hc, _⟩ := any_some T.hd
  refine ⟨fun M h _ ⟨od, I⟩ => I.type, fun M h X _ => ?_, Z.ne, fun X ⟨od, I⟩ k => class_of T X I k⟩
  unfold clsIn at hc
  split at hc
  · rename_i c' d' cd' sl' ho
    intro A' Q' E' s' k q
    unfold isType loadHead
    exact wpAny_bind (wpAny_loadPart (k _ _ (X _ _ ho)) (wpAny_pure q))
  · cases hc
end
section
variable {X : Cx}
theorem inst_err {a D : Addr} {oe : Obj} {d : Option Addr} {pn pins : List (Addr × Obj)} {σ : L2.St} {H : Hp} {s : Shared} (I : Inv (X.suite a ((a, oe) :: pn)) pins σ H s) (hz : Zc (.ref D) d oe) (hf : ∃ vs, oe.data = .fields vs)
    (hd : ∀ dd, d = some dd → ∃ fs, H dd = some (.xd fs)) : ∃ od, InstAt s.heap a oe D od := by
  obtain ⟨ha, _⟩ := I.pin (a, oe) (List.mem_append_left _ List.mem_cons_self)
  obtain ⟨vs, hv⟩ := hf
  have nc : notCls oe = true := by unfold notCls; rw [hv] <;> rfl
  cases d with
  | none => exact ⟨none, ha, hz.1, nc, by rw [hz.2]; trivial⟩
  | some dd =>
    obtain ⟨fs, ea⟩ := hd dd rfl
    have hx : ObjOk X.prog X.w H s.heap dd (.xd fs) := I.hok dd _ ea
    obtain ⟨mA, hns, _⟩ := hx
    obtain ⟨od, ho, _⟩ := lookIn_ns hns
    exact ⟨some od, ha, hz.1, nc, by rw [hz.2]; exact ho⟩
/-- isinstance(e, c), e the caught error -/
def rIsF (K : Frag) (D a : Addr) (d : Option Addr) : List V → Hp → VK → Prop := fun xs H Q => ∃ (c : V) (cv : Value) (b : Bool), xs = [.ref a, c] ∧ (∀ u, RelV c u → u = cv) ∧ kitOne K (.ref D) cv = some b ∧ (∀ dd, d = some dd → ∃ fs, H dd = some (.xd fs)) ∧ Q (.bl b) H
theorem call_isF {a D : Addr} {oe : Obj} {d : Option Addr} {pn : List (Addr × Obj)} (C : ExcC X.K D) (hz : Zc (.ref D) d oe) (hf : ∃ vs, oe.data = .fields vs) : CallR (X.suite a ((a, oe) :: pn)) (.builtin "isinstance") (rIsF X.K D a d) := by
  intro pins s σ H xs us Q I r h
  obtain ⟨c, cv, b, rfl, hcv, e, hd, q⟩ := h
  cases r with
  | cons rx rr =>
  cases rr with
  | cons rt rr =>
  cases rr
  cases rx
  rw [hcv _ rt]
  exact kia_one (kit_err C) I.kIn (inst_err I hz hf hd) e (fun z => nomatch z) fun tk => ⟨.bl b, H, I.kept (t' := tk) fun _ _ z => z, rfl, q⟩
/-- isinstance(e, (c1, c2, ..)), the classes in a tuple that the block has just made -/
def rIsFT (K : Frag) (D a : Addr) (d : Option Addr) : List V → Hp → VK → Prop := fun xs H Q => ∃ (t : Addr) (cs : List V) (cv : List Value) (b : Bool), xs = [.ref a, .ref t] ∧ SqT K H t cs ∧ (∀ us, Vals cs us → us = cv) ∧ kitAny K (.ref D) cv = some b ∧ (∀ dd, d = some dd → ∃ fs, H dd = some (.xd fs)) ∧ Q (.bl b) H
theorem call_isFT {a D : Addr} {oe : Obj} {d : Option Addr} {pn : List (Addr × Obj)} (C : ExcC X.K D) (hz : Zc (.ref D) d oe) (hf : ∃ vs, oe.data = .fields vs) : CallR (X.suite a ((a, oe) :: pn)) (.builtin "isinstance") (rIsFT X.K D a d) := by
  intro pins s σ H xs us Q I r h
  obtain ⟨t, cs, cv, b, rfl, ht, hcv, e, hd, q⟩ := h
  cases r with
  | cons rx rr =>
  cases rr with
  | cons rt rr =>
  cases rr
  cases rx
  cases rt
  obtain ⟨its, rv, pl, _⟩ := I.tuple ht
  have ei := hcv its rv
  subst ei
  obtain ⟨o, ho, hc, n, hd2⟩ := (pl : s.heap.IsTuple t its.toArray)
  obtain ⟨oc, od, oda, osl⟩ := o
  dsimp only at hc hd2
  subst hc hd2
  exact kia_tup (kit_err C) I.kIn (inst_err I hz hf hd) ho e (fun z => nomatch z) fun tk => ⟨.bl b, H, I.kept (t' := tk) fun _ _ z => z, rfl, q⟩
end
end My
set_option Elab.async false
set_option linter.all false
set_option maxRecDepth 100000
set_option maxHeartbeats 2000000
/-! own `in`, `not in` within an except suite. -/
namespace My
open PySem PySem.Spec PyProof.Rows L2 L2H
section
variable {X : Cx} {k : Nat} {f C : Addr} {fd : FuncData} {ps : List Str} {sp : Sp}
theorem run_ownH {pins : List (Addr × Obj)} {σ : L2.St} {H : Hp} {s : Shared} {us : List Value} {vs : List V} {Q : VK} (F : FnH X.prog X.w X.K X.mg X.base CX0 k f fd ps sp) (hr : RoomH k X.A) (hc : HotC X) (hb : Binds X.K fd ps [])
    (I : Inv X pins σ H s) (r : Vals vs us) (h : sp vs H Q E0) {R : Value → Shared → Prop} (hR : ∀ u s', EP X pins σ Q u s' → R u s') : wpAny (model X.prog X.w) X.A (call (.ref f) us) R X.xe s := by
  refine wpAny_mono (run_fnH (E := fun _ => E0) F hr hc hb (fun _ _ _ _ _ _ hq => False.elim hq) I r h) hR (fun _ _ z => z)
theorem op_inOwnH (m : Meth X.K C "__contains__" f) (F : FnH X.prog X.w X.K X.mg X.base CX0 k f fd ps sp) (hr : RoomH k X.A) (hc : HotC X) (hb : Binds X.K fd ps []) : OpR X (compareOp .In) (rInOwn C sp false) := by
  intro pins s σ H x y v u Q I rx ry h
  obtain ⟨a, dx, fs, rfl, ea, hsp⟩ := h
  cases (show u = Value.ref a from ry)
  obtain ⟨od, J⟩ := inst_of I ea
  obtain ⟨mm, Fm⟩ := I.fr
  refine PySem.W.in_K Fm I.mod.kin J m.at_ m.fn (run_ownH F hr hc hb I (vs := [.ref a, x]) (.cons rfl (.cons rx .nil)) hsp fun u s' hu => ?_)
  obtain ⟨z, H', I', rz, b, rfl, q⟩ := hu
  cases (show u = Value.bool b from rz)
  exact wpAny_truthy_bool ⟨.bl b, H', I', rfl, q⟩
theorem op_notInOwnH (m : Meth X.K C "__contains__" f) (F : FnH X.prog X.w X.K X.mg X.base CX0 k f fd ps sp) (hr : RoomH k X.A) (hc : HotC X) (hb : Binds X.K fd ps []) : OpR X (compareOp .NotIn) (rInOwn C sp true) := by
  intro pins s σ H x y v u Q I rx ry h
  obtain ⟨a, dx, fs, rfl, ea, hsp⟩ := h
  cases (show u = Value.ref a from ry)
  obtain ⟨od, J⟩ := inst_of I ea
  obtain ⟨mm, Fm⟩ := I.fr
  refine PySem.W.notIn_K Fm I.mod.kin J m.at_ m.fn (run_ownH F hr hc hb I (vs := [.ref a, x]) (.cons rfl (.cons rx .nil)) hsp fun u s' hu => ?_)
  obtain ⟨z, H', I', rz, b, rfl, q⟩ := hu
  cases (show u = Value.bool b from rz)
  exact wpAny_truthy_bool ⟨.bl (!b), H', I', rfl, q⟩
end
section
variable {X : Cx} {o e : Expr} {to te : TE} {f : Str} {p p' pos : Pos} {es : List Expr} {ta : TA} {B newId initId : String} {bmB : List Value}
/-- the same error, made where nothing is handled: its context is None -/
theorem pmk_oexBN {x : Str} {C fI : Addr} {k : Nat} {fd : FuncData} {ps : List Str} {sp : Sp} (T : OexB X.K C B newId initId bmB) (iC : PySem.W.findIn X.K (.ref C) "__init__" = some (some (.ref fI))) (tI : PySem.W.typeIn X.K (.ref fI) = some (.type "function"))
    (F1 : FnOk X.prog X.w X.K X.mg X.base CX0 k fI fd ps sp) (hr : Room (k + 1) X.A) (hb : Binds X.K fd ps []) (hg : Gl X x) (hm : X.mg x = some (.ref C)) (ha : PA X (e :: es) ta)
    (hdb : (x == ("__debug__" : Str)) = false := by decide) (he : starEach (e :: es) X.env = (false, eval e X.env) :: starEach es X.env := by rfl) (hpl : (backTo pos (starEach es X.env)).any (·.1) = false := by rfl) :
    L2N.PMk X (.Call (.Name x p) (e :: es) [] pos) (tMkO C sp [] ta) := by
  intro pins s σ H Q I h
  refine wpAny_Call_Name_kw (ld_glob I hg hm ?_ hdb)
  refine PySem.W.callWith_K (h₀ := X.base) I.ok.mod.kin T.kC (thn (ha.run pos pins s σ H _ I h) fun us s1 ⟨vs, H1, I1, r1, hz, q1⟩ => ⟨I1.kIn, ?_⟩) he hpl
  show wpAny _ _ (call (.ref C) us) _ _ _
  obtain ⟨nm, N, qn, bs, bm, hdct, sn, sub, ab, col, dd, k0, k1, k2, k3, k5, hC, hT⟩ := PySem.W.excInit_of I1.kIn T.ini
  obtain ⟨hp, gg, dr, tk, os⟩ := s1
  have up1 : hp.objs.size ≤ hp.objs.size + 1 := Nat.le_succ _
  have hq := q1 (hp.objs.size + 1) (I1.hok.fresh up1)
  have kk : ∀ b o, hp.get? b = some o → ((hp.push (PySem.W.kdv_tup us)).push (PySem.HandSPX.excO C hp.objs.size)).get? b = some o := fun b o q => Heap.get?_push_of_some _ (Heap.get?_push_of_some _ q)
  have at1 : ((hp.push (PySem.W.kdv_tup us)).push (PySem.HandSPX.excO C hp.objs.size)).get? (hp.objs.size + 1) = some (PySem.HandSPX.excO C hp.objs.size) := by heap_get
  have I2 : Inv X pins σ (upd H1 (hp.objs.size + 1) (exo (hp.objs.size + 1) C none)) ⟨(hp.push (PySem.W.kdv_tup us)).push (PySem.HandSPX.excO C hp.objs.size), gg, dr, tk, os⟩ := I1.laid (t' := tk) (o := exo (hp.objs.size + 1) C none) kk up1 (exo_ok at1)
  have r2 : Vals (V.ref (hp.objs.size + 1) :: (vs ++ [])) (Value.ref (hp.objs.size + 1) :: (us ++ [])) := .cons rfl (r1.append .nil)
  have hl : (Value.ref (hp.objs.size + 1) :: us ++ []).length = ps.length := by
    have := r2.length
    rw [F1.len _ _ _ _ hq] at this
    exact this.symm
  have few : us.length ≤ sizeLine := by
    rw [← Paired.length r1, sizeLine_eq]
    omega
  refine wpAny_call (PySem.HandSPX.call_own T.fb hT hC (PySem.W.looks_findIn I1.kIn iC) (fun self => PySem.W.bind_fn I1.kIn self tI) few (codeAny_mono (F1.run _ X.stack _ _ ⟨Value.ref (hp.objs.size + 1) :: us, []⟩ (Value.ref (hp.objs.size + 1) :: (us ++ [])) _ _ (fun _ _ _ => False) (hr.make C us []) (I2.env0.make C us []) (by rw [← List.cons_append]; exact hb _ (Value.ref (hp.objs.size + 1) :: us) I2.kIn hl) r2 hq) fun r s' z => ?_))
  match r, z with
  | .error _, z => exact z.elim
  | .ok .next, z => exact z.elim
  | .ok .brk, z => exact z.elim
  | .ok .cont, z => exact z.elim
  | .ok (.ret u), z =>
    obtain ⟨v, H2, os2, bare2, un2, hok2, rv, ev, dA, fs, ea, ed, hd1, q2⟩ := z
    subst ev
    obtain ⟨h2, g2, d2, t2, os'⟩ := s'
    obtain ⟨t0, G, J, kG, ge, hoe, na⟩ := mk_end0 (d2 := d2) (t2 := t2) I1 up1 kk un2 hok2 os2 bare2 ea ed hd1
    exact ⟨rv, hp.objs.size + 1, _, _, ⟨G, g2, d2, t2, os'⟩, _, .ref C, some dA, rfl, J, kG, ge, hoe, ⟨rfl, rfl, fun vs hv => by cases hv; rfl⟩, rfl, rfl, na, rfl, bare2, raises_own T.exC T.tyC, q2⟩
end
section
variable {P : Program} {w : World} {K : PySem.W.Frag} {mg : Str → Option Value} {base : Heap} {x qual : Str} {st : Stmt} {f : Addr} {fd : FuncData} {N ps : List Str} {k : Nat} {sp : Sp}
/-- a def that may raise an error whose context is None -/
theorem okN (F : Fun K x qual st f fd) (S : FnScope N ps (defScope st)) (len : ∀ vs H Q E, sp vs H Q E → vs.length = ps.length)
    (body : ∀ (cdv : Value) (A : Around) (outer : List Env) (s : Shared) (H : Hp) (vs : List V) (Q : VK) (E : XK), Room k (A.deeper (envOfC qual (defScope st) s.heap.objs.size f cdv)) → sp vs H Q E →
      ∃ t, PSs (cxOf (L2N.CX P w) P w K mg base N qual (defScope st) f cdv A outer s H E) (defBody st) t ∧ t { nx := fun _ H' => Q .non H', rt := Q } (L2.start N vs) H) : FnOk P w K mg base (L2N.CX P w) (k + 1) f fd ps sp := by
  obtain ⟨oc, od, kV, doc, pm, an, cdv, ct, osl, e, lk, hcd⟩ := F.ex
  subst e
  exact fn_of lk hcd S len (body cdv)
/-- a def that is called within an except suite and raises nothing -/
theorem okH (F : Fun K x qual st f fd) (S : FnScope N ps (defScope st)) (len : ∀ vs H Q E, sp vs H Q E → vs.length = ps.length)
    (body : ∀ (cdv : Value) (A : Around) (outer : List Env) (s : Shared) (H : Hp) (vs : List V) (Q : VK) (E : XK) (p : Addr × Obj), Hot1 A p → RoomH k (A.deeper (envOfC qual (defScope st) s.heap.objs.size f cdv)) → sp vs H Q E →
      ∃ t, PSs (cxH CX0 P w K mg base N qual (defScope st) f cdv A outer s H E p) (defBody st) t ∧ t { nx := fun _ H' => Q .non H', rt := Q } (L2.start N vs) H) : FnH P w K mg base CX0 (k + 1) f fd ps sp := by
  obtain ⟨oc, od, kV, doc, pm, an, cdv, ct, osl, e, lk, hcd⟩ := F.ex
  subst e
  exact fn_ofH lk hcd S len (body cdv)
end
section
variable {X : Cx} {CX : CXT} {k : Nat} {f C : Addr} {fd : FuncData} {ps : List Str} {sp : Sp} {E : L2.St → XK} {m : Str} {pos apos : Pos} {e o : Expr} {es : List Expr} {ta : TE} {t : TA}
/-- o.m(e, ..) in a try: m may raise -/
theorem pe_methA {pl : Sem Bool} (he : PE X o ta) (c : Cls X.K C) (hm : Meth X.K C m f) (F : FnOk X.prog X.w X.K X.mg X.base CX k f fd ps sp) (hr : Room k X.A) (hb : Binds X.K fd ps []) (hx : ∀ σ, PassesAt CX X σ (E σ)) (ha : PA X (e :: es) t)
    (hst : starEach (e :: es) X.env = (false, eval e X.env) :: starEach es X.env := by rfl) (hpl : (backTo pos (starEach es X.env)).any (·.1) = false := by rfl)
    (ht : eval (.Call (.Attribute o m apos) (e :: es) [] pos) X.env = (do
      let ov ← eval o X.env
      standAt apos.atName
      let (f, first) ← holding [ov] (getMethod ov m pl)
      callWith pos f first (backTo pos (starEach (e :: es) X.env)) (backToKw pos (keywordEach [] X.env))) := by rfl) :
    PE X (.Call (.Attribute o m apos) (e :: es) [] pos) (tMethH C m sp E ta t) := by
  refine ⟨fun pins s σ H Q I h => ?_⟩
  refine PySem.W.methodCall_KW (pl := pl) (thn (he.run pins s σ H _ I h) fun u s1 hh => ?_) ht
  obtain ⟨x, H1, I1, rx, a, dx, fs, rfl, ea, l, q⟩ := hh
  cases (show u = Value.ref a from rx)
  refine getmeth_ok I1 ea c hm l (PySem.W.callWith_K (first := [.ref a]) (h₀ := X.base) I.ok.mod.kin hm.kp (thn (ha.run pos pins s1 σ H1 _ I1 q) fun us s2 hu => ?_) hst hpl)
  obtain ⟨vs, H2, I2, r, q2⟩ := hu
  exact ⟨I2.kIn, run_fnS (us := .ref a :: us) (vs := .ref a :: vs) F hr hb (hx σ) I2 (.cons rfl r) q2⟩
end
end My
set_option Elab.async false
set_option linter.all false
set_option maxRecDepth 100000
/-! what does not hang on the text of a law: bags of numbers, plain texts, names, places, values, data that repr shows -/
namespace My
open PySem PySem.Spec PyProof.Rows L2
/-- the law's bag of numbers -/
def Bag (H : Hp) (b : Addr) : Prop := ∃ n m : Int, H b = some (.lst [.int n, .int m]) ∧ 0 ≤ n ∧ 0 ≤ m ∧ m < 2147483648
/-- only the bag may have changed -/
def Kept (b : Addr) (H H' : Hp) : Prop := ∀ x o, x ≠ b → H x = some o → H' x = some o
/-- two ways that go on alike -/
theorem ite_via {c A B C : Prop} [Decidable c] (ha : c → C → A) (hb : ¬ c → C → B) (h : C) : if c then A else B := by
  by_cases e : c
  · rw [if_pos e]; exact ha e h
  · rw [if_neg e]; exact hb e h
theorem same_new {H : Hp} {p : Addr} {o : HO} (h : H p = none) : Same H (upd H p o) := fun b x e => by
  rw [upd_ne (ne_of_none e h)]
  exact e
theorem Bag.same {H H' : Hp} {b : Addr} (h : Bag H b) (s : Same H H') : Bag H' b := by
  obtain ⟨n, m, e, r⟩ := h
  exact ⟨n, m, s _ _ e, r⟩
theorem cut_ints (ns : List Int) (lo hi : Option Int) : ∃ ms : List Int, cutV (ns.map V.int) lo hi = ms.map V.int ∧ ms.length ≤ ns.length := by
  refine ⟨(ns.drop (HT.sIx ns.length 0 lo)).take (HT.sIx ns.length ns.length hi - HT.sIx ns.length 0 lo), ?_, ?_⟩
  · unfold cutV
    rw [List.length_map, List.map_take, List.map_drop]
  · rw [List.length_take, List.length_drop]
    omega
/-! ### names, places, values -/
abbrev letters : Str := "abcdefghijklmnopqrstuvwxyz"
/-- a text of 1 to most of these signs -/
def madeOf (cs : Str) (most : Int) (z : Str) : Bool := decide (1 ≤ z.length) && (decide ((z.length : Int) ≤ most) && z.cps.toList.all fun c => decide (c ∈ cs.cps.toList))
def ofText (f : Str → Bool) : V → Bool
  | .str z => f z
  | _ => false
/-- what is asked about: a text of no great length, or no text at all -/
def Ask (K : PySem.W.Frag) (H : Hp) (v : V) : Prop := (∃ z, v = .str z ∧ z.length ≤ 1000) ∨ ((∀ f, ofText f v = false) ∧ ∃ t, TyX K H v (.type t) ∧ kitB t "str" = some false)
theorem Ask.text {K : PySem.W.Frag} {H : Hp} {z : Str} (h : z.length ≤ 1000) : Ask K H (.str z) := .inl ⟨z, rfl, h⟩
theorem len1000 {n : Nat} (h : n ≤ 1000) : n ≤ sizeLine := Nat.le_of_lt (small1000 h)
theorem take_all_map {α β : Type} (f : α → β) (l : List α) (i : Nat) (x : α) (h : l[i]? = some x) : (l.take (i + 1)).map f = (l.take i).map f ++ [f x] := by
  rw [List.take_add_one, h, List.map_append]
  rfl
def nameS : Str → Bool := madeOf letters 8
/-- the text up to the first dot and behind it -/
def dot : Str := "."
def placeS (z : Str) : Bool := nameS (Txt.partition z dot).1 && nameS (Txt.partition z dot).2.2
abbrev valueSigns : Str := letters ++ "0123456789" ++ "-"
def valueS (z : Str) : Bool := madeOf valueSigns 12 z && !Txt.startswith z "-"
theorem part_len (z : Str) : (Txt.partition z dot).1.length ≤ z.length ∧ (Txt.partition z dot).2.2.length ≤ z.length := ⟨(fact_partition z dot).1, (fact_partition z dot).2.2⟩
def oddL (cs : Str) (l : List Nat) : List Nat := l.filter fun c => !decide (c ∈ cs.cps.toList)
theorem oddL_len (cs : Str) (l : List Nat) : (oddL cs l).length ≤ l.length := List.length_filter_le _ _
theorem oddL_nil (cs : Str) (l : List Nat) : (oddL cs l).isEmpty = l.all fun c => decide (c ∈ cs.cps.toList) := by
  unfold oddL
  induction l with
  | nil => rfl
  | cons c r ih =>
    rw [List.filter_cons, List.all_cons]
    cases h : decide (c ∈ cs.cps.toList) with
    | false => rfl
    | true => rw [Bool.true_and, ← ih]; rfl
theorem oddL_take {cs : Str} {l : List Nat} {i c : Nat} (h : l[i]? = some c) : oddL cs (l.take (i + 1)) = oddL cs (l.take i) ++ (if (!decide (c ∈ cs.cps.toList)) = true then [c] else []) := by
  unfold oddL
  rw [List.take_add_one, h, List.filter_append]
  congr 1
  show List.filter _ [c] = _
  rw [List.filter_cons, List.filter_nil]
/-! ### a place by its first dot, and by all its dots -/
theorem name_free {a : Str} (h : nameS a = true) : 46 ∉ TL.tl a := by
  unfold nameS madeOf at h
  rw [Bool.and_eq_true, Bool.and_eq_true] at h
  intro hm
  have h2 := List.all_eq_true.mp h.2.2 46 hm
  exact absurd (of_decide_eq_true h2) (by decide)
theorem name_empty : nameS Str.empty = false := by decide
theorem tl_dot : TL.tl dot = 46 :: [] := by decide
/-- by all its dots -/
def placeL : List Str → Bool
  | [a, b] => nameS a && nameS b
  | _ => false
theorem place_of (z : Str) : placeS z = placeL (Txt.split z dot) := by
  have hd : dot = (⟨#[46]⟩ : Str) := by decide
  have two : ∀ p q : Str, Str.join dot [p, q] = p ++ dot ++ q := fun p q => rfl
  by_cases hp : placeS z = true
  · have h1 := hp
    unfold placeS at h1
    rw [Bool.and_eq_true] at h1
    rcases partition_whole z dot with ⟨e, _⟩ | ⟨i, e, _⟩
    · rw [e] at h1
      exact absurd h1.2 (by rw [name_empty]; exact Bool.false_ne_true)
    · have sum := PySem.StrLaws.partition_sum z dot
      have mid : (Txt.partition z dot).2.1 = dot := by rw [e]
      rw [mid] at sum
      have back := TL.split_join (y := dot) tl_dot (by decide +kernel) (parts := [(Txt.partition z dot).1, (Txt.partition z dot).2.2]) (by simp) (fun p hm => by
        rcases List.mem_cons.mp hm with rfl | hm
        · exact name_free h1.1
        · cases List.mem_singleton.mp hm
          exact name_free h1.2)
      rw [TL.join_eq, two, sum] at back
      rw [back, hp]
      show true = (nameS _ && nameS _)
      rw [h1.1, h1.2]
      rfl
  · have hf : placeS z = false := eq_false_of_ne_true hp
    rw [hf]
    cases hs : Txt.split z dot with
    | nil => rfl
    | cons p r =>
      cases r with
      | nil => rfl
      | cons q r2 =>
        cases r2 with
        | cons _ _ => rfl
        | nil =>
          have sum := PySem.StrLaws.join_split z dot
          rw [hs, two] at sum
          have fr := PySem.StrLaws.split_free z 46
          rw [← hd, hs] at fr
          have e := TL.partition_app (y := dot) tl_dot (a := p) (b := q) (fr p (List.mem_cons_self ..))
          rw [sum] at e
          unfold placeS at hf
          rw [e] at hf
          exact hf.symm
theorem split_short (z : Str) : ∀ a ∈ Txt.split z dot, a.length ≤ z.length := fun a h => part_short h
/-! ### values: the same signs in another order -/
abbrev lawSigns : Str := "0123456789-abcdefghijklmnopqrstuvwxyz"
theorem signs_iff (c : Nat) : c ∈ lawSigns.cps.toList ↔ c ∈ valueSigns.cps.toList := by
  have h1 : ∀ x ∈ lawSigns.cps.toList, x ∈ valueSigns.cps.toList := by decide
  have h2 : ∀ x ∈ valueSigns.cps.toList, x ∈ lawSigns.cps.toList := by decide
  exact ⟨h1 c, h2 c⟩
theorem value_of (z : Str) : valueS z = ((oddL lawSigns z.cps.toList).isEmpty && ((decide ((1 : Int) ≤ (z.length : Int)) && decide ((z.length : Int) ≤ 12)) && !Txt.startswith z "-")) := by
  rw [oddL_nil]
  unfold valueS madeOf
  have e : (z.cps.toList.all fun c => decide (c ∈ lawSigns.cps.toList)) = z.cps.toList.all fun c => decide (c ∈ valueSigns.cps.toList) := by
    congr 1
    funext c
    exact decide_eq_decide.mpr (signs_iff c)
  rw [e, show decide ((1 : Int) ≤ (z.length : Int)) = decide (1 ≤ z.length) from decide_eq_decide.mpr (by omega)]
  cases decide (1 ≤ z.length) <;> cases decide ((z.length : Int) ≤ 12) <;> cases (z.cps.toList.all fun c => decide (c ∈ valueSigns.cps.toList)) <;> cases Txt.startswith z "-" <;> rfl
def dueOf (v : V) : List V := [.bl (ofText nameS v), .bl (ofText placeS v), .bl (ofText valueS v)]
/-! ### texts of at most n plain signs -/
structure Plain (n : Nat) (z : Str) : Prop where
  len : z.length ≤ n
  small : ∀ c ∈ TL.tl z, c < 128
theorem Plain.mono {n m : Nat} {z : Str} (h : Plain n z) (l : n ≤ m) : Plain m z := ⟨Nat.le_trans h.len l, h.small⟩
theorem len_tl (z : Str) : z.length = (TL.tl z).length := rfl
theorem Plain.app {n m : Nat} {a b : Str} (h : Plain n a) (g : Plain m b) : Plain (n + m) (a ++ b) := by
  have h1 := h.len
  have h2 := g.len
  refine ⟨?_, ?_⟩
  · rw [len_tl] at h1 h2 ⊢
    rw [TL.tl_append, List.length_append]
    omega
  · intro c hc
    rw [TL.tl_append] at hc
    rcases List.mem_append.mp hc with x | x
    · exact h.small c x
    · exact g.small c x
theorem Plain.cut {n : Nat} {z : Str} (h : Plain n z) (lo hi : Option Int) : Plain n (cutS z lo hi) := by
  have h1 := h.len
  constructor
  · rw [len_tl] at h1 ⊢
    show ((List.take _ (List.drop _ z.cps.toList)).toArray.toList).length ≤ n
    rw [List.length_take, List.length_drop]
    have : z.cps.toList.length = (TL.tl z).length := rfl
    omega
  · intro c hc
    have hc : c ∈ List.take (HT.sIx z.length z.length hi - HT.sIx z.length 0 lo) (List.drop (HT.sIx z.length 0 lo) z.cps.toList) := hc
    exact h.small c (List.mem_of_mem_drop (List.mem_of_mem_take hc))
theorem plain_joinL : ∀ {l : List Str}, (∀ y ∈ l, Plain 1 y) → (TL.joinL [] (l.map TL.tl)).length ≤ l.length ∧ ∀ c ∈ TL.joinL [] (l.map TL.tl), c < 128
  | [], _ => ⟨Nat.le_refl _, fun _ h => by cases h⟩
  | [y], h => ⟨(h y (by simp)).len, (h y (by simp)).small⟩
  | y :: y2 :: r, h => by
    have ih := plain_joinL (l := y2 :: r) fun z hz => h z (List.mem_cons_of_mem _ hz)
    have h1 := (h y (by simp)).len
    have h2 := (h y (by simp)).small
    show (TL.tl y ++ ([] ++ TL.joinL [] ((y2 :: r).map TL.tl))).length ≤ _ ∧ ∀ c ∈ TL.tl y ++ ([] ++ TL.joinL [] ((y2 :: r).map TL.tl)), c < 128
    rw [List.nil_append]
    constructor
    · rw [List.length_append, List.length_cons]
      have := ih.1
      rw [len_tl] at h1
      omega
    · intro c hc
      rcases List.mem_append.mp hc with x | x
      · exact h2 c x
      · exact ih.2 c x
theorem plain_join {l : List Str} (h : ∀ y ∈ l, Plain 1 y) : Plain l.length (Txt.join "" l) := by
  have e : TL.tl (Txt.join "" l) = TL.joinL [] (l.map TL.tl) := by rw [TL.join_eq, TL.tl_join]; rfl
  have q := plain_joinL h
  rw [← e] at q
  exact ⟨q.1, q.2⟩
theorem mem_joinL {S : List Nat} {c : Nat} {p : List Nat} : ∀ {ps : List (List Nat)}, p ∈ ps → c ∈ p → c ∈ TL.joinL S ps
  | [q], h, hc => by
    cases List.mem_singleton.mp h
    exact hc
  | q :: q2 :: r, h, hc => by
    show c ∈ q ++ (S ++ TL.joinL S (q2 :: r))
    rcases List.mem_cons.mp h with rfl | h
    · exact List.mem_append_left _ hc
    · exact List.mem_append_right _ (List.mem_append_right _ (mem_joinL h hc))
theorem Plain.part {n : Nat} {z a : Str} (h : Plain n z) (ha : a ∈ Txt.split z dot) : Plain n a := by
  refine ⟨Nat.le_trans (split_short z a ha) h.len, fun c hc => h.small c ?_⟩
  have e := PySem.StrLaws.join_split z dot
  rw [← e, TL.tl_join]
  exact mem_joinL (List.mem_map_of_mem ha) hc
theorem sum_len {l : List Str} (h : ∀ y ∈ l, Plain 1 y) : (l.map (·.length)).sum ≤ l.length := by
  induction l with
  | nil => exact Nat.le_refl _
  | cons y r ih =>
    have h1 := (h y (by simp)).len
    have h2 := ih fun z hz => h z (List.mem_cons_of_mem _ hz)
    rw [List.map_cons, List.sum_cons, List.length_cons]
    omega
/-! ### heaps of which the bag may have changed -/
theorem Kept.refl (b : Addr) (H : Hp) : Kept b H H := fun _ _ _ h => h
theorem Kept.trans {b : Addr} {H H1 H2 : Hp} (a : Kept b H H1) (c : Kept b H1 H2) : Kept b H H2 := fun x o h e => c x o h (a x o h e)
theorem Kept.same {b : Addr} {H H' : Hp} (h : Same H H') : Kept b H H' := fun x o _ e => h x o e
theorem Kept.new {b : Addr} {H : Hp} {p : Addr} {o : HO} (h : H p = none) : Kept b H (upd H p o) := Kept.same (same_new h)
theorem Kept.at {b : Addr} {H : Hp} {o : HO} : Kept b H (upd H b o) := fun x o h e => by
  rw [upd_ne h]
  exact e
theorem Bag.at {H : Hp} {b : Addr} {n m : Int} (n0 : 0 ≤ n) (m0 : 0 ≤ m) (m1 : m < 2147483648) : Bag (upd H b (.lst [.int n, .int m])) b := ⟨n, m, upd_same, n0, m0, m1⟩
theorem Bag.ne {H : Hp} {b p : Addr} (h : Bag H b) (hp : H p = none) : p ≠ b := by
  obtain ⟨n, m, e, _⟩ := h
  exact (ne_of_none e hp).symm
theorem Bag.new {H : Hp} {b p : Addr} {o : HO} (h : Bag H b) (hp : H p = none) : Bag (upd H p o) b := h.same (same_new hp)
theorem Kept.free {b p : Addr} {H H' : Hp} (k : Kept b H H') (hb : Bag H' b) (h : H' p = none) : H p = none := by
  have ne := hb.ne h
  cases e : H p with
  | none => rfl
  | some o =>
    rw [k p o ne e] at h
    cases h
/-- a comprehension of drawn texts of one sign -/
theorem lc_draw {n i : Nat} {te : TE} {vs : List Nat} {σ : L2.St} {H1 : Hp} {D b : Addr} {Qd : Hp → Prop} (hb : Bag H1 b) (nD : H1 D = none) (hn : n ≤ 1000) (hσ : ∀ x, wipe ((wipe σ vs).set i (some x)) vs = wipe σ vs)
    (hte : ∀ (x : V) (H3 : Hp) (Q' : V → Hp → Prop), Bag H3 b → (∀ y H4, Plain 1 y → Kept b H3 H4 → Bag H4 b → Q' (.str y) H4) → te ((wipe σ vs).set i (some x)) H3 Q')
    (hd : ∀ (ys : List Str) (H3 : Hp), ys.length = n → (∀ y ∈ ys, Plain 1 y) → Kept b H1 H3 → Bag H3 b → H3 D = some (.lst (ys.map V.str)) → Qd H3) :
    ∃ W : Nat → Nat → Hp → Prop, (∃ m, W 0 m (upd H1 D (.lst []))) ∧ ∀ j m H, W j m H →
      ((Itr 0 n).stop j H ∧ Qd H) ∨ ((Itr 0 n).go j H ∧ ∃ Nx : Hp → Prop, (∀ H', Nx H' → ∃ m', m' < m ∧ W (j + 1) m' H') ∧ ∀ x H', (Itr 0 n).yld j H x H' → gName i x (wipe σ vs) H' fun σ2 H2 => wipe σ2 vs = wipe σ vs ∧ tYes σ2 H2 fun c H3 =>
        if c = true then te σ2 H3 fun y H4 => ∃ acc, H4 D = some (.lst acc) ∧ acc.length < sizeLine ∧ Nx (upd H4 D (.lst (acc ++ [y]))) else Nx H3) := by
  refine lc_it walk_range (fun j H3 => ∃ ys : List Str, ys.length = j ∧ (∀ y ∈ ys, Plain 1 y) ∧ Kept b H1 H3 ∧ Bag H3 b ∧ H3 D = some (.lst (ys.map V.str))) ?_ (fun _ _ _ _ => trivial) ?_ ?_
  · exact ⟨[], rfl, (fun _ h => by cases h), Kept.new nD, hb.new nD, upd_same⟩
  · rintro j x H3 H4 hj ⟨ys, l, hp, k, hb3, d3⟩ ⟨rfl, rfl⟩
    refine ⟨hσ _, ?_⟩
    simp only [tYes, if_true]
    refine hte _ _ _ hb3 fun y H5 hy k5 b5 => ?_
    have nDb : D ≠ b := hb.ne nD
    have d5 := k5 D _ nDb d3
    refine ⟨_, d5, ?_, ys ++ [y], ?_, ?_, ?_, ?_, ?_⟩
    · rw [List.length_map]
      exact small1000 (by omega)
    · rw [List.length_append, l]
      rfl
    · intro z hz
      rcases List.mem_append.mp hz with x | x
      · exact hp z x
      · cases List.mem_singleton.mp x
        exact hy
    · intro x o hx e
      rw [upd_ne (ne_of_none e nD)]
      exact (k.trans k5) x o hx e
    · obtain ⟨n5, m5, e5, r5⟩ := b5
      exact ⟨n5, m5, by rw [upd_ne nDb.symm]; exact e5, r5⟩
    · rw [upd_same, List.map_append]
      rfl
  · rintro H3 ⟨ys, l, hp, k, hb3, d3⟩
    exact hd ys H3 l hp k hb3 d3
theorem plain_all {n : Nat} {cs : List Str} (h : (cs.all fun y => decide (y.length ≤ n) && y.cps.toList.all fun c => decide (c < 128)) = true) : ∀ y ∈ cs, Plain n y := fun y hy => by
  have h1 := List.all_eq_true.mp h y hy
  rw [Bool.and_eq_true] at h1
  exact ⟨of_decide_eq_true h1.1, fun c hc => of_decide_eq_true (List.all_eq_true.mp h1.2 c hc)⟩
/-! ### things that are asked about -/
/-- data that repr can show -/
structure Shows (d : PyData) : Prop where
  s : d.showable = true
  n : d.hasDict = false
  p : d.depth ≤ 8
  z : d.shown.length ≤ sizeLine
def Thing (K : PySem.W.Frag) (H : Hp) (v : V) : Prop := Ask K H v ∧ ∃ d, Dp K H v d ∧ Shows d
theorem shows_str {n : Nat} {z : Str} (h : Plain n z) (hn : n ≤ 1000) : Shows (.str z) := by
  refine ⟨rfl, rfl, Nat.zero_le _, ?_⟩
  have h1 := PySem.StrLaws.reprText_len z fun c hc => Nat.lt_trans (h.small c hc) (by decide)
  have h2 := h.len
  have h3 : (100000 : Nat) ≤ sizeLine := by decide
  show (reprText z).length ≤ sizeLine
  omega
theorem texts_show {l : List Str} (h : ∀ y ∈ l, Plain 50 y) : PyData.showableAll (l.map .str) = true ∧ PyData.hasDictAll (l.map .str) = false ∧ PyData.depthAll (l.map .str) = 0 ∧ PyData.leavesShortAll 8 (l.map .str) = true ∧ PyData.bulkAll (l.map .str) ≤ 51 * l.length := by
  induction l with
  | nil => exact ⟨rfl, rfl, rfl, rfl, Nat.le_refl _⟩
  | cons y r ih =>
    obtain ⟨h1, h2, h3, h4, h5⟩ := ih fun z hz => h z (List.mem_cons_of_mem _ hz)
    have hy := h y (by simp)
    have hl := hy.len
    refine ⟨?_, ?_, ?_, ?_, ?_⟩
    · show (true && PyData.showableAll (r.map .str)) = true
      rw [h1]; rfl
    · show (false || PyData.hasDictAll (r.map .str)) = false
      rw [h2]; rfl
    · show max 0 (PyData.depthAll (r.map .str)) = 0
      rw [h3]; rfl
    · show ((PyData.str y).leavesShort 8 && PyData.leavesShortAll 8 (r.map .str)) = true
      rw [h4, Bool.and_true]
      have : ∀ c ∈ y.cps.toList, c < 16 ^ 8 := fun c hc => Nat.lt_trans (hy.small c hc) (by decide)
      simpa only [PyData.leavesShort, List.all_eq_true, decide_eq_true_eq] using this
    · show y.cps.size + 1 + PyData.bulkAll (r.map .str) ≤ 51 * (r.length + 1)
      have : y.length = y.cps.size := rfl
      omega
theorem shows_list {l : List Str} (h : ∀ y ∈ l, Plain 50 y) (hl : l.length ≤ 1000) : Shows (.list (l.map .str)) := by
  obtain ⟨h1, h2, h3, h4, h5⟩ := texts_show h
  refine ⟨h1, h2, by show PyData.depthAll (l.map .str) + 1 ≤ 8; omega, ?_⟩
  have b := PyData.shown_le_bulk 8 (by decide) (.list (l.map .str)) h4
  have e : (PyData.list (l.map .str)).bulk = PyData.bulkAll (l.map .str) := rfl
  have h6 : (1000000 : Nat) ≤ sizeLine := by decide
  rw [e] at b
  omega
theorem shows_tuple {l : List Str} (h : ∀ y ∈ l, Plain 50 y) (hl : l.length ≤ 1000) : Shows (.tuple (l.map .str)) := by
  obtain ⟨h1, h2, h3, h4, h5⟩ := texts_show h
  refine ⟨h1, h2, by show PyData.depthAll (l.map .str) + 1 ≤ 8; omega, ?_⟩
  have b := PyData.shown_le_bulk 8 (by decide) (.tuple (l.map .str)) h4
  have e : (PyData.tuple (l.map .str)).bulk = PyData.bulkAll (l.map .str) := rfl
  have h6 : (1000000 : Nat) ≤ sizeLine := by decide
  rw [e] at b
  omega
theorem dp_strs {K : PySem.W.Frag} {H : Hp} : ∀ l : List Str, DpAll K H (l.map V.str) (l.map .str)
  | [] => .nil
  | y :: r => .cons (.str y) (dp_strs r)
section
variable {K : PySem.W.Frag} {H H' : Hp} {v : V}
mutual
theorem Dp.same (s : Same H H') : ∀ {v : V} {d : PyData}, Dp K H v d → Dp K H' v d
  | _, _, .non => .non
  | _, _, .bl b => .bl b
  | _, _, .int i => .int i
  | _, _, .str x => .str x
  | _, _, .lst h a => .lst (s.seq h) (DpAll.same s a)
  | _, _, .tup h a => .tup (by
      rcases h with (h | ⟨o, h⟩) | h
      · exact .inl (.inl (s _ _ h))
      · exact .inl (.inr ⟨o, s _ _ h⟩)
      · exact .inr h) (DpAll.same s a)
theorem DpAll.same (s : Same H H') : ∀ {vs : List V} {ds : List PyData}, DpAll K H vs ds → DpAll K H' vs ds
  | _, _, .nil => .nil
  | _, _, .cons h a => .cons (Dp.same s h) (DpAll.same s a)
end
end
/-- a kind that is told by values that stand in the heap, or by the value alone -/
inductive Kind (H : Hp) : V → String → Prop where
  | non : Kind H .non "NoneType"
  | bl (b : Bool) : Kind H (.bl b) "bool"
  | int (i : Int) : Kind H (.int i) "int"
  | lst {a : Addr} {xs : List V} (e : H a = some (.lst xs)) : Kind H (.ref a) "list"
  | tup {a : Addr} {xs : List V} (e : H a = some (.tup xs)) : Kind H (.ref a) "tuple"
theorem Kind.ask {K : PySem.W.Frag} {H : Hp} {v : V} {t : String} (k : Kind H v t) : Ask K H v := by
  cases k with
  | non => exact .inr ⟨fun _ => rfl, _, .base .non, by decide +kernel⟩
  | bl b => exact .inr ⟨fun _ => rfl, _, .base (.bl b), by decide +kernel⟩
  | int i => exact .inr ⟨fun _ => rfl, _, .base (.int i), by decide +kernel⟩
  | lst e => exact .inr ⟨fun _ => rfl, _, .base (.lst e), by decide +kernel⟩
  | tup e => exact .inr ⟨fun _ => rfl, _, .base (.tup e), by decide +kernel⟩
/-- asked about again, behind more -/
def Ask' (K : PySem.W.Frag) (H : Hp) (v : V) : Prop := (∃ z, v = .str z ∧ z.length ≤ 1000) ∨ ∃ t, Kind H v t
theorem Ask'.ask {K : PySem.W.Frag} {H : Hp} {v : V} (h : Ask' K H v) : Ask K H v := by
  rcases h with h | ⟨t, h⟩
  · exact .inl h
  · exact h.ask
theorem Ask'.same {K : PySem.W.Frag} {H H' : Hp} {v : V} (h : Ask' K H v) (s : Same H H') : Ask' K H' v := by
  rcases h with h | ⟨t, h⟩
  · exact .inl h
  · cases h with
    | non => exact .inr ⟨_, .non⟩
    | bl b => exact .inr ⟨_, .bl b⟩
    | int i => exact .inr ⟨_, .int i⟩
    | lst e => exact .inr ⟨_, .lst (s _ _ e)⟩
    | tup e => exact .inr ⟨_, .tup (s _ _ e)⟩
theorem step_new {H : Hp} {b p : Addr} {o : HO} (hb : Bag H b) (np : H p = none) : ∃ H2, upd H p o = H2 ∧ H2 p = some o ∧ Kept b H H2 ∧ Bag H2 b ∧ p ≠ b :=
  ⟨_, rfl, upd_same, Kept.new np, hb.new np, hb.ne np⟩
def Held (K : PySem.W.Frag) (p a : Addr) (xs : List V) (H : Hp) : Prop := SqL K H a xs ∧ ∀ H', Kept p H H' → SqL K H' a xs
theorem held_of {K : PySem.W.Frag} {H H1 : Hp} {p a : Addr} {xs : List V} (h : SqL K H a xs) (s : Same H H1) (np : H p = none) : ∀ H', Kept p H1 H' → SqL K H' a xs := by
  intro H' k
  rcases h with (h | ⟨o, h⟩) | h
  · exact .inl (.inl (k _ _ (ne_of_none h np) (s _ _ h)))
  · exact .inl (.inr ⟨o, k _ _ (ne_of_none h np) (s _ _ h)⟩)
  · exact .inr h
end My
set_option Elab.async false
set_option linter.all false
set_option maxRecDepth 100000
/-! own == and != of an instance with an object of any plain kind, and == from the other side -/
namespace My
open PySem PySem.Spec PyProof.Rows L2
/-- the plain kinds -/
inductive KindS (H : Hp) : V → String → Prop where
  | non : KindS H .non "NoneType"
  | bl (b : Bool) : KindS H (.bl b) "bool"
  | int (i : Int) : KindS H (.int i) "int"
  | str (z : Str) : KindS H (.str z) "str"
  | lst {a : Addr} {xs : List V} (e : H a = some (.lst xs)) : KindS H (.ref a) "list"
  | tup {a : Addr} {xs : List V} (e : H a = some (.tup xs)) : KindS H (.ref a) "tuple"
def plainKinds : List String := ["NoneType", "bool", "int", "str", "list", "tuple"]
/-- what the written part says of a class with an own == -/
structure EqC (K : PySem.W.Frag) (C f : Addr) : Prop where
  eq : Meth K C "__eq__" f
  ne : PySem.W.findIn K (.ref C) "__ne__" = some (some (.builtin "object.__ne__"))
  mro : PySem.W.mroIn K C (.type "object") = some true
  off : ∀ T ∈ plainKinds, PySem.W.mroIn K C (.type T) = some false
theorem sub_off {K : PySem.W.Frag} {C : Addr} {T : String} {l : List String} (e : fastBuiltinMro T = some (l.map Value.type)) : PySem.W.subIn K (.type T) (.ref C) = some false := by
  show (fastBuiltinMro T).map (·.contains (.ref C)) = some false
  rw [e]
  show some ((l.map Value.type).contains (.ref C)) = some false
  congr 1
  clear e
  induction l with
  | nil => rfl
  | cons a r ih =>
    rw [List.map_cons, List.contains_cons]
    rw [ih, Bool.or_false]
    first
      | rfl
      | simp
theorem kit_off {K : PySem.W.Frag} {C : Addr} {T : String} {dd : Option Addr} {cd : ClassData} {sl : Array (Option Value)} {l : List String} (lc : K.lookup C = some ⟨.type "type", dd, .cls cd, sl⟩) (e : fastBuiltinMro T = some (l.map Value.type)) :
    PySem.W.kitOne K (.type T) (.ref C) = some false := by
  have h1 : PySem.W.clsIn K C = some cd := by
    unfold PySem.W.clsIn
    rw [lc]
  have h2 : PySem.W.typeIn K (.ref C) = some (.type "type") := by
    show (K.lookup C).map (·.cls) = _
    rw [lc]
    rfl
  unfold PySem.W.kitOne
  rw [if_neg (by simp)]
  show (if ((PySem.W.clsIn K C).isSome && PySem.W.typeIn K (.ref C) == some (.type "type")) = true then PySem.W.subIn K (.type T) (.ref C) else none) = some false
  rw [h1, h2, if_pos (by simp)]
  exact sub_off e
section
variable {X : Cx} {k : Nat} {f C : Addr} {fd : FuncData} {ps : List Str} {sp : Sp} {pins : List (Addr × Obj)} {σ : L2.St} {H : Hp} {s : Shared}
theorem KindS.typeIs {v : V} {u : Value} {T : String} (I : Inv X pins σ H s) (r : RelV v u) (k : KindS H v T) : s.TypeIs u T := by
  cases k with
  | non => cases (show u = Value.none from r); rfl
  | bl b => cases (show u = Value.bool b from r); rfl
  | int i => obtain ⟨t, q⟩ := (show ∃ t, u = Value.int i t from r); cases q; rfl
  | str z => obtain ⟨t, q⟩ := (show ∃ t, u = Value.str z t from r); cases q; rfl
  | lst e =>
    rename_i a xs
    cases (show u = Value.ref a from r)
    obtain ⟨its, _, pl, _⟩ := I.list (SqL.of (K := X.K) e)
    obtain ⟨o, h1, h2, _⟩ := pl.isList
    exact ⟨o, h1, h2⟩
  | tup e =>
    rename_i a xs
    cases (show u = Value.ref a from r)
    obtain ⟨its, _, ⟨o, h1, h2, _⟩, _⟩ := I.tuple (SqT.of (K := X.K) e)
    exact ⟨o, h1, h2⟩
theorem KindS.sub {v : V} {T : String} {K : PySem.W.Frag} (k : KindS H v T) : PySem.W.subIn K (.type T) (.ref C) = some false := by
  cases k with
  | non => exact sub_off (l := ["NoneType", "object"]) (by decide +kernel)
  | bl b => exact sub_off (l := ["bool", "int", "object"]) (by decide +kernel)
  | int i => exact sub_off (l := ["int", "object"]) (by decide +kernel)
  | str z => exact sub_off (l := ["str", "object"]) (by decide +kernel)
  | lst e => exact sub_off (l := ["list", "object"]) (by decide +kernel)
  | tup e => exact sub_off (l := ["tuple", "object"]) (by decide +kernel)
theorem KindS.mem {v : V} {T : String} (k : KindS H v T) : T ∈ plainKinds := by cases k <;> decide
/-- an instance of the class, or an object of a plain kind -/
def Oth (C : Addr) (H : Hp) (y : V) : Prop := (∃ b dy gs, y = .ref b ∧ H b = some (.ins C dy gs)) ∨ ∃ T, KindS H y T
theorem oth_looks {y : V} {u : Value} (I : Inv X pins σ H s) (r : RelV y u) (o : Oth C H y) : ∃ tb, PySem.W.Looks (model X.prog X.w) s.heap (typeOf u) tb ∧ PySem.W.notFirst X.K C tb = true := by
  rcases o with ⟨b, dy, gs, rfl, e⟩ | ⟨T, k⟩
  · cases (show u = Value.ref b from r)
    obtain ⟨od, J⟩ := inst_of I e
    exact ⟨.ref C, J.type, by simp [PySem.W.notFirst]⟩
  · refine ⟨.type T, fun A Q E s' keep q => ?_, by unfold PySem.W.notFirst; rw [k.sub]; simp⟩
    have t := k.typeIs I r
    refine wpAny_typeOf ?_ q
    cases u with
    | ref a => obtain ⟨o, h1, h2⟩ := t; exact ⟨o, keep _ _ h1, h2⟩
    | _ => exact t
/-- x == y (x != y), x an instance of the class at C -/
def rEqOwn (C : Addr) (sp : Sp) (neg : Bool) : R2 := fun x y H Q => ∃ a dx fs, x = .ref a ∧ H a = some (.ins C dx fs) ∧ Oth C H y ∧ sp [x, y] H (fun v H' => ∃ b, v = .bl b ∧ Q (.bl (if neg then !b else b)) H') E0
theorem op_eqOwn (c : EqC X.K C f) (F : FnOk X.prog X.w X.K X.mg X.base CX0 k f fd ps sp) (hr : Room k X.A) (hb : Binds X.K fd ps []) : OpR X (compareOp .Eq) (rEqOwn C sp false) := by
  intro pins s σ H x y v u Q I rx ry h
  obtain ⟨a, dx, fs, rfl, ea, ho, hsp⟩ := h
  cases (show v = Value.ref a from rx)
  obtain ⟨od, J⟩ := inst_of I ea
  obtain ⟨mm, Fm⟩ := I.fr
  obtain ⟨tb, hl, hn⟩ := oth_looks I ry ho
  show wpAny _ _ (richCompare .Eq (.ref a) u) _ _ _
  refine PySem.W.cmp_K (op := .Eq) hr.units0 Fm I.mod.kin J hl hn c.eq.at_ c.eq.fn (run_own F hr I.env0 hb I (vs := [.ref a, y]) (.cons rfl (.cons ry .nil)) hsp fun u' s' hu => ?_)
  obtain ⟨z, H', I', rz, b, rfl, q⟩ := hu
  cases (show u' = Value.bool b from rz)
  exact ⟨.bl b, H', I', rfl, q⟩
theorem ifBound_ne {M : Model} {A : Around} {E : Value → Shared → Prop} {K : PySem.W.Frag} {a : Addr} {ox : Obj} {od : Option Obj} {args : List Value} {Q : Option Value → Shared → Prop} (kin : K.In s.heap) (J : PySem.W.InstAt s.heap a ox C od) (hs : PySem.W.findIn K (.ref C) "__ne__" = some (some (.builtin "object.__ne__")))
    (h : wpAny M A (call (.builtin "object.__ne__") (.ref a :: args)) (fun v => Q (some v)) E s) : wpAny M A (callSpecialIfBound? (.ref a) "__ne__" args) Q E s := by
  have fin : wpAny M A (call (.builtin "object.__ne__") ([.ref a] ++ args) >>= fun v => pure (some v)) Q E s := wpAny_bind (wpAny_mono h (fun v s' q => wpAny_pure q) fun _ _ q => q)
  simp only [callSpecialIfBound?, bindSpecialIfBound?]
  refine wpAny_holding (wpAny_bind (wpAny_bind (wpAny_bind (J.type.here ((PySem.W.looks_findIn kin hs).here (wpAny_bind (wpAny_askSetting (wpAny_ite ?_))))))))
  split
  · exact wpAny_bind (wpAny_of_eq (PySem.F.cmp_object.ne.bind _) (wpAny_pure (by exact fin)))
  · exact wpAny_tryCatch (wpAny_bind (wpAny_of_eq (PySem.F.cmp_object.ne.bind _) (wpAny_pure (by exact fin))))
theorem op_neOwn (c : EqC X.K C f) (F : FnOk X.prog X.w X.K X.mg X.base CX0 k f fd ps sp) (hr : Room (k + 1) X.A) (hb : Binds X.K fd ps []) : OpR X (compareOp .NotEq) (rEqOwn C sp true) := by
  intro pins s σ H x y v u Q I rx ry h
  obtain ⟨a, dx, fs, rfl, ea, ho, hsp⟩ := h
  cases (show v = Value.ref a from rx)
  obtain ⟨od, J⟩ := inst_of I ea
  obtain ⟨mm, Fm⟩ := I.fr
  obtain ⟨tb, hl, hn⟩ := oth_looks I ry ho
  have un := hr.un
  have one : wpAny (model X.prog X.w) X.A (tryCompare (.ref a) "__ne__" u) (fun r s' => ∃ w, r = some w ∧ EP X pins σ Q w s') X.xe s := by
    unfold tryCompare
    refine wpAny_bind (ifBound_ne I.kIn J c.ne (wpAny_call (codeAny_call_builtin PySem.F.cmp_object.ne.plain PySem.F.cmpEntry_ne (PySem.W.check_slot PySem.F.cmpKind_ne PySem.F.cmpSplit_ne (J.type.andThen (PySem.W.looks_mroIn I.kIn c.mro)) (PySem.F.cmpArgs_ne _ _) ?_))))
    unfold Builtin.«object.__ne__»
    have en := I.env0.in1
    have own : wpAny (model X.prog X.w) X.A.in1 (callSpecialIfBound? (.ref a) "__eq__" [u]) (fun r s' => ∃ b, r = some (.bool b) ∧ EP X pins σ Q (.bool (!b)) s') X.xe s :=
      PySem.W.ifBound_K I.kIn J c.eq.at_ c.eq.fn (run_own F hr.in1 en hb I (vs := [.ref a, y]) (.cons rfl (.cons ry .nil)) hsp fun u' s' hu => by
        obtain ⟨z, H', I', rz, b, rfl, q⟩ := hu
        cases (show u' = Value.bool b from rz)
        exact ⟨b, rfl, .bl (!b), H', I', rfl, q⟩)
    repeat (first
      | with_reducible refine wpAny_cRoomFor (by show X.A.units + 1 < cLine; omega) ?_
      | (refine wpAny_bind (m := callSpecialIfBound? (.ref a) (Str.ofString "__eq__") [u]) (wpAny_mono own (fun r s' hq => ?_) fun _ _ q => q))
      | wp_step)
    obtain ⟨b, rfl, q⟩ := hq
    exact wpAny_bind (wpAny_truthy_bool (wpAny_pure (wpAny_pure ⟨_, rfl, q⟩)))
  show wpAny _ _ (richCompare .NotEq (.ref a) u) _ _ _
  simp only [richCompare, cmpInfo_NotEq, oneThing_ref]
  refine wpAny_holding (wpAny_bind (wpAny_cRoomFor hr.units0 (wpAny_bind (J.type.here (wpAny_bind (hl.here ?_))))))
  generalize tryCompare (.ref a) (Str.ofString "__ne__") u = tc at one ⊢
  generalize EP X pins σ Q = R at one ⊢
  have fin : ∀ (m : Sem Value), wpAny (model X.prog X.w) X.A (tc >>= fun d => match d with | some v => pure v | _ => m) R X.xe s := fun m =>
    wpAny_bind (wpAny_mono one (fun r s' z => by obtain ⟨w, rfl, z⟩ := z; exact wpAny_pure z) fun _ _ z => z)
  split
  · rename_i q
    have e : PySem.W.subIn X.K tb (.ref C) = some false := by
      rcases Bool.or_eq_true_iff.mp hn with e | e
      · rw [beq_iff_eq.mp e] at q; simp at q
      · exact beq_iff_eq.mp e
    refine wpAny_bind ((PySem.W.looks_subIn I.kIn e).here ?_)
    simp only [Bool.false_eq_true, if_false]
    exact fin _
  · refine wpAny_bind (wpAny_pure ?_)
    simp only [Bool.false_eq_true, if_false]
    exact fin _
/-! ### from the other side -/
theorem str_off {M : Model} {A : Around} {E : Value → Shared → Prop} {a dx : Addr} {od : Option Obj} {z : Str} {t : Tok} {Q : PySem.Fin → Shared → Prop} (J : PySem.W.InstAt s.heap a (PySem.W.instObj C dx) C od) (h : Q (.done (.ret .notImplemented)) s) :
    wpAny M A (Builtin.«str.__eq__» ⟨[.str z t, .ref a], []⟩) Q E s := by
  unfold Builtin.«str.__eq__» Builtin.Str.strCompare Builtin.Str.strSlot
  repeat (first | with_reducible refine wpAny_load J.at_ ?_ | wp_step)
  exact h
theorem int_off {M : Model} {A : Around} {E : Value → Shared → Prop} {a dx : Addr} {od : Option Obj} {z : Int} {t : Tok} {Q : PySem.Fin → Shared → Prop} (J : PySem.W.InstAt s.heap a (PySem.W.instObj C dx) C od) (h : Q (.done (.ret .notImplemented)) s) :
    wpAny M A (Builtin.«int.__eq__» ⟨[.int z t, .ref a], []⟩) Q E s := by
  show wpAny M A (Builtin.Int.intBinary "__eq__" (fun x y => ret (.bool (x == y))) false ⟨[.int z t, .ref a], []⟩) Q E s
  unfold Builtin.Int.intBinary
  repeat (first | with_reducible refine wpAny_load J.at_ ?_ | wp_step)
  exact h
theorem bool_off {M : Model} {A : Around} {E : Value → Shared → Prop} {a dx : Addr} {od : Option Obj} {z : Bool} {Q : PySem.Fin → Shared → Prop} (J : PySem.W.InstAt s.heap a (PySem.W.instObj C dx) C od) (h : Q (.done (.ret .notImplemented)) s) :
    wpAny M A (Builtin.«int.__eq__» ⟨[.bool z, .ref a], []⟩) Q E s := by
  show wpAny M A (Builtin.Int.intBinary "__eq__" (fun x y => ret (.bool (x == y))) false ⟨[.bool z, .ref a], []⟩) Q E s
  unfold Builtin.Int.intBinary
  repeat (first | with_reducible refine wpAny_load J.at_ ?_ | wp_step)
  exact h
theorem inst_off {K : PySem.W.Frag} {prog : Program} {w : World} {A : Around} {E : Value → Shared → Prop} {a dx : Addr} {od : Option Obj} {T : String} {Q' : Bool → Shared → Prop} (kin : K.In s.heap) (J : PySem.W.InstAt s.heap a (PySem.W.instObj C dx) C od) (off : PySem.W.mroIn K C (.type T) = some false)
    (h : Q' false s) : wpAny (model prog w) A (isInstance (.ref a) (.type T)) Q' E s := by
  have L : PySem.W.Looks (model prog w) s.heap (isInstance (.ref a) (.type T)) false := J.type.andThen (PySem.W.looks_mroIn kin off)
  exact L.here h
theorem list_off {K : PySem.W.Frag} {prog : Program} {w : World} {A : Around} {E : Value → Shared → Prop} {a l dx : Addr} {od : Option Obj} {Q : PySem.Fin → Shared → Prop} (kin : K.In s.heap) (J : PySem.W.InstAt s.heap a (PySem.W.instObj C dx) C od) (off : PySem.W.mroIn K C (.type "list") = some false)
    (h : Q (.done (.ret .notImplemented)) s) : wpAny (model prog w) A (Builtin.«list.__eq__» ⟨[.ref l, .ref a], []⟩) Q E s := by
  show wpAny _ _ (isInstance (.ref a) (.type "list") >>= _) _ _ s
  refine wpAny_bind (inst_off kin J off ?_)
  simp only [Bool.not_false, if_true]
  repeat (first | exact h | wp_step)
theorem tup_off {K : PySem.W.Frag} {prog : Program} {w : World} {A : Around} {E : Value → Shared → Prop} {a l dx : Addr} {od : Option Obj} {Q : PySem.Fin → Shared → Prop} (kin : K.In s.heap) (J : PySem.W.InstAt s.heap a (PySem.W.instObj C dx) C od) (off : PySem.W.mroIn K C (.type "tuple") = some false)
    (h : Q (.done (.ret .notImplemented)) s) : wpAny (model prog w) A (Builtin.«tuple.__eq__» ⟨[.ref l, .ref a], []⟩) Q E s := by
  show wpAny _ _ (isInstance (.ref a) (.type "tuple") >>= _) _ _ s
  refine wpAny_bind (inst_off kin J off ?_)
  simp only [Bool.not_false, if_true]
  repeat (first | exact h | wp_step)
/-- an object of a plain kind declines -/
theorem declines {v : V} {u : Value} {T : String} {a dx : Addr} {fs : List (Str × V)} {Q : Option Value → Shared → Prop} {E : Value → Shared → Prop} {A : Around} (c : EqC X.K C f) (I : Inv X pins σ H s) (ea : H a = some (.ins C dx fs)) (r : RelV v u) (kd : KindS H v T) (h : Q none s) :
    wpAny (model X.prog X.w) A (tryCompare u "__eq__" (.ref a)) Q E s := by
  have hT := kd.typeIs I r
  obtain ⟨od, J⟩ := inst_of I ea
  cases kd with
  | non =>
    cases (show u = Value.none from r)
    exact wpAny_tryCompare_declines hT PySem.F.slot_NoneType_eq (wpAny_call_entry PySem.F.slot_NoneType_eq hT PySem.F.entry_NoneType_eq (wpAny_pure ⟨_, rfl, rfl, h⟩) (PySem.F.args_NoneType_eq_2 _ _))
  | bl b =>
    cases (show u = Value.bool b from r)
    exact wpAny_tryCompare_declines hT PySem.F.slot_bool_eq (wpAny_call_entry PySem.F.slot_bool_eq hT PySem.F.entry_int_eq (bool_off J ⟨_, rfl, rfl, h⟩) (PySem.F.args_int_eq_2 _ _))
  | int i =>
    obtain ⟨t, q⟩ := (show ∃ t, u = Value.int i t from r)
    cases q
    exact wpAny_tryCompare_declines hT PySem.F.slot_int_eq (wpAny_call_entry PySem.F.slot_int_eq hT PySem.F.entry_int_eq (int_off J ⟨_, rfl, rfl, h⟩) (PySem.F.args_int_eq_2 _ _))
  | str z =>
    obtain ⟨t, q⟩ := (show ∃ t, u = Value.str z t from r)
    cases q
    exact wpAny_tryCompare_declines hT PySem.F.slot_str_eq (wpAny_call_entry PySem.F.slot_str_eq hT PySem.F.entry_str_eq (str_off J ⟨_, rfl, rfl, h⟩) (PySem.F.args_str_eq_2 _ _))
  | lst e =>
    rename_i l xs
    cases (show u = Value.ref l from r)
    exact wpAny_tryCompare_declines hT PySem.F.slot_list_eq (wpAny_call_entry PySem.F.slot_list_eq hT PySem.F.entry_list_eq (list_off I.kIn J (c.off _ (by decide)) ⟨_, rfl, rfl, h⟩) (PySem.F.args_list_eq_2 _ _))
  | tup e =>
    rename_i l xs
    cases (show u = Value.ref l from r)
    exact wpAny_tryCompare_declines hT PySem.F.slot_tuple_eq (wpAny_call_entry PySem.F.slot_tuple_eq hT PySem.F.entry_tuple_eq (tup_off I.kIn J (c.off _ (by decide)) ⟨_, rfl, rfl, h⟩) (PySem.F.args_tuple_eq_2 _ _))
/-- x == o, x of a plain kind, o an instance: o's own == is asked -/
def rEqOwnR (C : Addr) (sp : Sp) : R2 := fun x y H Q => ∃ a dx fs T, y = .ref a ∧ H a = some (.ins C dx fs) ∧ KindS H x T ∧ sp [y, x] H (fun v H' => ∃ b, v = .bl b ∧ Q (.bl b) H') E0
theorem op_eqOwnR (c : EqC X.K C f) (F : FnOk X.prog X.w X.K X.mg X.base CX0 k f fd ps sp) (hr : Room k X.A) (hb : Binds X.K fd ps []) : OpR X (compareOp .Eq) (rEqOwnR C sp) := by
  intro pins s σ H x y v u Q I rx ry h
  obtain ⟨a, dx, fs, T, rfl, ea, kd, hsp⟩ := h
  cases (show u = Value.ref a from ry)
  obtain ⟨od, J⟩ := inst_of I ea
  have hT := kd.typeIs I rx
  have two : wpAny (model X.prog X.w) X.A (tryCompare (.ref a) "__eq__" v) (fun r s' => ∃ w, r = some w ∧ EP X pins σ Q w s') X.xe s := by
    unfold tryCompare
    refine wpAny_bind (PySem.W.ifBound_K I.kIn J c.eq.at_ c.eq.fn (run_own F hr I.env0 hb I (vs := [.ref a, x]) (.cons rfl (.cons rx .nil)) hsp fun u' s' hu => ?_))
    obtain ⟨z, H', I', rz, b, rfl, q⟩ := hu
    cases (show u' = Value.bool b from rz)
    exact wpAny_pure ⟨_, rfl, .bl b, H', I', rfl, q⟩
  have one : ∀ (Q' : Option Value → Shared → Prop), Q' none s → wpAny (model X.prog X.w) X.A (tryCompare v "__eq__" (.ref a)) Q' X.xe s := fun Q' h' => declines c I ea rx kd h'
  show wpAny _ _ (richCompare .Eq v (.ref a)) _ _ _
  simp only [richCompare, cmpInfo_Eq, hT.oneThing_none]
  refine wpAny_holding (wpAny_bind (wpAny_cRoomFor hr.units0 (wpAny_bind (wpAny_typeOf hT (wpAny_bind (J.type.here ?_))))))
  generalize tryCompare (.ref a) (Str.ofString "__eq__") v = tc2 at two ⊢
  generalize tryCompare v (Str.ofString "__eq__") (.ref a) = tc1 at one ⊢
  generalize EP X pins σ Q = R at two ⊢
  have ne : (Value.type T != Value.ref C) = true := by simp
  rw [if_pos ne]
  refine wpAny_bind ((PySem.W.looks_mroIn I.kIn (c.off T kd.mem)).here ?_)
  simp only [Bool.false_eq_true, if_false, Bool.not_false, if_true]
  refine wpAny_bind (one _ ?_)
  exact wpAny_bind (wpAny_mono two (fun r s' z => by obtain ⟨w, rfl, z⟩ := z; exact wpAny_pure z) fun _ _ z => z)
end
end My
set_option Elab.async false
set_option linter.all false
set_option maxRecDepth 100000
/-! Defs with keyword-only defaults; a def with a star parameter and a keyword-only default. -/
namespace My
open PySem PySem.Spec PyProof.Rows L2 StX
section
variable {K : PySem.W.Frag} {fd : FuncData} {ps ks : List Str} {D : Addr}
/-- keywords ks are given, those of l lack -/
theorem kbn_of {n : Nat} {l : List (Str × Value)} {g : List Value → List Value → List Value} {gV : List V → List V → List V} (hq : ∀ q ∈ l, PySem.W.nsIn K D q.1 = some (some q.2))
    (h : ∀ us ws : List Value, us.length = n → ws.length = ks.length → KwChain D l (bindArgs fd ⟨us, ks.zip ws⟩) (ps.zip (g us ws)))
    (rel : ∀ {vs : List V} {us : List Value} {zs : List V} {ws : List Value}, Vals vs us → Vals zs ws → Vals (gV vs zs) (g us ws)) : KBn K fd ps n ks g gV :=
  ⟨fun s us ws X l1 l2 => BindsTo.of_looks fun M => KwChain.looks X hq (h us ws l1 l2), rel⟩
/-- all keyword-only ones lack -/
theorem binds_of {l : List (Str × Value)} (n : Nat) (hn : n + l.length = ps.length) (hq : ∀ q ∈ l, PySem.W.nsIn K D q.1 = some (some q.2))
    (h : ∀ us : List Value, us.length = n → KwChain D l (bindArgs fd ⟨us, []⟩) (ps.zip (us ++ l.map (·.2)))) : Binds K fd ps (l.map (·.2)) := fun s us X hl =>
  BindsTo.of_looks fun M => KwChain.looks X hq (h us (by rw [List.length_append, List.length_map] at hl; omega))
/-- an empty tuple of the written part -/
theorem sqt_nil {t : Addr} {oc : Option Addr} {n : Nat} {sl : Array (Option Value)} (h : K.lookup t = some ⟨.type "tuple", oc, .seq #[] n, sl⟩) (H : Hp) : SqT K H t [] := .inr ⟨_, #[], n, h, rfl, rfl, Nat.zero_le _, .nil⟩
end
theorem vals_snoc {xs : List V} {x : V} {us : List Value} {u : Value} (a : Vals xs us) (b : RelV x u) : Vals (xs ++ [x]) (us ++ [u]) := a.append (.cons b .nil)
theorem valsRev : ∀ {xs : List V} {us : List Value}, Vals xs us → Vals xs.reverse us.reverse
  | _, _, .nil => .nil
  | _, _, .cons a r => by
    rw [List.reverse_cons, List.reverse_cons]
    exact vals_snoc (valsRev r) a
/-- what a call of a def with a star parameter and one keyword-only default binds -/
def StarD (fd : FuncData) (D : Addr) (ps : List Str) (kx pv : Str) (u : Value) : Prop := ∀ us rest : List Value, us.length = ps.length → ∃ (β γ : Type) (k1 : Option Value → Sem β) (k2 : β → Sem γ) (k3 : γ → Sem (List (Str × Value))) (a : β),
  bindArgs fd ⟨us ++ rest, []⟩ = ((nsGet D kx >>= k1) >>= k2) >>= k3 ∧ k1 (some u) = pure a ∧ (k2 a >>= k3) = (newTuple rest >>= fun t => pure (ps.zip us ++ [(kx, u), (pv, t)]))
/-- the promise of a call with a star parameter and one keyword-only default -/
def starSp (n : Nat) (dv : V) (sp : Sp) : Sp := fun vs H Q E => ∃ ws rest, vs = ws ++ rest ∧ ws.length = n ∧ rest.length ≤ sizeLine ∧ ∀ p, H p = Option.none → sp (ws ++ [dv, V.ref p]) (upd H p (.tup rest)) Q E
section
variable {CX : CXT} {P : Program} {w : World} {K : PySem.W.Frag} {mg : Str → Option Value} {base : Heap} {k : Nat} {f : Addr} {x qual : Str} {st : Stmt} {fd : FuncData} {N ps : List Str} {sp : Sp}
theorem Fun.okS {kx pv : Str} {D : Addr} {u : Value} {dv : V} (F : Fun K x qual st f fd) (S : FnScope N (ps ++ [kx, pv]) (defScope st)) (hCX : CXUp CX) (hK : PySem.W.nsIn K D kx = some (some u)) (rel : RelV dv u) (hb : StarD fd D ps kx pv u)
    (hbody : ∀ (cdv : Value) (A : Around) (outer : List Env) (s : Shared) (H : Hp) (vs : List V) (Q : VK) (E : XK), Room k (A.deeper (envOfC qual (defScope st) s.heap.objs.size f cdv)) → sp vs H Q E →
      ∃ t, PSs (cxOf CX P w K mg base N qual (defScope st) f cdv A outer s H E) (defBody st) t ∧ t { nx := fun _ H' => Q .non H', rt := Q } (start N vs) H) :
    FnR P w K mg base CX (k + 1) f (fun vs H Q E => ∃ ws rest, vs = ws ++ rest ∧ ws.length = ps.length ∧ rest.length ≤ sizeLine ∧ ∀ p, H p = Option.none → sp (ws ++ [dv, V.ref p]) (upd H p (.tup rest)) Q E) := by
  obtain ⟨oc, od, kV, doc, pm, an, cdv, ct, osl, rfl, lk, hcd⟩ := F.ex
  intro A outer s H us vs Q E hr e0 r hsp
  obtain ⟨ws, rest, ev, hl, hz, hq⟩ := hsp
  subst ev
  obtain ⟨u1, u2, eu, r1, r2⟩ := vals_split r
  subst eu
  have hn : H s.heap.objs.size = Option.none := e0.hok.fresh (Nat.le_refl _)
  have hl1 : u1.length = ps.length := by rw [← r1.length]; exact hl
  have hl2 : u2.length ≤ sizeLine := by rw [← r2.length]; exact hz
  have KX : K.In s.heap := e0.mod.kin.keeps fun b o e => (e0.bs b o e).1
  refine run_bnd lk hcd S hr e0 (G := fun xs H2 => ∃ p, H p = Option.none ∧ xs = ws ++ [dv, V.ref p] ∧ H2 = upd H p (.tup rest)) (fun A' Ex Q' h => ?_) fun s2 H2 xs ⟨p, hp, ex, eH⟩ hr' => ?_
  · obtain ⟨β, γ, k1, k2, k3, a, e1, e2, e3⟩ := hb u1 u2 hl1
    rw [e1, bind_assoc]
    refine wpAny_bind (((PySem.W.looks_nsIn (M := model P w) KX hK).andThen (PySem.W.Looks.of_pure e2)).here ?_)
    show wpAny _ _ (k2 a >>= k3) _ _ _
    rw [e3]
    refine wpAny_bind (wpAny_newTuple (wpAny_pure ?_) hl2)
    have new : ObjOk P w (upd H s.heap.objs.size (.tup rest)) (s.heap.push ({ cls := .type "tuple", data := .seq u2.toArray } : Obj)) s.heap.objs.size (.tup rest) := ⟨hz, u2, r2, ⟨_, Heap.get?_push_size _ rfl, rfl, _, rfl⟩⟩
    have un := un_laid (fs := frs outer) (s := s) (o := ({ cls := .type "tuple", data := .seq u2.toArray } : Obj)) (u := .tup rest) hn
    have z := h _ _ (ws ++ [dv, V.ref s.heap.objs.size]) (u1 ++ [u, Value.ref s.heap.objs.size]) (env0_laid e0 new) un rfl (fun e s' => hCX outer s H _ _ E e s' un (fun b o q => Heap.get?_push_of_some _ q) rfl) (r1.append (.cons rel (.cons rfl .nil)))
      (by rw [List.length_append, List.length_append, hl] <;> rfl) ⟨_, hn, rfl, rfl⟩
    rw [List.zip_append hl1.symm] at z
    exact z
  · subst ex eH
    exact hbody cdv A outer s2 _ _ Q E hr' (hq p hp)
/-- the same where nothing that is raised leaves the def -/
theorem Fun.okS0 {kx pv : Str} {D : Addr} {u : Value} {dv : V} (F : Fun K x qual st f fd) (S : FnScope N (ps ++ [kx, pv]) (defScope st)) (hK : PySem.W.nsIn K D kx = some (some u)) (rel : RelV dv u) (hb : StarD fd D ps kx pv u)
    (hbody : ∀ (cdv : Value) (A : Around) (outer : List Env) (s : Shared) (H : Hp) (vs : List V) (Q : VK) (E : XK), Room k (A.deeper (envOfC qual (defScope st) s.heap.objs.size f cdv)) → sp vs H Q E →
      ∃ t, PSs (cxOf CX0 P w K mg base N qual (defScope st) f cdv A outer s H E).nox (defBody st) t ∧ t { nx := fun _ H' => Q .non H', rt := Q } (start N vs) H) :
    FnR P w K mg base CX0 (k + 1) f (starSp ps.length dv sp) :=
  Fun.okS (CX := CX0) F S cxUp_none hK rel hb fun cdv A outer s H vs Q E hr h => let ⟨t, h1, q⟩ := hbody cdv A outer s H vs Q E hr h; ⟨t, h1.nox, q⟩
end
end My
set_option Elab.async false
set_option linter.all false
set_option maxRecDepth 100000
/-! {**a, **b}: a new dict that has the items of two. -/
namespace PySem
section
variable {prog : Program} {w : World} {K : Type} [DecidableEq K] {knd : KeyKind prog w K} {A : Around} {E : Value → Shared → Prop} {s : Shared}
theorem my_dictPut {d : Addr} {kvs : List (K × Value)} {k : K} {key v : Value} {Q : Unit → Shared → Prop} (hkey : knd.is k key = true) (hm : s.heap.DictOf knd d kvs)
    (hQ : ∀ h', h'.DictOf knd d (stored kvs k v) → Heap.SameBut d s.heap h' → Q () { s with heap := h' })
    (hsz : kvs.length ≤ sizeLine) : wpAny (model prog w) A (dictPut d (knd.hash k) key v) Q E s := by
  obtain ⟨o, es, ep, ho, hc, hd, hk, hp, hn⟩ := hm
  have hes : es.size ≤ sizeLine := by
    have e1 := hp.length
    have e2 : es.toList.length = es.size := by simp
    omega
  unfold dictPut
  refine wpAny_bind (wpAny_dictFind_of hkey ho hd hk ?_)
  have hidx : (es.findIdx? fun e => knd.is k e.key) = kvs.findIdx? fun kv => decide (kv.1 = k) := by
    rw [← hp.findIdx k]; obtain ⟨l⟩ := es; simp
  cases hi : es.findIdx? fun e => knd.is k e.key with
  | some i =>
    refine wpAny_updateDict ho hd (hQ _ ⟨_, _, ep, Heap.get?_update_self _ ho (Obj.isFreed_of_dict (Obj.data_mapDict hd _)), hc.mapDict _, Obj.data_mapDict hd _, hk.modify _ _, ?_, ?_⟩ (Heap.SameBut.update ..))
    · rw [stored, if_pos (any_of_findIdx_some (hidx ▸ hi))]
      have hl : (es.toList.findIdx? fun e => knd.is k e.key) = some i := by rw [← hi]; obtain ⟨l⟩ := es; simp
      have := hp.modify hn hl v
      obtain ⟨l⟩ := es
      simpa using this
    · rw [stored, if_pos (any_of_findIdx_some (hidx ▸ hi)), keys_map_store]; exact hn
  | none =>
    have hnot : k ∉ kvs.map (·.1) := not_mem_of_findIdx_none (hidx ▸ hi)
    have hany : ¬ (kvs.any fun kv => decide (kv.1 = k)) = true := by
      rw [List.any_eq_true]; rintro ⟨kv, hkv, he⟩
      exact hnot (List.mem_map.mpr ⟨kv, hkv, of_decide_eq_true he⟩)
    refine wpAny_updateDictKeys (hz := hes) ho hd (hQ _ ⟨_, _, ep + 1, Heap.get?_update_self _ ho (Obj.isFreed_of_dict (Obj.data_mapDictKeys hd _)),
      hc.mapDictKeys _, Obj.data_mapDictKeys hd _, hk.push hkey _, ?_, ?_⟩ (Heap.SameBut.update ..))
    · rw [stored, if_neg hany]
      have := hp.append hkey (knd.hash k) v
      obtain ⟨l⟩ := es
      simpa using this
    · rw [stored, if_neg hany, List.map_append, List.nodup_append]
      refine ⟨hn, by simp, ?_⟩
      intro a ha b hb
      simp only [List.map_cons, List.map_nil, List.mem_singleton] at hb
      subst hb
      exact fun e => hnot (e ▸ ha)
theorem my_mergeMapping {d o : Addr} {kvs more : List (K × Value)} {Q : Unit → Shared → Prop} (hdo : d ≠ o) (hoS : (o == sysModules) = false)
    (hd : s.heap.DictOf knd d kvs) (ho : s.heap.DictOf knd o more)
    (hQ : ∀ h', h'.DictOf knd d (merged kvs more) → Heap.SameBut d s.heap h' → Q () { s with heap := h' })
    (hsz : kvs.length + more.length ≤ sizeLine) (hval : ∀ k v, knd.is k v = true → ∀ a, v ≠ .ref a) :
    wpAny (model prog w) A (mergeMapping d (.ref o) false) Q E s := by
  obtain ⟨od, esd, epd, hod, hcd, hdd, hkd, hpd, hnd⟩ := id hd
  obtain ⟨oo, eso, epo, hoo, hco, hdo', hko, hpo, hno⟩ := id ho
  have hlen : more.length = eso.size := by rw [← hpo.length]; simp
  have hkeys : ∀ e ∈ eso.toList, ∀ a, e.key ≠ .ref a := fun e he a => by
    obtain ⟨k, hkey, _⟩ := hko e (Array.mem_toList_iff.mp he)
    exact hval k _ hkey a
  have loop : wpAny (model prog w) A (do
      let es ← dictEntries o
      let epoch ← dictEpoch o
      forIn (List.range es.size) PUnit.unit fun i (_ : PUnit) => (do
          let l' ← dictEntries o
          match l'[i]? with
            | some e => do
              holding [e.key, e.val] (dictPut d e.hash e.key e.val)
              let ep' ← dictEpoch o
              if (ep' != epoch) = true then do
                  (unsupported "dict.changed-during-merge" : Sem PUnit)
                  pure (ForInStep.yield PUnit.unit)
                else pure (ForInStep.yield PUnit.unit)
            | _ => do
              (unsupported "dict.changed-during-merge" : Sem PUnit)
              pure (ForInStep.yield PUnit.unit) : Sem (ForInStep PUnit))
      pure ()) Q E s := by
    refine wpAny_bind (wpAny_dictEntries hoo hdo' ?_)
    refine wpAny_bind (wpAny_dictEpoch hoo hdo' ?_)
    refine wpAny_bind ?_
    rw [List.range_eq_range']
    refine wpAny_forIn_list _
      (fun rest _ s' => ∃ h' i, s' = { s with heap := h' } ∧ rest = List.range' i (eso.size - i) ∧ i ≤ eso.size ∧ h'.DictOf knd d (merged kvs (more.take i)) ∧ h'.get? o = some oo ∧ Heap.SameBut d s.heap h')
      _ ?_ ?_ _ _ ⟨s.heap, 0, rfl, by simp, Nat.zero_le _, by simpa [merged] using hd, hoo, Heap.SameBut.refl _ _⟩
    · rintro x rest b s' ⟨h', i, rfl, hr, hi, hd', hoo', hs'⟩
      have hlt : i < eso.size := by
        rcases Nat.lt_or_ge i eso.size with h | h
        · exact h
        · rw [Nat.sub_eq_zero_of_le h] at hr; simp at hr
      obtain ⟨rfl, hrest⟩ : x = i ∧ rest = List.range' (i + 1) (eso.size - (i + 1)) := by
        have e : eso.size - i = (eso.size - (i + 1)) + 1 := by omega
        rw [e, List.range'_succ] at hr
        injection hr with h1 h2
        exact ⟨h1, h2⟩
      refine wpAny_bind (wpAny_dictEntries hoo' hdo' ?_)
      rw [Array.getElem?_eq_getElem hlt]
      obtain ⟨kv, hkv⟩ : ∃ kv, more[x]? = some kv := ⟨more[x]'(by rw [hlen]; exact hlt), List.getElem?_eq_getElem _⟩
      obtain ⟨k, v⟩ := kv
      obtain ⟨hkey, hvl⟩ := hpo.get? (e := eso[x]) (by simp [hlt]) hkv
      obtain ⟨k', hkey', hhash⟩ := hko eso[x] (Array.getElem_mem hlt)
      obtain rfl : k' = k := knd.inj _ _ _ hkey' hkey
      show wpAny _ _ (holding [eso[x].key, eso[x].val] (dictPut d eso[x].hash eso[x].key eso[x].val) >>= _) _ _ _
      rw [hhash, hvl]
      have hmx : (merged kvs (more.take x)).length ≤ sizeLine := by
        have e1 := merged_length_le kvs (more.take x)
        have e2 : (more.take x).length ≤ more.length := by rw [List.length_take]; omega
        omega
      refine wpAny_bind (wpAny_holding (my_dictPut (hsz := hmx) hkey hd' fun h'' hd'' hs'' => ?_))
      have hoo'' : h''.get? o = some oo := (hs''.2 o (Ne.symm hdo)).trans hoo'
      refine wpAny_bind (wpAny_dictEpoch hoo'' hdo' ?_)
      rw [if_neg (by simp)]
      exact wpAny_pure ⟨h'', x + 1, rfl, hrest, hlt, by rw [merged_take_succ kvs more x (k', v) hkv]; exact hd'', hoo'', hs'.trans hs''⟩
    · rintro b s' ⟨h', i, rfl, hr, hi, hd', hoo', hs'⟩
      have hin : i = eso.size := by
        rcases Nat.lt_or_ge i eso.size with h | h
        · have e : eso.size - i = (eso.size - (i + 1)) + 1 := by omega
          rw [e, List.range'_succ] at hr; exact nomatch hr
        · exact Nat.le_antisymm hi h
      refine wpAny_pure (hQ h' ?_ hs')
      rw [hin, ← hlen, List.take_length] at hd'; exact hd'
  unfold mergeMapping
  refine wpAny_bind (wpAny_isInstance ho.typeIs isSubtype_dict_dict ?_)
  rw [if_pos rfl]
  refine wpAny_bind (wpAny_specialOf ho.typeIs F.slot_dict_iter.lookup ?_)
  have eb : ((some (Value.builtin "dict.__iter__") : Option Value) == some (.builtin "dict.__iter__")) = true := by decide
  rw [eb]
  show wpAny _ _ (ite ((o == sysModules) = true) _ _) _ _ _
  rw [if_neg (by rw [hoS]; exact Bool.false_ne_true)]
  dsimp only
  refine wpAny_bind (wpAny_dictEntries hod hdd ?_)
  split
  · refine wpAny_bind (wpAny_dictEntries hoo hdo' ?_)
    refine wpAny_bind (MeetsSeq2.wpAny_forIn_array _ (fun rest _ s' => s' = s ∧ ∀ e ∈ rest, ∀ a, e.key ≠ .ref a) _ ?_ ?_ _ _ ⟨rfl, hkeys⟩)
    · rintro e rest b s' ⟨rfl, hr⟩
      have h1 := hr e (List.mem_cons_self ..)
      show wpAny _ _ (match e.key with | Value.ref a => _ | x => pure (ForInStep.yield PUnit.unit)) _ _ _
      split
      · rename_i a ha
        exact absurd ha (h1 a)
      · exact wpAny_pure ⟨rfl, fun e' he => hr e' (List.mem_cons_of_mem _ he)⟩
    · rintro b s' ⟨rfl, _⟩
      exact loop
  · exact loop
end
end PySem
namespace My
open PySem PySem.Spec PyProof.Rows L2
/-- {**a, **b} -/
def tDStar2 (t1 t2 : TE) : TE := fun σ H Q => ∀ p, H p = none → t1 σ (upd H p (.dK [])) fun x H1 => ∃ a ks, x = .ref a ∧ a ≠ p ∧ H1 a = some (.dK ks) ∧ H1 p = some (.dK []) ∧
  t2 σ (upd H1 p (.dK (mergeK [] ks))) fun y H2 => ∃ b ls kp, y = .ref b ∧ b ≠ p ∧ H2 b = some (.dK ls) ∧ H2 p = some (.dK kp) ∧ kp.length + ls.length ≤ sizeLine ∧ Q (.ref p) (upd H2 p (.dK (mergeK kp ls)))
section
variable {X : Cx} {pins : List (Addr × Obj)} {σ : L2.St}
theorem key_noRef {P : Program} {w : World} : ∀ (k : Key) (v : Value), (mixKind P w).is k v = true → ∀ a, v ≠ .ref a := fun k v h a e => by
  subst e
  rcases keyIs_shape h with ⟨i, t, _, e⟩ | ⟨x, t, _, e⟩ <;> exact nomatch e
theorem merge_step {H : Hp} {s : Shared} {p a : Addr} {kp ks : List (Key × V)} {E : Value → Shared → Prop} {A : Around} {Q : Unit → Shared → Prop} (I : Inv X pins σ H s) (hp : H p = some (.dK kp)) (ha : H a = some (.dK ks)) (ne : a ≠ p) (hz : kp.length + ks.length ≤ sizeLine)
    (q : ∀ s', Inv X pins σ (upd H p (.dK (mergeK kp ks))) s' → Q () s') : wpAny (model X.prog X.w) A (mergeMapping p (.ref a) false) Q E s := by
  obtain ⟨zp, sp, vp, rp, dp⟩ := dk_of I.hok hp
  obtain ⟨za, sa, va, ra, da⟩ := dk_of I.hok ha
  have hl : (mergeK kp ks).length ≤ sizeLine := Nat.le_trans (length_mergeK ks kp) hz
  refine my_mergeMapping (knd := mixKind X.prog X.w) (Ne.symm ne) sa dp da (fun h' dd' hs => q _ ?_) (by rw [← rp.length, ← ra.length]; exact hz) key_noRef
  have he : ∃ q, h'.get? p = some q := let ⟨q, _, _, hq, _⟩ := dd'; ⟨q, hq⟩
  exact d_write I (by rw [hp]; exact True.intro) hs he (dk_new hl sp (ra.merge rp) dd')
theorem pe_dstar2 {e1 e2 : Expr} {t1 t2 : TE} {pos : Pos} (h1 : PE X e1 t1) (h2 : PE X e2 t2) : PE X (.Dict [none, none] [e1, e2] pos) (tDStar2 t1 t2) := by
  refine ⟨fun pins s σ H Q I q => ?_⟩
  rw [arm_eval_Dict]
  refine wpAny_bind (wpAny_standAt ?_)
  have hn := I.hok.fresh (Nat.le_refl s.heap.objs.size)
  have I1 := I.laid (a := s.heap.objs.size) (o := .dK []) (h' := s.heap.push { cls := .type "dict", data := .dict #[] }) (t' := s.toks) (fun _ _ q => Heap.get?_push_of_some _ q) (Nat.le_refl _) (dk_empty s.heap I.big)
  show wpAny _ _ (dictDisplay [(none, (do let x ← eval e1 X.env; standAt pos; pure x)), (none, (do let x ← eval e2 X.env; standAt pos; pure x))]) _ _ _
  unfold dictDisplay
  dsimp only
  simp only [List.forIn_cons, List.forIn_nil, List.isEmpty_nil, if_true, pure_bind, bind_assoc]
  refine wpAny_bind (wpAny_alloc ?_)
  refine wpAny_bind (wpAny_holding (wpAny_bind (thn (h1.run pins _ σ _ _ I1 (q _ hn)) fun u s1 ⟨x, H1, J1, rx, a, ks, ex, na, ha, hp, q1⟩ => wpAny_bind (wpAny_standAt (wpAny_pure ?_)))))
  subst ex
  obtain rfl : u = Value.ref a := rx
  refine wpAny_bind (wpAny_onRaise (wpAny_tryCatch (wpAny_onRaise (wpAny_holding (merge_step J1 hp ha na (by rw [List.length_nil, Nat.zero_add]; exact (dk_of J1.hok ha).1) fun s2 J2 => ?_)))))
  refine wpAny_bind (wpAny_holding (wpAny_bind (thn (h2.run pins _ σ _ _ J2 q1) fun u s3 ⟨y, H2, J3, ry, b, ls, kp, ey, nb, hb, hp2, hz, q2⟩ => wpAny_bind (wpAny_standAt (wpAny_pure ?_)))))
  subst ey
  obtain rfl : u = Value.ref b := ry
  refine wpAny_bind (wpAny_onRaise (wpAny_tryCatch (wpAny_onRaise (wpAny_holding (merge_step J3 hp2 hb nb hz fun s4 J4 => ?_)))))
  exact wpAny_pure ⟨.ref s.heap.objs.size, _, J4, rfl, q2⟩
end
end My
set_option Elab.async false
set_option linter.all false
set_option maxRecDepth 100000
/-! name = {k: v for ..} on one line, the name a local -/
namespace My
open PySem PySem.Spec PyProof.Rows L2
section
variable {X : Cx}
theorem ps_setDc {i : Nat} {y : Str} {py : Pos} {kx vx tg iter : Expr} {ifs : List Expr} {scope : Scope} {own : List (Str × Nat)} {pos spos : Pos} {wi : TI} {g : TG} {tt : TT} {tk tv : TE} (hc : X.calm = true) (hN : X.N.Nodup) (hy : X.N[i]? = some y) (hyl : X.env.scope.names.lookup y = some .local)
    (hsw : swapsWith (.DictComp kx vx [⟨tg, iter, ifs, 0⟩] scope pos) (some (.Name y py)) spos.line X.env = pure true) (hi : PI X tg iter wi) (ok : BlkOk X.N X.env.scope scope own)
    (hg : ∀ (s : Shared) (H : Hp) (C : Addr) (cl : List (Str × Addr)) (fp : List Addr), PG (X.blk s H scope (compEnvC scope cl C X.env) fp) tg g) (ht : ∀ (s : Shared) (H : Hp) (C : Addr) (cl : List (Str × Addr)) (fp : List Addr), PTs (X.blk s H scope (compEnvC scope cl C X.env) fp) ifs tt)
    (hk : ∀ (s : Shared) (H : Hp) (C : Addr) (cl : List (Str × Addr)) (fp : List Addr), PE (X.blk s H scope (compEnvC scope cl C X.env) fp) kx tk)
    (he : ∀ (s : Shared) (H : Hp) (C : Addr) (cl : List (Str × Addr)) (fp : List Addr), PE (X.blk s H scope (compEnvC scope cl C X.env) fp) vx tv) (hs : ∀ x, foldedSetIterable iter X.env x = pure x := by intro _; rfl) :
    PS X (.Assign [.Name y py] (.DictComp kx vx [⟨tg, iter, ifs, 0⟩] scope pos) spos) (tAsg (tDc wi g tt tk tv (own.map (·.2))) (gName i)) := by
  refine ⟨fun pins s σ H D I h => ?_⟩
  rw [exec_Assign_Name_used _ _ _ _ hsw]
  refine wpAny_bind (wpAny_standAt (wpAny_bind ?_))
  show wpAny _ X.A (do let _ ← comprehension (.DictComp kx vx [⟨tg, iter, ifs, 0⟩] scope pos) scope X.env (firstIterPos [⟨tg, iter, ifs, 0⟩] pos) newDict false (eval iter X.env) (some (assign (.Name y py) X.env))) _ _ s
  have h : tDc wi g tt tk tv (own.map (·.2)) σ H (fun x H1 => gName i x σ H1 D.nx) := h
  refine wpAny_bind (thn (dc_core (Qf := fun _ s' => SP X pins D .next s') hc hN I hi ok hg ht hk he hs h fun L C s' m H' I' q hn f => ?_) fun _ s' hq => wpAny_pure (wpAny_pure hq))
  show wpAny _ _ (assign (.Name y py) X.env (.ref L)) _ _ _
  refine wpAny_assign_Name (store_ok2 (v := V.ref L) I' hN hy (.inl hyl) rfl (fun s2 I2 ⟨a, sb, ha⟩ => ?_) (.inr hyl))
  obtain ⟨f0, f1, f2, f3, f4, f5⟩ := f
  have haC : C ≠ a := by
    rcases ha with z | z
    · rw [z]; exact f1
    · exact fun e => f4 y a z e.symm
  refine ⟨m, hn.sameBut sb haC, fun h3 sb3 => ?_⟩
  exact ⟨_, H', I2.turned (t' := s2.toks) (fun b o hb e => (sb3.2 b hb).trans e) f0 f1 f3 f4 f5, q⟩
theorem sw_trueD {kx vx : Expr} {gs : List Comprehension} {scope : Scope} {pos py : Pos} {y : Str} {l : Nat} {env : Env} (hk : env.scope.kind = .function) (hy : env.scope.names.lookup y = some .local) (hl : (py.line == pos.line) = true)
    (ha : (scope.names.any fun (n, k) => n == y && (k == .local || k == .cell)) = false) : swapsWith (.DictComp kx vx gs scope pos) (some (.Name y py)) l env = pure true := by
  have ky : env.kindOf y = some .local := hy
  have hb : env.blockKind = .function := by unfold Env.blockKind; rw [hk]; rfl
  unfold swapsWith
  simp only [hb, ky, ha, Expr.pos, hl]
  rfl
end
end My
set_option Elab.async false
set_option linter.all false
set_option maxRecDepth 100000
/-! enumerate(tuple) -/
namespace PySem
open Sem (wp)
open AutoSeq1 (wpAny_loadPart')
set_option maxHeartbeats 1000000 in
theorem my_enum_newT (l : Addr) (items : Array Value) (n : Nat) (dct : Option Addr) (sl : Array (Option Value)) :
    Meets (Builtin.«enumerate.__new__» ⟨[.type "enumerate", .ref l], []⟩) (fun _ R s => s.heap.get? l = some { cls := .type "tuple", dict := dct, data := .seq items n, slots := sl } ∧
      R (.ok (.ret (.ref (s.heap.push { cls := .type "tuple_iterator", data := .fields #[.ref l, .int 0 0] }).objs.size)))
        { s with heap := (s.heap.push { cls := .type "tuple_iterator", data := .fields #[.ref l, .int 0 0] }).push { cls := .type "enumerate", data := .fields #[.none, .bool false, .ref s.heap.objs.size, rawInt 0, .none, .none] } }) :=
  .of_wp fun prog w A R s h => by
    obtain ⟨hp, g, d, tk, os⟩ := s; obtain ⟨hl, h⟩ := h
    have hsub := sub_enumerate
    have hL : Heap.IsTuple (Shared.heap ⟨hp, g, d, tk, os⟩) l items := ⟨_, hl, rfl, n, rfl⟩
    wp_walk using wpAny_loadPart' hl
    refine wpAny_stack_any fun st => wpAny_pure ?_
    split
    · rename_i c _ _ _ _ _
      cases (c == Value.type "enumerate")
      · wp_walk using wpAny_loadPart' hl, wpAny_pyIter_tuple hL
        exact ⟨_, rfl, h⟩
      · wp_walk using wpAny_loadPart' hl, wpAny_pyIter_tuple hL
        exact ⟨_, rfl, h⟩
    · wp_walk using wpAny_loadPart' hl, wpAny_pyIter_tuple hL
      exact ⟨_, rfl, h⟩
theorem my_enum_tuple {prog : Program} {w : World} {A : Around} {E : Value → Shared → Prop} {s : Shared} {l : Addr} {items : Array Value} {Q : Value → Shared → Prop} (hL : s.heap.IsTuple l items)
    (h : ∀ h', IsEnum h' (s.heap.objs.size + 1) s.heap.objs.size 0 .none → h'.IsTupleIter s.heap.objs.size l 0 → h'.objs.size = s.heap.objs.size + 2 →
      (∀ b o, s.heap.get? b = some o → h'.get? b = some o) → Q (.ref (s.heap.objs.size + 1)) { s with heap := h' }) :
    wpAny (model prog w) A (call (.type "enumerate") [.ref l]) Q E s := by
  obtain ⟨⟨c, dct, dt, sl⟩, hl, hc, n, hd⟩ := hL
  replace hc : c = .type "tuple" := hc
  replace hd : dt = .seq items n := hd
  subst hc hd
  refine callType_new F.called_enumerate (by decide) (F.typeCall_enumerate_1 _) (F.newCall_enumerate_1 _) (fun obj => F.args_object_init_2 obj _) F.entry_enumerate_new
    (my_enum_newT l items n dct sl) ⟨hl, ?_⟩
  have hz : (s.heap.push { cls := .type "tuple_iterator", data := .fields #[.ref l, .int 0 0] }).objs.size = s.heap.objs.size + 1 := Heap.size_push ..
  show _ ∧ _
  rw [hz]
  have he : IsEnum ((s.heap.push { cls := .type "tuple_iterator", data := .fields #[.ref l, .int 0 0] }).push
      { cls := .type "enumerate", data := .fields #[.none, .bool false, .ref s.heap.objs.size, rawInt 0, .none, .none] }) (s.heap.objs.size + 1) s.heap.objs.size 0 .none := by
    have := Heap.get?_push_size (s.heap.push { cls := .type "tuple_iterator", data := .fields #[.ref l, .int 0 0] })
      (o := { cls := .type "enumerate", data := .fields #[.none, .bool false, .ref s.heap.objs.size, rawInt 0, .none, .none] }) rfl
    rw [hz] at this; exact this
  refine ⟨⟨_, he, rfl⟩, h _ he ⟨_, Heap.get?_push_of_some _ (Heap.get?_push_size _ rfl), rfl, rfl⟩ (by rw [Heap.size_push, hz]) fun b o x => Heap.get?_push_of_some _ (Heap.get?_push_of_some _ x)⟩
end PySem
namespace My
open PySem PySem.Spec PyProof.Rows L2
/-- the tuple at a, each item in a new pair -/
def IteT (K : PySem.W.Frag) (a : Addr) : It :=
  ⟨fun i H => ∃ (xs : List V) (x : V), SqT K H a xs ∧ xs[i]? = some x, fun i H v H' => ∃ T x, v = .ref T ∧ H T = none ∧ H' = upd H T (.tup [.int (i : Nat), x]) ∧ ∀ xs, SqT K H a xs → xs[i]? = some x, fun i H => ∃ xs : List V, SqT K H a xs ∧ xs.length ≤ i⟩
theorem turn_enumT {P : Program} {w : World} {K : PySem.W.Frag} {elts : List Expr} {kk : Nat} {tpos : Pos} (a e it : Addr) :
    Turn P w K (.Tuple elts kk tpos) (IteT K a) [e, it] e (fun i h => (∃ old, IsEnum h e it ((i : Nat) : Int) old) ∧ h.IsTupleIter it a i ∧ e ≠ it) where
  mem := by simp
  obj := fun i h st b hb => by
    obtain ⟨⟨old, he⟩, ⟨o, ho, hc, hd⟩, _⟩ := st
    have e' : b = e ∨ b = it := by simpa using hb
    rcases e' with z | z
    · rw [z]; exact ⟨_, he, fun v q => nomatch q⟩
    · rw [z]; exact ⟨o, ho, fun v q => by rw [hd] at q; cases q⟩
  keep := fun i h h' st k => let ⟨⟨old, he⟩, hi, hne⟩ := st; ⟨⟨old, k e (by simp) _ he⟩, hi.at fun o q => k it (by simp) o q, hne⟩
  item := by
    intro X hP hw hK hc i pins s σ H E I hf st hg
    subst hP hw hK
    obtain ⟨⟨old, he⟩, hit, hne⟩ := st
    obtain ⟨xs, x, hq, hx⟩ := hg
    obtain ⟨its, rv, p, hz⟩ := I.tuple hq
    obtain ⟨u, hu, ru⟩ := rv.get hx
    have hel : e < s.heap.objs.size := Heap.lt_size he
    have hil : it < s.heap.objs.size := by obtain ⟨_, q, _⟩ := hit; exact Heap.lt_size q
    have hta : s.heap.IsTuple a its.toArray := p
    have hai : a ≠ it := fun z => by
      obtain ⟨o1, h1, c1, _⟩ := hta
      obtain ⟨o2, h2, c2, _⟩ := hit
      rw [z, h2] at h1
      cases h1
      rw [c2] at c1
      exact absurd c1 (by decide)
    have hea : e ≠ a := fun z => by
      obtain ⟨o1, h1, c1, _⟩ := hta
      have h2 : s.heap.get? a = _ := z ▸ he
      rw [h2] at h1
      cases h1
      exact absurd (show Value.type "enumerate" = Value.type "tuple" from c1) (by decide)
    have hin : i < its.toArray.size := by
      have := List.getElem?_eq_some_iff.mp hu
      obtain ⟨q, _⟩ := this
      simpa using q
    have hef : e ∉ [it, a] := fun z => by
      rcases List.mem_cons.mp z with z | z
      · exact hne z
      · exact hea (List.mem_singleton.mp z)
    refine wpAny_pyNext_enum_itemD (Draws.tuple (A := X.A.in1) (I.ok.hd hc) it a hai its.toArray) he ⟨hit, hta⟩ hin hne hef fun y h' tk hy ho hst' hT hsz hk => ?_
    obtain ⟨hit', _⟩ := hst'
    obtain rfl : y = u := by
      have e2 : its.toArray[i]? = some u := by simpa using hu
      rw [e2] at hy
      cases hy
      rfl
    refine ⟨_, rfl, wpAny_letOwnedTupleGo_enum (s := { s with heap := h', toks := tk + 1 }) ho fun h'' he' sb => ?_⟩
    have hT2 : h''.get? s.heap.objs.size = some { cls := .type "tuple", data := .seq #[.int i tk, y] } := (sb.2 _ (Nat.ne_of_gt hel)).trans hT
    have new : ObjOk X.prog X.w (upd H s.heap.objs.size (.tup [.int (i : Nat), x])) h'' s.heap.objs.size (.tup [.int (i : Nat), x]) :=
      ⟨by show 2 ≤ sizeLine; decide, [.int i tk, y], .cons ⟨_, rfl⟩ (.cons ru .nil), ⟨_, hT2, rfl, _, rfl⟩⟩
    have I1 : Inv X pins σ (upd H s.heap.objs.size (.tup [.int (i : Nat), x])) { s with heap := h'', toks := tk + 1 } :=
      I.turnedNew (ch := [e, it]) (fun b ob hb q => (sb.2 b (fun z => hb (by simp [z]))).trans (hk b ob (fun z => hb (by simp [z])) (fun z => hb (by simp [z])) q)) hf (Nat.le_refl _) new
    refine ⟨.ref s.heap.objs.size, _, I1, rfl, ⟨_, x, rfl, I.hok.fresh (Nat.le_refl _), rfl, fun ys hy => by rw [I.tuple_inj hy hq]; exact hx⟩, ⟨⟨y, ?_⟩, hit'.at fun o q => (sb.2 it (Ne.symm hne)).trans q, hne⟩, fun b hb => ?_⟩
    · have e1 : ((i + 1 : Nat) : Int) = (i : Int) + 1 := by omega
      rw [e1]; exact he'
    · have hb' : b < s.heap.objs.size := by
        have e' : b = e ∨ b = it := by simpa using hb
        rcases e' with z | z
        · rw [z]; exact hel
        · rw [z]; exact hil
      rw [upd_ne (Nat.ne_of_lt hb')]
      exact (hf b hb).1
  done := by
    intro X hP hw hK hc i pins s σ H E I hf st hg
    subst hP hw hK
    obtain ⟨⟨old, he⟩, hit, hne⟩ := st
    obtain ⟨xs, hq, hx⟩ := hg
    obtain ⟨its, rv, p, hz⟩ := I.tuple hq
    obtain ⟨f0, f1, f2, f3, f4, f5⟩ := hf it (by simp)
    have hl := rv.length
    have hT : s.TypeIs (.ref e) "enumerate" := ⟨_, he, rfl⟩
    unfold pyNext
    refine wpAny_bind (wpAny_attempt (wpAny_callSpecial?_slot (name := Str.ofString "__next__") hT F.slot_enumerate_next
      (wpAny_call_entry F.slot_enumerate_next hT F.entry_enumerate_next ?_ (F.args_enumerate_next_1 _))))
    show wpAny _ _ (field (.ref e) 2 >>= _) _ _ _
    refine wpAny_bind (wpAny_field he rfl (x := .ref it) rfl ?_)
    refine wpAny_bind (wpAny_nextOf_tuple_end (A := X.A.in1) (I.ok.hd hc) hit p (by simp; omega) fun h' x eb hx' => ?_)
    obtain ⟨o, ho, hc'⟩ := hx'
    refine wpAny_bind (wpAny_isInstance (T := "StopIteration") (b := true) ⟨o, ho, hc'⟩ isSubtype_stop ?_)
    exact wpAny_pure ⟨rfl, I.turned (t' := s.toks) (fun b o hb q => eb b o hb q) f0 f1 f3 f4 f5⟩
  self := fun A i s Q E st h => let ⟨⟨_, he⟩, _⟩ := st; wpAny_pyIter_enum he h
def iEnumT (K : PySem.W.Frag) (ta : TA) : TI := fun σ H R => ta σ H fun vs H1 => ∃ a xs, vs = [.ref a] ∧ SqT K H1 a xs ∧ R (IteT K a) H1
theorem pi_enumT {X : Cx} {e : Expr} {ta : TA} {p pos tpos : Pos} {elts : List Expr} {kk : Nat} (hg : Gl X "enumerate") (hm : X.mg "enumerate" = none) (ha : PA X [e] ta) (hs : starEach [e] X.env = [(false, eval e X.env)] := by rfl) :
    PI X (.Tuple elts kk tpos) (.Call (.Name "enumerate" p) [e] [] pos) (iEnumT X.K ta) := by
  refine ⟨fun pins s σ H R I h => ?_⟩
  refine Call_ (ld_blt I hg hm boot_enumerate (PyProof.Rows.callWith_type1 (thn (ha.run pos pins s σ H _ I h) fun us s1 ⟨vs, H1, I1, r1, q1⟩ => ?_) hs rfl))
  obtain ⟨a, xs, ex, hq, q⟩ := q1
  subst ex
  cases r1 with
  | cons r rr =>
    cases rr
    cases r
    obtain ⟨its, rv, p', hz⟩ := I1.tuple hq
    refine my_enum_tuple p' fun h' he hit hsz hk => wpAny_pyIter_enum he ?_
    have I2 : Inv X pins σ H1 { s1 with heap := h' } := I1.kept (t' := s1.toks) hk
    refine ⟨s1.heap.objs.size + 1, [s1.heap.objs.size + 1, s1.heap.objs.size], _, _, H1, rfl, I2, turn_enumT a (s1.heap.objs.size + 1) s1.heap.objs.size, ⟨⟨.none, he⟩, hit, Nat.succ_ne_self _⟩, fun b hb => ?_, q⟩
    have e' : b = s1.heap.objs.size + 1 ∨ b = s1.heap.objs.size := by simpa using hb
    have hle : s1.heap.objs.size ≤ b := by
      rcases e' with z | z
      · rw [z]; exact Nat.le_add_right _ _
      · rw [z]; exact Nat.le_refl _
    exact I1.fpOk hle (I1.hok.fresh hle)
theorem walk_enumT {K : PySem.W.Frag} {a : Addr} {xs : List V} : Walk (IteT K a) xs.length (fun H => SqT K H a xs) (YPair (fun i => some (.int (i : Nat))) (fun i => xs[i]?)) := by
  refine ⟨fun i _ hi q => ⟨xs, xs[i], q, by simp [hi]⟩, fun _ q => ⟨xs, q, Nat.le_refl _⟩, fun i H v H' _ q y => ?_⟩
  obtain ⟨T, x, h1, h2, h3, h4⟩ := y
  exact ⟨T, .int (i : Nat), x, h1, h2, h3, rfl, h4 xs q⟩
end My
set_option Elab.async false
set_option linter.all false
set_option maxRecDepth 100000
namespace My
open PySem PySem.Spec PyProof.Rows L2
section
variable {P : Program} {w : World} {A : Around} {E : Value → Shared → Prop} {s : Shared}
/-- a new set, as it is made -/
def set0 (w : World) : Obj := { cls := .type "set", dict := none, data := .set #[] 0 (.fresh 0 0 (!w.params.followText "set-order")) }
set_option maxHeartbeats 3200000 in
theorem set_pre {x : Value} {D : Heap → Prop} {Q : Value → Shared → Prop}
    (hin : ∀ R : Result → Shared → Prop, (∀ (h' : Heap) (tk : Nat), D h' → R (.ok (.ret .none)) { s with heap := h', toks := tk }) →
      wpAny (model P w) A.in1.in1 (Builtin.«set.__init__» { pos := [.ref s.heap.objs.size, x] }) (fun fin s' => match fin with
        | .done f => R (.ok f) s'
        | .again c' => c'.quiet = true ∧ codeAny (model P w) A.in1 c' R s') (fun e s' => R (.error e) s') { s with heap := s.heap.push (set0 w) })
    (h : ∀ (h' : Heap) (tk : Nat), D h' → Q (.ref s.heap.objs.size) { s with heap := h', toks := tk }) :
    wpAny (model P w) A (call (.type "set") [x]) Q E s := by
  obtain ⟨_, _, mro⟩ := F.called_set.mro
  have q1 := F.called_set.made
  have q2 := F.called_set.sub
  have q3 := F.called_set.notType
  have q4 := F.called_set.canCreate
  have q5 := F.typeCall_set_1 x
  refine wpAny_call (codeAny_of_tree ?_)
  change wpAny _ _ (callAny (.type "set") _) _ _ _
  refine wpAny_pure ⟨Code.quiet_builtin _ (by decide +kernel), ?_⟩
  refine codeAny_builtin F.entry_type_call ?_
  rw [Around.under_plain (weight_type_call_type "set" [x] []) rfl]
  repeat (any_goals (first | assumption | wp_step))
  refine codeAny_mono (code_set_led1 x (E := E) (Q₁ := fun o s1 => o = .ref s.heap.objs.size ∧ s1 = { s with heap := s.heap.push (set0 w) }) ⟨rfl, rfl⟩) ?_
  rintro (e | fl) s1 hr
  · exact hr
  · cases fl with
    | ret o =>
      obtain ⟨rfl, rfl⟩ := hr
      have g0 : (s.heap.push (set0 w)).get? s.heap.objs.size = some (set0 w) := Heap.get?_push_size _ rfl
      have ty : Shared.TypeIs { s with heap := s.heap.push (set0 w) } (.ref s.heap.objs.size) "set" := ⟨_, g0, rfl⟩
      have q6 := F.called_set.init.lookup
      have q7 := F.called_set.init.bind (.ref s.heap.objs.size)
      repeat (any_goals (first | assumption | wp_step))
      refine codeAny_mono (codeAny_call_builtin (R := wants (fun r s2 => r = .none ∧ ∃ h' tk, s2 = { s with heap := h', toks := tk } ∧ D h') E) F.called_set.init.plain F.entry_set_init (check_set_init_1 ty ?_)) ?_
      · exact hin _ fun h' tk d => ⟨rfl, h', tk, rfl, d⟩
      · rintro (e | fl) s2 hr2
        · exact hr2
        · cases fl with
          | ret r =>
            obtain ⟨rfl, h', tk, rfl, hd⟩ := hr2
            repeat (any_goals (first | assumption | wp_step))
            exact h _ _ hd
          | _ => exact hr2.elim
    | _ => exact hr.elim
theorem none_beyond {h : Heap} {b : Addr} (hb : h.objs.size ≤ b) : h.get? b = none := by
  cases q : h.get? b with
  | none => rfl
  | some o => exact absurd (Nat.lt_of_lt_of_le (Heap.lt_size q) hb) (Nat.lt_irrefl _)
set_option maxHeartbeats 3200000 in
/-- set(xs) of a list of ints, with its order led -/
theorem set_listI {l : Addr} {items : Array Value} (ns : List Int) {Q : Value → Shared → Prop} (hh : A.handled = none) (hl : s.heap.IsList l items) (hit : IntsAre items.toList ns) (few : ns.length + 1 < scanBound)
    (h : ∀ (h' : Heap) (tk c : Nat), SetR w h' s.heap.objs.size (fun j => decide (j ∈ ns)) c → c ≤ ns.length → (∀ b o, s.heap.get? b = some o → h'.get? b = some o) → Q (.ref s.heap.objs.size) { s with heap := h', toks := tk }) :
    wpAny (model P w) A (call (.type "set") [.ref l]) Q E s := by
  have many : items.size = ns.length := by
    rw [← IntsAre.length hit, Array.length_toList]
  refine set_pre (D := fun h' => ∃ c, SetR w h' s.heap.objs.size (fun j => decide (j ∈ ns)) c ∧ c ≤ ns.length ∧ ∀ b o, s.heap.get? b = some o → h'.get? b = some o) (fun R hR => ?_) (fun h' tk ⟨c, a1, a2, a3⟩ => h h' tk c a1 a2 a3)
  obtain ⟨⟨cls, dict, data, slots⟩, at_l, hcl, nl, hdl⟩ := hl
  simp only at hcl hdl
  subst hcl; subst hdl
  have at2 : (s.heap.push (set0 w)).get? l = some { cls := .type "list", dict := dict, data := .seq items nl, slots := slots } := Heap.get?_push_of_some _ at_l
  have k1 := F.sub_list_set
  have k2 := F.sub_list_frozenset
  have k3 : (Value.type "list" == Value.type "dict") = false := by decide
  have isl : (s.heap.push (set0 w)).IsList l items := ⟨_, at2, rfl, nl, rfl⟩
  unfold Builtin.«set.__init__» noKeywords Builtin.Frozenset.updateFrom
  generalize ePI : pyIter = PI
  wp_walk
  subst ePI
  refine wpAny_pyIter_list isl (wpAny_bind (wpAny_runValue ?_))
  have lS : l < s.heap.objs.size := Heap.lt_size at_l
  have l1 : l ≠ (s.heap.push (set0 w)).objs.size := by rw [Heap.size_push]; exact Nat.ne_of_lt (Nat.lt_succ_of_lt lS)
  have l2 : s.heap.objs.size ∉ [(s.heap.push (set0 w)).objs.size, l] := by
    rw [Heap.size_push]
    intro z
    rcases List.mem_cons.mp z with z | z
    · exact Nat.ne_of_lt (Nat.lt_succ_self _) z
    · exact Nat.ne_of_gt lS (List.mem_singleton.mp z)
  refine set_update_ints ((Walks.list (by simp [hh]) _ l l1 items).toS) s.heap.objs.size l2 ns many few (fun i v hv => ?_) (items.size - 0) 0 _ (by omega) (Nat.zero_le _) ⟨⟨_, Heap.get?_push_size _ rfl, rfl, rfl⟩, isl.push _⟩ ⟨0, Nat.le_refl 0, setR_new_at (Heap.get?_push_of_some _ (Heap.get?_push_size _ rfl))⟩ ?_
  · have hi : i < ns.length := by rw [← many]; exact (Array.getElem?_eq_some_iff.mp hv).1
    obtain ⟨t, e⟩ := IntsAre.int_at hit i v (by rw [Array.getElem?_toList]; exact hv)
    refine ⟨ns[i], t, List.getElem?_eq_getElem hi, ?_⟩
    rw [e, List.getD_eq_getElem?_getD, List.getElem?_eq_getElem hi]
    rfl
  · rintro ⟨h', g2, d2, tk', os'⟩ c mv hc hS
    have eg : g2 = s.gens := mv.gens
    have ed : d2 = s.drawn := mv.drawn
    have eo : os' = s.os := mv.os
    subst eg; subst ed; subst eo
    refine wpAny_pure (wpAny_pure (hR h' tk' ⟨c, hS, by omega, fun b o e => ?_⟩))
    have b0 : b < s.heap.objs.size := Heap.lt_size e
    refine mv.heap b o (fun z => ?_) (Heap.get?_push_of_some _ (Heap.get?_push_of_some _ e))
    rw [Heap.size_push] at z
    rcases List.mem_cons.mp z with z | z
    · exact Nat.ne_of_lt b0 z
    · exact Nat.ne_of_lt (Nat.lt_succ_of_lt b0) (List.mem_singleton.mp z)
set_option maxHeartbeats 3200000 in
/-- set(t) of a tuple of tuples of ints -/
theorem set_tupT {l : Addr} {items : Array Value} (ks : List (Addr × List Int)) {Q : Value → Shared → Prop} (hh : A.handled = none) (hl : s.heap.IsTuple l items) (hit : items.toList = ks.map fun p => Value.ref p.1)
    (hk : ∀ p ∈ ks, IsTupleKey (intKind P w) s.heap p.2 p.1) (few : ks.length < 64) (hu : A.units + 3 < cLine)
    (h : ∀ (h' : Heap) (tk : Nat) L es ep t, SetTR P w h' s.heap.objs.size L es ep t → Got ks ks.length L → (∀ b o, s.heap.get? b = some o → h'.get? b = some o) → Q (.ref s.heap.objs.size) { s with heap := h', toks := tk }) :
    wpAny (model P w) A (call (.type "set") [.ref l]) Q E s := by
  have many : items.size = ks.length := by
    have q := congrArg List.length hit
    rw [Array.length_toList, List.length_map] at q
    exact q
  refine set_pre (D := fun h' => ∃ L es ep t, SetTR P w h' s.heap.objs.size L es ep t ∧ Got ks ks.length L ∧ ∀ b o, s.heap.get? b = some o → h'.get? b = some o) (fun R hR => ?_) (fun h' tk ⟨L, es, ep, t, a1, a2, a3⟩ => h h' tk L es ep t a1 a2 a3)
  obtain ⟨⟨cls, dict, data, slots⟩, at_l, hcl, nl, hdl⟩ := hl
  simp only at hcl hdl
  subst hcl; subst hdl
  have at2 : (s.heap.push (set0 w)).get? l = some { cls := .type "tuple", dict := dict, data := .seq items nl, slots := slots } := Heap.get?_push_of_some _ at_l
  have k1 := F.sub_tuple_set
  have k2 := F.sub_tuple_frozenset
  have k3 : (Value.type "tuple" == Value.type "dict") = false := by decide
  have isl : (s.heap.push (set0 w)).IsTuple l items := ⟨_, at2, rfl, nl, rfl⟩
  unfold Builtin.«set.__init__» noKeywords Builtin.Frozenset.updateFrom
  generalize ePI : pyIter = PI
  wp_walk
  subst ePI
  refine wpAny_pyIter_tuple isl (wpAny_bind (wpAny_runValue ?_))
  have lS : l < s.heap.objs.size := Heap.lt_size at_l
  have l1 : l ≠ (s.heap.push (set0 w)).objs.size := by rw [Heap.size_push]; exact Nat.ne_of_lt (Nat.lt_succ_of_lt lS)
  have l2 : s.heap.objs.size ∉ [(s.heap.push (set0 w)).objs.size, l] := by
    rw [Heap.size_push]
    intro z
    rcases List.mem_cons.mp z with z | z
    · exact Nat.ne_of_lt (Nat.lt_succ_self _) z
    · exact Nat.ne_of_gt lS (List.mem_singleton.mp z)
  refine set_update_tups ((Walks.tuple (by simp [hh]) _ l l1 items).toS) s.heap.objs.size l2 ks many few (fun i v hv => ?_) s.heap hk (none_beyond (Nat.le_refl _)) (fun b hb => none_beyond ?_) hu (items.size - 0) 0 _ (by omega) (Nat.zero_le _) ⟨⟨_, Heap.get?_push_size _ rfl, rfl, rfl⟩, isl.push _⟩ (fun b o e => Heap.get?_push_of_some _ (Heap.get?_push_of_some _ e)) ⟨[], #[], 0, _, setTR_fresh (Heap.get?_push_of_some _ (Heap.get?_push_size _ rfl)), Got.zero ks⟩ ?_
  · have q : items.toList[i]? = some v := by rw [Array.getElem?_toList]; exact hv
    rw [hit, List.getElem?_map] at q
    cases hq : ks[i]? with
    | none => rw [hq] at q; cases q
    | some p => rw [hq] at q; exact ⟨p, rfl, (Option.some.inj q).symm⟩
  · rw [List.mem_singleton.mp hb, Heap.size_push]
    exact Nat.le_succ _
  · rintro ⟨h', g2, d2, tk', os'⟩ L es ep t mv hS got keep
    have eg : g2 = s.gens := mv.gens
    have ed : d2 = s.drawn := mv.drawn
    have eo : os' = s.os := mv.os
    subst eg; subst ed; subst eo
    rw [many] at got
    exact wpAny_pure (wpAny_pure (hR h' tk' ⟨L, es, ep, t, hS, got, keep⟩))
end
end My
set_option Elab.async false
set_option linter.all false
set_option maxRecDepth 100000
/-! len(set(xs)), xs a list of ints and texts: as many as xs exactly if none occurs twice. -/
namespace My
open PySem PySem.Spec PyProof.Rows L2
def memK (ks : List Key) (k : Key) : Bool := ks.any fun j => decide (j = k)
theorem memK_iff {ks : List Key} {k : Key} : memK ks k = true ↔ k ∈ ks := by
  unfold memK
  rw [List.any_eq_true]
  exact ⟨fun ⟨j, h, e⟩ => (of_decide_eq_true e) ▸ h, fun h => ⟨k, h, decide_eq_true rfl⟩⟩
theorem memK_snoc (ks : List Key) (k k' : Key) : memK (ks ++ [k]) k' = (memK ks k' || decide (k' = k)) := by
  rw [Bool.eq_iff_iff, Bool.or_eq_true, memK_iff, memK_iff, List.mem_append, List.mem_singleton, decide_eq_true_iff]
/-- behind the first i of ks -/
structure GotS (ks : List Key) (i n : Nat) : Prop where
  le : n ≤ (ks.take i).length
  iff : n = (ks.take i).length ↔ (ks.take i).Nodup
theorem GotS.step {ks : List Key} {i n : Nat} {k : Key} (g : GotS ks i n) (hk : ks[i]? = some k) : GotS ks (i + 1) (if memK (ks.take i) k = true then n else n + 1) := by
  have e : ks.take (i + 1) = ks.take i ++ [k] := by rw [List.take_succ, hk]; rfl
  obtain ⟨le, iff⟩ := g
  by_cases h : k ∈ ks.take i
  · rw [if_pos (memK_iff.mpr h)]
    refine ⟨by rw [e, List.length_append]; omega, ?_⟩
    rw [e]
    refine ⟨fun q => ?_, fun q => ?_⟩
    · rw [List.length_append, List.length_singleton] at q; omega
    · rw [List.nodup_append] at q
      exact absurd rfl (q.2.2 k h k (List.mem_singleton.mpr rfl))
  · rw [if_neg (fun z => h (memK_iff.mp z))]
    refine ⟨by rw [e, List.length_append, List.length_singleton]; omega, ?_⟩
    rw [e, List.length_append, List.length_singleton]
    refine ⟨fun q => ?_, fun q => ?_⟩
    · have q2 : n = (ks.take i).length := by omega
      rw [List.nodup_append]
      refine ⟨iff.mp q2, List.nodup_cons.mpr ⟨(fun z => nomatch z), List.nodup_nil⟩, fun a ha b hb => ?_⟩
      rw [List.mem_singleton.mp hb]
      exact fun z => h (z ▸ ha)
    · rw [List.nodup_append] at q
      rw [iff.mpr q.1]
section
variable {P : Program} {w : World} {A : Around} {E : Value → Shared → Prop} {s : Shared}
theorem updateS {I : Addr} {fp wr : List Addr} {G : Array GenState → Array GenState → Prop} {n : Nat} {Pv : Nat → Value → Prop} {St : Nat → Shared → Prop} {R : Result → Shared → Prop}
    (W : WalksS P w A.in1 I fp wr G n Pv St) (S : Addr) (hS : S ∉ fp) (ks : List Key) (hn : n = ks.length) (few : ks.length + 1 < scanBound) (items : ∀ i v, Pv i v → ∃ k, ks[i]? = some k ∧ RelV (kV k) v) :
    ∀ (m i : Nat) (s : Shared), n - i = m → i ≤ n → St i s → (∃ c, s.heap.SetOf (mixKind P w) S (memK (ks.take i)) c ∧ GotS ks i c) →
      (∀ s' c, Moved (S :: wr) G s s' → s'.heap.SetOf (mixKind P w) S (memK (ks.take n)) c → GotS ks n c → R (.ok (.ret .none)) s') →
      codeAny (model P w) A (.builtin "set.update.loop" ⟨[.ref S, .ref I], []⟩) R s := by
  have offW : S ∉ wr := fun h => hS (W.sub _ h)
  intro m
  induction m with
  | zero =>
    intro i s hm hi st ⟨c, K, g⟩ hR
    obtain rfl : i = n := by omega
    refine codeAny_builtin F.entry_set_update_loop ?_
    rw [Around.under_plainId F.plain_set_update_loop _]
    refine wpAny_bind (m := pyNext (.ref I)) (W.done s _ _ st fun s' mv => ?_)
    exact wpAny_pure (hR s' c (mv.mono fun b hb => List.mem_cons_of_mem _ hb) (setOf_at K fun o e => mv.heap S o offW e) g)
  | succ m ih =>
    intro i s hm hi st ⟨c, K, g⟩ hR
    have lt : i < n := by omega
    refine codeAny_builtin F.entry_set_update_loop ?_
    rw [Around.under_plainId F.plain_set_update_loop _]
    refine wpAny_bind (m := pyNext (.ref I)) (W.item i s _ _ lt st fun v s' hv st' mv => ?_)
    obtain ⟨k, hk, rk⟩ := items i v hv
    refine wpAny_bind (m := holding [v] (setAdd S v)) (wpAny_holding ?_)
    unfold setAdd
    have hkey := kV_is (P := P) (w := w) rk
    refine wpAny_holding (wpAny_bind ((mixKind P w).pyHash hkey ?_))
    have K1 : s'.heap.SetOf (mixKind P w) S _ c := setOf_at K fun o e => mv.heap S o offW e
    have room : c + 1 < scanBound := by
      have := g.le
      rw [List.length_take] at this
      omega
    refine wpAny_setAddHashed_of (s := { s' with toks := s'.toks + 1 }) hkey (key_scan rk) K1 room fun h' sb K' => ?_
    have eS : (fun k' => memK (ks.take i) k' || decide (k' = k)) = memK (ks.take (i + 1)) := by
      funext k'
      rw [List.take_succ, hk]
      exact (memK_snoc _ _ _).symm
    rw [eS] at K'
    refine wpAny_pure ⟨plainId_quiet F.plain_set_update_loop _, ih (i + 1) _ (by omega) lt (W.frame _ s' _ _ st' (Nat.le_add_right _ _) fun b hb o e => ?_) ⟨_, K', g.step hk⟩ fun s2 c2 mv2 K2 g2 => ?_⟩
    · exact (sb.2 b fun z => hS (z ▸ hb)).trans e
    · refine hR s2 c2 (Moved.trans W.gtrans ((mv.mono fun b hb => List.mem_cons_of_mem _ hb).then_heap (Nat.le_add_right _ _) fun b o hb e => ?_) mv2) K2 g2
      exact (sb.2 b fun z => hb (z ▸ List.mem_cons_self)).trans e
set_option maxHeartbeats 3200000 in
/-- set(xs), xs a list of keys -/
theorem set_ofKeys {l : Addr} {items : Array Value} (ks : List Key) {Q : Value → Shared → Prop} (hh : A.handled = none) (hl : s.heap.IsList l items) (hit : Vals (ks.map kV) items.toList) (few : ks.length + 1 < scanBound)
    (h : ∀ (h' : Heap) (tk c : Nat), h'.SetOf (mixKind P w) s.heap.objs.size (memK ks) c → c ≤ ks.length → (c = ks.length ↔ ks.Nodup) → (∀ b o, s.heap.get? b = some o → h'.get? b = some o) → Q (.ref s.heap.objs.size) { s with heap := h', toks := tk }) :
    wpAny (model P w) A (call (.type "set") [.ref l]) Q E s := by
  have many : items.size = ks.length := by
    have q := hit.length
    rw [List.length_map, Array.length_toList] at q
    exact q.symm
  refine set_pre (D := fun h' => ∃ c, h'.SetOf (mixKind P w) s.heap.objs.size (memK ks) c ∧ c ≤ ks.length ∧ (c = ks.length ↔ ks.Nodup) ∧ ∀ b o, s.heap.get? b = some o → h'.get? b = some o) (fun R hR => ?_) (fun h' tk ⟨c, a1, a2, a3, a4⟩ => h h' tk c a1 a2 a3 a4)
  have z0 : (s.heap.push (set0 w)).objs.size = s.heap.objs.size + 1 := Heap.size_push ..
  obtain ⟨⟨cls, dict, data, slots⟩, at_l, hcl, nl, hdl⟩ := hl
  simp only at hcl hdl
  subst hcl; subst hdl
  have lS : l < s.heap.objs.size := Heap.lt_size at_l
  have l1 : l ≠ (s.heap.push (set0 w)).objs.size := by rw [z0]; exact Nat.ne_of_lt (Nat.lt_succ_of_lt lS)
  have l2 : s.heap.objs.size ∉ [(s.heap.push (set0 w)).objs.size, l] := by
    rw [z0]
    intro z
    rcases List.mem_cons.mp z with z | z
    · exact Nat.ne_of_lt (Nat.lt_succ_self _) z
    · exact Nat.ne_of_gt lS (List.mem_singleton.mp z)
  have at2 : (s.heap.push (set0 w)).get? l = some { cls := .type "list", dict := dict, data := .seq items nl, slots := slots } := Heap.get?_push_of_some _ at_l
  have k1 := F.sub_list_set
  have k2 := F.sub_list_frozenset
  have k3 : (Value.type "list" == Value.type "dict") = false := by decide
  have isl : (s.heap.push (set0 w)).IsList l items := ⟨_, at2, rfl, nl, rfl⟩
  have new : ((s.heap.push (set0 w)).push { cls := .type "list_iterator", data := .fields #[.ref l, .int 0 0] }).SetOf (mixKind P w) s.heap.objs.size (memK (ks.take 0)) 0 :=
    ⟨_, #[], 0, _, Heap.get?_push_of_some _ (Heap.get?_push_size _ rfl), ⟨rfl, rfl, rfl⟩, rfl, (fun e he => by simp at he), (fun k => by simp [memK]), (by decide), (by rfl), rfl⟩
  unfold Builtin.«set.__init__» noKeywords Builtin.Frozenset.updateFrom
  generalize ePI : pyIter = PI
  wp_walk
  subst ePI
  refine wpAny_pyIter_list isl (wpAny_bind (wpAny_runValue ?_))
  refine updateS ((Walks.list (by simp [hh]) _ l l1 items).toS) s.heap.objs.size l2 ks many few (fun i v hv => ?_) (items.size - 0) 0 _ (by omega) (Nat.zero_le _) ⟨⟨_, Heap.get?_push_size _ rfl, rfl, rfl⟩, isl.push _⟩
    ⟨0, new, ⟨Nat.zero_le _, ⟨fun _ => List.nodup_nil, fun _ => rfl⟩⟩⟩ ?_
  · have hi : i < ks.length := by rw [← many]; exact (Array.getElem?_eq_some_iff.mp hv).1
    obtain ⟨u, hu, ru⟩ := hit.get (i := i) (x := kV ks[i]) (by rw [List.getElem?_map, List.getElem?_eq_getElem hi]; rfl)
    rw [Array.getElem?_toList, hv] at hu
    cases hu
    exact ⟨ks[i], List.getElem?_eq_getElem hi, ru⟩
  · rintro ⟨h', g2, d2, tk', os'⟩ c mv K g
    have eg : g2 = s.gens := mv.gens
    have ed : d2 = s.drawn := mv.drawn
    have eo : os' = s.os := mv.os
    subst eg; subst ed; subst eo
    rw [many, List.take_length] at K
    have g1 := g.le
    have g3 := g.iff
    rw [many, List.take_length] at g1 g3
    refine wpAny_pure (wpAny_pure (hR h' tk' ⟨c, K, g1, g3, fun b o e => ?_⟩))
    have hb : b < s.heap.objs.size := Heap.lt_size e
    refine mv.heap b o (fun hm => ?_) (Heap.get?_push_of_some _ (Heap.get?_push_of_some _ e))
    rcases List.mem_cons.mp hm with z | z
    · exact Nat.ne_of_lt hb z
    · have := List.mem_singleton.mp z
      rw [z0] at this
      exact absurd hb (by rw [this]; exact Nat.not_lt.mpr (Nat.le_succ _))
end
def tLenSetK (K : PySem.W.Frag) (ta : TE) : TE := fun σ H Q => ta σ H fun x H1 => ∃ (l : Addr) (ks : List Key), x = V.ref l ∧ SqL K H1 l (ks.map kV) ∧ ks.length ≤ 1000 ∧ ∀ n : Nat, n ≤ ks.length → (n = ks.length ↔ ks.Nodup) → Q (.int n) H1
theorem pe_lenSetK {X : Cx} {a : Expr} {ta : TE} {p p2 q pos : Pos} (hc : X.calm = true) (hg : Gl X "len") (hm : X.mg "len" = none) (hg2 : Gl X "set") (hm2 : X.mg "set" = none) (ha : PE X a ta)
    (na : starEach [a] X.env = (false, eval a X.env) :: starEach [] X.env := by rfl) : PE X (.Call (.Name "len" p) [.Call (.Name "set" p2) [a] [] q] [] pos) (tLenSetK X.K ta) := by
  refine ⟨fun pins s σ H Q I h => ?_⟩
  refine Call_ (ld_blt I hg hm PySem.boot_len ?_)
  refine PyProof.Rows.callWith_builtin1 (PyProof.Rows.args_cons ?_ rfl) rfl rfl
  refine Call_ (ld_blt I hg2 hm2 PyProof.Rows.boot_set ?_)
  refine PyProof.Rows.callWith_type1 (PyProof.Rows.args_cons (thn (ha.run pins s σ H _ I h) fun v s1 ⟨x, H1, I1, r1, q1⟩ => PyProof.Rows.args_nil ?_) na) na rfl
  obtain ⟨l, ks, rfl, hq, h1, q1⟩ := q1
  cases r1
  obtain ⟨its, r, pl, hz⟩ := I1.list hq
  refine set_ofKeys ks (I1.ok.hd hc) pl.isList (by simpa using r) (by unfold scanBound; omega) fun h' tk c hS hle hiff hk => ?_
  refine PyProof.Rows.args_nil ?_
  obtain ⟨o, es, ep, t, ho, hex, hd, _, _, _, hf, hn⟩ := hS
  have I2 : Inv X pins σ H1 { s1 with heap := h', toks := tk } := I1.kept fun b o e => hk b o e
  refine call_len_set ho hex hd hf (by rw [hn] <;> omega) ⟨.int c, H1, I2.tok _, ⟨_, by rw [hn]⟩, q1 c hle hiff⟩
end My
set_option Elab.async false
set_option linter.all false
set_option maxRecDepth 100000
set_option maxHeartbeats 0
namespace K16
open PySem PySem.Spec PyProof.Rows L2 My
/-! ### the text -/
def topS (i : Nat) : Stmt := PySem.Challenge.pw_settingsmerge_k16_releases_kept_apart.main.body.getD i (.Pass ⟨0, 0, 0, 0⟩)
abbrev s_is_made_of : Stmt := topS 14
abbrev N_is_made_of : List Str := ["thing", "characters", "most", "character"]
theorem scis_made_of : FnScope N_is_made_of ["thing", "characters", "most"] (defScope s_is_made_of) := ⟨rfl, rfl, rfl, by decide +kernel, rfl, by decide +kernel, by decide +kernel⟩
abbrev s_is_name : Stmt := topS 15
abbrev N_is_name : List Str := ["thing"]
theorem scis_name : FnScope N_is_name ["thing"] (defScope s_is_name) := ⟨rfl, rfl, rfl, by decide +kernel, rfl, by decide +kernel, by decide +kernel⟩
abbrev s_is_place : Stmt := topS 16
abbrev N_is_place : List Str := ["thing", "section", "dot", "key"]
theorem scis_place : FnScope N_is_place ["thing"] (defScope s_is_place) := ⟨rfl, rfl, rfl, by decide +kernel, rfl, by decide +kernel, by decide +kernel⟩
abbrev s_is_value : Stmt := topS 17
abbrev N_is_value : List Str := ["thing"]
theorem scis_value : FnScope N_is_value ["thing"] (defScope s_is_value) := ⟨rfl, rfl, rfl, by decide +kernel, rfl, by decide +kernel, by decide +kernel⟩
abbrev s_is_release_word : Stmt := topS 18
abbrev N_is_release_word : List Str := ["thing"]
theorem scis_release_word : FnScope N_is_release_word ["thing"] (defScope s_is_release_word) := ⟨rfl, rfl, rfl, by decide +kernel, rfl, by decide +kernel, by decide +kernel⟩
abbrev s_is_header : Stmt := topS 19
abbrev N_is_header : List Str := ["line"]
theorem scis_header : FnScope N_is_header ["line"] (defScope s_is_header) := ⟨rfl, rfl, rfl, by decide +kernel, rfl, by decide +kernel, by decide +kernel⟩
abbrev s_is_loose : Stmt := topS 20
abbrev N_is_loose : List Str := ["line"]
theorem scis_loose : FnScope N_is_loose ["line"] (defScope s_is_loose) := ⟨rfl, rfl, rfl, by decide +kernel, rfl, by decide +kernel, by decide +kernel⟩
abbrev s_read_setting : Stmt := topS 21
abbrev N_read_setting : List Str := ["line", "key", "equals", "value"]
theorem scread_setting : FnScope N_read_setting ["line"] (defScope s_read_setting) := ⟨rfl, rfl, rfl, by decide +kernel, rfl, by decide +kernel, by decide +kernel⟩
abbrev s_read_kept : Stmt := topS 22
abbrev N_read_kept : List Str := ["line", "mark", "gap", "rest", "word", "named", "place", "equals", "value"]
theorem scread_kept : FnScope N_read_kept ["line"] (defScope s_read_kept) := ⟨rfl, rfl, rfl, by decide +kernel, rfl, by decide +kernel, by decide +kernel⟩
abbrev s_is_number_below : Stmt := topS 25
abbrev N_is_number_below : List Str := ["thing", "limit"]
theorem scis_number_below : FnScope N_is_number_below ["thing", "limit"] (defScope s_is_number_below) := ⟨rfl, rfl, rfl, by decide +kernel, rfl, by decide +kernel, by decide +kernel⟩
abbrev s_is_key : Stmt := topS 26
abbrev N_is_key : List Str := ["thing", "table"]
theorem scis_key : FnScope N_is_key ["thing", "table"] (defScope s_is_key) := ⟨rfl, rfl, rfl, by decide +kernel, rfl, by decide +kernel, by decide +kernel⟩
abbrev s_is_tuple_of : Stmt := topS 27
abbrev N_is_tuple_of : List Str := ["thing", "many"]
theorem scis_tuple_of : FnScope N_is_tuple_of ["thing", "many"] (defScope s_is_tuple_of) := ⟨rfl, rfl, rfl, by decide +kernel, rfl, by decide +kernel, by decide +kernel⟩
abbrev s_are_different : Stmt := topS 28
abbrev N_are_different : List Str := ["things"]
theorem scare_different : FnScope N_are_different ["things"] (defScope s_are_different) := ⟨rfl, rfl, rfl, by decide +kernel, rfl, by decide +kernel, by decide +kernel⟩
abbrev s_unshared : Stmt := topS 29
abbrev N_unshared : List Str := ["thing"]
theorem scunshared : FnScope N_unshared ["thing"] (defScope s_unshared) := ⟨rfl, rfl, rfl, by decide +kernel, rfl, by decide +kernel, by decide +kernel⟩
abbrev s_shipped_file : Stmt := topS 30
abbrev N_shipped_file : List Str := ["text", "file"]
theorem scshipped_file : FnScope N_shipped_file ["text"] (defScope s_shipped_file) := ⟨rfl, rfl, rfl, by decide +kernel, rfl, by decide +kernel, by decide +kernel⟩
abbrev s_is_rename : Stmt := topS 31
abbrev N_is_rename : List Str := ["thing", "before", "file"]
theorem scis_rename : FnScope N_is_rename ["thing", "before", "file"] (defScope s_is_rename) := ⟨rfl, rfl, rfl, by decide +kernel, rfl, by decide +kernel, by decide +kernel⟩
abbrev s_are_renames : Stmt := topS 32
abbrev N_are_renames : List Str := ["things", "before", "file", "thing", "old", "new"]
theorem scare_renames : FnScope N_are_renames ["things", "before", "file"] (defScope s_are_renames) := ⟨rfl, rfl, rfl, by decide +kernel, rfl, by decide +kernel, by decide +kernel⟩
abbrev s_carried_slots : Stmt := topS 33
abbrev N_carried_slots : List Str := ["renames", "before", "file", "origins", "left", "carried", "place", "old", "new"]
theorem sccarried_slots : FnScope N_carried_slots ["renames", "before", "file"] (defScope s_carried_slots) := ⟨rfl, rfl, rfl, by decide +kernel, rfl, by decide +kernel, by decide +kernel⟩
abbrev s_slot_returned : Stmt := topS 34
abbrev N_slot_returned : List Str := ["thing", "earlier", "carried", "file", "release", "old", "new", "slot"]
theorem scslot_returned : FnScope N_slot_returned ["thing", "earlier", "carried", "file"] (defScope s_slot_returned) := ⟨rfl, rfl, rfl, by decide +kernel, rfl, by decide +kernel, by decide +kernel⟩
abbrev s_are_returns : Stmt := topS 35
abbrev N_are_returns : List Str := ["things", "earlier", "carried", "file", "slots", "thing"]
theorem scare_returns : FnScope N_are_returns ["things", "earlier", "carried", "file"] (defScope s_are_returns) := ⟨rfl, rfl, rfl, by decide +kernel, rfl, by decide +kernel, by decide +kernel⟩
abbrev s_L_bag : Stmt := topS 39
abbrev N_L_bag : List Str := ["_law_script", "_law_at", "_law_cell", "_law_blend", "_law_k", "_law_each"]
theorem scL_bag : FnScope N_L_bag ["_law_script", "_law_at"] (defScope s_L_bag) := ⟨rfl, rfl, rfl, by decide +kernel, rfl, by decide +kernel, by decide +kernel⟩
abbrev s_L_take : Stmt := topS 40
abbrev N_L_take : List Str := ["_law_bag_here", "_law_many", "_law_digit"]
theorem scL_take : FnScope N_L_take ["_law_bag_here", "_law_many"] (defScope s_L_take) := ⟨rfl, rfl, rfl, by decide +kernel, rfl, by decide +kernel, by decide +kernel⟩
abbrev s_L_of : Stmt := topS 41
abbrev N_L_of : List Str := ["_law_bag_here", "_law_some"]
theorem scL_of : FnScope N_L_of ["_law_bag_here", "_law_some"] (defScope s_L_of) := ⟨rfl, rfl, rfl, by decide +kernel, rfl, by decide +kernel, by decide +kernel⟩
abbrev s_L_any : Stmt := topS 42
abbrev N_L_any : List Str := ["_law_bag_here", "_law_some"]
theorem scL_any : FnScope N_L_any ["_law_bag_here"] (defScope s_L_any) := ⟨rfl, rfl, rfl, by decide +kernel, rfl, by decide +kernel, by decide +kernel⟩
abbrev s_L_plain : Stmt := topS 43
abbrev N_L_plain : List Str := ["_law_what"]
theorem scL_plain : FnScope N_L_plain ["_law_what"] (defScope s_L_plain) := ⟨rfl, rfl, rfl, by decide +kernel, rfl, by decide +kernel, by decide +kernel⟩
abbrev s_L_any_right : Stmt := topS 44
abbrev N_L_any_right : List Str := ["_law_bag_here", "_law_one", "_law_two", "_law_three", "_law_shown", "_law_made", "_law_found", "_law_bare"]
theorem scL_any_right : FnScope N_L_any_right ["_law_bag_here"] (defScope s_L_any_right) := ⟨rfl, rfl, rfl, by decide +kernel, rfl, by decide +kernel, by decide +kernel⟩
abbrev s_L_table : Stmt := topS 45
abbrev N_L_table : List Str := ["_law_history", "_law_spots", "_law_one"]
theorem scL_table : FnScope N_L_table ["_law_history"] (defScope s_L_table) := ⟨rfl, rfl, rfl, by decide +kernel, rfl, by decide +kernel, by decide +kernel⟩
abbrev s_L_due : Stmt := topS 46
abbrev N_L_due : List Str := ["_law_moves", "_law_first", "_law_many", "_law_second", "_law_third", "_law_one", "_law_spots", "_law_old", "_law_new", "_law_row"]
theorem scL_due : FnScope N_L_due ["_law_moves"] (defScope s_L_due) := ⟨rfl, rfl, rfl, by decide +kernel, rfl, by decide +kernel, by decide +kernel⟩
abbrev s_L_moved : Stmt := topS 47
abbrev N_L_moved : List Str := ["_law_moves", "_law_lines", "_law_old", "_law_new"]
theorem scL_moved : FnScope N_L_moved ["_law_moves"] (defScope s_L_moved) := ⟨rfl, rfl, rfl, by decide +kernel, rfl, by decide +kernel, by decide +kernel⟩
abbrev s_law : Stmt := topS 48
abbrev N_law : List Str := ["_law_script", "_law_at", "_law_bag_here", "_law_turn", "_law_lasts", "_law_moves", "_law_lent", "_law_one", "_law_two", "_law_three", "_law_made", "_law_due_here", "_law_each"]
theorem sclaw : FnScope N_law ["_law_script"] (defScope s_law) := ⟨rfl, rfl, rfl, by decide +kernel, rfl, by decide +kernel, by decide +kernel⟩
abbrev s_SettingsFile___init__ : Stmt := inClass (topS 23) 0
abbrev N_SettingsFile___init__ : List Str := ["self", "text", "at", "line", "kind"]
theorem scSettingsFile___init__ : FnScope N_SettingsFile___init__ ["self", "text"] (defScope s_SettingsFile___init__) := ⟨rfl, rfl, rfl, by decide +kernel, rfl, by decide +kernel, by decide +kernel⟩
abbrev s_SettingsFile_take : Stmt := inClass (topS 23) 1
abbrev N_SettingsFile_take : List Str := ["self", "line", "setting", "key", "value"]
theorem scSettingsFile_take : FnScope N_SettingsFile_take ["self", "line"] (defScope s_SettingsFile_take) := ⟨rfl, rfl, rfl, by decide +kernel, rfl, by decide +kernel, by decide +kernel⟩
abbrev s_SettingsFile_take_kept : Stmt := inClass (topS 23) 2
abbrev N_SettingsFile_take_kept : List Str := ["self", "line", "kept", "release", "place", "value"]
theorem scSettingsFile_take_kept : FnScope N_SettingsFile_take_kept ["self", "line"] (defScope s_SettingsFile_take_kept) := ⟨rfl, rfl, rfl, by decide +kernel, rfl, by decide +kernel, by decide +kernel⟩
abbrev s_SettingsFile_take_header : Stmt := inClass (topS 23) 3
abbrev N_SettingsFile_take_header : List Str := ["self", "name"]
theorem scSettingsFile_take_header : FnScope N_SettingsFile_take_header ["self", "name"] (defScope s_SettingsFile_take_header) := ⟨rfl, rfl, rfl, by decide +kernel, rfl, by decide +kernel, by decide +kernel⟩
abbrev s_SettingsFile_take_setting : Stmt := inClass (topS 23) 4
abbrev N_SettingsFile_take_setting : List Str := ["self", "key", "value", "place"]
theorem scSettingsFile_take_setting : FnScope N_SettingsFile_take_setting ["self", "key", "value"] (defScope s_SettingsFile_take_setting) := ⟨rfl, rfl, rfl, by decide +kernel, rfl, by decide +kernel, by decide +kernel⟩
abbrev s_SettingsFile_close_block : Stmt := inClass (topS 23) 5
abbrev N_SettingsFile_close_block : List Str := ["self", "thing"]
theorem scSettingsFile_close_block : FnScope N_SettingsFile_close_block ["self", "thing"] (defScope s_SettingsFile_close_block) := ⟨rfl, rfl, rfl, by decide +kernel, rfl, by decide +kernel, by decide +kernel⟩
abbrev s_SettingsFile_places : Stmt := inClass (topS 23) 8
abbrev N_SettingsFile_places : List Str := ["self"]
theorem scSettingsFile_places : FnScope N_SettingsFile_places ["self"] (defScope s_SettingsFile_places) := ⟨rfl, rfl, rfl, by decide +kernel, rfl, by decide +kernel, by decide +kernel⟩
abbrev s_SettingsFile_kept : Stmt := inClass (topS 23) 10
abbrev N_SettingsFile_kept : List Str := ["self", "release", "place"]
theorem scSettingsFile_kept : FnScope N_SettingsFile_kept ["self"] (defScope s_SettingsFile_kept) := ⟨rfl, rfl, rfl, by decide +kernel, rfl, by decide +kernel, by decide +kernel⟩
abbrev s_SettingsFile___contains__ : Stmt := inClass (topS 23) 15
abbrev N_SettingsFile___contains__ : List Str := ["self", "x"]
theorem scSettingsFile___contains__ : FnScope N_SettingsFile___contains__ ["self", "x"] (defScope s_SettingsFile___contains__) := ⟨rfl, rfl, rfl, by decide +kernel, rfl, by decide +kernel, by decide +kernel⟩
abbrev s_Release___init__ : Stmt := inClass (topS 36) 0
abbrev N_Release___init__ : List Str := ["self", "text", "renames", "returns"]
theorem scRelease___init__ : FnScope N_Release___init__ ["self", "text", "renames", "returns"] (defScope s_Release___init__) := ⟨rfl, rfl, rfl, by decide +kernel, rfl, by decide +kernel, by decide +kernel⟩
abbrev s_History___init__ : Stmt := inClass (topS 37) 2
abbrev N_History___init__ : List Str := ["self", "exclusions", "releases", "at", "release", "exclusion"]
theorem scHistory___init__ : FnScope N_History___init__ ["self", "exclusions", "releases"] (defScope s_History___init__) := ⟨rfl, rfl, rfl, by decide +kernel, rfl, by decide +kernel, by decide +kernel⟩
abbrev s_History_take_release : Stmt := inClass (topS 37) 3
abbrev N_History_take_release : List Str := ["self", "at", "release", "file", "before", "carried", "returned", "named", "old", "new"]
theorem scHistory_take_release : FnScope N_History_take_release ["self", "at", "release"] (defScope s_History_take_release) := ⟨rfl, rfl, rfl, by decide +kernel, rfl, by decide +kernel, by decide +kernel⟩
abbrev s_History_take_places : Stmt := inClass (topS 37) 4
abbrev N_History_take_places : List Str := ["self", "at", "file", "known", "table", "place"]
theorem scHistory_take_places : FnScope N_History_take_places ["self", "at", "file", "known"] (defScope s_History_take_places) := ⟨rfl, rfl, rfl, by decide +kernel, rfl, by decide +kernel, by decide +kernel⟩
abbrev s_History_take_exclusion : Stmt := inClass (topS 37) 5
abbrev N_History_take_exclusion : List Str := ["self", "at", "thing", "sides", "slot", "value", "other", "other_value", "release", "part"]
theorem scHistory_take_exclusion : FnScope N_History_take_exclusion ["self", "at", "thing"] (defScope s_History_take_exclusion) := ⟨rfl, rfl, rfl, by decide +kernel, rfl, by decide +kernel, by decide +kernel⟩
abbrev s_History_check_release : Stmt := inClass (topS 37) 8
abbrev N_History_check_release : List Str := ["self", "release"]
theorem scHistory_check_release : FnScope N_History_check_release ["self", "release"] (defScope s_History_check_release) := ⟨rfl, rfl, rfl, by decide +kernel, rfl, by decide +kernel, by decide +kernel⟩
abbrev s_History_slots : Stmt := inClass (topS 37) 9
abbrev N_History_slots : List Str := ["self"]
theorem scHistory_slots : FnScope N_History_slots ["self"] (defScope s_History_slots) := ⟨rfl, rfl, rfl, by decide +kernel, rfl, by decide +kernel, by decide +kernel⟩
abbrev s_History_slot_at : Stmt := inClass (topS 37) 13
abbrev N_History_slot_at : List Str := ["self", "place", "release"]
theorem scHistory_slot_at : FnScope N_History_slot_at ["self", "place", "release"] (defScope s_History_slot_at) := ⟨rfl, rfl, rfl, by decide +kernel, rfl, by decide +kernel, by decide +kernel⟩
abbrev s_History___len__ : Stmt := inClass (topS 37) 17
abbrev N_History___len__ : List Str := ["self"]
theorem scHistory___len__ : FnScope N_History___len__ ["self"] (defScope s_History___len__) := ⟨rfl, rfl, rfl, by decide +kernel, rfl, by decide +kernel, by decide +kernel⟩
/-! ### what the top has written -/
structure Top (K : PySem.W.Frag) (mg : Str → Option Value) where
  C_SettingsFile : Addr
  cl_SettingsFile : Cls K C_SettingsFile
  g_SettingsFile : mg "SettingsFile" = some (.ref C_SettingsFile)
  no_SettingsFile_text : NoAttr K C_SettingsFile "text"
  no_SettingsFile_rows : NoAttr K C_SettingsFile "rows"
  no_SettingsFile_headers : NoAttr K C_SettingsFile "headers"
  no_SettingsFile_settings_read : NoAttr K C_SettingsFile "settings_read"
  no_SettingsFile_kept_read : NoAttr K C_SettingsFile "kept_read"
  no_SettingsFile_blocks : NoAttr K C_SettingsFile "blocks"
  no_SettingsFile_loose : NoAttr K C_SettingsFile "loose"
  C_Release : Addr
  cl_Release : Cls K C_Release
  g_Release : mg "Release" = some (.ref C_Release)
  no_Release_text : NoAttr K C_Release "text"
  no_Release_renames : NoAttr K C_Release "renames"
  no_Release_returns : NoAttr K C_Release "returns"
  C_History : Addr
  cl_History : Cls K C_History
  g_History : mg "History" = some (.ref C_History)
  no_History_shipped_files : NoAttr K C_History "shipped_files"
  no_History_slot_tables : NoAttr K C_History "slot_tables"
  no_History_routes : NoAttr K C_History "routes"
  no_History_clashes : NoAttr K C_History "clashes"
  cr_History : ClX.CRead K C_History (.type "type")
  cu_History_MOST_RELEASES : Tok
  cv_History_MOST_RELEASES : ClX.CVal K C_History (.type "type") "MOST_RELEASES" (.int 8) (.int 8 cu_History_MOST_RELEASES)
  cu_History_MOST_SLOTS : Tok
  cv_History_MOST_SLOTS : ClX.CVal K C_History (.type "type") "MOST_SLOTS" (.int 12) (.int 12 cu_History_MOST_SLOTS)
  f_is_made_of : Addr
  d_is_made_of : FuncData
  F_is_made_of : Fun K "is_made_of" "is_made_of" s_is_made_of f_is_made_of d_is_made_of
  b_is_made_of : Binds K d_is_made_of ["thing", "characters", "most"] []
  g_is_made_of : mg "is_made_of" = some (.ref f_is_made_of)
  f_is_name : Addr
  d_is_name : FuncData
  F_is_name : Fun K "is_name" "is_name" s_is_name f_is_name d_is_name
  b_is_name : Binds K d_is_name ["thing"] []
  g_is_name : mg "is_name" = some (.ref f_is_name)
  f_is_place : Addr
  d_is_place : FuncData
  F_is_place : Fun K "is_place" "is_place" s_is_place f_is_place d_is_place
  b_is_place : Binds K d_is_place ["thing"] []
  g_is_place : mg "is_place" = some (.ref f_is_place)
  f_is_value : Addr
  d_is_value : FuncData
  F_is_value : Fun K "is_value" "is_value" s_is_value f_is_value d_is_value
  b_is_value : Binds K d_is_value ["thing"] []
  g_is_value : mg "is_value" = some (.ref f_is_value)
  f_is_release_word : Addr
  d_is_release_word : FuncData
  F_is_release_word : Fun K "is_release_word" "is_release_word" s_is_release_word f_is_release_word d_is_release_word
  b_is_release_word : Binds K d_is_release_word ["thing"] []
  g_is_release_word : mg "is_release_word" = some (.ref f_is_release_word)
  f_is_header : Addr
  d_is_header : FuncData
  F_is_header : Fun K "is_header" "is_header" s_is_header f_is_header d_is_header
  b_is_header : Binds K d_is_header ["line"] []
  g_is_header : mg "is_header" = some (.ref f_is_header)
  f_is_loose : Addr
  d_is_loose : FuncData
  F_is_loose : Fun K "is_loose" "is_loose" s_is_loose f_is_loose d_is_loose
  b_is_loose : Binds K d_is_loose ["line"] []
  g_is_loose : mg "is_loose" = some (.ref f_is_loose)
  f_read_setting : Addr
  d_read_setting : FuncData
  F_read_setting : Fun K "read_setting" "read_setting" s_read_setting f_read_setting d_read_setting
  b_read_setting : Binds K d_read_setting ["line"] []
  g_read_setting : mg "read_setting" = some (.ref f_read_setting)
  f_read_kept : Addr
  d_read_kept : FuncData
  F_read_kept : Fun K "read_kept" "read_kept" s_read_kept f_read_kept d_read_kept
  b_read_kept : Binds K d_read_kept ["line"] []
  g_read_kept : mg "read_kept" = some (.ref f_read_kept)
  f_is_number_below : Addr
  d_is_number_below : FuncData
  F_is_number_below : Fun K "is_number_below" "is_number_below" s_is_number_below f_is_number_below d_is_number_below
  b_is_number_below : Binds K d_is_number_below ["thing", "limit"] []
  g_is_number_below : mg "is_number_below" = some (.ref f_is_number_below)
  f_is_key : Addr
  d_is_key : FuncData
  F_is_key : Fun K "is_key" "is_key" s_is_key f_is_key d_is_key
  b_is_key : Binds K d_is_key ["thing", "table"] []
  g_is_key : mg "is_key" = some (.ref f_is_key)
  f_is_tuple_of : Addr
  d_is_tuple_of : FuncData
  F_is_tuple_of : Fun K "is_tuple_of" "is_tuple_of" s_is_tuple_of f_is_tuple_of d_is_tuple_of
  b_is_tuple_of : Binds K d_is_tuple_of ["thing", "many"] []
  g_is_tuple_of : mg "is_tuple_of" = some (.ref f_is_tuple_of)
  f_are_different : Addr
  d_are_different : FuncData
  F_are_different : Fun K "are_different" "are_different" s_are_different f_are_different d_are_different
  b_are_different : Binds K d_are_different ["things"] []
  g_are_different : mg "are_different" = some (.ref f_are_different)
  f_unshared : Addr
  d_unshared : FuncData
  F_unshared : Fun K "unshared" "unshared" s_unshared f_unshared d_unshared
  b_unshared : Binds K d_unshared ["thing"] []
  g_unshared : mg "unshared" = some (.ref f_unshared)
  f_shipped_file : Addr
  d_shipped_file : FuncData
  F_shipped_file : Fun K "shipped_file" "shipped_file" s_shipped_file f_shipped_file d_shipped_file
  b_shipped_file : Binds K d_shipped_file ["text"] []
  g_shipped_file : mg "shipped_file" = some (.ref f_shipped_file)
  f_is_rename : Addr
  d_is_rename : FuncData
  F_is_rename : Fun K "is_rename" "is_rename" s_is_rename f_is_rename d_is_rename
  b_is_rename : Binds K d_is_rename ["thing", "before", "file"] []
  g_is_rename : mg "is_rename" = some (.ref f_is_rename)
  f_are_renames : Addr
  d_are_renames : FuncData
  F_are_renames : Fun K "are_renames" "are_renames" s_are_renames f_are_renames d_are_renames
  b_are_renames : Binds K d_are_renames ["things", "before", "file"] []
  g_are_renames : mg "are_renames" = some (.ref f_are_renames)
  f_carried_slots : Addr
  d_carried_slots : FuncData
  F_carried_slots : Fun K "carried_slots" "carried_slots" s_carried_slots f_carried_slots d_carried_slots
  b_carried_slots : Binds K d_carried_slots ["renames", "before", "file"] []
  g_carried_slots : mg "carried_slots" = some (.ref f_carried_slots)
  f_slot_returned : Addr
  d_slot_returned : FuncData
  F_slot_returned : Fun K "slot_returned" "slot_returned" s_slot_returned f_slot_returned d_slot_returned
  b_slot_returned : Binds K d_slot_returned ["thing", "earlier", "carried", "file"] []
  g_slot_returned : mg "slot_returned" = some (.ref f_slot_returned)
  f_are_returns : Addr
  d_are_returns : FuncData
  F_are_returns : Fun K "are_returns" "are_returns" s_are_returns f_are_returns d_are_returns
  b_are_returns : Binds K d_are_returns ["things", "earlier", "carried", "file"] []
  g_are_returns : mg "are_returns" = some (.ref f_are_returns)
  f__law_bag : Addr
  d__law_bag : FuncData
  F__law_bag : Fun K "_law_bag" "_law_bag" s_L_bag f__law_bag d__law_bag
  b__law_bag : Binds K d__law_bag ["_law_script", "_law_at"] []
  g__law_bag : mg "_law_bag" = some (.ref f__law_bag)
  f__law_take : Addr
  d__law_take : FuncData
  F__law_take : Fun K "_law_take" "_law_take" s_L_take f__law_take d__law_take
  b__law_take : Binds K d__law_take ["_law_bag_here", "_law_many"] []
  g__law_take : mg "_law_take" = some (.ref f__law_take)
  f__law_of : Addr
  d__law_of : FuncData
  F__law_of : Fun K "_law_of" "_law_of" s_L_of f__law_of d__law_of
  b__law_of : Binds K d__law_of ["_law_bag_here", "_law_some"] []
  g__law_of : mg "_law_of" = some (.ref f__law_of)
  f__law_any : Addr
  d__law_any : FuncData
  F__law_any : Fun K "_law_any" "_law_any" s_L_any f__law_any d__law_any
  b__law_any : Binds K d__law_any ["_law_bag_here"] []
  g__law_any : mg "_law_any" = some (.ref f__law_any)
  f__law_plain : Addr
  d__law_plain : FuncData
  F__law_plain : Fun K "_law_plain" "_law_plain" s_L_plain f__law_plain d__law_plain
  b__law_plain : Binds K d__law_plain ["_law_what"] []
  g__law_plain : mg "_law_plain" = some (.ref f__law_plain)
  f__law_any_right : Addr
  d__law_any_right : FuncData
  F__law_any_right : Fun K "_law_any_right" "_law_any_right" s_L_any_right f__law_any_right d__law_any_right
  b__law_any_right : Binds K d__law_any_right ["_law_bag_here"] []
  g__law_any_right : mg "_law_any_right" = some (.ref f__law_any_right)
  f__law_table : Addr
  d__law_table : FuncData
  F__law_table : Fun K "_law_table" "_law_table" s_L_table f__law_table d__law_table
  b__law_table : Binds K d__law_table ["_law_history"] []
  g__law_table : mg "_law_table" = some (.ref f__law_table)
  f__law_due : Addr
  d__law_due : FuncData
  F__law_due : Fun K "_law_due" "_law_due" s_L_due f__law_due d__law_due
  b__law_due : Binds K d__law_due ["_law_moves"] []
  g__law_due : mg "_law_due" = some (.ref f__law_due)
  f__law_moved : Addr
  d__law_moved : FuncData
  F__law_moved : Fun K "_law_moved" "_law_moved" s_L_moved f__law_moved d__law_moved
  b__law_moved : Binds K d__law_moved ["_law_moves"] []
  g__law_moved : mg "_law_moved" = some (.ref f__law_moved)
  f_law : Addr
  d_law : FuncData
  F_law : Fun K "law" "law" s_law f_law d_law
  b_law : Binds K d_law ["_law_script"] []
  g_law : mg "law" = some (.ref f_law)
  f_SettingsFile___init__ : Addr
  d_SettingsFile___init__ : FuncData
  F_SettingsFile___init__ : Fun K "__init__" "SettingsFile.__init__" s_SettingsFile___init__ f_SettingsFile___init__ d_SettingsFile___init__
  b_SettingsFile___init__ : Binds K d_SettingsFile___init__ ["self", "text"] []
  mk_SettingsFile : Mk K C_SettingsFile f_SettingsFile___init__
  f_SettingsFile_take : Addr
  d_SettingsFile_take : FuncData
  F_SettingsFile_take : Fun K "take" "SettingsFile.take" s_SettingsFile_take f_SettingsFile_take d_SettingsFile_take
  b_SettingsFile_take : Binds K d_SettingsFile_take ["self", "line"] []
  me_SettingsFile_take : Meth K C_SettingsFile "take" f_SettingsFile_take
  f_SettingsFile_take_kept : Addr
  d_SettingsFile_take_kept : FuncData
  F_SettingsFile_take_kept : Fun K "take_kept" "SettingsFile.take_kept" s_SettingsFile_take_kept f_SettingsFile_take_kept d_SettingsFile_take_kept
  b_SettingsFile_take_kept : Binds K d_SettingsFile_take_kept ["self", "line"] []
  me_SettingsFile_take_kept : Meth K C_SettingsFile "take_kept" f_SettingsFile_take_kept
  f_SettingsFile_take_header : Addr
  d_SettingsFile_take_header : FuncData
  F_SettingsFile_take_header : Fun K "take_header" "SettingsFile.take_header" s_SettingsFile_take_header f_SettingsFile_take_header d_SettingsFile_take_header
  b_SettingsFile_take_header : Binds K d_SettingsFile_take_header ["self", "name"] []
  me_SettingsFile_take_header : Meth K C_SettingsFile "take_header" f_SettingsFile_take_header
  f_SettingsFile_take_setting : Addr
  d_SettingsFile_take_setting : FuncData
  F_SettingsFile_take_setting : Fun K "take_setting" "SettingsFile.take_setting" s_SettingsFile_take_setting f_SettingsFile_take_setting d_SettingsFile_take_setting
  b_SettingsFile_take_setting : Binds K d_SettingsFile_take_setting ["self", "key", "value"] []
  me_SettingsFile_take_setting : Meth K C_SettingsFile "take_setting" f_SettingsFile_take_setting
  f_SettingsFile_close_block : Addr
  d_SettingsFile_close_block : FuncData
  F_SettingsFile_close_block : Fun K "close_block" "SettingsFile.close_block" s_SettingsFile_close_block f_SettingsFile_close_block d_SettingsFile_close_block
  b_SettingsFile_close_block : Binds K d_SettingsFile_close_block ["self", "thing"] []
  me_SettingsFile_close_block : Meth K C_SettingsFile "close_block" f_SettingsFile_close_block
  f_SettingsFile_places : Addr
  d_SettingsFile_places : FuncData
  F_SettingsFile_places : Fun K "places" "SettingsFile.places" s_SettingsFile_places f_SettingsFile_places d_SettingsFile_places
  b_SettingsFile_places : Binds K d_SettingsFile_places ["self"] []
  me_SettingsFile_places : Meth K C_SettingsFile "places" f_SettingsFile_places
  f_SettingsFile_kept : Addr
  d_SettingsFile_kept : FuncData
  F_SettingsFile_kept : Fun K "kept" "SettingsFile.kept" s_SettingsFile_kept f_SettingsFile_kept d_SettingsFile_kept
  b_SettingsFile_kept : Binds K d_SettingsFile_kept ["self"] []
  me_SettingsFile_kept : Meth K C_SettingsFile "kept" f_SettingsFile_kept
  f_SettingsFile___contains__ : Addr
  d_SettingsFile___contains__ : FuncData
  F_SettingsFile___contains__ : Fun K "__contains__" "SettingsFile.__contains__" s_SettingsFile___contains__ f_SettingsFile___contains__ d_SettingsFile___contains__
  b_SettingsFile___contains__ : Binds K d_SettingsFile___contains__ ["self", "x"] []
  me_SettingsFile___contains__ : Meth K C_SettingsFile "__contains__" f_SettingsFile___contains__
  f_Release___init__ : Addr
  d_Release___init__ : FuncData
  F_Release___init__ : Fun K "__init__" "Release.__init__" s_Release___init__ f_Release___init__ d_Release___init__
  dv_Release___init___renames : Addr
  sq_Release___init___renames : ∀ H, SqT K H dv_Release___init___renames []
  dv_Release___init___returns : Addr
  sq_Release___init___returns : ∀ H, SqT K H dv_Release___init___returns []
  b_Release___init__ : Binds K d_Release___init__ ["self", "text", "renames", "returns"] [.ref dv_Release___init___renames, .ref dv_Release___init___returns]
  kn_Release___init___0 : KBn K d_Release___init__ ["self", "text", "renames", "returns"] 2 ["returns", "renames"] (fun us ws => us ++ ws.reverse) (fun us ws => us ++ ws.reverse)
  kn_Release___init___1 : KBn K d_Release___init__ ["self", "text", "renames", "returns"] 1 ["text"] (fun us ws => us ++ (ws ++ [Value.ref dv_Release___init___renames, Value.ref dv_Release___init___returns])) (fun us ws => us ++ (ws ++ [V.ref dv_Release___init___renames, V.ref dv_Release___init___returns]))
  kn_Release___init___2 : KBn K d_Release___init__ ["self", "text", "renames", "returns"] 2 ["renames"] (fun us ws => us ++ (ws ++ [Value.ref dv_Release___init___returns])) (fun us ws => us ++ (ws ++ [V.ref dv_Release___init___returns]))
  mk_Release : Mk K C_Release f_Release___init__
  f_History___init__ : Addr
  d_History___init__ : FuncData
  F_History___init__ : Fun K "__init__" "History.__init__" s_History___init__ f_History___init__ d_History___init__
  dv_History___init___exclusions : Addr
  sq_History___init___exclusions : ∀ H, SqT K H dv_History___init___exclusions []
  kd_History___init__ : Addr
  nk_History___init__ : PySem.W.nsIn K kd_History___init__ "exclusions" = some (some (.ref dv_History___init___exclusions))
  sb_History___init__ : StarD d_History___init__ kd_History___init__ ["self"] "exclusions" "releases" (.ref dv_History___init___exclusions)
  mk_History : Mk K C_History f_History___init__
  f_History_take_release : Addr
  d_History_take_release : FuncData
  F_History_take_release : Fun K "take_release" "History.take_release" s_History_take_release f_History_take_release d_History_take_release
  b_History_take_release : Binds K d_History_take_release ["self", "at", "release"] []
  me_History_take_release : Meth K C_History "take_release" f_History_take_release
  f_History_take_places : Addr
  d_History_take_places : FuncData
  F_History_take_places : Fun K "take_places" "History.take_places" s_History_take_places f_History_take_places d_History_take_places
  b_History_take_places : Binds K d_History_take_places ["self", "at", "file", "known"] []
  me_History_take_places : Meth K C_History "take_places" f_History_take_places
  f_History_take_exclusion : Addr
  d_History_take_exclusion : FuncData
  F_History_take_exclusion : Fun K "take_exclusion" "History.take_exclusion" s_History_take_exclusion f_History_take_exclusion d_History_take_exclusion
  b_History_take_exclusion : Binds K d_History_take_exclusion ["self", "at", "thing"] []
  me_History_take_exclusion : Meth K C_History "take_exclusion" f_History_take_exclusion
  f_History_check_release : Addr
  d_History_check_release : FuncData
  F_History_check_release : Fun K "check_release" "History.check_release" s_History_check_release f_History_check_release d_History_check_release
  b_History_check_release : Binds K d_History_check_release ["self", "release"] []
  me_History_check_release : Meth K C_History "check_release" f_History_check_release
  f_History_slots : Addr
  d_History_slots : FuncData
  F_History_slots : Fun K "slots" "History.slots" s_History_slots f_History_slots d_History_slots
  b_History_slots : Binds K d_History_slots ["self"] []
  p_History_slots : Addr
  pr_History_slots : PropOf K C_History "slots" p_History_slots f_History_slots
  f_History_slot_at : Addr
  d_History_slot_at : FuncData
  F_History_slot_at : Fun K "slot_at" "History.slot_at" s_History_slot_at f_History_slot_at d_History_slot_at
  b_History_slot_at : Binds K d_History_slot_at ["self", "place", "release"] []
  me_History_slot_at : Meth K C_History "slot_at" f_History_slot_at
  f_History___len__ : Addr
  d_History___len__ : FuncData
  F_History___len__ : Fun K "__len__" "History.__len__" s_History___len__ f_History___len__ d_History___len__
  b_History___len__ : Binds K d_History___len__ ["self"] []
  me_History___len__ : Meth K C_History "__len__" f_History___len__
  t_LONGEST_NAME : Tok
  g_LONGEST_NAME : mg "LONGEST_NAME" = some (.int 8 t_LONGEST_NAME)
  t_LETTERS : Tok
  g_LETTERS : mg "LETTERS" = some (.str "abcdefghijklmnopqrstuvwxyz" t_LETTERS)
  t_LONGEST_VALUE : Tok
  g_LONGEST_VALUE : mg "LONGEST_VALUE" = some (.int 12 t_LONGEST_VALUE)
  t_DIGITS : Tok
  g_DIGITS : mg "DIGITS" = some (.str "0123456789" t_DIGITS)
  t_LONGEST_RELEASE : Tok
  g_LONGEST_RELEASE : mg "LONGEST_RELEASE" = some (.int 2 t_LONGEST_RELEASE)
  t_KEPT_MARK : Tok
  g_KEPT_MARK : mg "KEPT_MARK" = some (.str "#~" t_KEPT_MARK)
  m_len : mg "len" = none
  m_isinstance : mg "isinstance" = none
  m_str : mg "str" = none
  m_all : mg "all" = none
  m_int : mg "int" = none
  m_bool : mg "bool" = none
  m_tuple : mg "tuple" = none
  m_set : mg "set" = none
  m_list : mg "list" = none
  m_enumerate : mg "enumerate" = none
  m_abs : mg "abs" = none
  m_repr : mg "repr" = none
  m_dict : mg "dict" = none
  m_range : mg "range" = none
  m_max : mg "max" = none
  m_min : mg "min" = none
end K16

set_option Elab.async false
set_option linter.all false
set_option maxRecDepth 100000
/-! files of settings: what their lines are worth, and how such a file stands in the heap -/
namespace My
open PySem PySem.Spec PyProof.Rows L2
abbrev digits : Str := "0123456789"
abbrev markS : Str := "#~"
abbrev eqS : Str := " = "
abbrev spaceS : Str := " "
def relW (z : Str) : Bool := madeOf digits 2 z && (decide (z = "0") || !Txt.startswith z "0")
def looseS (z : Str) : Bool := decide (z = "") || (Txt.startswith z "#" && !Txt.startswith z markS)
def headOf (z : Str) : Str := cutS z (some 1) (some (-1))
def headS (z : Str) : Bool := Txt.startswith z "[" && (Txt.endswith z "]" && nameS (headOf z))
def setS (z : Str) : Option (Str × Str) := if (nameS (Txt.partition z eqS).1 && valueS (Txt.partition z eqS).2.2) = true then some ((Txt.partition z eqS).1, (Txt.partition z eqS).2.2) else none
def intOf (z : Str) : Int := (PySem.intText? z).getD 0
abbrev kp1 (z : Str) := Txt.partition z spaceS
abbrev kp2 (z : Str) := Txt.partition (kp1 z).2.2 spaceS
abbrev kp3 (z : Str) := Txt.partition (kp2 z).2.2 eqS
def keptS (z : Str) : Option (Int × Str × Option Str) :=
  if (decide ((kp1 z).1 = markS) && (relW (kp2 z).1 && placeS (kp3 z).1)) = true then
    (if (kp3 z).2.1 = "" then some (intOf (kp2 z).1, (kp3 z).1, none) else if valueS (kp3 z).2.2 = true then some (intOf (kp2 z).1, (kp3 z).1, some (kp3 z).2.2) else none)
  else none
theorem int_of_rel {z : Str} (h : relW z = true) : PySem.intText? z = some (intOf z) ∧ z.length ≤ 640 := by
  unfold relW madeOf at h
  simp only [Bool.and_eq_true, decide_eq_true_eq] at h
  obtain ⟨⟨h1, h2, h3⟩, _⟩ := h
  have hall : ∀ c ∈ z.cps.toList, c ∈ digits.cps.toList := fun c hc => of_decide_eq_true (List.all_eq_true.mp h3 c hc)
  refine ⟨?_, by omega⟩
  have key : (PySem.intText? z).isSome = true := by
    obtain ⟨cps⟩ := z
    have hl : cps.toList.length = (⟨cps⟩ : Str).length := rfl
    have e : cps = cps.toList.toArray := by simp
    rw [e]
    have hall' : ∀ c ∈ cps.toList, c ∈ digits.cps.toList := hall
    generalize cps.toList = l at *
    match l, hl, hall' with
    | [], hl, _ => simp at hl; omega
    | [a], _, ha =>
      have all1 : ∀ a ∈ digits.cps.toList, (PySem.intText? ⟨[a].toArray⟩).isSome = true := by decide +kernel
      exact all1 a (ha a (by simp))
    | [a, b], _, ha =>
      have all2 : ∀ a ∈ digits.cps.toList, ∀ b ∈ digits.cps.toList, (PySem.intText? ⟨[a, b].toArray⟩).isSome = true := by decide +kernel
      exact all2 a (ha a (by simp)) b (ha b (by simp))
    | _ :: _ :: _ :: r, hl, _ => simp at hl; omega
  unfold intOf
  obtain ⟨n, hn⟩ := Option.isSome_iff_exists.mp key
  rw [hn]
  rfl
/-- what is known of the lines that were read -/
structure FS where
  headers : List Str
  settings : List (Str × Str)
  kept : List ((Int × Str) × Option Str)
  blocks : List (Str × List Str)
  loose : List Str
  deriving DecidableEq
def fs0 : FS := ⟨[], [], [], [], []⟩
/-- one line; none where the text is no file -/
def stepF (fs : FS) (z : Str) : Option FS :=
  if looseS z = true then some { fs with loose := fs.loose ++ [z] }
  else if Txt.startswith z markS = true then
    (match keptS z with
    | none => none
    | some (r, p, v) => if (r, p) ∈ fs.kept.map (·.1) then none else some { fs with kept := fs.kept ++ [((r, p), v)] })
  else if headS z = true then
    (if headOf z ∈ fs.headers then none else some { fs with headers := fs.headers ++ [headOf z], blocks := fs.blocks ++ [(headOf z, fs.loose)], loose := [] })
  else (match setS z with
    | none => none
    | some (k, v) => (match fs.headers.getLast? with
      | none => none
      | some h => if h ++ "." ++ k ∈ fs.settings.map (·.1) then none else some { fs with settings := fs.settings ++ [(h ++ "." ++ k, v)], blocks := fs.blocks ++ [(h ++ "." ++ k, fs.loose)], loose := [] }))
def runF : FS → List Str → Option FS
  | fs, [] => some fs
  | fs, z :: r => (stepF fs z).bind fun fs' => runF fs' r
theorem runF_app (fs : FS) (a b : List Str) : runF fs (a ++ b) = (runF fs a).bind fun fs' => runF fs' b := by
  induction a generalizing fs with
  | nil => rfl
  | cons z r ih =>
    show (stepF fs z).bind (fun fs' => runF fs' (r ++ b)) = ((stepF fs z).bind fun fs' => runF fs' r).bind fun fs' => runF fs' b
    cases stepF fs z with
    | none => rfl
    | some fs' => exact ih fs'
/-- names, places: no block's name is met twice -/
structure FsOk (fs : FS) : Prop where
  hn : ∀ h ∈ fs.headers, nameS h = true
  sd : ∀ p ∈ fs.settings.map (·.1), 46 ∈ TL.tl p
  bk : ∀ p ∈ fs.blocks.map (·.1), p ∈ fs.headers ∨ p ∈ fs.settings.map (·.1)
theorem fs0_ok : FsOk fs0 := ⟨by simp [fs0], by simp [fs0], by simp [fs0]⟩
theorem dot_in (h k : Str) : 46 ∈ TL.tl (h ++ "." ++ k) := by
  rw [TL.tl_append, TL.tl_append]
  exact List.mem_append_left _ (List.mem_append_right _ (by decide))
theorem FsOk.newHead {fs : FS} (o : FsOk fs) {n : Str} (hn : nameS n = true) (h : n ∉ fs.headers) : n ∉ fs.blocks.map (·.1) := fun hb => by
  rcases o.bk n hb with x | x
  · exact h x
  · exact name_free hn (o.sd n x)
theorem FsOk.newPlace {fs : FS} (o : FsOk fs) {p : Str} (hd : 46 ∈ TL.tl p) (h : p ∉ fs.settings.map (·.1)) : p ∉ fs.blocks.map (·.1) := fun hb => by
  rcases o.bk p hb with x | x
  · exact name_free (o.hn p x) hd
  · exact h x
theorem FsOk.step {fs fs' : FS} {z : Str} (o : FsOk fs) (h : stepF fs z = some fs') : FsOk fs' := by
  unfold stepF at h
  split at h
  · cases h
    exact ⟨o.hn, o.sd, o.bk⟩
  split at h
  · split at h
    · cases h
    · split at h
      · cases h
      · cases h
        exact ⟨o.hn, o.sd, o.bk⟩
  split at h
  · rename_i hh
    split at h
    · cases h
    · cases h
      have hn : nameS (headOf z) = true := by
        unfold headS at hh
        simp only [Bool.and_eq_true] at hh
        exact hh.2.2
      refine ⟨?_, o.sd, ?_⟩
      · intro x hx
        rcases List.mem_append.mp hx with x2 | x2
        · exact o.hn x x2
        · cases List.mem_singleton.mp x2
          exact hn
      · intro p hp
        rw [List.map_append] at hp
        rcases List.mem_append.mp hp with x2 | x2
        · rcases o.bk p x2 with y | y
          · exact .inl (List.mem_append_left _ y)
          · exact .inr y
        · cases List.mem_singleton.mp x2
          exact .inl (List.mem_append_right _ (List.mem_singleton.mpr rfl))
  split at h
  · cases h
  split at h
  · cases h
  split at h
  · cases h
  · cases h
    refine ⟨o.hn, ?_, ?_⟩
    · intro p hp
      rw [List.map_append] at hp
      rcases List.mem_append.mp hp with x2 | x2
      · exact o.sd p x2
      · cases List.mem_singleton.mp x2
        exact dot_in _ _
    · intro p hp
      rw [List.map_append] at hp
      rcases List.mem_append.mp hp with x2 | x2
      · rcases o.bk p x2 with y | y
        · exact .inl y
        · exact .inr (by rw [List.map_append]; exact List.mem_append_left _ y)
      · cases List.mem_singleton.mp x2
        refine .inr ?_
        rw [List.map_append]
        exact List.mem_append_right _ (List.mem_singleton.mpr rfl)
/-! ### the heap -/
def optV : Option Str → V
  | none => .non
  | some v => .str v
def flds1 (t : Str) : List (Str × V) := putF "text" (.str t) []
def flds2 (t : Str) (r : Addr) : List (Str × V) := putF "rows" (.ref r) (flds1 t)
def flds3 (t : Str) (r h : Addr) : List (Str × V) := putF "headers" (.ref h) (flds2 t r)
def flds4 (t : Str) (r h s : Addr) : List (Str × V) := putF "settings_read" (.ref s) (flds3 t r h)
def flds5 (t : Str) (r h s k : Addr) : List (Str × V) := putF "kept_read" (.ref k) (flds4 t r h s)
def flds6 (t : Str) (r h s k b : Addr) : List (Str × V) := putF "blocks" (.ref b) (flds5 t r h s k)
def flds (t : Str) (r h s k b l : Addr) : List (Str × V) := putF "loose" (.ref l) (flds6 t r h s k b)
theorem putF_same (f : Str) (u v : V) : ∀ fs : List (Str × V), putF f v (putF f u fs) = putF f v fs
  | [] => by
    show (if f = f then [(f, v)] else _) = [(f, v)]
    rw [if_pos rfl]
  | (g, x) :: r => by
    show putF f v (if g = f then (g, u) :: r else (g, x) :: putF f u r) = if g = f then (g, v) :: r else (g, x) :: putF f v r
    by_cases e : g = f
    · rw [if_pos e, if_pos e]
      show (if g = f then (g, v) :: r else _) = _
      rw [if_pos e]
    · rw [if_neg e, if_neg e]
      show (if g = f then _ else (g, x) :: putF f v (putF f u r)) = _
      rw [if_neg e, putF_same f u v r]
theorem flds_reloose (t : Str) (r h s k b l l' : Addr) : putF "loose" (.ref l') (flds t r h s k b l) = flds t r h s k b l' := putF_same _ _ _ _
theorem putF_len (f : Str) (v : V) : ∀ fs : List (Str × V), (putF f v fs).length ≤ fs.length + 1
  | [] => Nat.le_refl _
  | (g, x) :: r => by
    show (if g = f then (g, v) :: r else (g, x) :: putF f v r).length ≤ _
    split
    · simp
    · have := putF_len f v r
      simp only [List.length_cons]
      omega
theorem flds_len (t : Str) (r h s k b l : Addr) : (flds t r h s k b l).length < 1000 := by
  have h1 := putF_len "text" (.str t) []
  have h2 := putF_len "rows" (.ref r) (flds1 t)
  have h3 := putF_len "headers" (.ref h) (flds2 t r)
  have h4 := putF_len "settings_read" (.ref s) (flds3 t r h)
  have h5 := putF_len "kept_read" (.ref k) (flds4 t r h s)
  have h6 := putF_len "blocks" (.ref b) (flds5 t r h s k)
  have h7 := putF_len "loose" (.ref l) (flds6 t r h s k b)
  unfold flds
  unfold flds6 at h7 ⊢
  unfold flds5 at h6 h7 ⊢
  unfold flds4 at h5 h6 h7 ⊢
  unfold flds3 at h4 h5 h6 h7 ⊢
  unfold flds2 at h3 h4 h5 h6 h7 ⊢
  unfold flds1 at h2 h3 h4 h5 h6 h7 ⊢
  simp only [List.length_nil] at h1
  omega
section
variable (t : Str) (r h s k b l : Addr)
theorem f_loose : (flds t r h s k b l).lookup ("loose" : Str) = some (V.ref l) := by unfold flds; rw [lookup_putF, if_pos rfl]
theorem f_blocks : (flds t r h s k b l).lookup ("blocks" : Str) = some (V.ref b) := by
  unfold flds flds6
  rw [lookup_putF, if_neg (by decide +kernel), lookup_putF, if_pos rfl]
theorem f_kept : (flds t r h s k b l).lookup ("kept_read" : Str) = some (V.ref k) := by
  unfold flds flds6 flds5
  rw [lookup_putF, if_neg (by decide +kernel), lookup_putF, if_neg (by decide +kernel), lookup_putF, if_pos rfl]
theorem f_settings : (flds t r h s k b l).lookup ("settings_read" : Str) = some (V.ref s) := by
  unfold flds flds6 flds5 flds4
  rw [lookup_putF, if_neg (by decide +kernel), lookup_putF, if_neg (by decide +kernel), lookup_putF, if_neg (by decide +kernel), lookup_putF, if_pos rfl]
theorem f_headers : (flds t r h s k b l).lookup ("headers" : Str) = some (V.ref h) := by
  unfold flds flds6 flds5 flds4 flds3
  rw [lookup_putF, if_neg (by decide +kernel), lookup_putF, if_neg (by decide +kernel), lookup_putF, if_neg (by decide +kernel), lookup_putF, if_neg (by decide +kernel), lookup_putF, if_pos rfl]
theorem f_rows : (flds t r h s k b l).lookup ("rows" : Str) = some (V.ref r) := by
  unfold flds flds6 flds5 flds4 flds3 flds2
  rw [lookup_putF, if_neg (by decide +kernel), lookup_putF, if_neg (by decide +kernel), lookup_putF, if_neg (by decide +kernel), lookup_putF, if_neg (by decide +kernel), lookup_putF, if_neg (by decide +kernel), lookup_putF, if_pos rfl]
theorem f_text : (flds t r h s k b l).lookup ("text" : Str) = some (V.str t) := by
  unfold flds flds6 flds5 flds4 flds3 flds2 flds1
  rw [lookup_putF, if_neg (by decide +kernel), lookup_putF, if_neg (by decide +kernel), lookup_putF, if_neg (by decide +kernel), lookup_putF, if_neg (by decide +kernel), lookup_putF, if_neg (by decide +kernel), lookup_putF, if_neg (by decide +kernel), lookup_putF, if_pos rfl]
/-- no attribute of that name -/
theorem f_no {m : Str} (h1 : ¬ m = "loose") (h2 : ¬ m = "blocks") (h3 : ¬ m = "kept_read") (h4 : ¬ m = "settings_read") (h5 : ¬ m = "headers") (h6 : ¬ m = "rows") (h7 : ¬ m = "text") : (flds t r h s k b l).lookup m = none := by
  unfold flds flds6 flds5 flds4 flds3 flds2 flds1
  rw [lookup_putF, if_neg h1, lookup_putF, if_neg h2, lookup_putF, if_neg h3, lookup_putF, if_neg h4, lookup_putF, if_neg h5, lookup_putF, if_neg h6, lookup_putF, if_neg h7]
  rfl
end
def setKV (l : List (Str × Str)) : List (Key × V) := l.map fun p => (.inr p.1, .str p.2)
def keptKV (l : List ((Int × Str) × Option Str)) : List (List Key × V) := l.map fun p => ([.inl p.1.1, .inr p.1.2], optV p.2)
def blkKV (l : List (Str × Addr)) : List (Key × V) := l.map fun p => (.inr p.1, .ref p.2)
/-- where the parts of a file stand -/
structure Parts where
  dx : Addr
  r : Addr
  h : Addr
  s : Addr
  k : Addr
  b : Addr
  l : Addr
  bl : List (Str × Addr)
/-- a file at x, its parts at A; H0: the heap ahead of it, in which all of them are free -/
structure FileP (C : Addr) (H0 H : Hp) (x : Addr) (t : Str) (rows : List Str) (fs : FS) (A : Parts) : Prop where
  same : Same H0 H
  ob : H x = some (.ins C A.dx (flds t A.r A.h A.s A.k A.b A.l))
  er : H A.r = some (.lst (rows.map V.str))
  eh : H A.h = some (.lst (fs.headers.map V.str))
  es : H A.s = some (.dK (setKV fs.settings))
  ek : H A.k = some (.dT (keptKV fs.kept))
  eb : H A.b = some (.dK (blkKV A.bl))
  el : H A.l = some (.lst (fs.loose.map V.str))
  bs : Paired (fun (p : Str × Addr) (q : Str × List Str) => p.1 = q.1 ∧ H p.2 = some (.lst (q.2.map V.str)) ∧ p.2 ≠ A.l ∧ p.2 ≠ A.h ∧ H0 p.2 = none) A.bl fs.blocks
  rh : A.r ≠ A.h
  rl : A.r ≠ A.l
  hl : A.h ≠ A.l
  sb : A.s ≠ A.b
  n : H0 x = none ∧ H0 A.r = none ∧ H0 A.h = none ∧ H0 A.s = none ∧ H0 A.k = none ∧ H0 A.b = none ∧ H0 A.l = none
  ok : FsOk fs
def FileAt (C : Addr) (H0 H : Hp) (x : Addr) (t : Str) (rows : List Str) (fs : FS) : Prop := ∃ A, FileP C H0 H x t rows fs A
/-- what is free in H0 stands as it stood -/
def Kept0 (H0 H H' : Hp) : Prop := ∀ c o, H0 c = none → H c = some o → H' c = some o
theorem FileP.keep {C : Addr} {H0 H H' : Hp} {x : Addr} {t : Str} {rows : List Str} {fs : FS} {A : Parts} (f : FileP C H0 H x t rows fs A) (s : Same H0 H') (k : Kept0 H0 H H') : FileP C H0 H' x t rows fs A := by
  obtain ⟨n1, n2, n3, n4, n5, n6, n7⟩ := f.n
  exact ⟨s, k _ _ n1 f.ob, k _ _ n2 f.er, k _ _ n3 f.eh, k _ _ n4 f.es, k _ _ n5 f.ek, k _ _ n6 f.eb, k _ _ n7 f.el, Paired.mapP f.bs fun p q z => ⟨z.1, k _ _ z.2.2.2.2 z.2.1, z.2.2⟩, f.rh, f.rl, f.hl, f.sb, f.n, f.ok⟩
theorem FileP.more {C : Addr} {H0 H H' : Hp} {x : Addr} {t : Str} {rows : List Str} {fs : FS} {A : Parts} (f : FileP C H0 H x t rows fs A) (s : Same H H') : FileP C H0 H' x t rows fs A :=
  f.keep (f.same.trans s) fun c o _ e => s c o e
end My
set_option Elab.async false
set_option linter.all false
set_option maxRecDepth 100000
namespace K16
open PySem PySem.Spec PyProof.Rows L2 My
section
variable {P : Program} {w : World} {K : PySem.W.Frag} {mg : Str → Option Value} {base : Heap}
def sp_L_take (K : PySem.W.Frag) : Sp := fun vs H Q _ => ∃ (b : Addr) (many : Int), vs = [.ref b, .int many] ∧ Bag H b ∧ 0 < many ∧ many ≤ 1000 ∧
  ∀ (d n m : Int), 0 ≤ d → d < many → 0 ≤ n → 0 ≤ m → m < 2147483648 → Q (.int d) (upd H b (.lst [.int n, .int m]))
theorem ok_L_take (T : Top K mg) : FnOk P w K mg base CX0 1 T.f__law_take T.d__law_take ["_law_bag_here", "_law_many"] (sp_L_take K) := by
  refine T.F__law_take.ok scL_take (fun vs H Q E h => ?_) (fun cdv A outer s H vs Q E hr h => ?_)
  · obtain ⟨b, many, rfl, _⟩ := h
    rfl
  · obtain ⟨b, many, rfl, ⟨n, m, hb, n0, m0, m1⟩, p0, p1, q⟩ := h
    refine ⟨_, (pss_cons (ps_if (pt_cmpR op_gt (pe_ix ix_list (pv 0) pe_int (fun _ _ => rfl)) pe_int (nomark _)) (pss_cons (ps_set (i := 2) scL_take.nd rfl (.inl rfl) (pe_op op_mod (pe_callTy call_int1 (by rfl) T.m_int (by decide +kernel) (pa_cons (pe_ix ix_list (pv 0) pe_int (fun _ _ => rfl)) pa_nil)) (pv 1)))
      (pss_cons (ps_asg (pe_op op_fdiv (pe_ix ix_list (pv 0) pe_int (fun _ _ => rfl)) (pv 1)) (pg_sub (pv 0) pe_int set_list))
      (pss_one (ps_ret (pv 2))))) pss_nil)
      (pss_cons (ps_asg (pe_op op_mod (pe_callTy call_int1 (by rfl) T.m_int (by decide +kernel) (pa_cons (pe_op op_add (pe_op op_mul (pe_ix ix_list (pv 0) pe_int (fun _ _ => rfl)) pe_int) pe_int) pa_nil)) pe_int) (pg_sub (pv 0) pe_int set_list))
      (pss_one (ps_ret (pe_op op_mod (pe_op op_fdiv (pe_op op_mod (pe_callTy call_int1 (by rfl) T.m_int (by decide +kernel) (pa_cons (pe_op op_mul (pe_op op_fdiv (pe_ix ix_list (pv 0) pe_int (fun _ _ => rfl)) pe_int) pe_int) pa_nil)) pe_int) pe_int) (pv 1)))))), ?_⟩
    refine ⟨.ref b, rfl, b, _, 0, .int n, rfl, rfl, SqL.of hb, atI_nat (j := 0) rfl, n, 0, rfl, rfl, _, rfl, ite2 (fun e => ?_) (fun e => ?_)⟩
    · refine ⟨.ref b, rfl, b, _, 0, .int n, rfl, rfl, SqL.of hb, atI_nat (j := 0) rfl, .inl ⟨n, rfl, .int many, rfl, n, many, rfl, rfl, p0, ?_⟩⟩
      refine ⟨.ref b, rfl, b, _, 0, .int n, rfl, rfl, SqL.of hb, atI_nat (j := 0) rfl, .int many, rfl, n, many, rfl, rfl, ⟨p0, by omega⟩, ?_⟩
      refine ⟨.ref b, rfl, b, _, 0, 0, rfl, rfl, hb, rfl, ?_⟩
      refine ⟨.int (n % many), rfl, ?_⟩
      exact q _ _ _ (Int.emod_nonneg _ (by omega)) (Int.emod_lt_of_pos _ p0) (Int.ediv_nonneg n0 (by omega)) m0 m1
    · refine ⟨.ref b, rfl, b, _, 1, .int m, rfl, rfl, SqL.of hb, atI_nat (j := 1) rfl, m, 40692, rfl, rfl, .inl ⟨by omega, by omega⟩, _, 2909, rfl, rfl, .inl ⟨_, rfl, _, 2147483399, rfl, rfl, (show (0 : Int) < 2147483399 by decide), ?_⟩⟩
      refine ⟨.ref b, rfl, b, _, 1, 1, rfl, rfl, hb, rfl, ?_⟩
      obtain ⟨m2, hm⟩ : ∃ m2, m2 = (m * 40692 + 2909) % 2147483399 := ⟨_, rfl⟩
      have a0 : 0 ≤ m2 := by rw [hm]; exact Int.emod_nonneg _ (by decide)
      have a1 : m2 < 2147483399 := by rw [hm]; exact Int.emod_lt_of_pos _ (by decide)
      refine ⟨.ref b, rfl, b, _, 1, .int m2, rfl, rfl, SqL.of upd_same, atI_nat (j := 1) (by rw [hm]; rfl), m2, 7, rfl, rfl, ⟨by decide, by decide⟩, _, 69621, rfl, rfl, .inl ⟨by omega, by omega⟩,
        .inl ⟨_, rfl, _, 2147483587, rfl, rfl, (show (0 : Int) < 2147483587 by decide), _, 64, rfl, rfl, ⟨by decide, by decide⟩, .int many, rfl, _, many, rfl, rfl, p0, ?_⟩⟩
      have z := q (m2 / 7 * 69621 % 2147483587 / 64 % many) n m2 (Int.emod_nonneg _ (by omega)) (Int.emod_lt_of_pos _ p0) n0 a0 (by omega)
      rw [hm] at z ⊢
      exact z
def sp_L_of (K : PySem.W.Frag) : Sp := fun vs H Q _ => ∃ (b l : Addr) (xs : List V), vs = [.ref b, .ref l] ∧ Bag H b ∧ H l = some (.lst xs) ∧ l ≠ b ∧ xs ≠ [] ∧ xs.length ≤ 1000 ∧
  ∀ (v : V) (n m : Int), v ∈ xs → 0 ≤ n → 0 ≤ m → m < 2147483648 → Q v (upd H b (.lst [.int n, .int m]))
theorem ok_L_of (T : Top K mg) : FnOk P w K mg base CX0 2 T.f__law_of T.d__law_of ["_law_bag_here", "_law_some"] (sp_L_of K) := by
  have G__law_take : FnOk P w K mg base CX0 1 T.f__law_take T.d__law_take ["_law_bag_here", "_law_many"] (sp_L_take K) := ok_L_take T
  refine T.F__law_of.ok scL_of (fun vs H Q E h => ?_) (fun cdv A outer s H vs Q E hr h => ?_)
  · obtain ⟨b, l, xs, rfl, _⟩ := h
    rfl
  · obtain ⟨b, l, xs, rfl, hb, hl, ne, h0, h1, q⟩ := h
    refine ⟨_, (pss_one (ps_ret (pe_ix ix_list (pv 1) (pe_call G__law_take (hr.mono (by decide)) (by rfl) T.g__law_take T.F__law_take.kp T.b__law_take .nil pass0 (pa_cons (pv 0) (pa_cons (pe_callB call_len_seq (by rfl) T.m_len (by decide +kernel) (pa_cons (pv 1) pa_nil)) pa_nil))) (fun _ _ => rfl)))), ?_⟩
    have hp : 0 < xs.length := List.length_pos_iff.mpr h0
    refine ⟨.ref l, rfl, .ref b, rfl, .ref l, rfl, l, xs, rfl, .inl (SqL.of hl), b, (xs.length : Int), rfl, hb, by omega, by omega, fun d n m d0 d1 n0 m0 m1 => ?_⟩
    have hd : d.toNat < xs.length := by omega
    refine ⟨l, xs, d, xs[d.toNat], rfl, rfl, SqL.of (by rw [upd_ne ne]; exact hl), at_of (j := d.toNat) (by omega) (List.getElem?_eq_getElem hd), ?_⟩
    exact q _ _ _ (List.getElem_mem hd) n0 m0 m1
/-! ### the bag -/
def sp_L_bag (K : PySem.W.Frag) : Sp := fun vs H Q _ => ∃ (a : Addr) (i : Int) (ns : List Int), vs = [.ref a, .int i] ∧ SqL K H a (ns.map V.int) ∧ ns.length ≤ 63 ∧ 0 ≤ i ∧ i ≤ 1000 ∧
  ∀ H' p, Same H H' → H p = none → Bag H' p → Q (.ref p) H'
theorem ok_L_bag (T : Top K mg) : FnOk P w K mg base CX0 1 T.f__law_bag T.d__law_bag ["_law_script", "_law_at"] (sp_L_bag K) := by
  refine T.F__law_bag.ok scL_bag (fun vs H Q E h => ?_) (fun cdv A outer s H vs Q E hr h => ?_)
  · obtain ⟨b, l, xs, rfl, _⟩ := h
    rfl
  · obtain ⟨a, i, ns, rfl, hS, hl, i0, i1, q⟩ := h
    refine ⟨_, (pss_cons (ps_set (i := 2) scL_bag.nd rfl (.inl rfl) (pe_ifExp (pt_cmpR op_lt (pv 1) (pe_callB call_len_seq (by rfl) T.m_len (by decide +kernel) (pa_cons (pv 0) pa_nil)) (nomark _)) (pe_ix ix_list (pv 0) (pv 1) (fun _ _ => rfl)) pe_int))
      (pss_cons (ps_set (i := 3) scL_bag.nd rfl (.inl rfl) (pe_op op_add (pe_op op_mul pe_int (pv 1)) pe_int))
      (pss_cons (ps_for PassesOwn.never rfl (pi_enum (by rfl) T.m_enumerate (pa_cons (pe_slice sl_list (pv 0) po_none (po_some pe_int)) pa_nil)) (pg_tup rfl (pgs_cons (pg_name (i := 4) scL_bag.nd rfl (.inl rfl)) (pgs_cons (pg_name (i := 5) scL_bag.nd rfl (.inl rfl)) pgs_nil))) (pss_one (ps_set (i := 3) scL_bag.nd rfl (.inl rfl) (pe_op op_mod (pe_callTy call_int1 (by rfl) T.m_int (by decide +kernel) (pa_cons (pe_op op_add (pe_op op_add (pe_op op_add (pe_op op_mul (pv 3) pe_int) (pe_op op_mod (pe_callTy call_int1 (by rfl) T.m_int (by decide +kernel) (pa_cons (pv 5) pa_nil)) pe_int)) (pe_op op_mul pe_int (pv 4))) pe_int) pa_nil)) pe_int))))
      (pss_one (ps_ret (pe_lst (pa_cons (pe_ifExp (pt_cmpR op_ge (pe_callB call_abs (by rfl) T.m_abs (by decide +kernel) (pa_cons (pv 2) pa_nil)) (pe_op op_pow pe_int pe_int) (nomark _)) (pe_callB call_abs (by rfl) T.m_abs (by decide +kernel) (pa_cons (pv 2) pa_nil)) pe_int) (pa_cons (pv 3) pa_nil)))))))), ?_⟩
    obtain ⟨z, hz1, hz2⟩ : ∃ z : Int, (i < (((ns.map V.int).length : Nat) : Int) → atI (ns.map V.int) i = some (.int z)) ∧ (¬ i < (((ns.map V.int).length : Nat) : Int) → z = 0) := by
      by_cases h : i < (((ns.map V.int).length : Nat) : Int)
      · have hn : i.toNat < ns.length := by rw [List.length_map] at h; omega
        refine ⟨ns[i.toNat], fun _ => at_of (j := i.toNat) (by omega) ?_, fun h2 => absurd h h2⟩
        rw [List.getElem?_map, List.getElem?_eq_getElem hn]
        rfl
      · exact ⟨0, fun h2 => absurd h2 h, fun _ => rfl⟩
    refine ⟨.int i, rfl, .ref a, rfl, a, _, rfl, .inl hS, i, _, rfl, rfl, _, rfl, ite_via (fun e r => ⟨.ref a, rfl, .int i, rfl, a, _, i, .int z, rfl, rfl, hS, hz1 (of_decide_eq_true e), r⟩) (fun e r => by
      have e2 := hz2 (fun x => e (decide_eq_true x))
      rw [e2] at r
      exact r) ?_⟩
    refine ⟨.int i, rfl, 4177, i, rfl, rfl, .inl ⟨by decide, by decide⟩, _, 89, rfl, rfl, ?_⟩
    refine ⟨.ref a, rfl, 40, rfl, a, _, rfl, hS, fun c nc => ?_⟩
    obtain ⟨ms, ems, lms⟩ := cut_ints ns none (some 40)
    have sc0 : Same H (upd H c (.lst (cutV (ns.map V.int) none (some 40)))) := same_new nc
    refine ⟨c, _, rfl, SqL.of upd_same, for_it (walk_enum (xs := cutV (ns.map V.int) none (some 40))) (fun _ σ H3 => ∃ (bl : Int) (y4 y5 : Option V), σ = [some (.ref a), some (.int i), some (.int z), some (.int bl), y4, y5] ∧ 0 ≤ bl ∧ bl < 2147483648 ∧ Same H H3 ∧ H3 c = some (.lst (cutV (ns.map V.int) none (some 40)))) ?_ ?_ ?_ ?_⟩
    · exact ⟨4177 * i + 89, none, none, rfl, by omega, by omega, sc0, upd_same⟩
    · rintro j σ H3 _ ⟨bl, y4, y5, _, _, _, _, h5⟩
      exact SqL.of h5
    · rintro j x σ H3 H4 hj ⟨bl, y4, y5, rfl, b0, b1, hs, hc⟩ ⟨t, x1, x2, rfl, nt, rfl, e1, e2⟩
      cases e1
      obtain ⟨v, rfl⟩ : ∃ v : Int, x2 = .int v := by
        have e2 : (ms.map V.int)[j]? = some x2 := by rw [← ems]; exact e2
        rw [List.getElem?_map] at e2
        cases e3 : ms[j]? with
        | none => rw [e3] at e2; cases e2
        | some v => rw [e3] at e2; cases e2; exact ⟨v, rfl⟩
      refine ⟨t, _, rfl, SqT.of upd_same, rfl, .int (j : Nat), [.int v], rfl, .int v, [], rfl, rfl, ?_⟩
      refine ⟨.int bl, rfl, bl, 40014, rfl, rfl, .inl ⟨by omega, by omega⟩, .int v, rfl, .inl ⟨v, rfl, v, 2147483563, rfl, rfl, (show (0 : Int) < 2147483563 by decide), _, _, rfl, rfl, .int (j : Nat), rfl, 83, _, rfl, rfl, .inl ⟨by decide, by decide⟩, _, _, rfl, rfl, _, 7, rfl, rfl, .inl ⟨_, rfl, _, 2147483563, rfl, rfl, (show (0 : Int) < 2147483563 by decide), ?_⟩⟩⟩
      refine ⟨_, _, _, rfl, Int.emod_nonneg _ (by decide), Int.lt_trans (Int.emod_lt_of_pos _ (by decide)) (by decide), hs.trans (same_new nt), ?_⟩
      rw [upd_ne (ne_of_none hc nt)]
      exact hc
    · rintro σ H3 ⟨bl, y4, y5, rfl, b0, b1, hs, hc⟩
      have rest : ∀ n : Int, 0 ≤ n → ∀ p, H3 p = none → Q (.ref p) (upd H3 p (.lst [.int n, .int bl])) := fun n n0 p np => q _ p (hs.trans (same_new np)) (hs.free np) ⟨n, bl, upd_same, n0, b0, b1⟩
      refine ⟨.int z, rfl, z, rfl, 10, 18, rfl, rfl, ⟨by decide, by decide, by decide⟩, _, _, rfl, rfl, _, rfl, ite2 (fun e => ?_) (fun e => ?_)⟩
      · refine ⟨.int z, rfl, z, rfl, .int bl, rfl, (by show 2 ≤ sizeLine; decide), fun p np => rest _ ?_ p np⟩
        split <;> omega
      · exact ⟨.int bl, rfl, (by show 2 ≤ sizeLine; decide), fun p np => rest 0 (by decide) p np⟩
def sp_is_made_of (K : PySem.W.Frag) : Sp := fun vs H Q _ => ∃ (v : V) (cs : Str) (most : Int), vs = [v, .str cs, .int most] ∧ Ask K H v ∧ ∀ H', Same H H' → Q (.bl (ofText (madeOf cs most) v)) H'
theorem ok_is_made_of (T : Top K mg) : FnOk P w K mg base CX0 1 T.f_is_made_of T.d_is_made_of ["thing", "characters", "most"] (sp_is_made_of K) := by
  refine T.F_is_made_of.ok scis_made_of (fun vs H Q E h => ?_) (fun cdv A outer s H vs Q E hr h => ?_)
  · obtain ⟨v, cs, most, rfl, _⟩ := h
    rfl
  · obtain ⟨v, cs, most, rfl, hv, q⟩ := h
    refine ⟨_, (pss_cons (ps_if (PW.pt (pw_or (pt_not (pt_val (pe_callB call_isi (by rfl) T.m_isinstance (by decide +kernel) (pa_cons (pv 0) (pa_cons (pe_bltn (v := .ty "str") (by rfl) T.m_str (by decide +kernel) rfl) pa_nil))))) (pw_or (pt_cmpR op_eq (pv 0) pe_str (nomark _)) (pw_or1 (pt_cmpR op_gt (pe_callB call_len_str (by rfl) T.m_len (by decide +kernel) (pa_cons (pv 0) pa_nil)) (pv 2) (nomark _)))))) (pss_one (ps_ret pe_bl)) pss_nil)
      (pss_one (ps_ret (pe_callB (cr_all rfl) (by rfl) T.m_all (by decide +kernel) (pa_cons (pe_lc (own := [("character", 3)]) rfl scis_made_of.nd (pi_str (pv 0)) (blkOk_by (N := N_is_made_of) (sc := defScope s_is_made_of) (by decide +kernel)) (fun _ _ _ _ _ => (pg_name (i := 3) scis_made_of.nd rfl (.inl rfl))) (fun _ _ _ _ _ => pts_nil) (fun _ _ _ _ _ => (pe_cmpR op_in_sign (pv 3) (pv 1) (by rfl)))) pa_nil))))), ?_⟩
    rcases hv with ⟨z, rfl, hz⟩ | ⟨hno, t, ht, hk⟩
    · refine ⟨.str z, rfl, _, _, _, _, true, rfl, ClsV.ty "str", .base (.str z), kit_ty (by decide +kernel), true, rfl, iteF ?_⟩
      refine ⟨.str z, rfl, rfl, _, rfl, ite2 (fun e => iteT ?_) (fun e => ?_)⟩
      · have e1 : z = "" := V.str.inj (of_decide_eq_true e)
        subst e1
        exact q H (Same.refl H)
      · have z0 : 1 ≤ z.length := by
          cases hl : z.length with
          | zero =>
            refine absurd (decide_eq_true ?_) e
            have : z = "" := by
              cases z with
              | mk cps => 
                have : cps = #[] := Array.eq_empty_of_size_eq_zero hl
                rw [this]; rfl
            rw [this]
          | succ n => omega
        refine ⟨.str z, rfl, z, rfl, len1000 hz, .int most, rfl, _, _, rfl, rfl, _, rfl, ite2 (fun e2 => ?_) (fun e2 => ?_)⟩
        · have e3 : (z.length : Int) > most := of_decide_eq_true e2
          have := q H (Same.refl H)
          have hm : ofText (madeOf cs most) (.str z) = false := by
            show (decide (1 ≤ z.length) && (decide ((z.length : Int) ≤ most) && _)) = false
            rw [decide_eq_false (show ¬ (z.length : Int) ≤ most by omega), Bool.false_and, Bool.and_false]
          rw [hm] at this
          exact this
        · have e3 : ¬ (z.length : Int) > most := fun x => e2 (decide_eq_true x)
          refine ⟨.str z, rfl, z, rfl, fun D nD => lc_it walk_str (fun i H3 => Same H H3 ∧ H3 D = some (.lst ((z.cps.toList.take i).map fun c => V.bl (decide (c ∈ cs.cps.toList))))) ?_ (fun _ _ _ _ => trivial) ?_ ?_⟩
          · exact ⟨same_new nD, upd_same⟩
          · rintro i x H3 H4 hi ⟨s3, d3⟩ ⟨rfl, c, hc, rfl⟩
            refine ⟨rfl, ?_⟩
            simp only [tYes, if_true]
            refine ⟨.str ⟨#[c]⟩, rfl, .str cs, rfl, c, cs, rfl, rfl, _, d3, ?_, ?_, ?_⟩
            · rw [List.length_map, List.length_take]
              refine small1000 ?_
              have : z.cps.toList.length = z.length := rfl
              omega
            · intro b o e4
              rw [upd_ne (ne_of_none e4 nD)]
              exact s3 _ _ e4
            · have hc2 : z.cps.toList[i]? = some c := by rw [Array.getElem?_toList]; exact hc
              rw [upd_same, take_all_map _ _ _ _ hc2]
          · rintro H3 ⟨s3, d3⟩
            have e4 : z.cps.toList.take z.cps.size = z.cps.toList := List.take_of_length_le (Nat.le_of_eq rfl)
            rw [e4] at d3
            refine ⟨D, z.cps.toList.map fun c => decide (c ∈ cs.cps.toList), rfl, SqL.of (by rw [d3, List.map_map]; rfl), ?_⟩
            have := q H3 s3
            have hm : ofText (madeOf cs most) (.str z) = (z.cps.toList.map fun c => decide (c ∈ cs.cps.toList)).all id := by
              show (decide (1 ≤ z.length) && (decide ((z.length : Int) ≤ most) && _)) = _
              rw [decide_eq_true z0, decide_eq_true (show (z.length : Int) ≤ most by omega), Bool.true_and, Bool.true_and, List.all_map]
              rfl
            rw [hm] at this
            exact this
    · refine ⟨v, rfl, _, _, _, _, false, rfl, ClsV.ty "str", ht, kit_ty hk, false, rfl, iteT ?_⟩
      have := q H (Same.refl H)
      rw [hno] at this
      exact this
def sp_ask (K : PySem.W.Frag) (f : Str → Bool) : Sp := fun vs H Q _ => ∃ v : V, vs = [v] ∧ Ask K H v ∧ ∀ H', Same H H' → Q (.bl (ofText f v)) H'
def sp_is_name (K : PySem.W.Frag) : Sp := sp_ask K nameS
def sp_is_place (K : PySem.W.Frag) : Sp := sp_ask K placeS
def sp_is_value (K : PySem.W.Frag) : Sp := sp_ask K valueS
theorem ok_is_name (T : Top K mg) : FnOk P w K mg base CX0 2 T.f_is_name T.d_is_name ["thing"] (sp_is_name K) := by
  have G_is_made_of : FnOk P w K mg base CX0 1 T.f_is_made_of T.d_is_made_of ["thing", "characters", "most"] (sp_is_made_of K) := ok_is_made_of T
  refine T.F_is_name.ok scis_name (fun vs H Q E h => ?_) (fun cdv A outer s H vs Q E hr h => ?_)
  · obtain ⟨v, rfl, _⟩ := h
    rfl
  · obtain ⟨v, rfl, hv, q⟩ := h
    refine ⟨_, (pss_one (ps_ret (pe_call G_is_made_of (hr.mono (by decide)) (by rfl) T.g_is_made_of T.F_is_made_of.kp T.b_is_made_of .nil pass0 (pa_cons (pv 0) (pa_cons (pe_glob (v := .str "abcdefghijklmnopqrstuvwxyz") (by rfl) T.g_LETTERS ⟨_, rfl⟩) (pa_cons (pe_glob (v := .int 8) (by rfl) T.g_LONGEST_NAME ⟨_, rfl⟩) pa_nil)))))), ?_⟩
    exact ⟨v, rfl, v, _, _, rfl, hv, q⟩
theorem ok_is_place (T : Top K mg) : FnOk P w K mg base CX0 3 T.f_is_place T.d_is_place ["thing"] (sp_is_place K) := by
  have G_is_name : FnOk P w K mg base CX0 2 T.f_is_name T.d_is_name ["thing"] (sp_is_name K) := ok_is_name T
  refine T.F_is_place.ok scis_place (fun vs H Q E h => ?_) (fun cdv A outer s H vs Q E hr h => ?_)
  · obtain ⟨v, rfl, _⟩ := h
    rfl
  · obtain ⟨v, rfl, hv, q⟩ := h
    refine ⟨_, (pss_cons (ps_if (pt_not (pt_val (pe_callB call_isi (by rfl) T.m_isinstance (by decide +kernel) (pa_cons (pv 0) (pa_cons (pe_bltn (v := .ty "str") (by rfl) T.m_str (by decide +kernel) rfl) pa_nil))))) (pss_one (ps_ret pe_bl)) pss_nil)
      (pss_cons (ps_asg (pe_m1 F.slot_str_partition F.type_str_partition mt_partition (pv 0) pe_str) (pg_tup rfl (pgs_cons (pg_name (i := 1) scis_place.nd rfl (.inl rfl)) (pgs_cons (pg_name (i := 2) scis_place.nd rfl (.inl rfl)) (pgs_cons (pg_name (i := 3) scis_place.nd rfl (.inl rfl)) pgs_nil)))))
      (pss_one (ps_ret (pe_and (pe_call G_is_name (hr.mono (by decide)) (by rfl) T.g_is_name T.F_is_name.kp T.b_is_name .nil pass0 (pa_cons (pv 1) pa_nil)) (pe_one (pe_call G_is_name (hr.mono (by decide)) (by rfl) T.g_is_name T.F_is_name.kp T.b_is_name .nil pass0 (pa_cons (pv 3) pa_nil)))))))), ?_⟩
    rcases hv with ⟨z, rfl, hz⟩ | ⟨hno, t, ht, hk⟩
    · refine ⟨.str z, rfl, _, _, _, _, true, rfl, ClsV.ty "str", .base (.str z), kit_ty (by decide +kernel), true, rfl, iteF ?_⟩
      refine ⟨.str z, rfl, ⟨z, rfl⟩, z, dot, rfl, rfl, rfl, len1000 hz, fun p np => ?_⟩
      refine ⟨p, _, rfl, SqT.of upd_same, rfl, _, _, rfl, _, _, rfl, _, _, rfl, rfl, ?_⟩
      have hp := part_len z
      refine ⟨.str (Txt.partition z dot).1, rfl, _, rfl, Ask.text (by omega), fun H2 s2 => ⟨nameS (Txt.partition z dot).1, rfl, ite2 (fun e => ?_) (fun e => ?_)⟩⟩
      · refine ⟨.str (Txt.partition z dot).2.2, rfl, _, rfl, Ask.text (by omega), fun H3 s3 => ?_⟩
        have := q H3 (((same_new np).trans s2).trans s3)
        have hm : ofText placeS (.str z) = ofText nameS (.str (Txt.partition z dot).2.2) := by
          show (nameS _ && nameS _) = nameS _
          rw [e, Bool.true_and]
        rw [hm] at this
        exact this
      · have := q H2 ((same_new np).trans s2)
        have hm : ofText placeS (.str z) = false := by
          show (nameS _ && nameS _) = false
          rw [eq_false_of_ne_true e, Bool.false_and]
        rw [hm] at this
        exact this
    · refine ⟨v, rfl, _, _, _, _, false, rfl, ClsV.ty "str", ht, kit_ty hk, false, rfl, iteT ?_⟩
      have := q H (Same.refl H)
      rw [hno] at this
      exact this
theorem ok_is_value (T : Top K mg) : FnOk P w K mg base CX0 2 T.f_is_value T.d_is_value ["thing"] (sp_is_value K) := by
  have G_is_made_of : FnOk P w K mg base CX0 1 T.f_is_made_of T.d_is_made_of ["thing", "characters", "most"] (sp_is_made_of K) := ok_is_made_of T
  refine T.F_is_value.ok scis_value (fun vs H Q E h => ?_) (fun cdv A outer s H vs Q E hr h => ?_)
  · obtain ⟨v, rfl, _⟩ := h
    rfl
  · obtain ⟨v, rfl, hv, q⟩ := h
    refine ⟨_, (pss_one (ps_ret (pe_and (pe_call G_is_made_of (hr.mono (by decide)) (by rfl) T.g_is_made_of T.F_is_made_of.kp T.b_is_made_of .nil pass0 (pa_cons (pv 0) (pa_cons (pe_op op_add_str (pe_op op_add_str (pe_glob (v := .str "abcdefghijklmnopqrstuvwxyz") (by rfl) T.g_LETTERS ⟨_, rfl⟩) (pe_glob (v := .str "0123456789") (by rfl) T.g_DIGITS ⟨_, rfl⟩)) pe_str) (pa_cons (pe_glob (v := .int 12) (by rfl) T.g_LONGEST_VALUE ⟨_, rfl⟩) pa_nil)))) (pe_one (pe_not (pe_m1 F.slot_str_startswith F.type_str_startswith mt_startswith (pv 0) pe_str)))))), ?_⟩
    refine ⟨v, rfl, _, _, rfl, rfl, by decide, _, _, rfl, rfl, by decide, v, _, _, rfl, hv, fun H2 s2 => ⟨_, rfl, ite2 (fun e => ?_) (fun e => ?_)⟩⟩
    · rcases hv with ⟨z, rfl, hz⟩ | ⟨hno, t, ht, hk⟩
      · refine ⟨.str z, rfl, ⟨z, rfl⟩, z, _, rfl, rfl, _, rfl, ?_⟩
        have := q H2 s2
        have hm : ofText valueS (.str z) = !Txt.startswith z "-" := by
          show (madeOf valueSigns 12 z && _) = _
          rw [show madeOf valueSigns 12 z = true from e, Bool.true_and]
        rw [hm] at this
        exact this
      · rw [hno] at e
        cases e
    · have := q H2 s2
      have hm : ofText valueS v = false := by
        rcases hv with ⟨z, rfl, hz⟩ | ⟨hno, t, ht, hk⟩
        · show (madeOf valueSigns 12 z && _) = false
          rw [show madeOf valueSigns 12 z = false from eq_false_of_ne_true e, Bool.false_and]
        · exact hno _
      rw [hm] at this
      exact this
end
end K16

set_option Elab.async false
set_option linter.all false
set_option maxRecDepth 100000
namespace K16
open PySem PySem.Spec PyProof.Rows L2 My
section
variable {P : Program} {w : World} {K : PySem.W.Frag} {mg : Str → Option Value} {base : Heap}
/-! ### lines -/
def sp_line (f : Str → Bool) : Sp := fun vs H Q _ => ∃ z : Str, vs = [.str z] ∧ z.length ≤ 1000 ∧ ∀ H', Same H H' → Q (.bl (f z)) H'
def sp_is_release_word (K : PySem.W.Frag) : Sp := sp_line relW
def sp_is_header (K : PySem.W.Frag) : Sp := sp_line headS
def sp_is_loose (K : PySem.W.Frag) : Sp := sp_line looseS
theorem eq_str (a b : Str) : decide (V.str a = V.str b) = decide (a = b) := decide_eq_decide.mpr ⟨fun e => V.str.inj e, fun e => by rw [e]⟩
theorem ok_is_release_word (T : Top K mg) : FnOk P w K mg base CX0 2 T.f_is_release_word T.d_is_release_word ["thing"] (sp_is_release_word K) := by
  have G_is_made_of : FnOk P w K mg base CX0 1 T.f_is_made_of T.d_is_made_of ["thing", "characters", "most"] (sp_is_made_of K) := ok_is_made_of T
  refine T.F_is_release_word.ok scis_release_word (fun vs H Q E h => ?_) (fun cdv A outer s H vs Q E hr h => ?_)
  · obtain ⟨z, rfl, _⟩ := h
    rfl
  · obtain ⟨z, rfl, hz, q⟩ := h
    refine ⟨_, (pss_one (ps_ret (pe_and (pe_call G_is_made_of (hr.mono (by decide)) (by rfl) T.g_is_made_of T.F_is_made_of.kp T.b_is_made_of .nil pass0 (pa_cons (pv 0) (pa_cons (pe_glob (v := .str "0123456789") (by rfl) T.g_DIGITS ⟨_, rfl⟩) (pa_cons (pe_glob (v := .int 2) (by rfl) T.g_LONGEST_RELEASE ⟨_, rfl⟩) pa_nil)))) (pe_one (pe_or (pe_cmpR op_eq (pv 0) pe_str (nomark _)) (pe_one (pe_not (pe_m1 F.slot_str_startswith F.type_str_startswith mt_startswith (pv 0) pe_str)))))))), ?_⟩
    refine ⟨.str z, rfl, _, _, _, rfl, Ask.text hz, fun H2 s2 => ⟨_, rfl, ite2 (fun e => ?_) (fun e => ?_)⟩⟩
    · have e1 : madeOf digits 2 z = true := e
      refine ⟨.str z, rfl, rfl, _, rfl, ite2 (fun e2 => ?_) (fun e2 => ?_)⟩
      · have := q H2 s2
        rw [eq_str] at e2
        rw [show relW z = true by unfold relW; rw [e1, show decide (z = "0") = true from e2]; rfl] at this
        exact this
      · refine ⟨.str z, rfl, ⟨z, rfl⟩, z, _, rfl, rfl, _, rfl, ?_⟩
        have := q H2 s2
        rw [eq_str] at e2
        rw [show relW z = !Txt.startswith z "0" by unfold relW; rw [e1, show decide (z = "0") = false from eq_false_of_ne_true e2]; rfl] at this
        exact this
    · have e1 : madeOf digits 2 z = false := eq_false_of_ne_true e
      have := q H2 s2
      rw [show relW z = false by unfold relW; rw [e1]; rfl] at this
      exact this
theorem ok_is_header (T : Top K mg) : FnOk P w K mg base CX0 3 T.f_is_header T.d_is_header ["line"] (sp_is_header K) := by
  have G_is_name : FnOk P w K mg base CX0 2 T.f_is_name T.d_is_name ["thing"] (sp_is_name K) := ok_is_name T
  refine T.F_is_header.ok scis_header (fun vs H Q E h => ?_) (fun cdv A outer s H vs Q E hr h => ?_)
  · obtain ⟨z, rfl, _⟩ := h
    rfl
  · obtain ⟨z, rfl, hz, q⟩ := h
    refine ⟨_, (pss_one (ps_ret (pe_and (pe_m1 F.slot_str_startswith F.type_str_startswith mt_startswith (pv 0) pe_str) (pe_and (pe_m1 F.slot_str_endswith F.type_str_endswith mt_endswith (pv 0) pe_str) (pe_one (pe_call G_is_name (hr.mono (by decide)) (by rfl) T.g_is_name T.F_is_name.kp T.b_is_name .nil pass0 (pa_cons (pe_slice sl_str (pv 0) (po_some pe_int) (po_some (pe_un un_neg pe_int))) pa_nil))))))), ?_⟩
    refine ⟨.str z, rfl, ⟨z, rfl⟩, z, _, rfl, rfl, _, rfl, ite2 (fun e => ?_) (fun e => ?_)⟩
    · refine ⟨.str z, rfl, ⟨z, rfl⟩, z, _, rfl, rfl, _, rfl, ite2 (fun e2 => ?_) (fun e2 => ?_)⟩
      · refine ⟨.str z, rfl, 1, rfl, 1, rfl, -1, rfl, z, rfl, len1000 hz, _, rfl, Ask.text (Nat.le_trans (cutS_length z _ _) hz), fun H2 s2 => ?_⟩
        have := q H2 s2
        rw [show headS z = nameS (headOf z) by unfold headS; rw [show Txt.startswith z "[" = true from e, show Txt.endswith z "]" = true from e2]; rfl] at this
        exact this
      · have := q H (Same.refl H)
        rw [show headS z = false by unfold headS; rw [show Txt.startswith z "[" = true from e, show Txt.endswith z "]" = false from eq_false_of_ne_true e2]; rfl] at this
        exact this
    · have := q H (Same.refl H)
      rw [show headS z = false by unfold headS; rw [show Txt.startswith z "[" = false from eq_false_of_ne_true e]; rfl] at this
      exact this
theorem ok_is_loose (T : Top K mg) : FnOk P w K mg base CX0 1 T.f_is_loose T.d_is_loose ["line"] (sp_is_loose K) := by
  refine T.F_is_loose.ok scis_loose (fun vs H Q E h => ?_) (fun cdv A outer s H vs Q E hr h => ?_)
  · obtain ⟨z, rfl, _⟩ := h
    rfl
  · obtain ⟨z, rfl, hz, q⟩ := h
    have := q H (Same.refl H)
    refine ⟨_, (pss_one (ps_ret (pe_or (pe_cmpR op_eq (pv 0) pe_str (nomark _)) (pe_one (pe_and (pe_m1 F.slot_str_startswith F.type_str_startswith mt_startswith (pv 0) pe_str) (pe_one (pe_not (pe_m1 F.slot_str_startswith F.type_str_startswith mt_startswith (pv 0) (pe_glob (v := .str "#~") (by rfl) T.g_KEPT_MARK ⟨_, rfl⟩))))))))), ?_⟩
    refine ⟨.str z, rfl, rfl, _, rfl, ite2 (fun e => ?_) (fun e => ?_)⟩
    · rw [eq_str] at e
      rw [show looseS z = true by unfold looseS; rw [show decide (z = "") = true from e]; rfl] at this
      exact this
    · rw [eq_str] at e
      have e1 : decide (z = "") = false := eq_false_of_ne_true e
      refine ⟨.str z, rfl, ⟨z, rfl⟩, z, _, rfl, rfl, _, rfl, ite2 (fun e2 => ?_) (fun e2 => ?_)⟩
      · refine ⟨.str z, rfl, ⟨z, rfl⟩, z, _, rfl, rfl, _, rfl, ?_⟩
        rw [show looseS z = !Txt.startswith z markS by unfold looseS; rw [e1, show Txt.startswith z "#" = true from e2]; rfl] at this
        exact this
      · rw [show looseS z = false by unfold looseS; rw [e1, show Txt.startswith z "#" = false from eq_false_of_ne_true e2]; rfl] at this
        exact this
def sp_read_setting (K : PySem.W.Frag) : Sp := fun vs H Q _ => ∃ z : Str, vs = [.str z] ∧ z.length ≤ 1000 ∧ (setS z = none → ∀ H', Same H H' → Q .non H') ∧
  ∀ k v, setS z = some (k, v) → ∀ H' p, Same H H' → H' p = some (.tup [.str k, .str v]) → Q (.ref p) H'
theorem part3 (z y : Str) : (Txt.partition z y).1.length ≤ z.length ∧ (Txt.partition z y).2.1.length ≤ z.length ∧ (Txt.partition z y).2.2.length ≤ z.length := fact_partition z y
theorem ok_read_setting (T : Top K mg) : FnOk P w K mg base CX0 3 T.f_read_setting T.d_read_setting ["line"] (sp_read_setting K) := by
  have G_is_value : FnOk P w K mg base CX0 2 T.f_is_value T.d_is_value ["thing"] (sp_is_value K) := ok_is_value T
  have G_is_name : FnOk P w K mg base CX0 2 T.f_is_name T.d_is_name ["thing"] (sp_is_name K) := ok_is_name T
  refine T.F_read_setting.ok scread_setting (fun vs H Q E h => ?_) (fun cdv A outer s H vs Q E hr h => ?_)
  · obtain ⟨z, rfl, _⟩ := h
    rfl
  · obtain ⟨z, rfl, hz, q1, q2⟩ := h
    have hp := part3 z eqS
    refine ⟨_, (pss_cons (ps_asg (pe_m1 F.slot_str_partition F.type_str_partition mt_partition (pv 0) pe_str) (pg_tup rfl (pgs_cons (pg_name (i := 1) scread_setting.nd rfl (.inl rfl)) (pgs_cons (pg_name (i := 2) scread_setting.nd rfl (.inl rfl)) (pgs_cons (pg_name (i := 3) scread_setting.nd rfl (.inl rfl)) pgs_nil)))))
      (pss_one (ps_ret (pe_ifExp (PW.pt (pw_and (pt_val (pe_call G_is_name (hr.mono (by decide)) (by rfl) T.g_is_name T.F_is_name.kp T.b_is_name .nil pass0 (pa_cons (pv 1) pa_nil))) (pw_and1 (pt_val (pe_call G_is_value (hr.mono (by decide)) (by rfl) T.g_is_value T.F_is_value.kp T.b_is_value .nil pass0 (pa_cons (pv 3) pa_nil)))))) (pe_tup (pa_cons (pv 1) (pa_cons (pv 3) pa_nil))) pe_non)))), ?_⟩
    refine ⟨.str z, rfl, ⟨z, rfl⟩, z, eqS, rfl, rfl, rfl, len1000 hz, fun p np => ?_⟩
    refine ⟨p, _, rfl, SqT.of upd_same, rfl, _, _, rfl, _, _, rfl, _, _, rfl, rfl, ?_⟩
    have s1 : Same H (upd H p (.tup [.str (Txt.partition z eqS).1, .str (Txt.partition z eqS).2.1, .str (Txt.partition z eqS).2.2])) := same_new np
    refine ⟨.str (Txt.partition z eqS).1, rfl, _, rfl, Ask.text (by omega), fun H2 s2 => ⟨_, rfl, ite2 (fun e => ?_) (fun e => ?_)⟩⟩
    · refine ⟨.str (Txt.partition z eqS).2.2, rfl, _, rfl, Ask.text (by omega), fun H3 s3 => ⟨_, rfl, ite2 (fun e2 => ?_) (fun e2 => ?_)⟩⟩
      · refine ⟨.str (Txt.partition z eqS).1, rfl, .str (Txt.partition z eqS).2.2, rfl, (by show 2 ≤ sizeLine; decide), fun p2 np2 => ?_⟩
        refine q2 _ _ ?_ _ p2 ((s1.trans s2).trans (s3.trans (same_new np2))) upd_same
        unfold setS
        rw [show nameS (Txt.partition z eqS).1 = true from e, show valueS (Txt.partition z eqS).2.2 = true from e2]
        rfl
      · refine q1 ?_ _ ((s1.trans s2).trans s3)
        unfold setS
        rw [show nameS (Txt.partition z eqS).1 = true from e, show valueS (Txt.partition z eqS).2.2 = false from eq_false_of_ne_true e2]
        rfl
    · refine iteF (q1 ?_ _ (s1.trans s2))
      unfold setS
      rw [show nameS (Txt.partition z eqS).1 = false from eq_false_of_ne_true e]
      rfl
def sp_read_kept (K : PySem.W.Frag) : Sp := fun vs H Q _ => ∃ z : Str, vs = [.str z] ∧ z.length ≤ 1000 ∧ (keptS z = none → ∀ H', Same H H' → Q .non H') ∧
  ∀ r p v, keptS z = some (r, p, v) → ∀ H' a, Same H H' → H' a = some (.tup [.int r, .str p, optV v]) → Q (.ref a) H'
theorem ok_read_kept (T : Top K mg) : FnOk P w K mg base CX0 4 T.f_read_kept T.d_read_kept ["line"] (sp_read_kept K) := by
  have G_is_place : FnOk P w K mg base CX0 3 T.f_is_place T.d_is_place ["thing"] (sp_is_place K) := ok_is_place T
  have G_is_release_word : FnOk P w K mg base CX0 2 T.f_is_release_word T.d_is_release_word ["thing"] (sp_is_release_word K) := ok_is_release_word T
  have G_is_value : FnOk P w K mg base CX0 2 T.f_is_value T.d_is_value ["thing"] (sp_is_value K) := ok_is_value T
  refine T.F_read_kept.ok scread_kept (fun vs H Q E h => ?_) (fun cdv A outer s H vs Q E hr h => ?_)
  · obtain ⟨z, rfl, _⟩ := h
    rfl
  · obtain ⟨z, rfl, hz, q1, q2⟩ := h
    have hp1 : (kp1 z).1.length ≤ z.length ∧ (kp1 z).2.1.length ≤ z.length ∧ (kp1 z).2.2.length ≤ z.length := part3 z spaceS
    have hp2 : (kp2 z).1.length ≤ (kp1 z).2.2.length ∧ (kp2 z).2.1.length ≤ (kp1 z).2.2.length ∧ (kp2 z).2.2.length ≤ (kp1 z).2.2.length := part3 (kp1 z).2.2 spaceS
    have hp3 : (kp3 z).1.length ≤ (kp2 z).2.2.length ∧ (kp3 z).2.1.length ≤ (kp2 z).2.2.length ∧ (kp3 z).2.2.length ≤ (kp2 z).2.2.length := part3 (kp2 z).2.2 eqS
    refine ⟨_, (pss_cons (ps_asg (pe_m1 F.slot_str_partition F.type_str_partition mt_partition (pv 0) pe_str) (pg_tup rfl (pgs_cons (pg_name (i := 1) scread_kept.nd rfl (.inl rfl)) (pgs_cons (pg_name (i := 2) scread_kept.nd rfl (.inl rfl)) (pgs_cons (pg_name (i := 3) scread_kept.nd rfl (.inl rfl)) pgs_nil)))))
      (pss_cons (ps_asg (pe_m1 F.slot_str_partition F.type_str_partition mt_partition (pv 3) pe_str) (pg_tup rfl (pgs_cons (pg_name (i := 4) scread_kept.nd rfl (.inl rfl)) (pgs_cons (pg_name (i := 2) scread_kept.nd rfl (.inl rfl)) (pgs_cons (pg_name (i := 5) scread_kept.nd rfl (.inl rfl)) pgs_nil)))))
      (pss_cons (ps_asg (pe_m1 F.slot_str_partition F.type_str_partition mt_partition (pv 5) pe_str) (pg_tup rfl (pgs_cons (pg_name (i := 6) scread_kept.nd rfl (.inl rfl)) (pgs_cons (pg_name (i := 7) scread_kept.nd rfl (.inl rfl)) (pgs_cons (pg_name (i := 8) scread_kept.nd rfl (.inl rfl)) pgs_nil)))))
      (pss_cons (ps_if (PW.pt (pw_or (pt_cmpR op_ne (pv 1) (pe_glob (v := .str "#~") (by rfl) T.g_KEPT_MARK ⟨_, rfl⟩) (nomark _)) (pw_or (pt_not (pt_val (pe_call G_is_release_word (hr.mono (by decide)) (by rfl) T.g_is_release_word T.F_is_release_word.kp T.b_is_release_word .nil pass0 (pa_cons (pv 4) pa_nil)))) (pw_or1 (pt_not (pt_val (pe_call G_is_place (hr.mono (by decide)) (by rfl) T.g_is_place T.F_is_place.kp T.b_is_place .nil pass0 (pa_cons (pv 6) pa_nil)))))))) (pss_one (ps_ret pe_non)) pss_nil)
      (pss_cons (ps_if (pt_cmpR op_eq (pv 7) pe_str (nomark _)) (pss_one (ps_ret (pe_tup (pa_cons (pe_callTy call_int_str (by rfl) T.m_int (by decide +kernel) (pa_cons (pv 4) pa_nil)) (pa_cons (pv 6) (pa_cons pe_non pa_nil)))))) pss_nil)
      (pss_one (ps_ret (pe_ifExp (pt_val (pe_call G_is_value (hr.mono (by decide)) (by rfl) T.g_is_value T.F_is_value.kp T.b_is_value .nil pass0 (pa_cons (pv 8) pa_nil))) (pe_tup (pa_cons (pe_callTy call_int_str (by rfl) T.m_int (by decide +kernel) (pa_cons (pv 4) pa_nil)) (pa_cons (pv 6) (pa_cons (pv 8) pa_nil)))) pe_non)))))))), ?_⟩
    refine ⟨.str z, rfl, ⟨z, rfl⟩, z, spaceS, rfl, rfl, rfl, len1000 hz, fun p np => ?_⟩
    refine ⟨p, _, rfl, SqT.of upd_same, rfl, _, _, rfl, _, _, rfl, _, _, rfl, rfl, ?_⟩
    have s1 : Same H (upd H p (.tup [.str (kp1 z).1, .str (kp1 z).2.1, .str (kp1 z).2.2])) := same_new np
    refine ⟨.str (kp1 z).2.2, rfl, ⟨_, rfl⟩, _, spaceS, rfl, rfl, rfl, len1000 (by omega), fun p2 np2 => ?_⟩
    refine ⟨p2, _, rfl, SqT.of upd_same, rfl, _, _, rfl, _, _, rfl, _, _, rfl, rfl, ?_⟩
    have s2 := s1.trans (same_new (o := .tup [.str (kp2 z).1, .str (kp2 z).2.1, .str (kp2 z).2.2]) np2)
    refine ⟨.str (kp2 z).2.2, rfl, ⟨_, rfl⟩, _, eqS, rfl, rfl, rfl, len1000 (by omega), fun p3 np3 => ?_⟩
    refine ⟨p3, _, rfl, SqT.of upd_same, rfl, _, _, rfl, _, _, rfl, _, _, rfl, rfl, ?_⟩
    have s3 := s2.trans (same_new (o := .tup [.str (kp3 z).1, .str (kp3 z).2.1, .str (kp3 z).2.2]) np3)
    have none1 : (decide ((kp1 z).1 = markS) && (relW (kp2 z).1 && placeS (kp3 z).1)) = false → keptS z = none := fun h => by
      unfold keptS
      rw [h]
      rfl
    refine ⟨.str (kp1 z).1, rfl, rfl, _, rfl, ite2 (fun e => ?_) (fun e => ?_)⟩
    · rw [eq_str] at e
      refine iteT (q1 (none1 ?_) _ s3)
      have : decide ((kp1 z).1 = markS) = false := by
        cases h : decide ((kp1 z).1 = markS) with
        | false => rfl
        | true => rw [h] at e; cases e
      rw [this]
      rfl
    · rw [eq_str] at e
      have e1 : decide ((kp1 z).1 = markS) = true := by
        cases h : decide ((kp1 z).1 = markS) with
        | false => rw [h] at e; exact absurd rfl e
        | true => rfl
      refine ⟨.str (kp2 z).1, rfl, _, rfl, by omega, fun H4 s4 => ⟨_, rfl, ite2 (fun e2 => ?_) (fun e2 => ?_)⟩⟩
      · have e2' : relW (kp2 z).1 = false := by
          cases h : relW (kp2 z).1 with
          | false => rfl
          | true => rw [h] at e2; cases e2
        refine iteT (q1 (none1 ?_) _ (s3.trans s4))
        rw [e1, e2']
        rfl
      · have e2' : relW (kp2 z).1 = true := by
          cases h : relW (kp2 z).1 with
          | false => rw [h] at e2; exact absurd rfl e2
          | true => rfl
        refine ⟨.str (kp3 z).1, rfl, _, rfl, Ask.text (by omega), fun H5 s5 => ⟨_, rfl, ite2 (fun e3 => ?_) (fun e3 => ?_)⟩⟩
        · have e3' : placeS (kp3 z).1 = false := by
            cases h : placeS (kp3 z).1 with
            | false => rfl
            | true => rw [show ofText placeS (.str (kp3 z).1) = true from h] at e3; cases e3
          refine q1 (none1 ?_) _ ((s3.trans s4).trans s5)
          rw [e1, e2', e3']
          rfl
        · have e3' : placeS (kp3 z).1 = true := by
            cases h : placeS (kp3 z).1 with
            | false => rw [show ofText placeS (.str (kp3 z).1) = false from h] at e3; exact absurd rfl e3
            | true => rfl
          have hi := int_of_rel e2'
          have t5 := (s3.trans s4).trans s5
          refine ⟨.str (kp3 z).2.1, rfl, rfl, _, rfl, ite2 (fun e4 => ?_) (fun e4 => ?_)⟩
          · rw [eq_str] at e4
            refine ⟨.str (kp2 z).1, rfl, _, _, rfl, hi.1, hi.2, .str (kp3 z).1, rfl, (by show 3 ≤ sizeLine; decide), fun a na => ?_⟩
            refine q2 _ _ none ?_ _ a (t5.trans (same_new na)) upd_same
            unfold keptS
            rw [e1, e2', e3', if_pos (show (true && (true && true)) = true from rfl), if_pos (of_decide_eq_true e4)]
          · rw [eq_str] at e4
            have e4' : ¬ (kp3 z).2.1 = "" := fun h => e4 (decide_eq_true h)
            refine ⟨.str (kp3 z).2.2, rfl, _, rfl, Ask.text (by omega), fun H6 s6 => ⟨_, rfl, ite2 (fun e5 => ?_) (fun e5 => ?_)⟩⟩
            · refine ⟨.str (kp2 z).1, rfl, _, _, rfl, hi.1, hi.2, .str (kp3 z).1, rfl, .str (kp3 z).2.2, rfl, (by show 3 ≤ sizeLine; decide), fun a na => ?_⟩
              refine q2 _ _ (some (kp3 z).2.2) ?_ _ a ((t5.trans s6).trans (same_new na)) upd_same
              unfold keptS
              rw [e1, e2', e3', if_pos (show (true && (true && true)) = true from rfl), if_neg e4', if_pos (show valueS (kp3 z).2.2 = true from e5)]
            · refine q1 ?_ _ (t5.trans s6)
              unfold keptS
              rw [e1, e2', e3', if_pos (show (true && (true && true)) = true from rfl), if_neg e4', if_neg (show ¬ valueS (kp3 z).2.2 = true from e5)]
end
end K16

set_option Elab.async false
set_option linter.all false
set_option maxRecDepth 100000
/-! how a file that stands in the heap changes, line by line -/
namespace My
open PySem PySem.Spec PyProof.Rows L2
section
variable {C : Addr} {H0 H : Hp} {x : Addr} {t : Str} {rows : List Str} {fs : FS} {A : Parts}
theorem FileP.weaken {H1 : Hp} (f : FileP C H0 H x t rows fs A) (s : Same H1 H0) : FileP C H1 H x t rows fs A := by
  obtain ⟨n1, n2, n3, n4, n5, n6, n7⟩ := f.n
  exact ⟨s.trans f.same, f.ob, f.er, f.eh, f.es, f.ek, f.eb, f.el, Paired.mapP f.bs fun p q z => ⟨z.1, z.2.1, z.2.2.1, z.2.2.2.1, s.free z.2.2.2.2⟩, f.rh, f.rl, f.hl, f.sb, ⟨s.free n1, s.free n2, s.free n3, s.free n4, s.free n5, s.free n6, s.free n7⟩, f.ok⟩
theorem upd_off {c : Addr} {o : HO} (n : H0 c = none) (s : Same H0 H) : Same H0 (upd H c o) := fun b u e => by
  rw [upd_ne (ne_of_none e n)]
  exact s b u e
theorem FileP.bAddr (f : FileP C H0 H x t rows fs A) : ∀ p ∈ A.bl, ∃ u, H p.2 = some (.lst u) ∧ p.2 ≠ A.l ∧ p.2 ≠ A.h := by
  have key : ∀ {l : List (Str × Addr)} {m : List (Str × List Str)}, Paired (fun (p : Str × Addr) (q : Str × List Str) => p.1 = q.1 ∧ H p.2 = some (.lst (q.2.map V.str)) ∧ p.2 ≠ A.l ∧ p.2 ≠ A.h ∧ H0 p.2 = none) l m → ∀ p ∈ l, ∃ u, H p.2 = some (.lst u) ∧ p.2 ≠ A.l ∧ p.2 ≠ A.h := by
    intro l m q
    induction q with
    | nil => intro p hp; cases hp
    | cons h _ ih =>
      intro p hp
      rcases List.mem_cons.mp hp with rfl | hp
      · exact ⟨_, h.2.1, h.2.2.1, h.2.2.2.1⟩
      · exact ih p hp
  exact key f.bs
/-- a change at c, which is none of the other parts -/
theorem FileP.at {c : Addr} {o : HO} (f : FileP C H0 H x t rows fs A) (nc : H0 c = none) (hx : x ≠ c) (hr : A.r ≠ c) (hh : A.h ≠ c) (hs : A.s ≠ c) (hk : A.k ≠ c) (hb : A.b ≠ c) (hl : A.l ≠ c) (hB : ∀ p ∈ A.bl, p.2 ≠ c) : FileP C H0 (upd H c o) x t rows fs A := by
  refine ⟨upd_off nc f.same, by rw [upd_ne hx]; exact f.ob, by rw [upd_ne hr]; exact f.er, by rw [upd_ne hh]; exact f.eh, by rw [upd_ne hs]; exact f.es, by rw [upd_ne hk]; exact f.ek, by rw [upd_ne hb]; exact f.eb, by rw [upd_ne hl]; exact f.el, ?_, f.rh, f.rl, f.hl, f.sb, f.n, f.ok⟩
  have key : ∀ {l : List (Str × Addr)} {m : List (Str × List Str)}, (∀ p ∈ l, p.2 ≠ c) → Paired (fun (p : Str × Addr) (q : Str × List Str) => p.1 = q.1 ∧ H p.2 = some (.lst (q.2.map V.str)) ∧ p.2 ≠ A.l ∧ p.2 ≠ A.h ∧ H0 p.2 = none) l m →
      Paired (fun (p : Str × Addr) (q : Str × List Str) => p.1 = q.1 ∧ (upd H c o) p.2 = some (.lst (q.2.map V.str)) ∧ p.2 ≠ A.l ∧ p.2 ≠ A.h ∧ H0 p.2 = none) l m := by
    intro l m hn q
    induction q with
    | nil => exact .nil
    | cons h _ ih =>
      refine .cons ⟨h.1, ?_, h.2.2⟩ (ih fun p hp => hn p (List.mem_cons_of_mem _ hp))
      rw [upd_ne (hn _ (List.mem_cons_self ..))]
      exact h.2.1
  exact key hB f.bs
/-- the same blocks, seen at a changed heap -/
theorem FileP.bsAt {c : Addr} {o : HO} (f : FileP C H0 H x t rows fs A) (hB : ∀ p ∈ A.bl, p.2 ≠ c) : Paired (fun (p : Str × Addr) (q : Str × List Str) => p.1 = q.1 ∧ (upd H c o) p.2 = some (.lst (q.2.map V.str)) ∧ p.2 ≠ A.l ∧ p.2 ≠ A.h ∧ H0 p.2 = none) A.bl fs.blocks := by
  have key : ∀ {l : List (Str × Addr)} {m : List (Str × List Str)}, (∀ p ∈ l, p.2 ≠ c) → Paired (fun (p : Str × Addr) (q : Str × List Str) => p.1 = q.1 ∧ H p.2 = some (.lst (q.2.map V.str)) ∧ p.2 ≠ A.l ∧ p.2 ≠ A.h ∧ H0 p.2 = none) l m →
      Paired (fun (p : Str × Addr) (q : Str × List Str) => p.1 = q.1 ∧ (upd H c o) p.2 = some (.lst (q.2.map V.str)) ∧ p.2 ≠ A.l ∧ p.2 ≠ A.h ∧ H0 p.2 = none) l m := by
    intro l m hn q
    induction q with
    | nil => exact .nil
    | cons h _ ih =>
      refine .cons ⟨h.1, ?_, h.2.2⟩ (ih fun p hp => hn p (List.mem_cons_of_mem _ hp))
      rw [upd_ne (hn _ (List.mem_cons_self ..))]
      exact h.2.1
  exact key hB f.bs
theorem lstNe {a b : Addr} {u : List V} {o : HO} (ha : H a = some (.lst u)) (hb : H b = some o) (h : ∀ v, o ≠ .lst v) : a ≠ b := fun e => by
  subst e
  rw [ha] at hb
  cases hb
  exact h u rfl
theorem FileP.addLoose (f : FileP C H0 H x t rows fs A) (z : Str) : FileP C H0 (upd H A.l (.lst ((fs.loose ++ [z]).map V.str))) x t rows { fs with loose := fs.loose ++ [z] } A := by
  obtain ⟨n1, n2, n3, n4, n5, n6, n7⟩ := f.n
  have hx : x ≠ A.l := (lstNe f.el f.ob (fun _ h => nomatch h)).symm
  have hs : A.s ≠ A.l := (lstNe f.el f.es (fun _ h => nomatch h)).symm
  have hk : A.k ≠ A.l := (lstNe f.el f.ek (fun _ h => nomatch h)).symm
  have hb : A.b ≠ A.l := (lstNe f.el f.eb (fun _ h => nomatch h)).symm
  have hB : ∀ p ∈ A.bl, p.2 ≠ A.l := fun p hp => let ⟨_, _, h, _⟩ := f.bAddr p hp; h
  exact ⟨upd_off n7 f.same, by rw [upd_ne hx]; exact f.ob, by rw [upd_ne f.rl]; exact f.er, by rw [upd_ne f.hl]; exact f.eh, by rw [upd_ne hs]; exact f.es, by rw [upd_ne hk]; exact f.ek, by rw [upd_ne hb]; exact f.eb, upd_same, f.bsAt hB, f.rh, f.rl, f.hl, f.sb, f.n, ⟨f.ok.hn, f.ok.sd, f.ok.bk⟩⟩
theorem FileP.addHead (f : FileP C H0 H x t rows fs A) {n : Str} (hn : nameS n = true) : FileP C H0 (upd H A.h (.lst ((fs.headers ++ [n]).map V.str))) x t rows { fs with headers := fs.headers ++ [n] } A := by
  obtain ⟨n1, n2, n3, n4, n5, n6, n7⟩ := f.n
  have hx : x ≠ A.h := (lstNe f.eh f.ob (fun _ h => nomatch h)).symm
  have hs : A.s ≠ A.h := (lstNe f.eh f.es (fun _ h => nomatch h)).symm
  have hk : A.k ≠ A.h := (lstNe f.eh f.ek (fun _ h => nomatch h)).symm
  have hb : A.b ≠ A.h := (lstNe f.eh f.eb (fun _ h => nomatch h)).symm
  have hB : ∀ p ∈ A.bl, p.2 ≠ A.h := fun p hp => let ⟨_, _, _, h⟩ := f.bAddr p hp; h
  refine ⟨upd_off n3 f.same, by rw [upd_ne hx]; exact f.ob, by rw [upd_ne f.rh]; exact f.er, upd_same, by rw [upd_ne hs]; exact f.es, by rw [upd_ne hk]; exact f.ek, by rw [upd_ne hb]; exact f.eb, by rw [upd_ne f.hl.symm]; exact f.el, f.bsAt hB, f.rh, f.rl, f.hl, f.sb, f.n, ⟨?_, f.ok.sd, ?_⟩⟩
  · intro y hy
    rcases List.mem_append.mp hy with q | q
    · exact f.ok.hn y q
    · cases List.mem_singleton.mp q
      exact hn
  · intro p hp
    rcases f.ok.bk p hp with q | q
    · exact .inl (List.mem_append_left _ q)
    · exact .inr q
theorem FileP.addSet (f : FileP C H0 H x t rows fs A) {p v : Str} (hd : 46 ∈ TL.tl p) : FileP C H0 (upd H A.s (.dK (setKV (fs.settings ++ [(p, v)])))) x t rows { fs with settings := fs.settings ++ [(p, v)] } A := by
  obtain ⟨n1, n2, n3, n4, n5, n6, n7⟩ := f.n
  have hx : x ≠ A.s := ne_of f.ob f.es (fun h => nomatch h)
  have hr : A.r ≠ A.s := lstNe f.er f.es (fun _ h => nomatch h)
  have hh : A.h ≠ A.s := lstNe f.eh f.es (fun _ h => nomatch h)
  have hk : A.k ≠ A.s := ne_of f.ek f.es (fun h => nomatch h)
  have hl : A.l ≠ A.s := lstNe f.el f.es (fun _ h => nomatch h)
  have hB : ∀ p ∈ A.bl, p.2 ≠ A.s := fun p hp => let ⟨_, h, _⟩ := f.bAddr p hp; lstNe h f.es (fun _ h => nomatch h)
  refine ⟨upd_off n4 f.same, by rw [upd_ne hx]; exact f.ob, by rw [upd_ne hr]; exact f.er, by rw [upd_ne hh]; exact f.eh, upd_same, by rw [upd_ne hk]; exact f.ek, by rw [upd_ne f.sb.symm]; exact f.eb, by rw [upd_ne hl]; exact f.el, f.bsAt hB, f.rh, f.rl, f.hl, f.sb, f.n, ⟨f.ok.hn, ?_, ?_⟩⟩
  · intro y hy
    rw [List.map_append] at hy
    rcases List.mem_append.mp hy with q | q
    · exact f.ok.sd y q
    · cases List.mem_singleton.mp q
      exact hd
  · intro y hy
    rcases f.ok.bk y hy with q | q
    · exact .inl q
    · exact .inr (by rw [List.map_append]; exact List.mem_append_left _ q)
theorem FileP.addKept (f : FileP C H0 H x t rows fs A) (e : (Int × Str) × Option Str) : FileP C H0 (upd H A.k (.dT (keptKV (fs.kept ++ [e])))) x t rows { fs with kept := fs.kept ++ [e] } A := by
  obtain ⟨n1, n2, n3, n4, n5, n6, n7⟩ := f.n
  have hx : x ≠ A.k := ne_of f.ob f.ek (fun h => nomatch h)
  have hr : A.r ≠ A.k := lstNe f.er f.ek (fun _ h => nomatch h)
  have hh : A.h ≠ A.k := lstNe f.eh f.ek (fun _ h => nomatch h)
  have hs : A.s ≠ A.k := ne_of f.es f.ek (fun h => nomatch h)
  have hb : A.b ≠ A.k := ne_of f.eb f.ek (fun h => nomatch h)
  have hl : A.l ≠ A.k := lstNe f.el f.ek (fun _ h => nomatch h)
  have hB : ∀ p ∈ A.bl, p.2 ≠ A.k := fun p hp => let ⟨_, h, _⟩ := f.bAddr p hp; lstNe h f.ek (fun _ h => nomatch h)
  exact ⟨upd_off n5 f.same, by rw [upd_ne hx]; exact f.ob, by rw [upd_ne hr]; exact f.er, by rw [upd_ne hh]; exact f.eh, by rw [upd_ne hs]; exact f.es, upd_same, by rw [upd_ne hb]; exact f.eb, by rw [upd_ne hl]; exact f.el, f.bsAt hB, f.rh, f.rl, f.hl, f.sb, f.n, ⟨f.ok.hn, f.ok.sd, f.ok.bk⟩⟩
theorem paired_snoc {α β : Type} {F : α → β → Prop} : ∀ {l : List α} {m : List β} {a : α} {b : β}, Paired F l m → F a b → Paired F (l ++ [a]) (m ++ [b])
  | _, _, _, _, .nil, h => .cons h .nil
  | _, _, _, _, .cons h r, g => .cons h (paired_snoc r g)
/-- the block is closed: the dict takes the loose list, a new one stands in its place -/
theorem FileP.close (f : FileP C H0 H x t rows fs A) {y : Str} {l' : Addr} (nl : (upd H A.b (.dK (blkKV (A.bl ++ [(y, A.l)])))) l' = none) (hy : y ∈ fs.headers ∨ y ∈ fs.settings.map (·.1)) :
    FileP C H0 (upd (upd (upd H A.b (.dK (blkKV (A.bl ++ [(y, A.l)])))) l' (.lst [])) x (.ins C A.dx (flds t A.r A.h A.s A.k A.b l'))) x t rows { fs with blocks := fs.blocks ++ [(y, fs.loose)], loose := [] } { A with l := l', bl := A.bl ++ [(y, A.l)] } := by
  obtain ⟨n1, n2, n3, n4, n5, n6, n7⟩ := f.n
  have bx : x ≠ A.b := ne_of f.ob f.eb (fun h => nomatch h)
  have br : A.r ≠ A.b := lstNe f.er f.eb (fun _ h => nomatch h)
  have bh : A.h ≠ A.b := lstNe f.eh f.eb (fun _ h => nomatch h)
  have bk : A.k ≠ A.b := ne_of f.ek f.eb (fun h => nomatch h)
  have bl : A.l ≠ A.b := lstNe f.el f.eb (fun _ h => nomatch h)
  have at1 : ∀ {c : Addr} {o : HO}, H c = some o → c ≠ A.b → (upd H A.b (.dK (blkKV (A.bl ++ [(y, A.l)])))) c = some o := fun e h => by rw [upd_ne h]; exact e
  have off : ∀ {c : Addr} {o : HO}, H c = some o → c ≠ A.b → c ≠ l' := fun e h => ne_of_none (at1 e h) nl
  have lb : A.b ≠ l' := ne_of_none upd_same nl
  have xl : x ≠ l' := off f.ob bx
  have all : ∀ {c : Addr} {o : HO}, H c = some o → c ≠ A.b → c ≠ x → (upd (upd (upd H A.b (.dK (blkKV (A.bl ++ [(y, A.l)])))) l' (.lst [])) x (.ins C A.dx (flds t A.r A.h A.s A.k A.b l'))) c = some o := fun e h hx => by
    rw [upd_ne hx, upd_ne (off e h)]
    exact at1 e h
  have xr : A.r ≠ x := lstNe f.er f.ob (fun _ h => nomatch h)
  have xh : A.h ≠ x := lstNe f.eh f.ob (fun _ h => nomatch h)
  have xs : A.s ≠ x := ne_of f.es f.ob (fun h => nomatch h)
  have xk : A.k ≠ x := ne_of f.ek f.ob (fun h => nomatch h)
  have xA : A.l ≠ x := lstNe f.el f.ob (fun _ h => nomatch h)
  have fl : H0 l' = none := by
    have s2 : Same H0 (upd H A.b (.dK (blkKV (A.bl ++ [(y, A.l)])))) := upd_off n6 f.same
    exact s2.free nl
  refine ⟨upd_off n1 (upd_off fl (upd_off n6 f.same)), upd_same, all f.er br xr, all f.eh bh xh, all f.es f.sb xs, all f.ek bk xk, ?_, ?_, ?_, f.rh, off f.er br, off f.eh bh, f.sb, ⟨n1, n2, n3, n4, n5, n6, fl⟩, ⟨f.ok.hn, f.ok.sd, ?_⟩⟩
  · show (upd (upd (upd H A.b _) l' _) x _) A.b = _
    rw [upd_ne bx.symm, upd_ne lb]
    exact upd_same
  · show (upd (upd (upd H A.b _) l' _) x _) l' = _
    rw [upd_ne xl.symm]
    exact upd_same
  · refine paired_snoc ?_ ⟨rfl, all f.el bl xA, off f.el bl, f.hl.symm, n7⟩
    have key : ∀ {l : List (Str × Addr)} {m : List (Str × List Str)}, Paired (fun (p : Str × Addr) (q : Str × List Str) => p.1 = q.1 ∧ H p.2 = some (.lst (q.2.map V.str)) ∧ p.2 ≠ A.l ∧ p.2 ≠ A.h ∧ H0 p.2 = none) l m →
        Paired (fun (p : Str × Addr) (q : Str × List Str) => p.1 = q.1 ∧ (upd (upd (upd H A.b (.dK (blkKV (A.bl ++ [(y, A.l)])))) l' (.lst [])) x (.ins C A.dx (flds t A.r A.h A.s A.k A.b l'))) p.2 = some (.lst (q.2.map V.str)) ∧ p.2 ≠ l' ∧ p.2 ≠ A.h ∧ H0 p.2 = none) l m := by
      intro l m q
      induction q with
      | nil => exact .nil
      | cons h _ ih =>
        have hb := lstNe h.2.1 f.eb (fun _ h => nomatch h)
        exact .cons ⟨h.1, all h.2.1 hb (lstNe h.2.1 f.ob (fun _ h => nomatch h)), off h.2.1 hb, h.2.2.2.1, h.2.2.2.2⟩ ih
    exact key f.bs
  · intro p hp
    rw [List.map_append] at hp
    rcases List.mem_append.mp hp with q | q
    · exact f.ok.bk p q
    · cases List.mem_singleton.mp q
      exact hy
end
/-! ### keys that are not there -/
theorem val_blk {l : List (Str × Addr)} {y : Str} (h : y ∉ l.map (·.1)) : valV (blkKV l) (Sum.inr y : Key) = none := by
  induction l with
  | nil => rfl
  | cons p r ih =>
    have h1 : ¬ p.1 = y := fun e => h (by simp [e])
    have h2 : y ∉ r.map (·.1) := fun e => h (List.mem_cons_of_mem _ e)
    show valV ((Sum.inr p.1, V.ref p.2) :: blkKV r) (Sum.inr y : Key) = none
    rw [valV_neg (fun e => h1 (Sum.inr.inj e))]
    exact ih h2
theorem val_set {l : List (Str × Str)} {y : Str} (h : y ∉ l.map (·.1)) : valV (setKV l) (Sum.inr y : Key) = none := by
  induction l with
  | nil => rfl
  | cons p r ih =>
    have h1 : ¬ p.1 = y := fun e => h (by simp [e])
    have h2 : y ∉ r.map (·.1) := fun e => h (List.mem_cons_of_mem _ e)
    show valV ((Sum.inr p.1, V.str p.2) :: setKV r) (Sum.inr y : Key) = none
    rw [valV_neg (fun e => h1 (Sum.inr.inj e))]
    exact ih h2
theorem val_kept {l : List ((Int × Str) × Option Str)} {e : Int × Str} (h : e ∉ l.map (·.1)) : valV (keptKV l) ([Sum.inl e.1, Sum.inr e.2] : List Key) = none := by
  induction l with
  | nil => rfl
  | cons p r ih =>
    have h1 : ¬ p.1 = e := fun z => h (by simp [z])
    have h2 : e ∉ r.map (·.1) := fun z => h (List.mem_cons_of_mem _ z)
    show valV (([Sum.inl p.1.1, Sum.inr p.1.2], optV p.2) :: keptKV r) ([Sum.inl e.1, Sum.inr e.2] : List Key) = none
    rw [valV_neg ?_]
    · exact ih h2
    · intro z
      injection z with z1 z2
      injection z2 with z2 _
      exact h1 (Prod.ext (Sum.inl.inj z1) (Sum.inr.inj z2))
/-- the names of the blocks, as they stand in the dict -/
theorem blk_names {P : Str × Addr → Str × List Str → Prop} (hP : ∀ p q, P p q → p.1 = q.1) : ∀ {l : List (Str × Addr)} {m : List (Str × List Str)}, Paired P l m → l.map (·.1) = m.map (·.1)
  | _, _, .nil => rfl
  | _, _, .cons h r => by
    rw [List.map_cons, List.map_cons, hP _ _ h, blk_names hP r]
theorem in_strs (x : Str) (l : List Str) : inV (.str x) (l.map V.str) = decide (x ∈ l) := by
  unfold inV
  induction l with
  | nil => rfl
  | cons y r ih =>
    rw [List.map_cons, List.any_cons, ih]
    by_cases e : y = x
    · subst e
      rw [show eqV (.str y) (.str y) = true by simp [eqV]]
      simp
    · rw [show eqV (.str y) (.str x) = false by simp [eqV, e]]
      simp [Ne.symm e]
end My
set_option Elab.async false
set_option linter.all false
set_option maxRecDepth 100000
namespace K16
open PySem PySem.Spec PyProof.Rows L2 My
/-- none of its lists is longer than n -/
structure Sm (n : Nat) (fs : FS) : Prop where
  a : fs.headers.length ≤ n
  b : fs.settings.length ≤ n
  c : fs.kept.length ≤ n
  d : fs.blocks.length ≤ n
  e : fs.loose.length ≤ n
theorem Sm.step {n : Nat} {fs fs' : FS} {z : Str} (h : Sm n fs) (e : stepF fs z = some fs') : Sm (n + 1) fs' := by
  obtain ⟨h1, h2, h3, h4, h5⟩ := h
  unfold My.stepF at e
  split at e
  · cases e
    constructor <;> (try simp) <;> omega
  split at e
  · split at e
    · cases e
    · split at e
      · cases e
      · cases e
        constructor <;> (try simp) <;> omega
  split at e
  · split at e
    · cases e
    · cases e
      constructor <;> (try simp) <;> omega
  split at e
  · cases e
  split at e
  · cases e
  split at e
  · cases e
  · cases e
    constructor <;> (try simp) <;> omega
theorem big {n : Nat} (h : n ≤ 100000) : n < sizeLine := Nat.lt_of_le_of_lt h (by decide)
theorem paired_len {α β : Type} {F : α → β → Prop} : ∀ {l : List α} {m : List β}, Paired F l m → l.length = m.length
  | _, _, .nil => rfl
  | _, _, .cons _ r => by rw [List.length_cons, List.length_cons, paired_len r]
section
variable {P : Program} {w : World} {K : PySem.W.Frag} {mg : Str → Option Value} {base : Heap}
/-! ### the methods of a file that is read -/
def sp_SettingsFile_close_block (K : PySem.W.Frag) (T : Top K mg) : Sp := fun vs H Q _ => ∃ (H0 : Hp) (x : Addr) (t : Str) (rows : List Str) (fs : FS) (A : Parts) (y : Str), vs = [.ref x, .str y] ∧ FileP T.C_SettingsFile H0 H x t rows fs A ∧ Sm 99999 fs ∧
  y ∉ fs.blocks.map (·.1) ∧ (y ∈ fs.headers ∨ y ∈ fs.settings.map (·.1)) ∧ ∀ H' A', FileP T.C_SettingsFile H0 H' x t rows { fs with blocks := fs.blocks ++ [(y, fs.loose)], loose := [] } A' → Q .non H'
theorem ok_SettingsFile_close_block (T : Top K mg) : FnOk P w K mg base CX0 1 T.f_SettingsFile_close_block T.d_SettingsFile_close_block ["self", "thing"] (sp_SettingsFile_close_block K T) := by
  refine T.F_SettingsFile_close_block.ok scSettingsFile_close_block (fun vs H Q E h => ?_) (fun cdv A outer s H vs Q E hr h => ?_)
  · obtain ⟨H0, x, t, rows, fs, A, y, rfl, _⟩ := h
    rfl
  · obtain ⟨H0, x, t, rows, fs, A, y, rfl, f, sm, hy, hy2, q⟩ := h
    refine ⟨_, (pss_cons (ps_dput (hu_of hr) (pe_fld (pv 0) rfl) (pv 1) (pe_fld (pv 0) rfl) rfl)
      (pss_one (ps_fld (pv 0) (pe_lst pa_nil) rfl))), ?_⟩
    have names : A.bl.map (·.1) = fs.blocks.map (·.1) := blk_names (fun _ _ h => h.1) f.bs
    have new : valV (blkKV A.bl) (Sum.inr y : Key) = none := val_blk (by rw [names]; exact hy)
    have len : (blkKV A.bl).length ≤ 100000 := by
      unfold blkKV
      rw [List.length_map, paired_len f.bs]
      have := sm.d
      omega
    refine ⟨.ref x, rfl, x, _, _, _, _, rfl, f.ob, T.cl_SettingsFile, T.no_SettingsFile_loose, f_loose _ _ _ _ _ _ _, .ref x, rfl, x, _, _, _, _, rfl, f.ob, T.cl_SettingsFile, T.no_SettingsFile_blocks, f_blocks _ _ _ _ _ _ _, .str y, rfl, A.b, _, rfl, DPut.k (k := Sum.inr y) f.eb (big len), ?_⟩
    rw [putK_new _ new]
    have e : blkKV A.bl ++ [(Sum.inr y, V.ref A.l)] = blkKV (A.bl ++ [(y, A.l)]) := by
      unfold blkKV
      rw [List.map_append]
      rfl
    rw [e]
    refine ⟨Nat.zero_le _, fun l' nl => ?_⟩
    have bx : x ≠ A.b := ne_of f.ob f.eb (fun h => nomatch h)
    have xl : x ≠ l' := ne_of_none (show (upd H A.b _) x = _ by rw [upd_ne bx]; exact f.ob) nl
    refine ⟨.ref x, rfl, x, _, _, _, rfl, (by rw [upd_ne xl, upd_ne bx]; exact f.ob), T.cl_SettingsFile, T.no_SettingsFile_loose, flds_len _ _ _ _ _ _ _, ?_⟩
    rw [flds_reloose]
    exact q _ _ (f.close nl hy2)
def sp_SettingsFile_take_header (K : PySem.W.Frag) (T : Top K mg) : Sp := fun vs H Q _ => ∃ (H0 : Hp) (x : Addr) (t : Str) (rows : List Str) (fs : FS) (A : Parts) (y : Str), vs = [.ref x, .str y] ∧ FileP T.C_SettingsFile H0 H x t rows fs A ∧ Sm 99998 fs ∧
  nameS y = true ∧ y ∉ fs.headers ∧ ∀ H' A', FileP T.C_SettingsFile H0 H' x t rows { fs with headers := fs.headers ++ [y], blocks := fs.blocks ++ [(y, fs.loose)], loose := [] } A' → Q .non H'
theorem ok_SettingsFile_take_header (T : Top K mg) : FnOk P w K mg base CX0 2 T.f_SettingsFile_take_header T.d_SettingsFile_take_header ["self", "name"] (sp_SettingsFile_take_header K T) := by
  have G_SettingsFile_close_block : FnOk P w K mg base CX0 1 T.f_SettingsFile_close_block T.d_SettingsFile_close_block ["self", "thing"] (sp_SettingsFile_close_block K T) := ok_SettingsFile_close_block T
  refine T.F_SettingsFile_take_header.ok scSettingsFile_take_header (fun vs H Q E h => ?_) (fun cdv A outer s H vs Q E hr h => ?_)
  · obtain ⟨H0, x, t, rows, fs, A, y, rfl, _⟩ := h
    rfl
  · obtain ⟨H0, x, t, rows, fs, A, y, rfl, f, sm, hn, hy, q⟩ := h
    refine ⟨_, (pss_cons (ps_if (pt_cmpR op_in_seq (pv 1) (pe_fld (pv 0) rfl) (by rfl)) (pss_one (ps_ret pe_str)) pss_nil)
      (pss_cons (ps_expr (pe_bm PySem.F.plainAttrs_list PySem.F.slot_list_append PySem.F.type_list_append mt_append (pe_fld (pv 0) rfl) (pa_cons (pv 1) pa_nil)))
      (pss_cons (ps_expr (pe_meth (pv 0) T.cl_SettingsFile T.me_SettingsFile_close_block G_SettingsFile_close_block (hr.mono (by decide)) T.b_SettingsFile_close_block .nil pass0 (pa_cons (pv 1) pa_nil)))
      (pss_one (ps_ret pe_non))))), ?_⟩
    have s1 := sm.a
    refine ⟨.str y, rfl, .ref x, rfl, x, _, _, _, _, rfl, f.ob, T.cl_SettingsFile, T.no_SettingsFile_headers, f_headers _ _ _ _ _ _ _, A.h, _, rfl, .inl (SqL.of f.eh), rfl, (by rw [List.all_map]; exact List.all_eq_true.mpr fun _ _ => rfl), _, rfl, ?_⟩
    rw [in_strs, decide_eq_false hy]
    refine iteF ?_
    refine ⟨.ref x, rfl, x, _, _, _, _, rfl, f.ob, T.cl_SettingsFile, T.no_SettingsFile_headers, f_headers _ _ _ _ _ _ _, .inl ⟨rfl, _, SqL.of f.eh⟩, .str y, rfl, A.h, _, _, rfl, rfl, f.eh, (by rw [List.length_map]; exact big (by omega)), ?_⟩
    have e : fs.headers.map V.str ++ [V.str y] = (fs.headers ++ [y]).map V.str := by rw [List.map_append]; rfl
    rw [e]
    have f2 := f.addHead hn
    refine ⟨.ref x, rfl, x, _, _, rfl, f2.ob, f_no _ _ _ _ _ _ _ (by decide +kernel) (by decide +kernel) (by decide +kernel) (by decide +kernel) (by decide +kernel) (by decide +kernel) (by decide +kernel), .str y, rfl, H0, x, t, rows, _, A, y, rfl, f2, ?_, f.ok.newHead hn hy, .inl (List.mem_append_right _ (List.mem_singleton.mpr rfl)), fun H' A' f3 => q H' A' f3⟩
    have h2 := sm.b
    have h3 := sm.c
    have h4 := sm.d
    have h5 := sm.e
    constructor <;> (try simp) <;> omega
def sp_SettingsFile_take_setting (K : PySem.W.Frag) (T : Top K mg) : Sp := fun vs H Q _ => ∃ (H0 : Hp) (x : Addr) (t : Str) (rows : List Str) (fs : FS) (A : Parts) (k v h : Str), vs = [.ref x, .str k, .str v] ∧ FileP T.C_SettingsFile H0 H x t rows fs A ∧ Sm 99998 fs ∧
  k.length ≤ 1000 ∧ fs.headers.getLast? = some h ∧ h ++ "." ++ k ∉ fs.settings.map (·.1) ∧ ∀ H' A', FileP T.C_SettingsFile H0 H' x t rows { fs with settings := fs.settings ++ [(h ++ "." ++ k, v)], blocks := fs.blocks ++ [(h ++ "." ++ k, fs.loose)], loose := [] } A' → Q .non H'
theorem ok_SettingsFile_take_setting (T : Top K mg) : FnOk P w K mg base CX0 2 T.f_SettingsFile_take_setting T.d_SettingsFile_take_setting ["self", "key", "value"] (sp_SettingsFile_take_setting K T) := by
  have G_SettingsFile_close_block : FnOk P w K mg base CX0 1 T.f_SettingsFile_close_block T.d_SettingsFile_close_block ["self", "thing"] (sp_SettingsFile_close_block K T) := ok_SettingsFile_close_block T
  refine T.F_SettingsFile_take_setting.ok scSettingsFile_take_setting (fun vs H Q E h => ?_) (fun cdv A outer s H vs Q E hr h => ?_)
  · obtain ⟨H0, x, t, rows, fs, A, k, v, h, rfl, _⟩ := h
    rfl
  · obtain ⟨H0, x, t, rows, fs, A, k, v, h, rfl, f, sm, hk, hl, hy, q⟩ := h
    refine ⟨_, (pss_cons (ps_if (pt_cmpR (op_eqNil hr.units0) (pe_fld (pv 0) rfl) (pe_lst pa_nil) (nomark _)) (pss_one (ps_ret pe_str)) pss_nil)
      (pss_cons (ps_set (i := 3) scSettingsFile_take_setting.nd rfl (.inl rfl) (pe_op op_add_str (pe_op op_add_str (pe_ix ix_list (pe_fld (pv 0) rfl) (pe_un un_neg pe_int) (fun _ _ => rfl)) pe_str) (pv 1)))
      (pss_cons (ps_if (pt_cmp (pc_din (hu_of hr) (pv 3) (pe_fld (pv 0) rfl))) (pss_one (ps_ret pe_str)) pss_nil)
      (pss_cons (ps_dput (hu_of hr) (pe_fld (pv 0) rfl) (pv 3) (pv 2) rfl)
      (pss_cons (ps_expr (pe_meth (pv 0) T.cl_SettingsFile T.me_SettingsFile_close_block G_SettingsFile_close_block (hr.mono (by decide)) T.b_SettingsFile_close_block .nil pass0 (pa_cons (pv 3) pa_nil)))
      (pss_one (ps_ret pe_non))))))), ?_⟩
    have h1 := sm.a
    have h2 := sm.b
    have h3 := sm.c
    have h4 := sm.d
    have h5 := sm.e
    have eh : fs.headers = fs.headers.dropLast ++ [h] := by
      obtain ⟨ne, e⟩ : ∃ ne, fs.headers.getLast ne = h := by
        cases hh : fs.headers with
        | nil => rw [hh] at hl; cases hl
        | cons a r => rw [hh] at hl; exact ⟨by simp, by rw [List.getLast?_eq_some_getLast (by simp)] at hl; exact Option.some.inj hl⟩
      rw [← e, List.dropLast_concat_getLast]
    have hin : h ∈ fs.headers := by rw [eh]; exact List.mem_append_right _ (List.mem_singleton.mpr rfl)
    have hlen : h.length ≤ 8 := by
      have := f.ok.hn h hin
      unfold nameS madeOf at this
      simp only [Bool.and_eq_true, decide_eq_true_eq] at this
      omega
    have hgt : atI (fs.headers.map V.str) (-1) = some (.str h) := by
      rw [eh, List.map_append]
      exact atI_last _ _
    refine ⟨.ref x, rfl, x, _, _, _, _, rfl, f.ob, T.cl_SettingsFile, T.no_SettingsFile_headers, f_headers _ _ _ _ _ _ _, Nat.zero_le _, fun p np => ⟨A.h, p, _, rfl, rfl, SqL.of (same_new np _ _ f.eh), SqL.of upd_same, _, rfl, ?_⟩⟩
    have emp : (fs.headers.map V.str).isEmpty = false := by rw [eh, List.map_append]; simp
    rw [emp]
    refine iteF ?_
    have f1 := f.more (same_new (o := .lst []) np)
    generalize upd H p (.lst []) = H1 at f1
    have l1 : (h ++ "." : Str).length ≤ 9 := by
      rw [len_tl, TL.tl_append, List.length_append]
      show h.length + 1 ≤ 9
      omega
    have sb : 100000 ≤ sizeLine := by decide
    refine ⟨.ref x, rfl, x, _, _, _, _, rfl, f1.ob, T.cl_SettingsFile, T.no_SettingsFile_headers, f_headers _ _ _ _ _ _ _, 1, rfl, A.h, _, -1, .str h, rfl, rfl, SqL.of f1.eh, hgt, _, _, rfl, rfl, (by show h.length + 1 ≤ sizeLine; omega), .str k, rfl, _, _, rfl, rfl, (by omega), ?_⟩
    refine ⟨.str (h ++ "." ++ k), rfl, .ref x, rfl, x, _, _, _, _, rfl, f1.ob, T.cl_SettingsFile, T.no_SettingsFile_settings_read, f_settings _ _ _ _ _ _ _, A.s, _, rfl, DGet.k (k := Sum.inr (h ++ "." ++ k)) f1.es, _, rfl, ?_⟩
    have new := val_set hy
    rw [new]
    refine iteF ?_
    have len : (setKV fs.settings).length ≤ 100000 := by
      unfold setKV
      rw [List.length_map]
      omega
    refine ⟨.str v, rfl, .ref x, rfl, x, _, _, _, _, rfl, f1.ob, T.cl_SettingsFile, T.no_SettingsFile_settings_read, f_settings _ _ _ _ _ _ _, .str (h ++ "." ++ k), rfl, A.s, _, rfl, DPut.k (k := Sum.inr (h ++ "." ++ k)) f1.es (big len), ?_⟩
    rw [putK_new _ new]
    have e : setKV fs.settings ++ [(Sum.inr (h ++ "." ++ k), V.str v)] = setKV (fs.settings ++ [(h ++ "." ++ k, v)]) := by
      unfold setKV
      rw [List.map_append]
      rfl
    rw [e]
    have f2 := f1.addSet (p := h ++ "." ++ k) (v := v) (dot_in h k)
    refine ⟨.ref x, rfl, x, _, _, rfl, f2.ob, f_no _ _ _ _ _ _ _ (by decide +kernel) (by decide +kernel) (by decide +kernel) (by decide +kernel) (by decide +kernel) (by decide +kernel) (by decide +kernel), .str (h ++ "." ++ k), rfl, H0, x, t, rows, _, A, _, rfl, f2, ?_, f.ok.newPlace (dot_in h k) hy, .inr ?_, fun H' A' f3 => q H' A' f3⟩
    · constructor <;> (try simp) <;> omega
    · rw [List.map_append]
      exact List.mem_append_right _ (List.mem_singleton.mpr rfl)
end
end K16

set_option Elab.async false
set_option linter.all false
set_option maxRecDepth 100000
namespace K16
open PySem PySem.Spec PyProof.Rows L2 My
/-- the lines of a text -/
def rowsOf (t : Str) : List Str := if t = "" then [] else Txt.split t "\n"
/-- the block of that name -/
def valB (l : List (Str × List Str)) (y : Str) : Option (List Str) := (l.find? fun p => decide (p.1 = y)).map (·.2)
theorem val_block {H H0 : Hp} {lA hA : Addr} {y : Str} {ls : List Str} : ∀ {l : List (Str × Addr)} {m : List (Str × List Str)}, Paired (fun (p : Str × Addr) (q : Str × List Str) => p.1 = q.1 ∧ H p.2 = some (.lst (q.2.map V.str)) ∧ p.2 ≠ lA ∧ p.2 ≠ hA ∧ H0 p.2 = none) l m →
    valB m y = some ls → ∃ a, valV (blkKV l) (Sum.inr y : Key) = some (.ref a) ∧ H a = some (.lst (ls.map V.str))
  | _, _, .nil, e => by cases e
  | p :: l, q :: m, .cons h r, e => by
    by_cases hy : q.1 = y
    · have e2 : q.2 = ls := by
        unfold valB at e
        rw [List.find?_cons, show decide (q.1 = y) = true from decide_eq_true hy] at e
        exact Option.some.inj e
      refine ⟨p.2, ?_, by rw [← e2]; exact h.2.1⟩
      show valV ((Sum.inr p.1, V.ref p.2) :: blkKV l) (Sum.inr y : Key) = _
      exact valV_pos (p := (Sum.inr p.1, V.ref p.2)) (by show (Sum.inr p.1 : Key) = Sum.inr y; rw [h.1, hy])
    · have e2 : valB m y = some ls := by
        unfold valB at e ⊢
        rw [List.find?_cons, show decide (q.1 = y) = false from decide_eq_false hy] at e
        exact e
      obtain ⟨a, h1, h2⟩ := val_block r e2
      refine ⟨a, ?_, h2⟩
      show valV ((Sum.inr p.1, V.ref p.2) :: blkKV l) (Sum.inr y : Key) = _
      rw [valV_neg (p := (Sum.inr p.1, V.ref p.2)) (by show ¬ (Sum.inr p.1 : Key) = Sum.inr y; rw [h.1]; exact fun z => hy (Sum.inr.inj z))]
      exact h1
theorem run_at {fs fsE : FS} {rows : List Str} {i : Nat} {z : Str} (hE : runF fs0 rows = some fsE) (hi : rows[i]? = some z) (h : runF fs0 (rows.take i) = some fs) : ∃ fs', stepF fs z = some fs' ∧ runF fs0 (rows.take (i + 1)) = some fs' := by
  have e : rows = rows.take i ++ z :: rows.drop (i + 1) := by
    have := List.take_append_drop i rows
    rw [List.drop_eq_getElem?_toList_append, hi] at this
    exact this.symm
  rw [e, runF_app, h] at hE
  have hE2 : ((stepF fs z).bind fun fs' => runF fs' (rows.drop (i + 1))) = some fsE := hE
  cases hs : stepF fs z with
  | none => rw [hs] at hE2; cases hE2
  | some fs' =>
    refine ⟨fs', rfl, ?_⟩
    rw [List.take_add_one, hi, runF_app, h]
    show ((stepF fs z).bind fun f => runF f []) = _
    rw [hs]
    rfl
section
variable {P : Program} {w : World} {K : PySem.W.Frag} {mg : Str → Option Value} {base : Heap}
def sp_SettingsFile_take_kept (K : PySem.W.Frag) (T : Top K mg) : Sp := fun vs H Q _ => ∃ (H0 : Hp) (x : Addr) (t : Str) (rows : List Str) (fs : FS) (A : Parts) (z : Str) (r : Int) (p : Str) (v : Option Str), vs = [.ref x, .str z] ∧ FileP T.C_SettingsFile H0 H x t rows fs A ∧ Sm 99998 fs ∧
  z.length ≤ 1000 ∧ keptS z = some (r, p, v) ∧ (r, p) ∉ fs.kept.map (·.1) ∧ ∀ H' A', FileP T.C_SettingsFile H0 H' x t rows { fs with kept := fs.kept ++ [((r, p), v)] } A' → Q .non H'
theorem ok_SettingsFile_take_kept (T : Top K mg) : FnOk P w K mg base CX0 5 T.f_SettingsFile_take_kept T.d_SettingsFile_take_kept ["self", "line"] (sp_SettingsFile_take_kept K T) := by
  have G_read_kept : FnOk P w K mg base CX0 4 T.f_read_kept T.d_read_kept ["line"] (sp_read_kept K) := ok_read_kept T
  refine T.F_SettingsFile_take_kept.ok scSettingsFile_take_kept (fun vs H Q E h => ?_) (fun cdv A outer s H vs Q E hr h => ?_)
  · obtain ⟨H0, x, t, rows, fs, A, z, r, p, v, rfl, _⟩ := h
    rfl
  · obtain ⟨H0, x, t, rows, fs, A, z, r, p, v, rfl, f, sm, hz, hk, hn, q⟩ := h
    refine ⟨_, (pss_cons (ps_set (i := 2) scSettingsFile_take_kept.nd rfl (.inl rfl) (pe_call G_read_kept (hr.mono (by decide)) (by rfl) T.g_read_kept T.F_read_kept.kp T.b_read_kept .nil pass0 (pa_cons (pv 1) pa_nil)))
      (pss_cons (ps_if (pt_cmpR op_isN (pv 2) pe_non (nomark _)) (pss_one (ps_ret pe_str)) pss_nil)
      (pss_cons (ps_asg (pv 2) (pg_tup rfl (pgs_cons (pg_name (i := 3) scSettingsFile_take_kept.nd rfl (.inl rfl)) (pgs_cons (pg_name (i := 4) scSettingsFile_take_kept.nd rfl (.inl rfl)) (pgs_cons (pg_name (i := 5) scSettingsFile_take_kept.nd rfl (.inl rfl)) pgs_nil)))))
      (pss_cons (ps_if (pt_cmp (pc_din (hu_of hr) (pe_tup (pa_cons (pv 3) (pa_cons (pv 4) pa_nil))) (pe_fld (pv 0) rfl))) (pss_one (ps_ret pe_str)) pss_nil)
      (pss_cons (ps_dput (hu_of hr) (pe_fld (pv 0) rfl) (pe_tup (pa_cons (pv 3) (pa_cons (pv 4) pa_nil))) (pv 5) rfl)
      (pss_one (ps_ret pe_non))))))), ?_⟩
    refine ⟨.str z, rfl, z, rfl, hz, (fun e => by rw [hk] at e; cases e), fun r' p' v' e H1 a s1 ha => ?_⟩
    rw [hk] at e
    cases e
    have f1 := f.more s1
    refine ⟨.ref a, rfl, rfl, _, rfl, ?_⟩
    rw [decide_eq_false (show ¬ V.ref a = V.non from fun h => nomatch h)]
    refine iteF ?_
    refine ⟨.ref a, rfl, a, _, rfl, SqT.of ha, rfl, _, _, rfl, _, _, rfl, _, _, rfl, rfl, ?_⟩
    refine ⟨.int r, rfl, .str p, rfl, (by show 2 ≤ sizeLine; decide), fun kt nkt => ?_⟩
    have f2 := f1.more (same_new (o := .tup [.int r, .str p]) nkt)
    have hkt : (upd H1 kt (.tup [.int r, .str p])) kt = some (.tup (([Sum.inl r, Sum.inr p] : List Key).map kV)) := upd_same
    generalize upd H1 kt (.tup [.int r, .str p]) = H2 at f2 hkt
    refine ⟨.ref x, rfl, x, _, _, _, _, rfl, f2.ob, T.cl_SettingsFile, T.no_SettingsFile_kept_read, f_kept _ _ _ _ _ _ _, A.k, _, rfl, DGet.t (k := [Sum.inl r, Sum.inr p]) f2.ek hkt, _, rfl, ?_⟩
    have new := val_kept hn
    rw [new]
    refine iteF ?_
    have len : (keptKV fs.kept).length ≤ 100000 := by
      unfold keptKV
      rw [List.length_map]
      have := sm.c
      omega
    refine ⟨optV v, rfl, .ref x, rfl, x, _, _, _, _, rfl, f2.ob, T.cl_SettingsFile, T.no_SettingsFile_kept_read, f_kept _ _ _ _ _ _ _, .int r, rfl, .str p, rfl, (by show 2 ≤ sizeLine; decide), fun kt2 nkt2 => ?_⟩
    have f3 := f2.more (same_new (o := .tup [.int r, .str p]) nkt2)
    have hkt2 : (upd H2 kt2 (.tup [.int r, .str p])) kt2 = some (.tup (([Sum.inl r, Sum.inr p] : List Key).map kV)) := upd_same
    generalize upd H2 kt2 (.tup [.int r, .str p]) = H3 at f3 hkt2
    refine ⟨A.k, _, rfl, DPut.t (k := [Sum.inl r, Sum.inr p]) f3.ek hkt2 (big len), ?_⟩
    rw [putK_new _ new]
    have e : keptKV fs.kept ++ [(([Sum.inl r, Sum.inr p] : List Key), optV v)] = keptKV (fs.kept ++ [((r, p), v)]) := by
      unfold keptKV
      rw [List.map_append]
      rfl
    rw [e]
    exact q _ _ (f3.addKept ((r, p), v))
def sp_SettingsFile_take (K : PySem.W.Frag) (T : Top K mg) : Sp := fun vs H Q _ => ∃ (H0 : Hp) (x : Addr) (t : Str) (rows : List Str) (fs fs' : FS) (A : Parts) (z : Str), vs = [.ref x, .str z] ∧ FileP T.C_SettingsFile H0 H x t rows fs A ∧ Sm 99998 fs ∧
  z.length ≤ 1000 ∧ stepF fs z = some fs' ∧ ∀ H' A', FileP T.C_SettingsFile H0 H' x t rows fs' A' → Q .non H'
theorem ok_SettingsFile_take (T : Top K mg) : FnOk P w K mg base CX0 6 T.f_SettingsFile_take T.d_SettingsFile_take ["self", "line"] (sp_SettingsFile_take K T) := by
  have G_is_loose : FnOk P w K mg base CX0 1 T.f_is_loose T.d_is_loose ["line"] (sp_is_loose K) := ok_is_loose T
  have G_SettingsFile_take_kept : FnOk P w K mg base CX0 5 T.f_SettingsFile_take_kept T.d_SettingsFile_take_kept ["self", "line"] (sp_SettingsFile_take_kept K T) := ok_SettingsFile_take_kept T
  have G_is_header : FnOk P w K mg base CX0 3 T.f_is_header T.d_is_header ["line"] (sp_is_header K) := ok_is_header T
  have G_SettingsFile_take_header : FnOk P w K mg base CX0 2 T.f_SettingsFile_take_header T.d_SettingsFile_take_header ["self", "name"] (sp_SettingsFile_take_header K T) := ok_SettingsFile_take_header T
  have G_read_setting : FnOk P w K mg base CX0 3 T.f_read_setting T.d_read_setting ["line"] (sp_read_setting K) := ok_read_setting T
  have G_SettingsFile_take_setting : FnOk P w K mg base CX0 2 T.f_SettingsFile_take_setting T.d_SettingsFile_take_setting ["self", "key", "value"] (sp_SettingsFile_take_setting K T) := ok_SettingsFile_take_setting T
  refine T.F_SettingsFile_take.ok scSettingsFile_take (fun vs H Q E h => ?_) (fun cdv A outer s H vs Q E hr h => ?_)
  · obtain ⟨H0, x, t, rows, fs, fs', A, z, rfl, _⟩ := h
    rfl
  · obtain ⟨H0, x, t, rows, fs, fs', A, z, rfl, f, sm, hz, hs, q⟩ := h
    refine ⟨_, (pss_cons (ps_if (pt_val (pe_call G_is_loose (hr.mono (by decide)) (by rfl) T.g_is_loose T.F_is_loose.kp T.b_is_loose .nil pass0 (pa_cons (pv 1) pa_nil))) (pss_cons (ps_expr (pe_bm PySem.F.plainAttrs_list PySem.F.slot_list_append PySem.F.type_list_append mt_append (pe_fld (pv 0) rfl) (pa_cons (pv 1) pa_nil)))
      (pss_one (ps_ret pe_non))) pss_nil)
      (pss_cons (ps_if (pt_val (pe_m1 F.slot_str_startswith F.type_str_startswith mt_startswith (pv 1) (pe_glob (v := .str "#~") (by rfl) T.g_KEPT_MARK ⟨_, rfl⟩))) (pss_one (ps_ret (pe_meth (pv 0) T.cl_SettingsFile T.me_SettingsFile_take_kept G_SettingsFile_take_kept (hr.mono (by decide)) T.b_SettingsFile_take_kept .nil pass0 (pa_cons (pv 1) pa_nil)))) pss_nil)
      (pss_cons (ps_if (pt_val (pe_call G_is_header (hr.mono (by decide)) (by rfl) T.g_is_header T.F_is_header.kp T.b_is_header .nil pass0 (pa_cons (pv 1) pa_nil))) (pss_one (ps_ret (pe_meth (pv 0) T.cl_SettingsFile T.me_SettingsFile_take_header G_SettingsFile_take_header (hr.mono (by decide)) T.b_SettingsFile_take_header .nil pass0 (pa_cons (pe_slice sl_str (pv 1) (po_some pe_int) (po_some (pe_un un_neg pe_int))) pa_nil)))) pss_nil)
      (pss_cons (ps_set (i := 2) scSettingsFile_take.nd rfl (.inl rfl) (pe_call G_read_setting (hr.mono (by decide)) (by rfl) T.g_read_setting T.F_read_setting.kp T.b_read_setting .nil pass0 (pa_cons (pv 1) pa_nil)))
      (pss_cons (ps_if (pt_cmpR op_isN (pv 2) pe_non (nomark _)) (pss_one (ps_ret pe_str)) pss_nil)
      (pss_cons (ps_asg (pv 2) (pg_tup rfl (pgs_cons (pg_name (i := 3) scSettingsFile_take.nd rfl (.inl rfl)) (pgs_cons (pg_name (i := 4) scSettingsFile_take.nd rfl (.inl rfl)) pgs_nil))))
      (pss_one (ps_ret (pe_meth (pv 0) T.cl_SettingsFile T.me_SettingsFile_take_setting G_SettingsFile_take_setting (hr.mono (by decide)) T.b_SettingsFile_take_setting .nil pass0 (pa_cons (pv 3) (pa_cons (pv 4) pa_nil))))))))))), ?_⟩
    unfold My.stepF at hs
    have noM : ∀ {m : Str}, ¬ m = "loose" → ¬ m = "blocks" → ¬ m = "kept_read" → ¬ m = "settings_read" → ¬ m = "headers" → ¬ m = "rows" → ¬ m = "text" → (flds t A.r A.h A.s A.k A.b A.l).lookup m = none := fun h1 h2 h3 h4 h5 h6 h7 => f_no _ _ _ _ _ _ _ h1 h2 h3 h4 h5 h6 h7
    refine ⟨.str z, rfl, z, rfl, hz, fun H1 s1 => ⟨_, rfl, ite2 (fun e => ?_) (fun e => ?_)⟩⟩
    · rw [if_pos e] at hs
      cases hs
      have f1 := f.more s1
      have s5 := sm.e
      refine ⟨.ref x, rfl, x, _, _, _, _, rfl, f1.ob, T.cl_SettingsFile, T.no_SettingsFile_loose, f_loose _ _ _ _ _ _ _, .inl ⟨rfl, _, SqL.of f1.el⟩, .str z, rfl, A.l, _, _, rfl, rfl, f1.el, (by rw [List.length_map]; exact big (by omega)), ?_⟩
      have e2 : fs.loose.map V.str ++ [V.str z] = (fs.loose ++ [z]).map V.str := by rw [List.map_append]; rfl
      rw [e2]
      exact q _ _ (f1.addLoose z)
    · rw [if_neg e] at hs
      have f1 := f.more s1
      refine ⟨.str z, rfl, ⟨z, rfl⟩, z, _, rfl, rfl, _, rfl, ite2 (fun e2 => ?_) (fun e2 => ?_)⟩
      · rw [if_pos (show Txt.startswith z markS = true from e2)] at hs
        cases hk : keptS z with
        | none => rw [hk] at hs; cases hs
        | some w3 =>
          obtain ⟨r, p, v⟩ := w3
          rw [hk] at hs
          have hs : (if (r, p) ∈ fs.kept.map (·.1) then none else some { fs with kept := fs.kept ++ [((r, p), v)] }) = some fs' := hs
          by_cases hm : (r, p) ∈ fs.kept.map (·.1)
          · rw [if_pos hm] at hs; cases hs
          · rw [if_neg hm] at hs
            cases hs
            exact ⟨.ref x, rfl, x, _, _, rfl, f1.ob, noM (by decide +kernel) (by decide +kernel) (by decide +kernel) (by decide +kernel) (by decide +kernel) (by decide +kernel) (by decide +kernel), .str z, rfl, H0, x, t, rows, fs, A, z, r, p, v, rfl, f1, sm, hz, hk, hm, q⟩
      · rw [if_neg (show ¬ Txt.startswith z markS = true from e2)] at hs
        refine ⟨.str z, rfl, z, rfl, hz, fun H2 s2 => ⟨_, rfl, ite2 (fun e3 => ?_) (fun e3 => ?_)⟩⟩
        · rw [if_pos e3] at hs
          have f2 := f1.more s2
          have hn : nameS (headOf z) = true := by
            unfold headS at e3
            simp only [Bool.and_eq_true] at e3
            exact e3.2.2
          by_cases hm : headOf z ∈ fs.headers
          · rw [if_pos hm] at hs; cases hs
          · rw [if_neg hm] at hs
            cases hs
            exact ⟨.ref x, rfl, x, _, _, rfl, f2.ob, noM (by decide +kernel) (by decide +kernel) (by decide +kernel) (by decide +kernel) (by decide +kernel) (by decide +kernel) (by decide +kernel), .str z, rfl, 1, rfl, 1, rfl, -1, rfl, z, rfl, len1000 hz, H0, x, t, rows, fs, A, headOf z, rfl, f2, sm, hn, hm, q⟩
        · rw [if_neg e3] at hs
          have f2 := f1.more s2
          refine ⟨.str z, rfl, z, rfl, hz, (fun en => by rw [en] at hs; cases hs), fun k v ek H3 a s3 ha => ?_⟩
          rw [ek] at hs
          have hk1000 : k.length ≤ 1000 := by
            unfold setS at ek
            split at ek
            · cases ek
              exact Nat.le_trans (part3 z eqS).1 hz
            · cases ek
          have f3 := f2.more s3
          refine ⟨.ref a, rfl, rfl, _, rfl, ?_⟩
          rw [decide_eq_false (show ¬ V.ref a = V.non from fun h => nomatch h)]
          refine iteF ?_
          refine ⟨.ref a, rfl, a, _, rfl, SqT.of ha, rfl, _, _, rfl, _, _, rfl, rfl, ?_⟩
          cases hl : fs.headers.getLast? with
          | none =>
            rw [hl] at hs
            cases hs
          | some h =>
            rw [hl] at hs
            have hs : (if h ++ "." ++ k ∈ fs.settings.map (·.1) then none else some { fs with settings := fs.settings ++ [(h ++ "." ++ k, v)], blocks := fs.blocks ++ [(h ++ "." ++ k, fs.loose)], loose := [] }) = some fs' := hs
            by_cases hm : h ++ "." ++ k ∈ fs.settings.map (·.1)
            · rw [if_pos hm] at hs; cases hs
            · rw [if_neg hm] at hs
              cases hs
              exact ⟨.ref x, rfl, x, _, _, rfl, f3.ob, noM (by decide +kernel) (by decide +kernel) (by decide +kernel) (by decide +kernel) (by decide +kernel) (by decide +kernel) (by decide +kernel), .str k, rfl, .str v, rfl, H0, x, t, rows, fs, A, k, v, h, rfl, f3, sm, hk1000, hl, hm, q⟩
end
end K16

set_option Elab.async false
set_option linter.all false
set_option maxRecDepth 100000
namespace K16
open PySem PySem.Spec PyProof.Rows L2 My
/-- self.f = a new object -/
theorem fldNew {H0 H : Hp} {x C dx p : Addr} {fs fs' : List (Str × V)} {o : HO} (hx : H x = some (.ins C dx fs)) (np : H p = none) (s : Same H0 H) (nx : H0 x = none) :
    ∃ H', upd (upd H p o) x (.ins C dx fs') = H' ∧ H' x = some (.ins C dx fs') ∧ H' p = some o ∧ (∀ c u, H c = some u → c ≠ x → H' c = some u) ∧ Same H0 H' ∧ H0 p = none ∧ p ≠ x := by
  have px : p ≠ x := (ne_of_none hx np).symm
  refine ⟨_, rfl, upd_same, by rw [upd_ne px]; exact upd_same, fun c u e h => ?_, ?_, s.free np, px⟩
  · rw [upd_ne h, upd_ne (ne_of_none e np)]
    exact e
  · intro b u e
    rw [upd_ne (ne_of_none e nx), upd_ne (ne_of_none e (s.free np))]
    exact s b u e
section
variable {P : Program} {w : World} {K : PySem.W.Frag} {mg : Str → Option Value} {base : Heap}
def sp_SettingsFile___init__ (K : PySem.W.Frag) (T : Top K mg) : Sp := fun vs H Q _ => ∃ (H0 : Hp) (x dx : Addr) (t : Str) (fs : FS), vs = [.ref x, .str t] ∧ H = upd (upd H0 dx (.own x)) x (.ins T.C_SettingsFile dx []) ∧ H0 x = none ∧ H0 dx = none ∧ dx ≠ x ∧
  t.length ≤ 1000000 ∧ (rowsOf t).length ≤ 90000 ∧ (∀ z ∈ rowsOf t, z.length ≤ 1000) ∧ runF fs0 (rowsOf t) = some fs ∧ ∀ H' A, FileP T.C_SettingsFile H0 H' x t (rowsOf t) fs A → Q .non H'
theorem ok_SettingsFile___init__ (T : Top K mg) : FnOk P w K mg base CX0 7 T.f_SettingsFile___init__ T.d_SettingsFile___init__ ["self", "text"] (sp_SettingsFile___init__ K T) := by
  have G_SettingsFile_take : FnOk P w K mg base CX0 6 T.f_SettingsFile_take T.d_SettingsFile_take ["self", "line"] (sp_SettingsFile_take K T) := ok_SettingsFile_take T
  refine T.F_SettingsFile___init__.ok scSettingsFile___init__ (fun vs H Q E h => ?_) (fun cdv A outer s H vs Q E hr h => ?_)
  · obtain ⟨H0, x, dx, t, fs, rfl, _⟩ := h
    rfl
  · obtain ⟨H0, x, dx, t, fsE, rfl, eH, nx, ndx, nex, ht, hr1, hr2, hrun, q⟩ := h
    have s0 : Same H0 H := by
      rw [eH]
      intro b o e
      rw [upd_ne (ne_of_none e nx), upd_ne (ne_of_none e ndx)]
      exact e
    have hx0 : H x = some (.ins T.C_SettingsFile dx []) := by rw [eH]; exact upd_same
    obtain ⟨t2, p2, q2⟩ : ∃ t', PSs (cxOf CX0 P w K mg base N_SettingsFile___init__ "SettingsFile.__init__" (defScope s_SettingsFile___init__) T.f_SettingsFile___init__ cdv A outer s H E).nox ((defBody s_SettingsFile___init__).drop 3) t' ∧ ∀ (r : Addr) (H2 : Hp), H2 x = some (.ins T.C_SettingsFile dx (flds2 t r)) → H2 r = some (.lst ((rowsOf t).map V.str)) → Same H0 H2 → H0 r = none →
        t' { nx := fun _ H' => Q .non H', rt := Q } [some (.ref x), some (.str t), none, none, none] H2 := by
      refine ⟨_, (pss_cons (ps_fld (pv 0) (pe_lst pa_nil) rfl)
      (pss_cons (ps_fld (pv 0) pe_dnewK rfl)
      (pss_cons (ps_fld (pv 0) pe_dnewT rfl)
      (pss_cons (ps_fld (pv 0) pe_dnewK rfl)
      (pss_cons (ps_fld (pv 0) (pe_lst pa_nil) rfl)
      (pss_one (ps_for PassesOwn.never rfl (pi_enum (by rfl) T.m_enumerate (pa_cons (pe_callTy call_list_of (by rfl) T.m_list (by decide +kernel) (pa_cons (pe_fld (pv 0) rfl) pa_nil)) pa_nil)) (pg_tup rfl (pgs_cons (pg_name (i := 2) scSettingsFile___init__.nd rfl (.inl rfl)) (pgs_cons (pg_name (i := 3) scSettingsFile___init__.nd rfl (.inl rfl)) pgs_nil))) (pss_cons (ps_set (i := 4) scSettingsFile___init__.nd rfl (.inl rfl) (pe_meth (pv 0) T.cl_SettingsFile T.me_SettingsFile_take G_SettingsFile_take (hr.mono (by decide)) T.b_SettingsFile_take .nil pass0 (pa_cons (pv 3) pa_nil)))
      (pss_one (ps_if (pt_cmpR op_notN (pv 4) pe_non (nomark _)) (pss_one ps_never) pss_nil)))))))))), fun r H2 hx2 hr2' s2 nr => ?_⟩
      have cl := T.cl_SettingsFile
      have few : ∀ {l : List (Str × V)}, l.length ≤ 20 → l.length < 1000 := fun h => by omega
      have l1 : (flds1 t).length ≤ 1 := putF_len _ _ _
      have l2 : (flds2 t r).length ≤ 2 := Nat.le_trans (putF_len _ _ _) (by omega)
      refine ⟨Nat.zero_le _, fun h nh => ⟨.ref x, rfl, x, _, _, _, rfl, (by rw [upd_ne (ne_of_none hx2 nh)]; exact hx2), cl, T.no_SettingsFile_headers, few (by omega), ?_⟩⟩
      obtain ⟨H3, e3, x3, h3, k3, s3, nh0, hne⟩ := fldNew (o := .lst []) (fs' := flds3 t r h) hx2 nh s2 nx
      rw [show putF "headers" (V.ref h) (flds2 t r) = flds3 t r h from rfl, e3]
      have l3 : (flds3 t r h).length ≤ 3 := Nat.le_trans (putF_len _ _ _) (by omega)
      have r3 := k3 _ _ hr2' (lstNe hr2' hx2 (fun _ z => nomatch z))
      have rh : r ≠ h := ne_of_none hr2' nh
      intro sA nsA
      refine ⟨.ref x, rfl, x, _, _, _, rfl, (by rw [upd_ne (ne_of_none x3 nsA)]; exact x3), cl, T.no_SettingsFile_settings_read, few (by omega), ?_⟩
      obtain ⟨H4, e4, x4, s4', k4, s4, ns0, sne⟩ := fldNew (o := .dK []) (fs' := flds4 t r h sA) x3 nsA s3 nx
      rw [show putF "settings_read" (V.ref sA) (flds3 t r h) = flds4 t r h sA from rfl, e4]
      have l4 : (flds4 t r h sA).length ≤ 4 := Nat.le_trans (putF_len _ _ _) (by omega)
      have r4 := k4 _ _ r3 (lstNe r3 x3 (fun _ z => nomatch z))
      have h4 := k4 _ _ h3 hne
      intro kA nkA
      refine ⟨.ref x, rfl, x, _, _, _, rfl, (by rw [upd_ne (ne_of_none x4 nkA)]; exact x4), cl, T.no_SettingsFile_kept_read, few (by omega), ?_⟩
      obtain ⟨H5, e5, x5, k5', k5, s5, nk0, kne⟩ := fldNew (o := .dT []) (fs' := flds5 t r h sA kA) x4 nkA s4 nx
      rw [show putF "kept_read" (V.ref kA) (flds4 t r h sA) = flds5 t r h sA kA from rfl, e5]
      have l5 : (flds5 t r h sA kA).length ≤ 5 := Nat.le_trans (putF_len _ _ _) (by omega)
      have r5 := k5 _ _ r4 (lstNe r4 x4 (fun _ z => nomatch z))
      have h5 := k5 _ _ h4 hne
      have sA5 := k5 _ _ s4' sne
      intro bA nbA
      refine ⟨.ref x, rfl, x, _, _, _, rfl, (by rw [upd_ne (ne_of_none x5 nbA)]; exact x5), cl, T.no_SettingsFile_blocks, few (by omega), ?_⟩
      obtain ⟨H6, e6, x6, b6', k6, s6, nb0, bne⟩ := fldNew (o := .dK []) (fs' := flds6 t r h sA kA bA) x5 nbA s5 nx
      rw [show putF "blocks" (V.ref bA) (flds5 t r h sA kA) = flds6 t r h sA kA bA from rfl, e6]
      have l6 : (flds6 t r h sA kA bA).length ≤ 6 := Nat.le_trans (putF_len _ _ _) (by omega)
      have r6 := k6 _ _ r5 (lstNe r5 x5 (fun _ z => nomatch z))
      have h6 := k6 _ _ h5 hne
      have sA6 := k6 _ _ sA5 sne
      have kA6 := k6 _ _ k5' kne
      have sb : sA ≠ bA := ne_of_none sA5 nbA
      refine ⟨Nat.zero_le _, fun lA nlA => ⟨.ref x, rfl, x, _, _, _, rfl, (by rw [upd_ne (ne_of_none x6 nlA)]; exact x6), cl, T.no_SettingsFile_loose, few (by omega), ?_⟩⟩
      obtain ⟨H7, e7, x7, l7', k7, s7, nl0, lne⟩ := fldNew (o := .lst []) (fs' := flds t r h sA kA bA lA) x6 nlA s6 nx
      rw [show putF "loose" (V.ref lA) (flds6 t r h sA kA bA) = flds t r h sA kA bA lA from rfl, e7]
      have r7 := k7 _ _ r6 (lstNe r6 x6 (fun _ z => nomatch z))
      have h7 := k7 _ _ h6 hne
      have sA7 := k7 _ _ sA6 sne
      have kA7 := k7 _ _ kA6 kne
      have bA7 := k7 _ _ b6' bne
      have rl : r ≠ lA := ne_of_none r6 nlA
      have hl : h ≠ lA := ne_of_none h6 nlA
      -- the lines, one after another
      refine ⟨.ref x, rfl, x, _, _, _, _, rfl, x7, cl, T.no_SettingsFile_rows, f_rows _ _ _ _ _ _ _, r, _, rfl, .inl (SqL.of r7), fun c nc => ?_⟩
      have sc : Same H7 (upd H7 c (.lst ((rowsOf t).map V.str))) := same_new nc
      have hc : (upd H7 c (.lst ((rowsOf t).map V.str))) c = some (.lst ((rowsOf t).map V.str)) := upd_same
      have ncs : c ≠ x ∧ c ≠ r ∧ c ≠ h ∧ c ≠ sA ∧ c ≠ kA ∧ c ≠ bA ∧ c ≠ lA := ⟨(ne_of_none x7 nc).symm, (ne_of_none r7 nc).symm, (ne_of_none h7 nc).symm, (ne_of_none sA7 nc).symm, (ne_of_none kA7 nc).symm, (ne_of_none bA7 nc).symm, (ne_of_none l7' nc).symm⟩
      generalize upd H7 c (.lst ((rowsOf t).map V.str)) = H8 at sc hc
      let foot : Addr → Prop := fun b => b = x ∨ b = r ∨ b = h ∨ b = sA ∨ b = kA ∨ b = bA ∨ b = lA
      have dec : ∀ b, Decidable (foot b) := fun b => by unfold foot; infer_instance
      let G0 : Hp := fun b => if foot b then none else H8 b
      have gNone : ∀ b, foot b → G0 b = none := fun b hb => if_pos hb
      have gSome : ∀ b, ¬ foot b → G0 b = H8 b := fun b hb => if_neg hb
      have gSame : Same G0 H8 := fun b o e => by
        by_cases hb : foot b
        · rw [gNone b hb] at e; cases e
        · rw [gSome b hb] at e; exact e
      have gC : G0 c = some (.lst ((rowsOf t).map V.str)) := by
        rw [gSome c (fun hb => by
          obtain ⟨n1, n2, n3, n4, n5, n6, n7⟩ := ncs
          rcases hb with z | z | z | z | z | z | z
          · exact n1 z
          · exact n2 z
          · exact n3 z
          · exact n4 z
          · exact n5 z
          · exact n6 z
          · exact n7 z)]
        exact hc
      have gH0 : Same H0 G0 := fun b o e => by
        have hb : ¬ foot b := fun hb => by
          rcases hb with z | z | z | z | z | z | z
          · exact ne_of_none e nx z
          · exact ne_of_none e nr z
          · exact ne_of_none e nh0 z
          · exact ne_of_none e ns0 z
          · exact ne_of_none e nk0 z
          · exact ne_of_none e nb0 z
          · exact ne_of_none e nl0 z
        rw [gSome b hb]
        exact sc _ _ (s7 b o e)
      have f0 : FileP T.C_SettingsFile G0 H8 x t (rowsOf t) fs0 ⟨dx, r, h, sA, kA, bA, lA, []⟩ :=
        ⟨gSame, sc _ _ x7, sc _ _ r7, sc _ _ h7, sc _ _ sA7, sc _ _ kA7, sc _ _ bA7, sc _ _ l7', .nil, rh, rl, hl, sb, ⟨gNone _ (.inl rfl), gNone _ (.inr (.inl rfl)), gNone _ (.inr (.inr (.inl rfl))), gNone _ (.inr (.inr (.inr (.inl rfl)))), gNone _ (.inr (.inr (.inr (.inr (.inl rfl))))), gNone _ (.inr (.inr (.inr (.inr (.inr (.inl rfl)))))), gNone _ (.inr (.inr (.inr (.inr (.inr (.inr rfl))))))⟩, fs0_ok⟩
      refine ⟨c, _, rfl, SqL.of hc, for_it (walk_enum (xs := (rowsOf t).map V.str)) (fun i σ H3 => ∃ (fs : FS) (A : Parts) (y2 y3 y4 : Option V), σ = [some (.ref x), some (.str t), y2, y3, y4] ∧ FileP T.C_SettingsFile G0 H3 x t (rowsOf t) fs A ∧ runF fs0 ((rowsOf t).take i) = some fs ∧ Sm i fs) ?_ ?_ ?_ ?_⟩
      · exact ⟨fs0, _, none, none, none, rfl, f0, rfl, ⟨Nat.le_refl _, Nat.le_refl _, Nat.le_refl _, Nat.le_refl _, Nat.le_refl _⟩⟩
      · rintro i σ H9 _ ⟨fs, A', y2, y3, y4, _, f, _⟩
        exact SqL.of (f.same _ _ gC)
      · rintro i v σ H9 H10 hi ⟨fs, A', y2, y3, y4, rfl, f, hrun', sm⟩ ⟨tt, x1, x2, rfl, ntt, rfl, e1, e2⟩
        cases e1
        rw [List.length_map] at hi
        have hzi : (rowsOf t)[i]? = some (rowsOf t)[i] := List.getElem?_eq_getElem hi
        have ex2 : x2 = .str (rowsOf t)[i] := by
          have e2 : ((rowsOf t).map V.str)[i]? = some x2 := e2
          rw [List.getElem?_map, hzi] at e2
          exact (Option.some.inj e2).symm
        subst ex2
        obtain ⟨fs', hst, hrn⟩ := run_at hrun hzi hrun'
        have f2 := f.more (same_new (o := .tup [.int (i : Nat), .str (rowsOf t)[i]]) ntt)
        refine ⟨tt, _, rfl, SqT.of upd_same, rfl, _, _, rfl, _, _, rfl, rfl, ?_⟩
        refine ⟨.ref x, rfl, x, _, _, rfl, f2.ob, f_no _ _ _ _ _ _ _ (by decide +kernel) (by decide +kernel) (by decide +kernel) (by decide +kernel) (by decide +kernel) (by decide +kernel) (by decide +kernel), .str (rowsOf t)[i], rfl, G0, x, t, rowsOf t, fs, fs', A', _, rfl, f2, ?_, hr2 _ (List.getElem_mem hi), hst, fun H' A'' f3 => ?_⟩
        · obtain ⟨a1, a2, a3, a4, a5⟩ := sm
          constructor <;> omega
        · refine ⟨.non, rfl, rfl, _, rfl, iteNS rfl ?_⟩
          exact ⟨fs', A'', _, _, _, rfl, f3, hrn, sm.step hst⟩
      · rintro σ H9 ⟨fs, A', y2, y3, y4, rfl, f, hrun', sm⟩
        rw [List.length_map, List.take_of_length_le (Nat.le_refl _), hrun] at hrun'
        cases hrun'
        exact q _ _ (f.weaken gH0)
    refine ⟨_, (pss_cons (ps_if (pt_not (pt_val (pe_callB call_isi (by rfl) T.m_isinstance (by decide +kernel) (pa_cons (pv 1) (pa_cons (pe_bltn (v := .ty "str") (by rfl) T.m_str (by decide +kernel) rfl) pa_nil))))) (pss_one ps_never) pss_nil)
      (pss_cons (ps_fld (pv 0) (pv 1) rfl)
      (pss_cons (ps_fld (pv 0) (pe_ifExp (pt_cmpR op_ne (pv 1) pe_str (nomark _)) (pe_m1 F.slot_str_split F.type_str_split mt_split (pv 1) pe_str) (pe_lst pa_nil)) rfl)
      p2))), ?_⟩
    refine ⟨.str t, rfl, _, _, _, _, true, rfl, ClsV.ty "str", .base (.str t), kit_ty (by decide +kernel), true, rfl, iteF ?_⟩
    refine ⟨.str t, rfl, .ref x, rfl, x, _, _, _, rfl, hx0, T.cl_SettingsFile, T.no_SettingsFile_text, (by show 0 < 1000; decide), ?_⟩
    have x1 : (upd H x (.ins T.C_SettingsFile dx (flds1 t))) x = some (.ins T.C_SettingsFile dx (flds1 t)) := upd_same
    have s1 : Same H0 (upd H x (.ins T.C_SettingsFile dx (flds1 t))) := upd_off nx s0
    rw [show putF "text" (V.str t) [] = flds1 t from rfl]
    generalize upd H x (.ins T.C_SettingsFile dx (flds1 t)) = H1 at x1 s1
    have l1 : (flds1 t).length ≤ 1 := putF_len _ _ _
    refine ⟨.str t, rfl, rfl, _, rfl, ite2 (fun e => ?_) (fun e => ?_)⟩
    · have et : ¬ t = "" := fun h => by
        subst h
        cases e
      have hrw : rowsOf t = Txt.split t "\n" := if_neg et
      refine ⟨.str t, rfl, ⟨t, rfl⟩, t, _, rfl, rfl, rfl, Nat.le_trans (Nat.add_le_add_right ht 2) (by decide), fun r nr => ?_⟩
      rw [← hrw]
      refine ⟨.ref x, rfl, x, _, _, _, rfl, (by rw [upd_ne (ne_of_none x1 nr)]; exact x1), T.cl_SettingsFile, T.no_SettingsFile_rows, by omega, ?_⟩
      obtain ⟨H2, e2, x2, r2, k2, s2, nr0, rne⟩ := fldNew (o := .lst ((rowsOf t).map V.str)) (fs' := flds2 t r) x1 nr s1 nx
      rw [show putF "rows" (V.ref r) (flds1 t) = flds2 t r from rfl, e2]
      exact q2 r H2 x2 r2 s2 nr0
    · have et : t = "" := by
        by_cases h : t = ""
        · exact h
        · rw [eq_str, decide_eq_false h] at e
          exact absurd rfl e
      have hrw : (rowsOf t).map V.str = [] := by rw [show rowsOf t = [] from if_pos et]; rfl
      refine ⟨Nat.zero_le _, fun r nr => ?_⟩
      refine ⟨.ref x, rfl, x, _, _, _, rfl, (by rw [upd_ne (ne_of_none x1 nr)]; exact x1), T.cl_SettingsFile, T.no_SettingsFile_rows, by omega, ?_⟩
      obtain ⟨H2, e2, x2, r2, k2, s2, nr0, rne⟩ := fldNew (o := .lst []) (fs' := flds2 t r) x1 nr s1 nx
      rw [show putF "rows" (V.ref r) (flds1 t) = flds2 t r from rfl, e2]
      exact q2 r H2 x2 (by rw [hrw]; exact r2) s2 nr0
end
end K16

set_option Elab.async false
set_option linter.all false
set_option maxRecDepth 100000
namespace K16
open PySem PySem.Spec PyProof.Rows L2 My
theorem can_strs {n : Nat} {l : List Str} (h : ∀ y ∈ l, Plain n y) : PyData.canLayAll0 (l.map .str) = true := by
  induction l with
  | nil => rfl
  | cons y r ih =>
    show (PySem.PyData.strOk y && PyData.canLayAll0 (r.map .str)) = true
    rw [ih fun z hz => h z (List.mem_cons_of_mem _ hz), Bool.and_true]
    unfold PySem.PyData.strOk
    rw [Array.all_eq_true_iff_forall_mem]
    intro c hc
    exact decide_eq_true (Nat.lt_trans ((h y (List.mem_cons_self ..)).small c (Array.mem_toList_iff.mpr hc)) (by decide))
theorem shaped_strs {n : Nat} {l : List Str} (h : ∀ y ∈ l, Plain n y) : SeqAt.shaped (.list (l.map .str)) = true := by
  unfold SeqAt.shaped
  rw [Bool.and_eq_true]
  refine ⟨can_strs h, decide_eq_true ?_⟩
  show PyData.depthAll (l.map .str) + 1 ≤ 64
  rw [depthAll_strs']
  decide
theorem eqv_nil (l : List Str) : PyData.eqv (.list (l.map .str)) (.list []) = l.isEmpty := by
  cases l with
  | nil => rfl
  | cons y r => rfl
theorem _root_.My.Kept.off {b p : Addr} {H H3 : Hp} {o : HO} (k : Kept b H H3) (np : H p = none) : Kept b H (upd H3 p o) := fun x u h e => by
  rw [upd_ne (ne_of_none e np)]
  exact k x u h e
theorem _root_.My.Bag.off {b p : Addr} {H3 : Hp} {o : HO} (h : Bag H3 b) (ne : p ≠ b) : Bag (upd H3 p o) b := by
  obtain ⟨n, m, e, r⟩ := h
  exact ⟨n, m, by rw [upd_ne ne.symm]; exact e, r⟩
theorem ix_nat {n : Nat} {d : Int} (h0 : 0 ≤ d) (h1 : d < n) : ixN n d = some d.toNat := by
  unfold ixN
  rw [if_pos h0, if_pos h1]
theorem erase_map {α β : Type} (f : α → β) : ∀ (l : List α) (i : Nat), (l.map f).eraseIdx i = (l.eraseIdx i).map f
  | [], _ => rfl
  | _ :: _, 0 => rfl
  | a :: r, i + 1 => by
    show f a :: (r.map f).eraseIdx i = f a :: (r.eraseIdx i).map f
    rw [erase_map f r i]
theorem erase_perm {α : Type} : ∀ (l : List α) (i : Nat) (h : i < l.length), (l[i] :: l.eraseIdx i).Perm l
  | a :: r, 0, _ => List.Perm.refl _
  | a :: r, i + 1, h => by
    have hi : i < r.length := by simpa using h
    have ih := erase_perm r i hi
    show (r[i] :: a :: r.eraseIdx i).Perm (a :: r)
    exact (List.Perm.swap a r[i] _).trans (ih.cons a)
end K16

set_option Elab.async false
set_option linter.all false
set_option maxRecDepth 100000
namespace My
open PySem PySem.Spec PyProof.Rows L2
/-- a for in a generator over a walk -/
theorem gfor_it {J : It} {n : Nat} {G : Hp → Prop} {Y : Nat → Hp → V → Hp → Prop} (w : Walk J n G Y) {g : TG} {tb : TGn} {D : GEnds} {ys : List V} {σ : L2.St} {H : Hp} (Pv : Nat → List V → L2.St → Hp → Prop) (h0 : Pv 0 ys σ H) (hG : ∀ i ys σ H, i ≤ n → Pv i ys σ H → G H)
    (hs : ∀ i x ys σ H H', i < n → Pv i ys σ H → Y i H x H' → g x σ H' fun σ2 H2 => tb { D with nx := Pv (i + 1), ct := Pv (i + 1), bk := D.nx } ys σ2 H2) (hd : ∀ ys σ H, Pv n ys σ H → D.nx ys σ H) :
    ∃ W : Nat → Nat → List V → L2.St → Hp → Prop, (∃ m, W 0 m ys σ H) ∧ ∀ i m ys σ H, W i m ys σ H →
      (J.stop i H ∧ D.nx ys σ H) ∨ (J.go i H ∧ ∃ N : List V → L2.St → Hp → Prop, (∀ ys' σ' H', N ys' σ' H' → ∃ m', m' < m ∧ W (i + 1) m' ys' σ' H') ∧ ∀ x H', J.yld i H x H' → g x σ H' fun σ2 H2 => tb { D with nx := N, ct := N, bk := D.nx } ys σ2 H2) := by
  refine ⟨fun i m ys σ H => m = n - i ∧ i ≤ n ∧ Pv i ys σ H, ⟨n, by simp, Nat.zero_le _, h0⟩, ?_⟩
  rintro i m ys σ H ⟨rfl, hi, p⟩
  have q := hG i ys σ H hi p
  by_cases hlt : i < n
  · exact .inr ⟨w.goes i H hlt q, Pv (i + 1), fun ys' σ' H' p' => ⟨n - (i + 1), by omega, rfl, hlt, p'⟩, fun x H' y => hs i x ys σ H H' hlt p (w.yields i H x H' hlt q y)⟩
  · have e : i = n := by omega
    subst e
    exact .inl ⟨w.stops H q, hd ys σ H p⟩
/-- the value at a place -/
def valS (l : List (Str × Str)) (y : Str) : Option Str := (l.find? fun p => decide (p.1 = y)).map (·.2)
theorem val_get : ∀ (l : List (Str × Str)) (y : Str), valV (setKV l) (Sum.inr y : Key) = (valS l y).map V.str
  | [], _ => rfl
  | p :: r, y => by
    by_cases h : p.1 = y
    · have e : valS (p :: r) y = some p.2 := by
        unfold valS
        rw [List.find?_cons, show decide (p.1 = y) = true from decide_eq_true h]
        rfl
      rw [e]
      exact valV_pos (p := (Sum.inr p.1, V.str p.2)) (by show (Sum.inr p.1 : Key) = Sum.inr y; rw [h])
    · have e : valS (p :: r) y = valS r y := by
        unfold valS
        rw [List.find?_cons, show decide (p.1 = y) = false from decide_eq_false h]
      rw [e, ← val_get r y]
      exact valV_neg (p := (Sum.inr p.1, V.str p.2)) (by show ¬ (Sum.inr p.1 : Key) = Sum.inr y; exact fun z => h (Sum.inr.inj z))
theorem valS_some : ∀ (l : List (Str × Str)) (y : Str), (valS l y).isSome = decide (y ∈ l.map (·.1))
  | [], _ => rfl
  | p :: r, y => by
    by_cases h : p.1 = y
    · unfold valS
      rw [List.find?_cons, show decide (p.1 = y) = true from decide_eq_true h]
      exact (decide_eq_true (by rw [List.map_cons, h]; exact List.mem_cons_self ..)).symm
    · have e : valS (p :: r) y = valS r y := by
        unfold valS
        rw [List.find?_cons, show decide (p.1 = y) = false from decide_eq_false h]
      rw [e, valS_some r y]
      refine decide_eq_decide.mpr ⟨fun m => ?_, fun m => ?_⟩
      · rw [List.map_cons]; exact List.mem_cons_of_mem _ m
      · rw [List.map_cons] at m
        rcases List.mem_cons.mp m with z | z
        · exact absurd z.symm h
        · exact z
theorem valS_at : ∀ {l : List (Str × Str)} {i : Nat} {p : Str × Str}, (l.map (·.1)).Nodup → l[i]? = some p → valS l p.1 = some p.2
  | [], i, p, _, e => by simp at e
  | a :: r, 0, p, _, e => by
    cases (Option.some.inj e : a = p)
    unfold valS
    rw [List.find?_cons, show decide (a.1 = a.1) = true from decide_eq_true rfl]
    rfl
  | a :: r, i + 1, p, h, e => by
    have e2 : r[i]? = some p := e
    have hr := List.nodup_cons.mp (show (a.1 :: r.map (·.1)).Nodup from h)
    have ne : ¬ a.1 = p.1 := fun z => hr.1 (by rw [z]; exact List.mem_map.mpr ⟨p, List.mem_of_getElem? e2, rfl⟩)
    have : valS (a :: r) p.1 = valS r p.1 := by
      unfold valS
      rw [List.find?_cons, show decide (a.1 = p.1) = false from decide_eq_false ne]
    rw [this]
    exact valS_at hr.2 e2
theorem keys_map (l : List (Str × Str)) : ((setKV l).map fun kv => kV kv.1) = (l.map (·.1)).map V.str := by
  unfold setKV
  rw [List.map_map, List.map_map]
  rfl
theorem setKV_len (l : List (Str × Str)) : (setKV l).length = l.length := by unfold setKV; rw [List.length_map]
theorem setKV_at {l : List (Str × Str)} {i : Nat} {k : Key} {v : V} (h : (setKV l)[i]? = some (k, v)) : ∃ p, l[i]? = some p ∧ k = .inr p.1 ∧ v = .str p.2 := by
  unfold setKV at h
  rw [List.getElem?_map] at h
  cases e : l[i]? with
  | none => rw [e] at h; cases h
  | some p => rw [e] at h; cases h; exact ⟨p, rfl, rfl, rfl⟩
/-- the pairs (place, value) as they stand -/
def PairsAt (H : Hp) : List V → List (Str × Str) → Prop := Paired fun v p => ∃ a, v = .ref a ∧ H a = some (.tup [.str p.1, .str p.2])
theorem PairsAt.same {H H' : Hp} (s : Same H H') : ∀ {vs : List V} {l : List (Str × Str)}, PairsAt H vs l → PairsAt H' vs l
  | _, _, .nil => .nil
  | _, _, .cons ⟨a, e, h⟩ t => .cons ⟨a, e, s _ _ h⟩ (PairsAt.same s t)
end My
set_option Elab.async false
set_option linter.all false
set_option maxRecDepth 100000
set_option maxHeartbeats 1000000
namespace K16
open PySem PySem.Spec PyProof.Rows L2 My SkE
/-- what kept() returns: the kept settings as tuples -/
def KeptAt (H : Hp) (us : List V) (l : List ((Int × Str) × Option Str)) : Prop := Paired (fun (v : V) (e : (Int × Str) × Option Str) => ∃ a, v = .ref a ∧ H a = some (.tup [.int e.1.1, .str e.1.2, optV e.2])) us l
theorem KeptAt.same {H H' : Hp} (s : Same H H') : ∀ {us : List V} {l : List ((Int × Str) × Option Str)}, KeptAt H us l → KeptAt H' us l
  | _, _, .nil => .nil
  | _, _, .cons ⟨a, e, h⟩ t => .cons ⟨a, e, s _ _ h⟩ (KeptAt.same s t)
theorem KeptAt.off {H : Hp} {c : Addr} {u : List V} {o : HO} (hc : H c = some (.lst u)) : ∀ {us : List V} {l : List ((Int × Str) × Option Str)}, KeptAt H us l → KeptAt (upd H c o) us l
  | _, _, .nil => .nil
  | _, _, .cons ⟨a, e, h⟩ t => .cons ⟨a, e, by
      rw [upd_ne (fun z => by rw [z, hc] at h; cases h)]
      exact h⟩ (KeptAt.off hc t)
theorem KeptAt.off' {H : Hp} {c : Addr} {od : Obj} {u o : HO} (hc : H c = some (.frz od u)) : ∀ {us : List V} {l : List ((Int × Str) × Option Str)}, KeptAt H us l → KeptAt (upd H c o) us l
  | _, _, .nil => .nil
  | _, _, .cons ⟨a, e, h⟩ t => .cons ⟨a, e, by
      rw [upd_ne (fun z => by rw [z, hc] at h; cases h)]
      exact h⟩ (KeptAt.off' hc t)
theorem keptKV_len (l : List ((Int × Str) × Option Str)) : (keptKV l).length = l.length := by unfold keptKV; rw [List.length_map]
theorem keptKV_at {l : List ((Int × Str) × Option Str)} {i : Nat} {k : List Key} {v : V} (h : (keptKV l)[i]? = some (k, v)) : ∃ e, l[i]? = some e ∧ k = [Sum.inl e.1.1, Sum.inr e.1.2] ∧ v = optV e.2 := by
  unfold keptKV at h
  rw [List.getElem?_map] at h
  cases q : l[i]? with
  | none => rw [q] at h; cases h
  | some e => rw [q] at h; cases h; exact ⟨e, rfl, rfl, rfl⟩
theorem kept_val : ∀ {l : List ((Int × Str) × Option Str)} {i : Nat} {e : (Int × Str) × Option Str}, (l.map (·.1)).Nodup → l[i]? = some e → valV (keptKV l) ([Sum.inl e.1.1, Sum.inr e.1.2] : List Key) = some (optV e.2)
  | a :: r, 0, e, _, h => by
    have h : a = e := Option.some.inj h
    rw [h]
    show valV (([Sum.inl e.1.1, Sum.inr e.1.2], optV e.2) :: keptKV r) _ = _
    unfold valV
    simp
  | a :: r, i + 1, e, n, h => by
    obtain ⟨n1, n2⟩ := List.nodup_cons.mp n
    have h : r[i]? = some e := h
    have ne : ¬ a.1 = e.1 := fun z => n1 (by
      show a.1 ∈ r.map (·.1)
      rw [z]
      exact List.mem_map_of_mem (List.mem_of_getElem? h))
    have ih := kept_val n2 h
    show valV (([Sum.inl a.1.1, Sum.inr a.1.2], optV a.2) :: keptKV r) _ = _
    have nk : ¬ (([Sum.inl a.1.1, Sum.inr a.1.2] : List Key) = [Sum.inl e.1.1, Sum.inr e.1.2]) := fun z => by
      injection z with z1 z2
      injection z2 with z2 _
      exact ne (Prod.ext (Sum.inl.inj z1) (Sum.inr.inj z2))
    unfold valV at ih ⊢
    rw [List.find?_cons_of_neg (by simpa using nk)]
    exact ih
section
variable {P : Program} {w : World} {K : PySem.W.Frag} {mg : Str → Option Value} {base : Heap}
def sp_SettingsFile_kept (K : PySem.W.Frag) (T : Top K mg) : Sp := fun vs H Q _ => ∃ (H0 : Hp) (x : Addr) (t : Str) (rows : List Str) (fs : FS) (A : Parts), vs = [.ref x] ∧ FileP T.C_SettingsFile H0 H x t rows fs A ∧ (fs.kept.map (·.1)).Nodup ∧ fs.kept.length ≤ 1000 ∧
  ∀ H' p us, Same H H' → H p = none → H' p = some (.lst us) → KeptAt H' us fs.kept → Q (.ref p) H'
theorem ok_SettingsFile_kept (T : Top K mg) : FnOk P w K mg base CX0 1 T.f_SettingsFile_kept T.d_SettingsFile_kept ["self"] (sp_SettingsFile_kept K T) := by
  refine T.F_SettingsFile_kept.ok scSettingsFile_kept (fun vs H Q E h => ?_) (fun cdv A outer s H vs Q E hr h => ?_)
  · obtain ⟨H0, x, t, rows, fs, A', rfl, _⟩ := h
    rfl
  · obtain ⟨H0, x, t, rows, fs, Ap, rfl, f, nd, hl, q⟩ := h
    refine ⟨_, (pss_one (ps_ret (pe_lock (pe_lc (own := [("release", 1), ("place", 2)]) (g := gTup K 2 (gCons (gName 1) (gCons (gName 2) gNil))) rfl scSettingsFile_kept.nd (pi_keys (pe_fld (pv 0) rfl)) (blkOk_by (N := N_SettingsFile_kept) (sc := defScope s_SettingsFile_kept) (by decide +kernel)) (fun _ _ _ _ _ => (pg_tup rfl (pgs_cons (pg_name (i := 1) scSettingsFile_kept.nd rfl (.inl rfl)) (pgs_cons (pg_name (i := 2) scSettingsFile_kept.nd rfl (.inl rfl)) pgs_nil)))) (fun _ _ _ _ _ => pts_nil) (fun _ _ _ _ _ => (pe_tup (pa_cons (pv 1) (pa_cons (pv 2) (pa_cons (pe_dget (td := tFld K (tVar 0) "kept_read") (hu_of hr) (pe_fld (pv 0) rfl) (pe_tup (pa_cons (pv 1) (pa_cons (pv 2) pa_nil))) (fun _ _ => rfl)) pa_nil))))))))), ?_⟩
    have xk : x ≠ Ap.k := ne_of f.ob f.ek (fun h => nomatch h)
    refine ⟨Ap.k, _, f.ek, trivial, fun od => ?_⟩
    have ob1 : (upd H Ap.k (.frz od (.dT (keptKV fs.kept)))) x = some (.ins T.C_SettingsFile Ap.dx (flds t Ap.r Ap.h Ap.s Ap.k Ap.b Ap.l)) := by rw [upd_ne xk]; exact f.ob
    have ek1 : (upd H Ap.k (.frz od (.dT (keptKV fs.kept)))) Ap.k = some (.frz od (.dT (keptKV fs.kept))) := upd_same
    have off1 : ∀ b o, b ≠ Ap.k → H b = some o → (upd H Ap.k (.frz od (.dT (keptKV fs.kept)))) b = some o := fun b o h e => by rw [upd_ne h]; exact e
    have none1 : ∀ b, (upd H Ap.k (.frz od (.dT (keptKV fs.kept)))) b = none → H b = none := fun b e => by
      by_cases h : b = Ap.k
      · rw [h, ek1] at e; cases e
      · rw [upd_ne h] at e; exact e
    generalize upd H Ap.k (.frz od (.dT (keptKV fs.kept))) = H1 at ob1 ek1 off1 none1
    refine ⟨.ref x, rfl, x, _, _, _, _, rfl, ob1, T.cl_SettingsFile, T.no_SettingsFile_kept_read, f_kept _ _ _ _ _ _ _, Ap.k, od, rfl, .inr ⟨_, ek1, fun D nD => lc_it walk_keysT (fun i H4 => Same H1 H4 ∧ ∃ us, H4 D = some (.lst us) ∧ KeptAt H4 us (fs.kept.take i)) ?_ ?_ ?_ ?_⟩⟩
    · exact ⟨same_new nD, [], upd_same, .nil⟩
    · rintro i H4 _ ⟨s4, _⟩
      exact s4 _ _ ek1
    · rintro i v H5 H4 hi ⟨s4, us, hD, pr⟩ ⟨rfl, k, u, a, hk, rfl, ha⟩
      obtain ⟨e, he, rfl, rfl⟩ := keptKV_at hk
      rw [keptKV_len] at hi
      refine ⟨a, _, rfl, SqT.of ha, rfl, _, _, rfl, _, _, rfl, rfl, rfl, ?_⟩
      simp only [tYes, if_true]
      have ul := paired_len pr
      rw [List.length_take] at ul
      refine ⟨.int e.1.1, rfl, .str e.1.2, rfl, .ref x, rfl, x, _, _, _, _, rfl, s4 _ _ ob1, T.cl_SettingsFile, T.no_SettingsFile_kept_read, f_kept _ _ _ _ _ _ _, .int e.1.1, rfl, .str e.1.2, rfl, (by show 2 ≤ sizeLine; decide), fun b nb => ?_⟩
      have s5 : Same H4 (upd H4 b (.tup [.int e.1.1, .str e.1.2])) := same_new nb
      refine ⟨Ap.k, optV e.2, rfl, .inr ⟨_, [Sum.inl e.1.1, Sum.inr e.1.2], b, .inr ⟨od, s5 _ _ (s4 _ _ ek1)⟩, rfl, upd_same, (kept_val nd he).symm⟩, (by show 3 ≤ sizeLine; decide), fun c nc => ?_⟩
      have s6 := s5.trans (same_new (o := .tup [.int e.1.1, .str e.1.2, optV e.2]) nc)
      have hc : (upd (upd H4 b (.tup [.int e.1.1, .str e.1.2])) c (.tup [.int e.1.1, .str e.1.2, optV e.2])) c = some (.tup [.int e.1.1, .str e.1.2, optV e.2]) := upd_same
      generalize upd (upd H4 b (.tup [.int e.1.1, .str e.1.2])) c (.tup [.int e.1.1, .str e.1.2, optV e.2]) = H6 at s6 hc
      refine ⟨us, s6 _ _ hD, small1000 (by omega), ?_, _, upd_same, ?_⟩
      · intro y u hy
        rw [upd_ne (ne_of_none hy nD)]
        exact s6 _ _ (s4 _ _ hy)
      · rw [List.take_add_one, he]
        exact paired_snoc (KeptAt.off (s6 _ _ hD) (KeptAt.same s6 pr)) ⟨c, rfl, by rw [upd_ne (fun z => by rw [z, s6 _ _ hD] at hc; cases hc)]; exact hc⟩
    · rintro H4 ⟨s4, us, hD, pr⟩
      rw [keptKV_len, List.take_length] at pr
      refine ⟨s4 _ _ ek1, q _ D us (fun b o e => ?_) (none1 D nD) (by rw [upd_ne (ne_of hD (s4 _ _ ek1) (fun h => nomatch h))]; exact hD) (KeptAt.off' (s4 _ _ ek1) pr)⟩
      by_cases hb : b = Ap.k
      · subst hb
        rw [f.ek] at e
        cases e
        exact upd_same
      · rw [upd_ne hb]
        exact s4 _ _ (off1 b o hb e)
end
end K16

set_option Elab.async false
set_option linter.all false
set_option maxRecDepth 100000
/-! Histories: dicts as lists of pairs, the slots of releases, a History in the heap. -/
namespace My
open PySem PySem.Spec PyProof.Rows L2
section
variable {κ ν : Type} [DecidableEq κ]
def getL (l : List (κ × ν)) (k : κ) : Option ν := (l.find? fun p => decide (p.1 = k)).map (·.2)
def putL (l : List (κ × ν)) (k : κ) (v : ν) : List (κ × ν) := if (l.any fun p => decide (p.1 = k)) = true then l.map (fun p => if p.1 = k then (p.1, v) else p) else l ++ [(k, v)]
def mergeL (l m : List (κ × ν)) : List (κ × ν) := m.foldl (fun acc p => putL acc p.1 p.2) l
def kvD (f : κ → Key) (g : ν → V) (l : List (κ × ν)) : List (Key × V) := l.map fun p => (f p.1, g p.2)
variable {f : κ → Key} {g : ν → V}
theorem kvD_len (l : List (κ × ν)) : (kvD f g l).length = l.length := List.length_map ..
theorem kvD_val (hf : ∀ a b, f a = f b → a = b) (l : List (κ × ν)) (k : κ) : valV (kvD f g l) (f k) = (getL l k).map g := by
  unfold valV kvD getL
  induction l with
  | nil => rfl
  | cons p r ih =>
    by_cases h : p.1 = k
    · simp [List.find?_cons, h]
    · have h2 : ¬ f p.1 = f k := fun e => h (hf _ _ e)
      rw [List.map_cons, List.find?_cons, List.find?_cons]
      show Option.map _ (match decide (f p.1 = f k) with | true => _ | false => _) = _
      rw [decide_eq_false h2]
      show _ = Option.map g (Option.map _ (match decide (p.1 = k) with | true => _ | false => _))
      rw [decide_eq_false h]
      exact ih
theorem kvD_put (hf : ∀ a b, f a = f b → a = b) (l : List (κ × ν)) (k : κ) (v : ν) : putK (kvD f g l) (f k) (g v) = kvD f g (putL l k v) := by
  unfold putK putL
  have e : ((kvD f g l).any fun kv => decide (kv.1 = f k)) = l.any fun p => decide (p.1 = k) := by
    unfold kvD
    rw [List.any_map]
    congr 1
    funext p
    exact decide_eq_decide.mpr ⟨fun e => hf _ _ e, fun e => congrArg f e⟩
  rw [e]
  by_cases h : (l.any fun p => decide (p.1 = k)) = true
  · rw [if_pos h, if_pos h]
    unfold kvD
    rw [List.map_map, List.map_map]
    refine List.map_congr_left fun p _ => ?_
    show (if f p.1 = f k then (f p.1, g v) else (f p.1, g p.2)) = (f (if p.1 = k then (p.1, v) else p).1, g (if p.1 = k then (p.1, v) else p).2)
    by_cases q : p.1 = k
    · rw [if_pos (congrArg f q), if_pos q]
    · rw [if_neg (fun z => q (hf _ _ z)), if_neg q]
  · rw [if_neg h, if_neg h]
    unfold kvD
    rw [List.map_append]
    rfl
theorem kvD_merge (hf : ∀ a b, f a = f b → a = b) : ∀ (m l : List (κ × ν)), mergeK (kvD f g l) (kvD f g m) = kvD f g (mergeL l m)
  | [], _ => rfl
  | p :: m, l => by
    show mergeK (putK (kvD f g l) (f p.1) (g p.2)) (kvD f g m) = _
    rw [kvD_put hf]
    exact kvD_merge hf m _
theorem putL_len (l : List (κ × ν)) (k : κ) (v : ν) : (putL l k v).length ≤ l.length + 1 := by
  unfold putL
  split
  · rw [List.length_map]; omega
  · rw [List.length_append]; exact Nat.le_refl _
theorem mergeL_len : ∀ (m l : List (κ × ν)), (mergeL l m).length ≤ l.length + m.length
  | [], l => Nat.le_refl _
  | p :: m, l => by
    have := mergeL_len m (putL l p.1 p.2)
    have h2 := putL_len l p.1 p.2
    show (mergeL (putL l p.1 p.2) m).length ≤ _
    rw [List.length_cons]
    omega
end
theorem inr_inj : ∀ a b : Str, (Sum.inr a : Key) = Sum.inr b → a = b := fun _ _ e => Sum.inr.inj e
theorem inl_inj : ∀ a b : Int, (Sum.inl a : Key) = Sum.inl b → a = b := fun _ _ e => Sum.inl.inj e
/-- a table: places to slots -/
abbrev Tb := List (Str × Int)
/-- a route: releases to places -/
abbrev Rt := List (Int × Str)
abbrev kvT : Tb → List (Key × V) := kvD Sum.inr V.int
abbrev kvR : Rt → List (Key × V) := kvD Sum.inl V.str
abbrev kvS : List (Str × Str) → List (Key × V) := kvD Sum.inr V.str
/-- where a place comes from -/
def origins (mv : List (Str × Str)) : List (Str × Str) := mv.foldl (fun acc m => putL acc m.2 m.1) []
def carryStep (mv : List (Str × Str)) (bef : Tb) (acc : Tb) (p : Str) : Tb :=
  match getL (origins mv) p with
  | some o => (match getL bef o with | some s => putL acc p s | none => acc)
  | none => (match getL bef p with | some s => if p ∈ mv.map (·.1) then acc else putL acc p s | none => acc)
def carry (mv : List (Str × Str)) (bef : Tb) (ps : List Str) : Tb := ps.foldl (carryStep mv bef) []
/-- the slots, and the routes of all slots -/
def placeStep (at_ : Int) (known : Tb) (st : Tb × List Rt) (p : Str) : Tb × List Rt :=
  match getL known p with
  | some s => (putL st.1 p s, st.2.modify s.toNat fun r => putL r at_ p)
  | none => (putL st.1 p (st.2.length : Nat), st.2 ++ [putL [] at_ p])
structure HS where
  tabs : List Tb
  rts : List Rt
  deriving DecidableEq
def hs0 : HS := ⟨[], []⟩
def lastT (hs : HS) : Tb := hs.tabs.getLast?.getD []
def placed (hs : HS) (known : Tb) (ps : List Str) : HS :=
  let r := ps.foldl (placeStep (hs.tabs.length : Nat) known) ([], hs.rts)
  ⟨hs.tabs ++ [r.1], r.2⟩
def knownOf (hs : HS) (mv : List (Str × Str)) (ret : Tb) (ps : List Str) : Tb := mergeL (mergeL [] (carry mv (lastT hs) ps)) ret
/-! ### a History in the heap -/
structure HPts where
  dx : Addr
  F : Addr
  S : Addr
  R : Addr
  D : Addr
  fv : List V
  tb : List Addr
  rt : List Addr
def hflds (A : HPts) : List (Str × V) := [("shipped_files", .ref A.F), ("slot_tables", .ref A.S), ("routes", .ref A.R), ("clashes", .ref A.D)]
structure HistP (C : Addr) (H0 H : Hp) (x : Addr) (hs : HS) (A : HPts) : Prop where
  same : Same H0 H
  ob : H x = some (.ins C A.dx (hflds A))
  eF : H A.F = some (.lst A.fv)
  eS : H A.S = some (.lst (A.tb.map V.ref))
  eR : H A.R = some (.lst (A.rt.map V.ref))
  eD : H A.D = some (.dT [])
  tbs : Paired (fun a tb => H a = some (.dK (kvT tb)) ∧ a ∉ A.rt) A.tb hs.tabs
  rts : Paired (fun a r => H a = some (.dK (kvR r)) ∧ H0 a = none) A.rt hs.rts
  nd : A.rt.Nodup
  fs : A.F ≠ A.S
  fr : A.F ≠ A.R
  sr : A.S ≠ A.R
  n : H0 x = none ∧ H0 A.F = none ∧ H0 A.S = none ∧ H0 A.R = none
  fl : A.fv.length = hs.tabs.length
section
variable {C : Addr} {H0 H : Hp} {x : Addr} {hs : HS} {A : HPts}
theorem Paired.len {α β : Type} {F : α → β → Prop} : ∀ {l : List α} {m : List β}, Paired F l m → l.length = m.length
  | _, _, .nil => rfl
  | _, _, .cons _ t => congrArg Nat.succ (Paired.len t)
theorem Paired.get {α β : Type} {F : α → β → Prop} : ∀ {l : List α} {m : List β}, Paired F l m → ∀ {i : Nat} {y : β}, m[i]? = some y → ∃ x, l[i]? = some x ∧ F x y
  | _, _, .nil, i, y, e => by rw [List.getElem?_nil] at e; cases e
  | _, _, .cons (a := a) (b := b) h t, 0, y, e => by cases e; exact ⟨_, rfl, h⟩
  | _, _, .cons h t, i + 1, y, e => by
    rw [List.getElem?_cons_succ] at e
    obtain ⟨x, h1, h2⟩ := Paired.get t e
    exact ⟨x, by rw [List.getElem?_cons_succ]; exact h1, h2⟩
theorem Paired.memL {α β : Type} {F : α → β → Prop} : ∀ {l : List α} {m : List β}, Paired F l m → ∀ x ∈ l, ∃ y ∈ m, F x y
  | _, _, .nil, x, h => by cases h
  | _, _, .cons h t, x, hx => by
    rcases List.mem_cons.mp hx with rfl | hx
    · exact ⟨_, List.mem_cons_self, h⟩
    · obtain ⟨y, hy, f⟩ := Paired.memL t x hx
      exact ⟨y, List.mem_cons_of_mem _ hy, f⟩
theorem Paired.app {α β : Type} {F : α → β → Prop} : ∀ {l l2 : List α} {m m2 : List β}, Paired F l m → Paired F l2 m2 → Paired F (l ++ l2) (m ++ m2)
  | _, _, _, _, .nil, q => q
  | _, _, _, _, .cons h t, q => .cons h (Paired.app t q)
theorem Paired.mapM {α β : Type} {F G : α → β → Prop} : ∀ {l : List α} {m : List β}, Paired F l m → (∀ a ∈ l, ∀ b, F a b → G a b) → Paired G l m
  | _, _, .nil, _ => .nil
  | _, _, .cons h t, k => .cons (k _ List.mem_cons_self _ h) (Paired.mapM t fun a ha b => k a (List.mem_cons_of_mem _ ha) b)
theorem HistP.more {H' : Hp} (h : HistP C H0 H x hs A) (s : Same H H') : HistP C H0 H' x hs A :=
  ⟨h.same.trans s, s _ _ h.ob, s _ _ h.eF, s _ _ h.eS, s _ _ h.eR, s _ _ h.eD, Paired.mapP h.tbs fun a b q => ⟨s _ _ q.1, q.2⟩, Paired.mapP h.rts fun a b q => ⟨s _ _ q.1, q.2⟩, h.nd, h.fs, h.fr, h.sr, h.n, h.fl⟩
/-- a new slot: an empty route -/
theorem HistP.addR (h : HistP C H0 H x hs A) {p : Addr} (hp : H p = some (.dK [])) (np : H0 p = none) (nr : p ∉ A.rt) (nt : p ∉ A.tb) (nF : p ≠ A.R) :
    HistP C H0 (upd H A.R (.lst ((A.rt ++ [p]).map V.ref))) x { hs with rts := hs.rts ++ [[]] } { A with rt := A.rt ++ [p] } := by
  obtain ⟨n1, n2, n3, n4⟩ := h.n
  have kd : ∀ {a : Addr} {kv : List (Key × V)}, H a = some (.dK kv) → a ≠ A.R := fun e z => by
    rw [z, h.eR] at e; cases e
  refine ⟨upd_off n4 h.same, by rw [upd_ne (ne_of h.ob h.eR (fun z => nomatch z))]; exact h.ob, by rw [upd_ne h.fr]; exact h.eF, by rw [upd_ne h.sr]; exact h.eS, upd_same, by rw [upd_ne (ne_of h.eD h.eR (fun z => nomatch z))]; exact h.eD, ?_, ?_, ?_, h.fs, h.fr, h.sr, h.n, h.fl⟩
  · refine Paired.mapM h.tbs fun a ha b q => ⟨by rw [upd_ne (kd q.1)]; exact q.1, fun z => ?_⟩
    rcases List.mem_append.mp z with z | z
    · exact q.2 z
    · exact nt (List.mem_singleton.mp z ▸ ha)
  · refine Paired.app (Paired.mapP h.rts fun a b q => ⟨by rw [upd_ne (kd q.1)]; exact q.1, q.2⟩) (.cons ⟨by rw [upd_ne nF]; exact hp, np⟩ .nil)
  · rw [List.nodup_append]
    refine ⟨h.nd, List.nodup_cons.mpr ⟨(fun z => nomatch z), List.nodup_nil⟩, fun a ha b hb => ?_⟩
    rw [List.mem_singleton.mp hb]
    exact fun z => nr (z ▸ ha)
theorem paired_mod {F : Addr → Rt → Prop} {G : Addr → Rt → Prop} {f : Rt → Rt} {c : Addr} : ∀ {l : List Addr} {m : List Rt}, Paired F l m → l.Nodup → ∀ {i : Nat}, l[i]? = some c → (∀ a b, a ≠ c → F a b → G a b) → (∀ b, m[i]? = some b → F c b → G c (f b)) → Paired G l (m.modify i f)
  | _, _, .nil, _, i, e, _, _ => by rw [List.getElem?_nil] at e; cases e
  | a :: l, b :: m, .cons h t, nd, 0, e, k1, k2 => by
    cases e
    rw [List.modify_cons, if_pos rfl]
    refine .cons (k2 _ rfl h) (Paired.mapM t fun x hx y q => k1 x y ?_ q)
    exact fun z => (List.nodup_cons.mp nd).1 (z ▸ hx)
  | a :: l, b :: m, .cons h t, nd, i + 1, e, k1, k2 => by
    rw [List.getElem?_cons_succ] at e
    have e2 : (b :: m).modify (i + 1) f = b :: m.modify i f := by rw [List.modify_cons, if_neg (Nat.succ_ne_zero _)]; rfl
    rw [e2]
    refine .cons (k1 a b (fun z => (List.nodup_cons.mp nd).1 (z ▸ List.mem_of_getElem? e)) h) (paired_mod t (List.nodup_cons.mp nd).2 e k1 fun y hy => k2 y (by rw [List.getElem?_cons_succ]; exact hy))
/-- routes[i][at] = place -/
theorem HistP.modR (h : HistP C H0 H x hs A) {i : Nat} {c : Addr} (hc : A.rt[i]? = some c) (at_ : Int) (p : Str) (r : Rt) (hr : hs.rts[i]? = some r) :
    HistP C H0 (upd H c (.dK (kvR (putL r at_ p)))) x { hs with rts := hs.rts.modify i fun r => putL r at_ p } A := by
  obtain ⟨b0, hb0, hcv, ncv⟩ := Paired.get (F := fun (a : Rt) (b : Addr) => H b = some (.dK (kvR a)) ∧ H0 b = none) (l := hs.rts) (m := A.rt) (by
    have := h.rts
    clear hc hr
    generalize A.rt = l at this
    generalize hs.rts = m at this
    induction this with
    | nil => exact .nil
    | cons q _ ih => exact .cons q ih) hc
  rw [hr] at hb0
  cases hb0
  have off : ∀ {a : Addr} {o : HO}, H a = some o → (∀ kv, o ≠ .dK kv) → a ≠ c := fun e k z => by
    rw [z, hcv] at e; cases e; exact k _ rfl
  refine ⟨upd_off ncv h.same, by rw [upd_ne (off h.ob (fun _ z => nomatch z))]; exact h.ob, by rw [upd_ne (off h.eF (fun _ z => nomatch z))]; exact h.eF, by rw [upd_ne (off h.eS (fun _ z => nomatch z))]; exact h.eS, by rw [upd_ne (off h.eR (fun _ z => nomatch z))]; exact h.eR, by rw [upd_ne (off h.eD (fun _ z => nomatch z))]; exact h.eD, ?_, ?_, h.nd, h.fs, h.fr, h.sr, h.n, h.fl⟩
  · refine Paired.mapP h.tbs fun a b q => ⟨?_, q.2⟩
    have na : a ≠ c := fun z => q.2 (by rw [z]; exact List.mem_of_getElem? hc)
    rw [upd_ne na]
    exact q.1
  · refine paired_mod h.rts h.nd hc (fun a b na q => ⟨by rw [upd_ne na]; exact q.1, q.2⟩) fun b hb q => ⟨?_, q.2⟩
    rw [hr] at hb
    cases hb
    exact upd_same
/-- shipped_files.append(file); slot_tables.append(table) -/
theorem HistP.addT (h : HistP C H0 H x hs A) {t : Addr} {tb : Tb} (v : V) (ht : H t = some (.dK (kvT tb))) (nr : t ∉ A.rt) :
    HistP C H0 (upd (upd H A.F (.lst (A.fv ++ [v]))) A.S (.lst ((A.tb ++ [t]).map V.ref))) x { hs with tabs := hs.tabs ++ [tb] } { A with fv := A.fv ++ [v], tb := A.tb ++ [t] } := by
  obtain ⟨n1, n2, n3, n4⟩ := h.n
  have off : ∀ {a : Addr} {o : HO}, H a = some o → (∀ l, o ≠ .lst l) → (upd (upd H A.F (.lst (A.fv ++ [v]))) A.S (.lst ((A.tb ++ [t]).map V.ref))) a = some o := fun e k => by
    rw [upd_ne (ne_of e h.eS (k _)), upd_ne (ne_of e h.eF (k _))]
    exact e
  refine ⟨upd_off n3 (upd_off n2 h.same), off h.ob (fun _ z => nomatch z), by rw [upd_ne h.fs, upd_same], upd_same, by rw [upd_ne h.sr.symm, upd_ne h.fr.symm]; exact h.eR, off h.eD (fun _ z => nomatch z), ?_, ?_, h.nd, h.fs, h.fr, h.sr, h.n, ?_⟩
  · exact Paired.app (Paired.mapP h.tbs fun a b q => ⟨off q.1 (fun _ z => nomatch z), q.2⟩) (.cons ⟨off ht (fun _ z => nomatch z), nr⟩ .nil)
  · exact Paired.mapP h.rts fun a b q => ⟨off q.1 (fun _ z => nomatch z), q.2⟩
  · show (A.fv ++ [v]).length = (hs.tabs ++ [tb]).length
    rw [List.length_append, List.length_append, h.fl]
    rfl
end
end My
namespace My
open PySem PySem.Spec PyProof.Rows L2
section
variable {C : Addr} {H0 H : Hp} {x : Addr} {hs : HS} {A : HPts}
theorem h_files (A : HPts) : (hflds A).lookup ("shipped_files" : Str) = some (.ref A.F) := rfl
theorem h_tables (A : HPts) : (hflds A).lookup ("slot_tables" : Str) = some (.ref A.S) := rfl
theorem h_routes (A : HPts) : (hflds A).lookup ("routes" : Str) = some (.ref A.R) := rfl
theorem h_clashes (A : HPts) : (hflds A).lookup ("clashes" : Str) = some (.ref A.D) := rfl
/-- a dict that is no part changes -/
theorem HistP.offD (h : HistP C H0 H x hs A) {c : Addr} {kv : List (Key × V)} {o : HO} (hc : H c = some (.dK kv)) (nc : H0 c = none) (nr : c ∉ A.rt) (nt : c ∉ A.tb) : HistP C H0 (upd H c o) x hs A := by
  have off : ∀ {a : Addr} {o : HO}, H a = some o → (∀ kv, o ≠ .dK kv) → a ≠ c := fun e k z => by
    rw [z, hc] at e; cases e; exact k _ rfl
  refine ⟨upd_off nc h.same, by rw [upd_ne (off h.ob (fun _ z => nomatch z))]; exact h.ob, by rw [upd_ne (off h.eF (fun _ z => nomatch z))]; exact h.eF, by rw [upd_ne (off h.eS (fun _ z => nomatch z))]; exact h.eS, by rw [upd_ne (off h.eR (fun _ z => nomatch z))]; exact h.eR, by rw [upd_ne (off h.eD (fun _ z => nomatch z))]; exact h.eD, ?_, ?_, h.nd, h.fs, h.fr, h.sr, h.n, h.fl⟩
  · refine Paired.mapM h.tbs fun a ha b q => ⟨?_, q.2⟩
    rw [upd_ne (fun z : a = c => nt (by rw [← z]; exact ha))]
    exact q.1
  · refine Paired.mapM h.rts fun a ha b q => ⟨?_, q.2⟩
    rw [upd_ne (fun z : a = c => nr (by rw [← z]; exact ha))]
    exact q.1
theorem HistP.rtFree (h : HistP C H0 H x hs A) {p : Addr} (np : H p = none) : p ∉ A.rt ∧ p ∉ A.tb := by
  refine ⟨fun z => ?_, fun z => ?_⟩
  · obtain ⟨b, _, e, _⟩ := Paired.memL h.rts p z
    rw [e] at np; cases np
  · obtain ⟨b, _, e, _⟩ := Paired.memL h.tbs p z
    rw [e] at np; cases np
/-- the route of a slot -/
theorem HistP.route (h : HistP C H0 H x hs A) {i : Nat} {r : Rt} (hr : hs.rts[i]? = some r) : ∃ c, A.rt[i]? = some c ∧ H c = some (.dK (kvR r)) := by
  obtain ⟨c, h1, h2, _⟩ := Paired.get h.rts hr
  exact ⟨c, h1, h2⟩
theorem HistP.table (h : HistP C H0 H x hs A) {i : Nat} {r : Tb} (hr : hs.tabs[i]? = some r) : ∃ c, A.tb[i]? = some c ∧ H c = some (.dK (kvT r)) := by
  obtain ⟨c, h1, h2, _⟩ := Paired.get h.tbs hr
  exact ⟨c, h1, h2⟩
theorem HistP.rlen (h : HistP C H0 H x hs A) : A.rt.length = hs.rts.length := Paired.len h.rts
theorem HistP.tlen (h : HistP C H0 H x hs A) : A.tb.length = hs.tabs.length := Paired.len h.tbs
end
end My
set_option Elab.async false
set_option linter.all false
set_option maxRecDepth 100000
namespace My
open PySem PySem.Spec PyProof.Rows L2
section
variable {X : Cx}
/-- set(xs), xs a list of ints -/
def rSetOfI (K : PySem.W.Frag) (w : World) : List V → Hp → VK → Prop := fun xs H Q => ∃ (l : Addr) (ns : List Int), xs = [V.ref l] ∧ SqL K H l (ns.map V.int) ∧ ns.length ≤ 1000 ∧
  ∀ a c, H a = none → c ≤ ns.length → Q (.ref a) (upd H a (SetO w a (fun j => decide (j ∈ ns)) c))
theorem cr_setOfI (hc : X.calm = true) : CallR X (.type "set") (rSetOfI X.K X.w) := by
  intro pins s σ H xs us Q I r h
  obtain ⟨l, ns, rfl, hl, few, q⟩ := h
  rw [Vals.ref1 r]
  obtain ⟨its, rv, pl, hz⟩ := I.list hl
  refine set_listI ns (I.ok.hd hc) pl.isList (by simpa using rv.ints) (by unfold scanBound; omega) fun h' tk c R hcl k => ?_
  exact ⟨.ref s.heap.objs.size, upd H _ (SetO X.w _ _ c), I.laid (t' := tk) k (Nat.le_refl _) (setO_new R), rfl, q _ c (I.hok.fresh (Nat.le_refl _)) hcl⟩
/-- set(t), t a tuple of tuples of ints -/
def rSetOfTT (K : PySem.W.Frag) (P : Program) (w : World) : List V → Hp → VK → Prop := fun xs H Q => ∃ (l : Addr) (ks : List (Addr × List Int)), xs = [V.ref l] ∧ SqT K H l (ks.map fun p => V.ref p.1) ∧
  (∀ p ∈ ks, SqT K H p.1 (p.2.map V.int)) ∧ ks.length < 64 ∧
  ∀ a L, H a = none → (∀ p ∈ L, p ∈ ks) → (∀ p ∈ ks, p.2 ∈ L.map (·.2)) → Q (.ref a) (upd H a (SetTO P w a L))
theorem cr_setOfTT (hc : X.calm = true) (hu : X.A.units + 64 < cLine) : CallR X (.type "set") (rSetOfTT X.K X.prog X.w) := by
  intro pins s σ H xs us Q I r h
  obtain ⟨l, ks, rfl, hl, hk, few, q⟩ := h
  rw [Vals.ref1 r]
  obtain ⟨its, rv, pl, hz⟩ := I.tuple hl
  refine set_tupT (P := X.prog) (w := X.w) ks (I.ok.hd hc) pl (by simpa using refs_of_vals rv) (fun p hp => I.isT (hk p hp)) few (by omega) fun h' tk L es ep t R g k => ?_
  refine ⟨.ref s.heap.objs.size, upd H _ (SetTO X.prog X.w _ L), I.laid (t' := tk) k (Nat.le_refl _) (setTO_new R.t0), rfl, q _ L (I.hok.fresh (Nat.le_refl _)) (fun p hp => List.mem_of_mem_take (g.sub p hp)) fun p hp => g.all p ?_⟩
  rw [List.take_length]; exact hp
end
end My
set_option Elab.async false
set_option linter.all false
set_option maxRecDepth 100000
/-! Sets of tuples whose parts are keys of any kind (ints and texts among them). The table's own theory (TabOk, go_spec, relaid_ok) is the library's. -/
namespace My
open PySem PySem.Spec PyProof.Rows L2
section
variable {P : Program} {w : World} {A : Around} {E : Value → Shared → Prop} {s : Shared} {κ : Type} [DecidableEq κ] {kd : KeyKind P w κ}
abbrev Tp (kd : KeyKind P w κ) (h : Heap) (k : List κ) (b : Addr) : Prop := IsTupleKey kd h k b
abbrev hsh (kd : KeyKind P w κ) (k : List κ) : Int := tupleKeyHash kd k
theorem nref {v : Value} (h : carriedByValue v = true) : (∀ n, ofAClassStatement n v = pure false) ∧ ∃ b, ∀ n, hashByValue n v = pure b := by
  cases v with
  | ref a => simp [carriedByValue] at h
  | float b t => exact ⟨fun n => by cases n <;> rfl, (Float64.hash? b).isSome, fun n => by cases n <;> rfl⟩
  | _ =>
    refine ⟨fun n => by cases n <;> rfl, ?_⟩
    first
      | (refine ⟨true, fun n => ?_⟩; cases n <;> rfl)
      | (refine ⟨false, fun n => ?_⟩; cases n <;> rfl)
/-- a tuple of keys is of no class statement -/
theorem noClass {k : List κ} {b : Addr} {Q : Bool → Shared → Prop} (hk : Tp kd s.heap k b) (q : Q false s) : wpAny (model P w) A (ofAClassStatement 8 (.ref b)) Q E s := by
  have ty := hk.typeIs
  obtain ⟨o, its, n, at_b, _, dat, items⟩ := hk
  have all := items.byValue
  unfold ofAClassStatement
  refine wpAny_bind (wpAny_typeOf ty ?_)
  dsimp only
  have same : (("tuple" : String) == "tuple") = true := by decide
  simp only [same, Bool.not_true, if_true, if_false, Bool.false_eq_true]
  try refine wpAny_bind (wpAny_pure ?_)
  try simp only [Bool.not_true, if_false, Bool.false_eq_true]
  refine wpAny_bind (m := seqItems? (.ref b)) (wpAny_seqItems at_b dat ?_)
  dsimp only
  refine wpAny_bind (m := forIn its _ _) ?_
  rw [← Array.forIn_toList]
  refine wpAny_forIn_list _ (fun left r s' => r.1 = none ∧ s' = s ∧ ∀ v ∈ left, carriedByValue v = true) _ ?_ ?_ _ _ ⟨rfl, rfl, all⟩
  · rintro v left r s' ⟨_, rfl, here⟩
    rw [(nref (here v List.mem_cons_self)).1]
    refine wpAny_bind (wpAny_pure ?_)
    simp only [if_false, Bool.false_eq_true]
    exact wpAny_pure ⟨rfl, rfl, fun u hu => here u (List.mem_cons_of_mem _ hu)⟩
  · rintro ⟨r1, r2⟩ s' ⟨e, rfl, _⟩
    dsimp only at e
    subst e
    exact wpAny_pure q
/-- whether its hash is one by value is answered, and nothing changes -/
theorem byVal {k : List κ} {b : Addr} {Q : Bool → Shared → Prop} (hk : Tp kd s.heap k b) (q : ∀ c, Q c s) : wpAny (model P w) A (hashByValue 8 (.ref b)) Q E s := by
  have ty := hk.typeIs
  obtain ⟨o, its, n, at_b, _, dat, items⟩ := hk
  have all := items.byValue
  unfold hashByValue
  refine wpAny_bind (wpAny_specialOf ty F.slot_tuple_hash.lookup ?_)
  refine wpAny_bind (m := seqItems? (.ref b)) (wpAny_seqItems at_b dat ?_)
  refine wpAny_bind (m := forIn its _ _) ?_
  rw [← Array.forIn_toList]
  refine wpAny_forIn_list _ (fun left r s' => r.1 = none ∧ s' = s ∧ ∀ v ∈ left, carriedByValue v = true) _ ?_ ?_ _ _ ⟨rfl, rfl, all⟩
  · rintro v left r s' ⟨_, rfl, here⟩
    obtain ⟨c, hc⟩ := (nref (here v List.mem_cons_self)).2
    rw [hc]
    refine wpAny_bind (wpAny_pure ?_)
    cases c with
    | true =>
      simp only [Bool.not_true, if_false, Bool.false_eq_true]
      exact wpAny_pure ⟨rfl, rfl, fun u hu => here u (List.mem_cons_of_mem _ hu)⟩
    | false =>
      simp only [Bool.not_false, if_true]
      exact wpAny_pure (wpAny_pure (q _))
  · rintro ⟨r1, r2⟩ s' ⟨e, rfl, _⟩
    dsimp only at e
    subst e
    exact wpAny_pure (q _)

/-- a search among such tuples shows nothing of the table -/
theorem unseen {k : List κ} {b : Addr} {Q : Bool → Shared → Prop} (hk : Tp kd s.heap k b) {ys : List Value} (hy : ∀ y ∈ ys, ∃ k' c, y = Value.ref c ∧ Tp kd s.heap k' c) (q : Q false s) :
    wpAny (model P w) A (searchCouldBeSeen (.ref b) ys) Q E s := by
  unfold searchCouldBeSeen
  refine wpAny_bind (wpAny_forIn_list _ (fun left r s' => r.1 = none ∧ s' = s ∧ ∀ y ∈ left, ∃ k' c, y = Value.ref c ∧ Tp kd s.heap k' c) _ ?_ ?_ _ _ ⟨rfl, rfl, hy⟩)
  · rintro v left r s' ⟨_, rfl, here⟩
    obtain ⟨k2, c, rfl, hc⟩ := here v List.mem_cons_self
    have later : ∀ y ∈ left, ∃ k' c, y = Value.ref c ∧ Tp kd s'.heap k' c := fun u hu => here u (List.mem_cons_of_mem _ hu)
    dsimp only
    by_cases one : (b == c || (carriedByValue (.ref b) && carriedByValue (.ref c))) = true
    · exact wp_if_pos one (wpAny_pure ⟨rfl, rfl, later⟩)
    · refine wp_if_neg one (wpAny_bind (wpAny_eqIsQuiet_tuple hk ?_))
      simp only [Bool.not_true, if_false, Bool.false_eq_true]
      refine wpAny_bind (wpAny_eqIsQuiet_tuple hc ?_)
      simp only [Bool.not_true, if_false, Bool.false_eq_true]
      refine wpAny_bind (noClass hk ?_)
      simp only [if_false, Bool.false_eq_true]
      refine wpAny_bind (noClass hc ?_)
      simp only [if_false, Bool.false_eq_true]
      exact wpAny_pure ⟨rfl, rfl, later⟩
  · rintro ⟨r1, r2⟩ s' ⟨e, rfl, _⟩
    dsimp only at e
    subst e
    exact wpAny_pure q
/-! ### the set -/
abbrev entsOf (kd : KeyKind P w κ) (L : List (Addr × List κ)) : List (Int × Value) := L.map fun p => (hsh kd p.2, Value.ref p.1)
structure KSet (kd : KeyKind P w κ) (h : Heap) (a : Addr) (L : List (Addr × List κ)) (es : Array (Int × Value)) (ep : Nat) (t : SetTable) : Prop where
  obj : ∃ o, h.get? a = some o ∧ o.ExactSet ∧ o.data = .set es ep t
  ents : es.toList = entsOf kd L
  tab : TabOk t (L.map fun p => hsh kd p.2)
  uniq : (L.map (·.2)).Nodup
  tups : ∀ p ∈ L, Tp kd h p.2 p.1
  lead : w.params.followText "set-order" = true ∨ t.led = true
  room : L.length * 5 < t.mask * 3
  few : L.length < 64
theorem ents_len {L : List (Addr × List κ)} {es : Array (Int × Value)} (e : es.toList = entsOf kd L) : es.size = L.length := by
  rw [← Array.length_toList, e, List.length_map]
theorem ents_at {L : List (Addr × List κ)} {es : Array (Int × Value)} (e : es.toList = entsOf kd L) {i : Nat} {p : Addr × List κ} (h : L[i]? = some p) : es[i]? = some (hsh kd p.2, Value.ref p.1) := by
  rw [← Array.getElem?_toList, e, List.getElem?_map, h]
  rfl
theorem fits_of {t : SetTable} {n : Nat} (h1 : t.place.size = n) (h2 : t.dummies = #[]) (h3 : n ≤ t.mask) : t.fits n = true := by
  unfold SetTable.fits SetTable.fill
  rw [h2, Bool.and_eq_true, beq_iff_eq, decide_eq_true_eq]
  exact ⟨h1, by show t.place.size + 0 ≤ t.mask; omega⟩
variable {a : Addr} {L : List (Addr × List κ)} {es : Array (Int × Value)} {ep : Nat} {t : SetTable}
theorem KSet.fits (R : KSet kd s.heap a L es ep t) : t.fits es.size = true := by
  have h1 := R.tab.sz
  have h2 := R.room
  rw [List.length_map] at h1
  rw [ents_len R.ents]
  exact fits_of h1 R.tab.dm (by omega)
theorem KSet.stays (R : KSet kd s.heap a L es ep t) : ¬ t.gaveWay = true := by
  unfold SetTable.gaveWay
  rw [mask_odd R.tab.mok]
  exact of_decide_eq_false rfl
/-- the probe behind c steps -/
abbrev stp (t : SetTable) (h : Int) (c : Nat) : SetTable.Probe := nth t.mask (runAt t.mask (SetTable.bits h % (t.mask + 1)) (SetTable.bits h)) c
theorem nth_clean (m : Nat) : ∀ (n : Nat) (q : SetTable.Probe), q.dummy = none → (nth m q n).dummy = none
  | 0, q, e => e
  | n + 1, q, e => nth_clean m n (adv m q) (by unfold adv; split <;> exact e)
theorem stp_on (t : SetTable) (h : Int) (c q : Nat) : nth t.mask (stp t h c) q = stp t h (c + q) := (nth_add t.mask c _ q).symm
/-- the search, from the c-th step on; n is the first empty place on the way -/
theorem KSet.seek (R : KSet kd s.heap a L es ep t) {x : Addr} {k : List κ} (hx : Tp kd s.heap k x) (hu : A.units < cLine) {n : Nat} (hn : n < 10 * SetTable.turns t.mask) (off : way t.mask (hsh kd k) n ∉ t.place.toList)
    (on : ∀ c, c < n → way t.mask (hsh kd k) c ∈ t.place.toList) {Q : SetFound → Shared → Prop} (yes : k ∈ L.map (·.2) → Q (.there none) s) (no : k ∉ L.map (·.2) → Q (.free (way t.mask (hsh kd k) n) false) s) :
    ∀ (f c : Nat) (st : Option SetTable.Probe), st.getD (t.probeStart (hsh kd k)) = stp t (hsh kd k) c → c ≤ n → n - c < f →
      (∀ (i : Nat) p, L[i]? = some p → p.2 = k → ∃ c', c ≤ c' ∧ c' < n ∧ t.place.toList[i]? = some (way t.mask (hsh kd k) c')) → wpAny (model P w) A (setSearchFrom a (.ref x) (hsh kd k) true f st) Q E s
  | 0, _, _, _, _, bad, _ => (Nat.not_lt_zero _ bad).elim
  | f + 1, c, st, e0, le, lf, ahead => by
    obtain ⟨o, ho, hex, hd⟩ := R.obj
    rw [setSearchFrom_succ]
    refine wpAny_bind (wpAny_setState_of ho hd R.fits ?_)
    dsimp only
    refine wp_if_neg R.stays ?_
    try refine wpAny_bind (wpAny_pure ?_)
    rw [e0]
    have jj : ∀ q, (nth t.mask (stp t (hsh kd k) c) q).j = way t.mask (hsh kd k) (c + q) := fun q => congrArg SetTable.Probe.j (stp_on t (hsh kd k) c q)
    have hashes : ∀ (i : Nat) p, L[i]? = some p → (es[i]?.map (·.1)).getD 0 = hsh kd p.2 := fun i p hp => by
      rw [ents_at R.ents hp]
      rfl
    have last : c + (n - c) = n := by omega
    -- one with the key that is still ahead is not met by other hashes
    have clash : ∀ (m i0 : Nat) (p0 : Addr × List κ), L[i0]? = some p0 → p0.2 = k → c ≤ m → t.place.toList[i0]? = some (way t.mask (hsh kd k) m) →
        (∀ (k' i' : Nat), k' = m - c → t.place.toList[i']? = some (nth t.mask (stp t (hsh kd k) c) k').j → (es[i']?.map (·.1)).getD 0 ≠ hsh kd k) → False := fun m i0 p0 h0 hk0 lm hat none' => by
      refine none' (m - c) i0 rfl ?_ ((hashes i0 p0 h0).trans (congrArg (hsh kd) hk0))
      rw [jj, show c + (m - c) = m by omega]
      exact hat
    rcases go_spec t R.tab.ris R.tab.dm (fun i => (es[i]?.map (·.1)).getD 0) (hsh kd k) (10 * SetTable.turns t.mask) (n - c) (stp t (hsh kd k) c) (nth_clean _ _ _ rfl) (by omega)
      (fun q hq => by rw [jj]; exact on _ (by omega)) (by rw [jj, last]; exact off) with ⟨q, i, hq, hi, _, first, met⟩ | ⟨first, met⟩
    · have pr : t.probe (fun i => (es[i]?.map (·.1)).getD 0) (hsh kd k) (stp t (hsh kd k) c) = some (.candidate (way t.mask (hsh kd k) (c + q)) i (stp t (hsh kd k) (c + (q + 1)))) := by
        rw [← jj, ← stp_on]
        exact met
      rw [pr]
      dsimp only
      rw [jj] at hi
      have li : i < L.length := by
        have h1 := (List.getElem?_eq_some_iff.mp hi).1
        have h2 := R.tab.sz
        rw [Array.length_toList] at h1
        rw [List.length_map] at h2
        omega
      obtain ⟨p, hp⟩ : ∃ p, L[i]? = some p := ⟨_, List.getElem?_eq_getElem li⟩
      have pm : p ∈ L := List.mem_of_getElem? hp
      have live : t.slot (way t.mask (hsh kd k) (c + q)) = .live i := slot_live R.tab.ris hi
      have behind : wpAny (model P w) A (searchRest a (.ref x) (hsh kd k) true f es t (way t.mask (hsh kd k) (c + q)) i (stp t (hsh kd k) (c + (q + 1)))) Q E s := by
        unfold searchRest
        rw [ents_at R.ents hp]
        dsimp only
        refine wpAny_bind (wpAny_holding (wpAny_eqBool_tuple hu (R.tups p pm) hx (wpAny_bind (wpAny_setState_of ho hd R.fits ?_))))
        dsimp only
        by_cases eq : p.2 = k
        · exact wp_if_pos (by rw [decide_eq_true eq]; rfl) (wpAny_pure (yes (List.mem_map.mpr ⟨p, pm, eq⟩)))
        · refine wp_if_neg (by rw [decide_eq_false eq]; exact Bool.false_ne_true) ?_
          try refine wpAny_bind (wpAny_pure ?_)
          rw [sameMem]
          dsimp only
          simp only [live, ents_at R.ents hp, if_true]
          refine wpAny_bind (wpAny_isSame_ref_self (wpAny_bind (wpAny_pure ?_)))
          simp only [if_true]
          refine wp_if_neg (by rw [decide_eq_false eq]; exact Bool.false_ne_true) ?_
          refine KSet.seek R hx hu hn off on yes no f (c + (q + 1)) _ rfl (by omega) (by omega) fun i0 p0 h0 hk0 => ?_
          obtain ⟨m, m1, m2, m3⟩ := ahead i0 p0 h0 hk0
          refine ⟨m, ?_, m2, m3⟩
          rcases Nat.lt_trichotomy m (c + q) with z | z | z
          · exact (clash m i0 p0 h0 hk0 m1 m3 fun k' i' ek => first k' i' (by omega)).elim
          · rw [z] at m3
            have l2 := slot_live R.tab.ris m3
            rw [live] at l2
            injection l2 with l2
            rw [← l2, hp] at h0
            exact (eq ((congrArg Prod.snd (Option.some.inj h0)).trans hk0)).elim
          · omega
      by_cases led : t.led = true
      · refine wp_if_neg (by rw [led]; exact Bool.false_ne_true) ?_
        try refine wpAny_bind (wpAny_pure ?_)
        exact behind
      · refine wp_if_pos (by rw [Bool.not_eq_true] at led; rw [led]; rfl) ?_
        refine wpAny_bind (unseen hx (fun y hy => ?_) ?_)
        · obtain ⟨e, he, rfl⟩ := List.mem_map.mp hy
          have hin : e ∈ es.toList := by
            have := (Array.mem_filter.mp (Array.mem_toList_iff.mp he)).1
            exact Array.mem_toList_iff.mpr this
          rw [R.ents] at hin
          obtain ⟨p2, hp2, rfl⟩ := List.mem_map.mp hin
          exact ⟨p2.2, p2.1, rfl, R.tups p2 hp2⟩
        · refine wp_if_neg Bool.false_ne_true ?_
          try refine wpAny_bind (wpAny_pure ?_)
          exact behind
    · have pr : t.probe (fun i => (es[i]?.map (·.1)).getD 0) (hsh kd k) (stp t (hsh kd k) c) = some (.empty (way t.mask (hsh kd k) n) none) := by
        rw [show way t.mask (hsh kd k) n = (nth t.mask (stp t (hsh kd k) c) (n - c)).j by rw [jj, last]]
        exact met
      rw [pr]
      dsimp only
      refine wpAny_pure (no fun hm => ?_)
      obtain ⟨p0, h0, hk0⟩ := List.mem_map.mp hm
      obtain ⟨i0, li0, e0'⟩ := List.getElem_of_mem h0
      have h00 : L[i0]? = some p0 := by rw [List.getElem?_eq_getElem li0, e0']
      obtain ⟨m, m1, m2, m3⟩ := ahead i0 p0 h00 hk0
      exact clash m i0 p0 h00 hk0 m1 m3 fun k' i' ek => first k' i' (by omega)
theorem KSet.search (R : KSet kd s.heap a L es ep t) {x : Addr} {k : List κ} (hx : Tp kd s.heap k x) (hu : A.units < cLine) {Q : SetFound → Shared → Prop} (yes : k ∈ L.map (·.2) → Q (.there none) s)
    (no : ∀ n, k ∉ L.map (·.2) → way t.mask (hsh kd k) n ∉ t.place.toList → (∀ c, c < n → way t.mask (hsh kd k) c ∈ t.place.toList) → Q (.free (way t.mask (hsh kd k) n) false) s) :
    wpAny (model P w) A (setSearch a (.ref x) (hsh kd k) true) Q E s := by
  have room := R.room
  obtain ⟨n, hn, off, on⟩ := R.tab.first (by rw [List.length_map]; omega) (hsh kd k)
  have big : n < 100000 := by
    refine Nat.lt_of_lt_of_le hn ?_
    unfold SetTable.turns
    rcases R.tab.mok with e | e | e <;> rw [e] <;> decide
  refine R.seek hx hu hn off on yes (fun out => no n out off on) 100000 0 none rfl (Nat.zero_le _) (by omega) fun i p hp hk => ?_
  have li : i < t.place.toList.length := by
    have h1 := (List.getElem?_eq_some_iff.mp hp).1
    have h2 := R.tab.sz
    rw [List.length_map] at h2
    rw [Array.length_toList]
    omega
  have hj := List.getElem?_eq_getElem li
  obtain ⟨c, hc, e⟩ := R.tab.before off (by rw [List.getElem?_map, hp, ← hk]; rfl) hj
  exact ⟨c, Nat.zero_le _, hc, by rw [hj, e]⟩

/-! ### one more -/
theorem tp_at {h h' : Heap} {k : List κ} {a b : Addr} {o : Obj} {es : Array (Int × Value)} {ep : Nat} {t : SetTable} (hb : Tp kd h k b) (ho : h.get? a = some o) (hd : o.data = .set es ep t) (sb : Heap.SameBut a h h') : Tp kd h' k b := by
  obtain ⟨u, its, n, hu, c, d, r⟩ := hb
  refine ⟨u, its, n, (sb.2 b fun e => ?_).trans hu, c, d, r⟩
  rw [e, ho] at hu
  cases hu
  rw [hd] at d
  cases d
theorem range_get {α : Type} : ∀ L : List α, (List.range L.length).filterMap (fun i => L[i]?) = L
  | [] => rfl
  | x :: r => by
    rw [List.length_cons, List.range_succ_eq_map, List.filterMap_cons_some (f := fun i => (x :: r)[i]?) (b := x) rfl, List.filterMap_map]
    exact congrArg (x :: ·) (range_get r)
theorem reorder {es : Array (Int × Value)} (e : es.toList = entsOf kd L) {order : Array Nat} (hp : order.toList.Perm (List.range L.length)) :
    ∃ M : List (Addr × List κ), (order.filterMap (es[·]?)).toList = entsOf kd M ∧ M.Perm L ∧ (M.map fun p => hsh kd p.2) = order.toList.map fun i => (es.map (·.1)).getD i 0 := by
  have each : ∀ i, es[i]? = (L[i]?).map fun p : Addr × List κ => (hsh kd p.2, Value.ref p.1) := fun i => by
    rw [← Array.getElem?_toList, e, List.getElem?_map]
  refine ⟨order.toList.filterMap fun i => L[i]?, ?_, ?_, ?_⟩
  · rw [Array.toList_filterMap]
    show _ = List.map _ (List.filterMap _ _)
    rw [List.map_filterMap]
    exact congrArg (fun f => List.filterMap f order.toList) (funext each)
  · have := hp.filterMap fun i => L[i]?
    rw [range_get] at this
    exact this
  · have bd : ∀ i ∈ order.toList, i < L.length := fun i hi => List.mem_range.mp (hp.mem_iff.mp hi)
    generalize order.toList = l at bd
    induction l with
    | nil => rfl
    | cons i r ih =>
      have li := bd i List.mem_cons_self
      have here := each i
      rw [List.getElem?_eq_getElem li] at here
      rw [List.filterMap_cons_some (List.getElem?_eq_getElem li), List.map_cons, List.map_cons, ih fun j hj => bd j (List.mem_cons_of_mem _ hj)]
      congr 1
      rw [Array.getD_eq_getD_getElem?, Array.getElem?_map, here]
      rfl
/-- the table laid anew, larger -/
theorem relayK {o : Obj} (ho : s.heap.get? a = some o) (hex : o.ExactSet) (hd : o.data = .set es ep t) (ents : es.toList = entsOf kd L) (sz : t.place.size = L.length) (dm : t.dummies = #[]) (fl : L.length ≤ t.mask)
    (uniq : (L.map (·.2)).Nodup) (tups : ∀ p ∈ L, Tp kd s.heap p.2 p.1) (lead : w.params.followText "set-order" = true ∨ t.led = true) (few : L.length < 64) {want M : Nat}
    (hw : SetTable.sizeAbove want = M + 1) (mok : MaskOk M) (room : L.length * 5 < M * 3) {Q : Unit → Shared → Prop}
    (hQ : ∀ h' L' es' ep' t', Heap.SameBut a s.heap h' → KSet kd h' a L' es' ep' t' → L'.Perm L → Q () { s with heap := h' }) : wpAny (model P w) A (setRelay a want) Q E s := by
  have le := ents_len ents
  have M127 : M ≤ 127 := by rcases mok with e | e | e <;> rw [e] <;> decide
  obtain ⟨t2, order, laid, perm, tab, em, el, _, _⟩ := relaid_ok t (hs := es.map (·.1)) (wanted := want) (M := M) (by rw [hw]; rfl) mok (by rw [Array.size_map, le]; omega)
  rw [Array.size_map, le] at perm
  obtain ⟨L2, r1, r2, r3⟩ := reorder ents perm
  have len2 := ents_len r1
  rw [← r3] at tab
  rw [setRelay_eq]
  refine wpAny_bind (wpAny_setState_of ho hd (by rw [le]; exact fits_of sz dm fl) ?_)
  dsimp only
  refine wp_if_neg (by rw [hw, sizeLine_eq]; omega) ?_
  try refine wpAny_bind (wpAny_pure ?_)
  rw [laid]
  refine wpAny_bind ?_
  dsimp only
  refine wp_if_neg (by rw [len2, r2.length_eq, le]; simp) ?_
  try refine wpAny_bind (wpAny_pure ?_)
  refine wpAny_pure ?_
  dsimp only
  refine wpAny_storeSet_of ho hd ?_ (by rw [len2, r2.length_eq, sizeLine_eq]; omega)
  have sb : Heap.SameBut a s.heap (s.heap.update a (Obj.putSet (order.filterMap (es[·]?)) t2)) := Heap.SameBut.update ..
  refine hQ _ L2 _ (ep + 1) t2 sb ⟨⟨_, store_at ho hd, ⟨hex.1, hex.2.1, hex.2.2⟩, rfl⟩, r1, tab, (r2.map (·.2)).nodup_iff.mpr uniq, fun p hp => tp_at (tups p (r2.mem_iff.mp hp)) ho hd sb, by rw [el]; exact lead, ?_, by rw [r2.length_eq]; exact few⟩ r2
  rw [r2.length_eq, em]
  exact room
theorem size_5 : SetTable.sizeAbove (SetTable.grown 5) = 31 + 1 := by decide +kernel
theorem size_19 : SetTable.sizeAbove (SetTable.grown 19) = 127 + 1 := by decide +kernel
theorem KSet.add (R : KSet kd s.heap a L es ep t) {x : Addr} {k : List κ} (hx : Tp kd s.heap k x) (hu : A.units < cLine) (few : L.length + 1 < 64) {Q : Bool → Shared → Prop}
    (hQ : ∀ b h' L' es' ep' t', Heap.SameBut a s.heap h' → KSet kd h' a L' es' ep' t' → (k ∈ L.map (·.2) → L' = L) → (k ∉ L.map (·.2) → L'.Perm ((x, k) :: L)) → Q b { s with heap := h' }) :
    wpAny (model P w) A (setAddHashed a (.ref x) (hsh kd k)) Q E s := by
  obtain ⟨o, ho, hex, hd⟩ := R.obj
  have le := ents_len R.ents
  have room := R.room
  unfold setAddHashed
  refine wpAny_holding ?_
  rw [show (100000 : Nat) = 99999 + 1 from rfl, setAddHashedIn_succ]
  refine wpAny_bind (wpAny_setState_of ho hd R.fits ?_)
  dsimp only
  refine wp_if_neg (by simp [byScan, Value.scannable]) ?_
  try refine wpAny_bind (wpAny_pure ?_)
  refine wpAny_bind (R.search hx hu (fun hm => ?_) fun n hm off on => ?_)
  · exact wpAny_pure (hQ false s.heap L es ep t (Heap.SameBut.refl a s.heap) R (fun _ => rfl) fun z => (z hm).elim)
  dsimp only
  refine wpAny_bind (wpAny_setState_of ho hd R.fits ?_)
  dsimp only
  obtain ⟨p1, p2, p3, p4, p5, _, _, _, p9⟩ := R.tab.put off on
  generalize put : t.put (way t.mask (hsh kd k) n) = pt at p1 p3 p4 p5 p9 ⊢
  obtain ⟨t1, i⟩ := pt
  dsimp only at p1 p3 p4 p5 p9 ⊢
  subst p1
  generalize SetTable.below t.place (way t.mask (hsh kd k) n) = i at p2 p3 ⊢
  have pm := put_perm L i (x, k)
  have len1 : (L.take i ++ (x, k) :: L.drop i).length = L.length + 1 := pm.length_eq
  have ents1 : (SetTable.insertAt es i (hsh kd k, Value.ref x)).toList = entsOf kd (L.take i ++ (x, k) :: L.drop i) := by
    rw [SetTable.toList_insertAt, R.ents]
    show _ = List.map _ _
    rw [List.map_append, List.map_cons, List.map_take, List.map_drop]
  have tab1 : TabOk t1 ((L.take i ++ (x, k) :: L.drop i).map fun p => hsh kd p.2) := by
    rw [List.map_append, List.map_cons, List.map_take, List.map_drop]
    exact p3
  have uniq1 : ((L.take i ++ (x, k) :: L.drop i).map (·.2)).Nodup := (pm.map (·.2)).nodup_iff.mpr (List.nodup_cons.mpr ⟨hm, R.uniq⟩)
  generalize L.take i ++ (x, k) :: L.drop i = L1 at pm len1 ents1 tab1 uniq1
  generalize SetTable.insertAt es i (hsh kd k, Value.ref x) = es1 at ents1 ⊢
  have le1 := ents_len ents1
  -- whatever the answer, the table stays the same but for one mark
  have go : ∀ t2 : SetTable, t2.place = t1.place → t2.dummies = t1.dummies → t2.mask = t1.mask → t2.led = t1.led → TabOk t2 (L1.map fun p => hsh kd p.2) →
      wpAny (model P w) A (do
        storeSet a es1 t2
        if !false && t2.tooFull then setRelay a (SetTable.grown (es.size + 1))
        return true) Q E s := fun t2 g1 g2 g3 g4 tab2 => by
    refine wpAny_bind (wpAny_storeSet_of ho hd ?_ (by rw [le1, len1, sizeLine_eq]; omega))
    have sb : Heap.SameBut a s.heap (s.heap.update a (Obj.putSet es1 t2)) := Heap.SameBut.update ..
    have ho1 := store_at (es' := es1) (t' := t2) ho hd
    generalize s.heap.update a (Obj.putSet es1 t2) = h1 at sb ho1 ⊢
    have tups1 : ∀ p ∈ L1, Tp kd h1 p.2 p.1 := fun p hp => by
      rcases List.mem_cons.mp (pm.mem_iff.mp hp) with e | hp
      · rw [e]; exact tp_at hx ho hd sb
      · exact tp_at (R.tups p hp) ho hd sb
    have lead1 : w.params.followText "set-order" = true ∨ t2.led = true := by rw [g4, p5]; exact R.lead
    have fill : t2.fill = L.length + 1 := by
      unfold SetTable.fill
      rw [g1, g2]
      have := p9
      unfold SetTable.fill at this
      rw [this, List.length_map]
    have full : t2.tooFull = decide ((L.length + 1) * 5 ≥ t.mask * 3) := by
      unfold SetTable.tooFull
      rw [fill, g3, p4]
    have mk : KeyKind P w κ := kd
    by_cases hf : (L.length + 1) * 5 ≥ t.mask * 3
    · rw [full, decide_eq_true hf, le]
      have sz2 : t2.place.size = L1.length := by
        have := tab2.sz
        rwa [List.length_map] at this
      have relay : ∀ M, SetTable.sizeAbove (SetTable.grown (L.length + 1)) = M + 1 → MaskOk M → (L.length + 1) * 5 < M * 3 → L.length + 1 ≤ t.mask →
          wpAny (model P w) A (setRelay a (SetTable.grown (L.length + 1))) (fun _ s' => wpAny (model P w) A (pure true) Q E s') E { s with heap := h1 } := fun M h1' h2' h3' h4' =>
        relayK (s := { s with heap := h1 }) ho1 ⟨hex.1, hex.2.1, hex.2.2⟩ rfl ents1 sz2 tab2.dm (by rw [len1, g3, p4]; exact h4') uniq1 tups1 lead1 (by rw [len1]; exact few) h1' h2' (by rw [len1]; exact h3')
          fun h2 L2 es2 ep2 t3 sb2 R2 pm2 => wpAny_pure (hQ true h2 L2 es2 ep2 t3 (sb.trans sb2) R2 (fun z => (hm z).elim) fun _ => pm2.trans pm)
      have both : (L.length = 4 ∧ t.mask = 7) ∨ (L.length = 18 ∧ t.mask = 31) := by
        rcases R.tab.mok with e | e | e
        · left; rw [e] at hf room; exact ⟨by omega, e⟩
        · right; rw [e] at hf room; exact ⟨by omega, e⟩
        · exfalso; rw [e] at hf; omega
      first
        | (refine wpAny_bind ?_; refine wp_if_pos rfl ?_)
        | (refine wp_if_pos rfl ?_; refine wpAny_bind ?_)
      rcases both with ⟨e2, e3⟩ | ⟨e2, e3⟩
      · exact relay 31 (by rw [e2]; exact size_5) (.inr (.inl rfl)) (by omega) (by omega)
      · exact relay 127 (by rw [e2]; exact size_19) (.inr (.inr rfl)) (by omega) (by omega)
    · rw [full, decide_eq_false hf]
      first
        | refine wp_if_neg Bool.false_ne_true ?_
        | (refine wpAny_bind ?_; refine wp_if_neg Bool.false_ne_true ?_; refine wpAny_pure ?_)
      refine wpAny_pure (hQ true h1 L1 es1 (ep + 1) t2 sb ⟨⟨_, ho1, ⟨hex.1, hex.2.1, hex.2.2⟩, rfl⟩, ents1, tab2, uniq1, tups1, lead1, ?_, by rw [len1]; exact few⟩ (fun z => (hm z).elim) fun _ => pm)
      rw [len1, g3, p4]
      omega
  have done : ∀ c : Bool, wpAny (model P w) A (do
      storeSet a es1 (if c = true then t1 else { t1 with plain := false })
      if !false && (if c = true then t1 else { t1 with plain := false }).tooFull then setRelay a (SetTable.grown (es.size + 1))
      return true) Q E s := fun c => by
    cases c with
    | true => exact go t1 rfl rfl rfl rfl tab1
    | false => exact go { t1 with plain := false } rfl rfl rfl rfl ⟨tab1.ris, tab1.dm, tab1.sz, tab1.mok, tab1.bd, tab1.reach⟩
  by_cases pl : t1.plain = true
  · first
      | (refine wpAny_bind ?_; refine wp_if_pos pl ?_; exact byVal hx done)
      | exact wp_if_pos pl (wpAny_bind (byVal hx done))
  · first
      | (refine wpAny_bind ?_; refine wp_if_neg pl ?_; exact wpAny_pure (done true))
      | exact wp_if_neg pl (wpAny_bind (wpAny_pure (done true)))

/-! ### all of a list -/
structure GotK (ks : List (Addr × List κ)) (i : Nat) (L : List (Addr × List κ)) : Prop where
  sub : ∀ p ∈ L, p ∈ ks.take i
  all : ∀ p ∈ ks.take i, p.2 ∈ L.map (·.2)
theorem GotK.step {ks L L' : List (Addr × List κ)} {i : Nat} {x : Addr × List κ} (g : GotK ks i L) (h : ks[i]? = some x) (h1 : x.2 ∈ L.map (·.2) → L' = L) (h2 : x.2 ∉ L.map (·.2) → L'.Perm (x :: L)) : GotK ks (i + 1) L' := by
  have nx := take_next h
  by_cases c : x.2 ∈ L.map (·.2)
  · rw [h1 c]
    refine ⟨fun p hp => nx ▸ List.mem_append_left _ (g.sub p hp), fun p hp => ?_⟩
    rw [nx] at hp
    rcases List.mem_append.mp hp with z | z
    · exact g.all p z
    · exact List.mem_singleton.mp z ▸ c
  · have pm := h2 c
    refine ⟨fun p hp => ?_, fun p hp => ?_⟩
    · rw [nx]
      rcases List.mem_cons.mp (pm.mem_iff.mp hp) with z | z
      · exact List.mem_append_right _ (List.mem_singleton.mpr z)
      · exact List.mem_append_left _ (g.sub p z)
    · rw [(pm.map (·.2)).mem_iff]
      rw [nx] at hp
      rcases List.mem_append.mp hp with z | z
      · exact List.mem_cons_of_mem _ (g.all p z)
      · rw [List.mem_singleton.mp z]; exact List.mem_cons_self
/-- few of them are unlike -/
def FewK (ks : List (Addr × List κ)) : Prop := ∀ M : List (Addr × List κ), (M.map (·.2)).Nodup → (∀ p ∈ M, p ∈ ks) → M.length < 63
theorem tp_keep {h h' : Heap} {k : List κ} {b : Addr} (x : Tp kd h k b) (keep : ∀ c o, h.get? c = some o → h'.get? c = some o) : Tp kd h' k b := by
  obtain ⟨o, its, n, ho, r⟩ := x
  exact ⟨o, its, n, keep b o ho, r⟩
theorem KSet.keep {h h' : Heap} (R : KSet kd h a L es ep t) (ha : ∀ o, h.get? a = some o → h'.get? a = some o) (ht : ∀ p ∈ L, Tp kd h' p.2 p.1) : KSet kd h' a L es ep t := by
  obtain ⟨o, ho, r⟩ := R.obj
  exact ⟨⟨o, ha o ho, r⟩, R.ents, R.tab, R.uniq, ht, R.lead, R.room, R.few⟩
theorem kset_new {h : Heap} (ho : h.get? a = some (set0 w)) : KSet kd h a [] #[] 0 (.fresh 0 0 (!w.params.followText "set-order")) :=
  ⟨⟨_, ho, ⟨rfl, rfl, rfl⟩, rfl⟩, rfl, ⟨List.Pairwise.nil, rfl, rfl, .inl rfl, (fun x hx => nomatch hx), fun i h j hi => (by simp at hi)⟩, List.nodup_nil, (fun p hp => nomatch hp),
    by cases e : w.params.followText "set-order" <;> simp [SetTable.fresh], (show 0 * 5 < 7 * 3 by decide), (show 0 < 64 by decide)⟩
theorem updateK {I : Addr} {fp wr : List Addr} {G : Array GenState → Array GenState → Prop} {n : Nat} {Pv : Nat → Value → Prop} {St : Nat → Shared → Prop} {R : Result → Shared → Prop}
    (W : WalksS P w A.in1 I fp wr G n Pv St) (S : Addr) (hS : S ∉ fp) (ks : List (Addr × List κ)) (hn : n = ks.length) (few : FewK ks) (items : ∀ i v, Pv i v → ∃ p, ks[i]? = some p ∧ v = .ref p.1)
    (h0 : Heap) (tups : ∀ p ∈ ks, Tp kd h0 p.2 p.1) (newS : h0.get? S = none) (newW : ∀ b ∈ wr, h0.get? b = none) (hu : A.in1.units < cLine) :
    ∀ (m i : Nat) (s : Shared), n - i = m → i ≤ n → St i s → (∀ b o, h0.get? b = some o → s.heap.get? b = some o) → (∃ L es ep t, KSet kd s.heap S L es ep t ∧ GotK ks i L) →
      (∀ s' L es ep t, Moved (S :: wr) G s s' → KSet kd s'.heap S L es ep t → GotK ks n L → (∀ b o, h0.get? b = some o → s'.heap.get? b = some o) → R (.ok (.ret .none)) s') →
      codeAny (model P w) A (.builtin "set.update.loop" ⟨[.ref S, .ref I], []⟩) R s := by
  have offW : S ∉ wr := fun h => hS (W.sub _ h)
  have on : ∀ {s s' : Shared}, Moved wr G s s' → (∀ b o, h0.get? b = some o → s.heap.get? b = some o) → ∀ b o, h0.get? b = some o → s'.heap.get? b = some o := fun mv old b o e =>
    mv.heap b o (fun hb => by rw [newW b hb] at e; cases e) (old b o e)
  have kept : ∀ {s s' : Shared} {L es ep t i}, Moved wr G s s' → (∀ b o, h0.get? b = some o → s.heap.get? b = some o) → KSet kd s.heap S L es ep t → GotK ks i L → KSet kd s'.heap S L es ep t := fun mv old R g =>
    R.keep (fun o e => mv.heap S o offW e) fun p hp => tp_keep (tups p (List.mem_of_mem_take (g.sub p hp))) (on mv old)
  intro m
  induction m with
  | zero =>
    intro i s hm hi st old ⟨L, es, ep, t, K, g⟩ hR
    obtain rfl : i = n := by omega
    refine codeAny_builtin F.entry_set_update_loop ?_
    rw [Around.under_plainId F.plain_set_update_loop _]
    refine wpAny_bind (m := pyNext (.ref I)) (W.done s _ _ st fun s' mv => ?_)
    exact wpAny_pure (hR s' L es ep t (mv.mono fun b hb => List.mem_cons_of_mem _ hb) (kept mv old K g) g (on mv old))
  | succ m ih =>
    intro i s hm hi st old ⟨L, es, ep, t, K, g⟩ hR
    have lt : i < n := by omega
    refine codeAny_builtin F.entry_set_update_loop ?_
    rw [Around.under_plainId F.plain_set_update_loop _]
    refine wpAny_bind (m := pyNext (.ref I)) (W.item i s _ _ lt st fun v s' hv st' mv => ?_)
    obtain ⟨p, hp, rfl⟩ := items i v hv
    have old' := on mv old
    have px : Tp kd s'.heap p.2 p.1 := tp_keep (tups p (List.mem_of_getElem? hp)) old'
    have room := few L K.uniq fun q hq => List.mem_of_mem_take (g.sub q hq)
    refine wpAny_bind (m := holding [Value.ref p.1] (setAdd S (.ref p.1))) (wpAny_holding ?_)
    unfold setAdd
    refine wpAny_holding (wpAny_bind (wpAny_pyHash_tuple hu px ?_))
    have K1 : KSet kd s'.heap S L es ep t := kept mv old K g
    refine KSet.add (s := { s' with toks := s'.toks + (p.2.length + 1) }) K1 px hu (by omega) fun b h' L' es' ep' t' sb K' c1 c2 => ?_
    have old2 : ∀ b o, h0.get? b = some o → h'.get? b = some o := fun b o e => (sb.2 b fun z => by rw [z, newS] at e; cases e).trans (old' b o e)
    refine wpAny_pure ⟨plainId_quiet F.plain_set_update_loop _, ih (i + 1) _ (by omega) lt (W.frame _ s' _ _ st' (Nat.le_add_right _ _) fun b hb o e => ?_) old2 ⟨L', es', ep', t', K', g.step hp c1 c2⟩ fun s2 L2 es2 ep2 t2 mv2 K2 g2 o2 => ?_⟩
    · exact (sb.2 b fun z => hS (z ▸ hb)).trans e
    · refine hR s2 L2 es2 ep2 t2 (Moved.trans W.gtrans ((mv.mono fun b hb => List.mem_cons_of_mem _ hb).then_heap (Nat.le_add_right _ _) fun b o hb e => ?_) mv2) K2 g2 o2
      exact (sb.2 b fun z => hb (z ▸ List.mem_cons_self)).trans e
set_option maxHeartbeats 3200000 in
/-- set(xs), xs a list or a tuple of such tuples -/
theorem set_ofK {l : Addr} {items : Array Value} (ks : List (Addr × List κ)) {Q : Value → Shared → Prop} (hh : A.handled = none) (hl : s.heap.IsList l items ∨ s.heap.IsTuple l items) (hit : items.toList = ks.map fun p => Value.ref p.1)
    (hk : ∀ p ∈ ks, Tp kd s.heap p.2 p.1) (few : FewK ks) (hu : A.units + 3 < cLine)
    (h : ∀ (h' : Heap) (tk : Nat) L es ep t, KSet kd h' s.heap.objs.size L es ep t → GotK ks ks.length L → (∀ b o, s.heap.get? b = some o → h'.get? b = some o) → Q (.ref s.heap.objs.size) { s with heap := h', toks := tk }) :
    wpAny (model P w) A (call (.type "set") [.ref l]) Q E s := by
  have many : items.size = ks.length := by
    have q := congrArg List.length hit
    rwa [Array.length_toList, List.length_map] at q
  have vals : ∀ (i : Nat) (v : Value), items[i]? = some v → ∃ p, ks[i]? = some p ∧ v = .ref p.1 := fun i v hv => by
    have q : items.toList[i]? = some v := by rw [Array.getElem?_toList]; exact hv
    rw [hit, List.getElem?_map] at q
    cases hq : ks[i]? with
    | none => rw [hq] at q; cases q
    | some p => rw [hq] at q; exact ⟨p, rfl, (Option.some.inj q).symm⟩
  refine set_pre (D := fun h' => ∃ L es ep t, KSet kd h' s.heap.objs.size L es ep t ∧ GotK ks ks.length L ∧ ∀ b o, s.heap.get? b = some o → h'.get? b = some o) (fun R hR => ?_) (fun h' tk ⟨L, es, ep, t, a1, a2, a3⟩ => h h' tk L es ep t a1 a2 a3)
  have z0 : (s.heap.push (set0 w)).objs.size = s.heap.objs.size + 1 := Heap.size_push ..
  rcases hl with ⟨⟨cls, dict, data, slots⟩, at_l, hcl, nl, hdl⟩ | ⟨⟨cls, dict, data, slots⟩, at_l, hcl, nl, hdl⟩
  all_goals
    simp only at hcl hdl
    subst hcl; subst hdl
    have lS : l < s.heap.objs.size := Heap.lt_size at_l
    have l1 : l ≠ (s.heap.push (set0 w)).objs.size := by rw [z0]; exact Nat.ne_of_lt (Nat.lt_succ_of_lt lS)
    have l2 : s.heap.objs.size ∉ [(s.heap.push (set0 w)).objs.size, l] := by
      rw [z0]
      intro z
      rcases List.mem_cons.mp z with z | z
      · exact Nat.ne_of_lt (Nat.lt_succ_self _) z
      · exact Nat.ne_of_gt lS (List.mem_singleton.mp z)
    have beyond : ∀ b ∈ [(s.heap.push (set0 w)).objs.size], s.heap.get? b = none := fun b hb => none_beyond (by rw [List.mem_singleton.mp hb, z0]; exact Nat.le_succ _)
  · have at2 : (s.heap.push (set0 w)).get? l = some { cls := .type "list", dict := dict, data := .seq items nl, slots := slots } := Heap.get?_push_of_some _ at_l
    have k1 := F.sub_list_set
    have k2 := F.sub_list_frozenset
    have k3 : (Value.type "list" == Value.type "dict") = false := by decide
    have isl : (s.heap.push (set0 w)).IsList l items := ⟨_, at2, rfl, nl, rfl⟩
    unfold Builtin.«set.__init__» noKeywords Builtin.Frozenset.updateFrom
    generalize ePI : pyIter = PI
    wp_walk
    subst ePI
    refine wpAny_pyIter_list isl (wpAny_bind (wpAny_runValue ?_))
    refine updateK ((Walks.list (by simp [hh]) _ l l1 items).toS) s.heap.objs.size l2 ks many few vals s.heap hk (none_beyond (Nat.le_refl _)) beyond hu (items.size - 0) 0 _ (by omega) (Nat.zero_le _) ⟨⟨_, Heap.get?_push_size _ rfl, rfl, rfl⟩, isl.push _⟩
      (fun b o e => Heap.get?_push_of_some _ (Heap.get?_push_of_some _ e)) ⟨[], #[], 0, _, kset_new (Heap.get?_push_of_some _ (Heap.get?_push_size _ rfl)), ⟨(fun p hp => nomatch hp), fun p hp => (by simp at hp)⟩⟩ ?_
    rintro ⟨h', g2, d2, tk', os'⟩ L es ep t mv K g old
    have eg : g2 = s.gens := mv.gens
    have ed : d2 = s.drawn := mv.drawn
    have eo : os' = s.os := mv.os
    subst eg; subst ed; subst eo
    rw [many] at g
    exact wpAny_pure (wpAny_pure (hR h' tk' ⟨L, es, ep, t, K, g, old⟩))
  · have at2 : (s.heap.push (set0 w)).get? l = some { cls := .type "tuple", dict := dict, data := .seq items nl, slots := slots } := Heap.get?_push_of_some _ at_l
    have k1 := F.sub_tuple_set
    have k2 := F.sub_tuple_frozenset
    have k3 : (Value.type "tuple" == Value.type "dict") = false := by decide
    have isl : (s.heap.push (set0 w)).IsTuple l items := ⟨_, at2, rfl, nl, rfl⟩
    unfold Builtin.«set.__init__» noKeywords Builtin.Frozenset.updateFrom
    generalize ePI : pyIter = PI
    wp_walk
    subst ePI
    refine wpAny_pyIter_tuple isl (wpAny_bind (wpAny_runValue ?_))
    refine updateK ((Walks.tuple (by simp [hh]) _ l l1 items).toS) s.heap.objs.size l2 ks many few vals s.heap hk (none_beyond (Nat.le_refl _)) beyond hu (items.size - 0) 0 _ (by omega) (Nat.zero_le _) ⟨⟨_, Heap.get?_push_size _ rfl, rfl, rfl⟩, isl.push _⟩
      (fun b o e => Heap.get?_push_of_some _ (Heap.get?_push_of_some _ e)) ⟨[], #[], 0, _, kset_new (Heap.get?_push_of_some _ (Heap.get?_push_size _ rfl)), ⟨(fun p hp => nomatch hp), fun p hp => (by simp at hp)⟩⟩ ?_
    rintro ⟨h', g2, d2, tk', os'⟩ L es ep t mv K g old
    have eg : g2 = s.gens := mv.gens
    have ed : d2 = s.drawn := mv.drawn
    have eo : os' = s.os := mv.os
    subst eg; subst ed; subst eo
    rw [many] at g
    exact wpAny_pure (wpAny_pure (hR h' tk' ⟨L, es, ep, t, K, g, old⟩))
end
end My
set_option linter.all false
/-! The search for a partner: what it leaves when it finds one (Found) and when it finds none (Dead ends). -/
namespace My
variable {N : Int → List Int} {m m1 m' : Int → Option Int} {t t1 t' : Int → Prop} {x y : Int}
/-- every y of T is matched, and all rivals of its partner are in T again -/
def Closed (N : Int → List Int) (m : Int → Option Int) (T : Int → Prop) : Prop := ∀ y, T y → ∃ x, m y = some x ∧ ∀ z ∈ N x, T z
def Dead (N : Int → List Int) (m : Int → Option Int) (x : Int) : Prop := ∃ T, Closed N m T ∧ ∀ z ∈ N x, T z
def setM (m : Int → Option Int) (y x : Int) : Int → Option Int := fun a => if a = y then some x else m a
theorem setM_same : setM m y x y = some x := if_pos rfl
theorem setM_ne {a : Int} (h : a ≠ y) : setM m y x a = m a := if_neg h
structure Found (N : Int → List Int) (m m' : Int → Option Int) (t : Int → Prop) (x : Int) : Prop where
  tr : ∀ y, t y → m' y = m y
  own : ∃ y, ¬ t y ∧ m' y = some x ∧ y ∈ N x ∧ ∀ a, m' a = some x → (t a ∧ m a = some x) ∨ a = y
  inj : ∀ a b v, m' a = some v → m' b = some v → a = b ∨ v = x
  st : ∀ v, (∀ y, m y = some v → t y) → v ≠ x → ∀ a, m' a = some v → m a = some v
  gr : ∀ v a, m a = some v → ∃ b, m' b = some v
  vs : ∀ v a, m' a = some v → v = x ∨ ∃ b, m b = some v
  ed : (∀ a v, m a = some v → a ∈ N v) → ∀ a v, m' a = some v → a ∈ N v
  ks : ∀ a, m a ≠ none → m' a ≠ none
  lv : ∀ T, Closed N m T → ∃ z ∈ N x, ¬ T z
  cl : ∀ T, Closed N m T → ∀ y, T y → m' y = m y
structure Failed (N : Int → List Int) (m : Int → Option Int) (t t' : Int → Prop) (x : Int) : Prop where
  sub : ∀ y, t y → t' y
  all : ∀ y ∈ N x, t' y
  new : ∀ y, t' y → t y ∨ ∃ x', m y = some x' ∧ ∀ z ∈ N x', t' z
/-- what a call may rely on: no partner twice, and x is matched at tried ones alone -/
structure Ready (m : Int → Option Int) (t : Int → Prop) (x : Int) : Prop where
  inj : ∀ a b v, m a = some v → m b = some v → a = b
  tri : ∀ a, m a = some x → t a
theorem found_free (R : Ready m t x) (hy : y ∈ N x) (ht : ¬ t y) (hm : m y = none) : Found N m (setM m y x) t x where
  tr := fun a ha => setM_ne (fun e => ht (e ▸ ha))
  own := ⟨y, ht, setM_same, hy, fun a ha => by
    by_cases e : a = y
    · exact .inr e
    · rw [setM_ne e] at ha; exact .inl ⟨R.tri a ha, ha⟩⟩
  inj := fun a b v ha hb => by
    by_cases e : a = y
    · rw [e, setM_same] at ha; cases ha; exact .inr rfl
    · by_cases e2 : b = y
      · rw [e2, setM_same] at hb; cases hb; exact .inr rfl
      · rw [setM_ne e] at ha; rw [setM_ne e2] at hb; exact .inl (R.inj a b v ha hb)
  st := fun v _ hv a ha => by
    by_cases e : a = y
    · rw [e, setM_same] at ha; cases ha; exact (hv rfl).elim
    · rw [setM_ne e] at ha; exact ha
  gr := fun v a ha => ⟨a, by rw [setM_ne (fun e => by rw [e, hm] at ha; cases ha)]; exact ha⟩
  vs := fun v a ha => by
    by_cases e : a = y
    · rw [e, setM_same] at ha; cases ha; exact .inl rfl
    · rw [setM_ne e] at ha; exact .inr ⟨a, ha⟩
  ed := fun h a v ha => by
    by_cases e : a = y
    · rw [e, setM_same] at ha; cases ha; rw [e]; exact hy
    · rw [setM_ne e] at ha; exact h a v ha
  ks := fun a ha => by
    by_cases e : a = y
    · rw [e, setM_same]; exact fun z => nomatch z
    · rw [setM_ne e]; exact ha
  lv := fun T hT => ⟨y, hy, fun h => by obtain ⟨x', h', _⟩ := hT y h; rw [hm] at h'; cases h'⟩
  cl := fun T hT a ha => setM_ne (fun e => by obtain ⟨x', h', _⟩ := hT a ha; rw [e, hm] at h'; cases h')
theorem ready_next (R : Ready m t x) {x' : Int} (hm : m y = some x') (h1 : t1 y) : Ready m t1 x' where
  inj := R.inj
  tri := fun a ha => by rw [R.inj a y x' ha hm]; exact h1
theorem found_next (R : Ready m t x) (hy : y ∈ N x) (ht : ¬ t y) {x' : Int} (hm : m y = some x') (hs : ∀ a, t a → t1 a) (h1 : t1 y) (F : Found N m m1 t1 x') : Found N m (setM m1 y x) t x := by
  have m1y : m1 y = some x' := by rw [F.tr y h1]; exact hm
  have hxx : x ≠ x' := fun e => ht (R.tri y (by rw [e]; exact hm))
  obtain ⟨y2, n2, e2, i2, o2⟩ := F.own
  have y2y : y2 ≠ y := fun e => n2 (e ▸ h1)
  have stx : ∀ a, m1 a = some x → m a = some x := fun a ha => F.st x (fun b hb => hs b (R.tri b hb)) hxx a ha
  exact {
    tr := fun a ha => by
      have : a ≠ y := fun e => ht (e ▸ ha)
      rw [setM_ne this]; exact F.tr a (hs a ha)
    own := ⟨y, ht, setM_same, hy, fun a ha => by
      by_cases e : a = y
      · exact .inr e
      · rw [setM_ne e] at ha; exact .inl ⟨R.tri a (stx a ha), stx a ha⟩⟩
    inj := fun a b v ha hb => by
      by_cases e : a = y
      · rw [e, setM_same] at ha; cases ha; exact .inr rfl
      · by_cases eb : b = y
        · rw [eb, setM_same] at hb; cases hb; exact .inr rfl
        · rw [setM_ne e] at ha; rw [setM_ne eb] at hb
          rcases F.inj a b v ha hb with h | h
          · exact .inl h
          · subst h
            have pa : a = y2 := by
              rcases o2 a ha with ⟨_, h⟩ | h
              · exact (e (R.inj a y v h hm)).elim
              · exact h
            have pb : b = y2 := by
              rcases o2 b hb with ⟨_, h⟩ | h
              · exact (eb (R.inj b y v h hm)).elim
              · exact h
            exact .inl (pa.trans pb.symm)
    st := fun v hv hvx a ha => by
      have hvx' : v ≠ x' := fun e => ht (hv y (by rw [e]; exact hm))
      by_cases e : a = y
      · rw [e, setM_same] at ha; cases ha; exact (hvx rfl).elim
      · rw [setM_ne e] at ha; exact F.st v (fun b hb => hs b (hv b hb)) hvx' a ha
    gr := fun v a ha => by
      obtain ⟨b, hb⟩ := F.gr v a ha
      by_cases e : b = y
      · rw [e, m1y] at hb; cases hb
        exact ⟨y2, by rw [setM_ne y2y]; exact e2⟩
      · exact ⟨b, by rw [setM_ne e]; exact hb⟩
    vs := fun v a ha => by
      by_cases e : a = y
      · rw [e, setM_same] at ha; cases ha; exact .inl rfl
      · rw [setM_ne e] at ha
        rcases F.vs v a ha with h | h
        · exact .inr ⟨y, by rw [h]; exact hm⟩
        · exact .inr h
    ed := fun h a v ha => by
      by_cases e : a = y
      · rw [e, setM_same] at ha; cases ha; rw [e]; exact hy
      · rw [setM_ne e] at ha; exact F.ed h a v ha
    ks := fun a ha => by
      by_cases e : a = y
      · rw [e, setM_same]; exact fun z => nomatch z
      · rw [setM_ne e]; exact F.ks a ha
    lv := fun T hT => ⟨y, hy, fun h => by
      obtain ⟨x2, h2, h3⟩ := hT y h
      rw [hm] at h2; cases h2
      obtain ⟨z, hz, nz⟩ := F.lv T hT
      exact nz (h3 z hz)⟩
    cl := fun T hT a ha => by
      have : a ≠ y := fun e => by
        obtain ⟨x2, h2, h3⟩ := hT a ha
        rw [e, hm] at h2; cases h2
        obtain ⟨z, hz, nz⟩ := F.lv T hT
        exact nz (h3 z hz)
      rw [setM_ne this]
      exact F.cl T hT a ha }
/-- the search's loop while nothing is found: the rivals ys of x are looked at -/
structure Seeks (N : Int → List Int) (m : Int → Option Int) (t t' : Int → Prop) (ys : List Int) : Prop where
  sub : ∀ y, t y → t' y
  all : ∀ y ∈ ys, t' y
  new : ∀ y, t' y → t y ∨ ∃ x', m y = some x' ∧ ∀ z ∈ N x', t' z
theorem seeks_nil : Seeks N m t t [] := ⟨fun _ h => h, (fun _ h => nomatch h), fun _ h => .inl h⟩
theorem seeks_skip {ys : List Int} (S : Seeks N m t t1 ys) (h : t1 y) : Seeks N m t t1 (ys ++ [y]) where
  sub := S.sub
  all := fun a ha => by
    rcases List.mem_append.mp ha with h' | h'
    · exact S.all a h'
    · rw [List.mem_singleton.mp h']; exact h
  new := S.new
theorem seeks_fail {ys : List Int} (S : Seeks N m t t1 ys) {x' : Int} (hm : m y = some x') (F : Failed N m (fun a => t1 a ∨ a = y) t' x') : Seeks N m t t' (ys ++ [y]) where
  sub := fun a ha => F.sub a (.inl (S.sub a ha))
  all := fun a ha => by
    rcases List.mem_append.mp ha with h' | h'
    · exact F.sub a (.inl (S.all a h'))
    · rw [List.mem_singleton.mp h']; exact F.sub y (.inr rfl)
  new := fun a ha => by
    rcases F.new a ha with (h | h) | h
    · rcases S.new a h with h' | ⟨z, hz, h'⟩
      · exact .inl h'
      · exact .inr ⟨z, hz, fun c hc => F.sub c (.inl (h' c hc))⟩
    · exact .inr ⟨x', by rw [h]; exact hm, F.all⟩
    · exact .inr h
theorem Seeks.failed (S : Seeks N m t t' (N x)) : Failed N m t t' x := ⟨S.sub, S.all, S.new⟩
theorem Failed.dead (F : Failed N m (fun _ => False) t' x) : Dead N m x :=
  ⟨t', fun y hy => (F.new y hy).elim (fun h => h.elim) id, F.all⟩
theorem Found.dead (F : Found N m m' t x) {z : Int} (h : Dead N m z) : Dead N m' z := by
  obtain ⟨T, hT, hz⟩ := h
  exact ⟨T, fun y hy => by obtain ⟨x', h1, h2⟩ := hT y hy; exact ⟨x', by rw [F.cl T hT y hy]; exact h1, h2⟩, hz⟩
/-- what the matching holds when the x of xs were looked at -/
structure Mat (N : Int → List Int) (m : Int → Option Int) (xs : List Int) : Prop where
  inj : ∀ a b v, m a = some v → m b = some v → a = b
  ed : ∀ a v, m a = some v → a ∈ N v
  vs : ∀ a v, m a = some v → v ∈ xs
  dead : ∀ x ∈ xs, (∃ a, m a = some x) ∨ Dead N m x
theorem mat_nil : Mat N (fun _ => none) [] := ⟨(fun _ _ _ h _ => nomatch h), (fun _ _ h => nomatch h), (fun _ _ h => nomatch h), (fun _ h => nomatch h)⟩
theorem Mat.ready {xs : List Int} (M : Mat N m xs) (hx : x ∉ xs) : Ready m (fun _ => False) x := ⟨M.inj, fun a ha => hx (M.vs a x ha)⟩
theorem Mat.found {xs : List Int} (M : Mat N m xs) (hx : x ∉ xs) (F : Found N m m' (fun _ => False) x) : Mat N m' (xs ++ [x]) where
  inj := fun a b v ha hb => by
    rcases F.inj a b v ha hb with h | h
    · exact h
    · subst h
      obtain ⟨y, _, _, _, o⟩ := F.own
      have pa := (o a ha).elim (fun h => h.1.elim) id
      have pb := (o b hb).elim (fun h => h.1.elim) id
      exact pa.trans pb.symm
  ed := F.ed M.ed
  vs := fun a v ha => by
    rcases F.vs v a ha with h | ⟨b, h⟩
    · exact List.mem_append.mpr (.inr (List.mem_singleton.mpr h))
    · exact List.mem_append.mpr (.inl (M.vs b v h))
  dead := fun z hz => by
    rcases List.mem_append.mp hz with h | h
    · rcases M.dead z h with ⟨a, ha⟩ | h
      · exact .inl (F.gr z a ha)
      · exact .inr (F.dead h)
    · obtain ⟨y, _, e, _⟩ := F.own
      rw [List.mem_singleton.mp h]
      exact .inl ⟨y, e⟩
theorem Mat.failed {xs : List Int} (M : Mat N m xs) (F : Failed N m (fun _ => False) t' x) : Mat N m (xs ++ [x]) where
  inj := M.inj
  ed := M.ed
  vs := fun a v ha => List.mem_append.mpr (.inl (M.vs a v ha))
  dead := fun z hz => by
    rcases List.mem_append.mp hz with h | h
    · exact M.dead z h
    · rw [List.mem_singleton.mp h]; exact .inr F.dead
/-- from a dead x every rival is matched, and its partner is dead again -/
theorem dead_next (h : Dead N m x) (hy : y ∈ N x) : ∃ x', m y = some x' ∧ Dead N m x' := by
  obtain ⟨T, hT, hx⟩ := h
  obtain ⟨x', e, h'⟩ := hT y (hx y hy)
  exact ⟨x', e, T, hT, h'⟩
end My
set_option Elab.async false
set_option linter.all false
set_option maxRecDepth 100000
/-! Dicts with int keys as tables; lists of pairs of ints in the heap; the free ones of twelve. -/
namespace My
open PySem PySem.Spec PyProof.Rows L2
def tab (xs : List Int) (f : Int → V) : List (Key × V) := xs.map fun x => (Sum.inl x, f x)
theorem tab_val (xs : List Int) (f : Int → V) (k : Int) : valV (tab xs f) (Sum.inl k) = if k ∈ xs then some (f k) else none := by
  induction xs with
  | nil => rfl
  | cons x r ih =>
    show valV ((Sum.inl x, f x) :: tab r f) (Sum.inl k) = _
    by_cases e : x = k
    · subst e
      rw [valV_pos (p := (Sum.inl x, f x)) rfl, if_pos List.mem_cons_self]
    · rw [valV_neg (p := (Sum.inl x, f x)) (fun z => e (Sum.inl.inj z)), ih]
      have : (k ∈ x :: r) ↔ k ∈ r := ⟨fun h => (List.mem_cons.mp h).elim (fun h => (e h.symm).elim) id, List.mem_cons_of_mem _⟩
      by_cases hk : k ∈ r
      · rw [if_pos hk, if_pos (this.mpr hk)]
      · rw [if_neg hk, if_neg (fun h => hk (this.mp h))]
theorem tab_at {xs : List Int} {f : Int → V} {k : Int} (h : k ∈ xs) : valV (tab xs f) (Sum.inl k) = some (f k) := by rw [tab_val, if_pos h]
theorem tab_no {xs : List Int} {f : Int → V} {k : Int} (h : k ∉ xs) : valV (tab xs f) (Sum.inl k) = none := by rw [tab_val, if_neg h]
def addK (xs : List Int) (k : Int) : List Int := if k ∈ xs then xs else xs ++ [k]
theorem mem_addK {xs : List Int} {k a : Int} : a ∈ addK xs k ↔ a ∈ xs ∨ a = k := by
  unfold addK
  by_cases h : k ∈ xs
  · rw [if_pos h]
    exact ⟨.inl, fun h' => h'.elim id (fun e => e ▸ h)⟩
  · rw [if_neg h, List.mem_append, List.mem_singleton]
theorem nd_addK {xs : List Int} {k : Int} (h : xs.Nodup) : (addK xs k).Nodup := by
  unfold addK
  by_cases hk : k ∈ xs
  · rw [if_pos hk]; exact h
  · rw [if_neg hk]; exact nd_snoc h hk
theorem tab_put (xs : List Int) (f : Int → V) (k : Int) (v : V) : putK (tab xs f) (Sum.inl k) v = tab (addK xs k) (fun x => if x = k then v else f x) := by
  unfold putK addK
  rw [valV_any, tab_val]
  by_cases h : k ∈ xs
  · rw [if_pos h, if_pos h, if_pos (show (some (f k)).isSome = true from rfl)]
    unfold tab
    rw [List.map_map]
    refine List.map_congr_left fun x _ => ?_
    show (if (Sum.inl x : Key) = Sum.inl k then ((Sum.inl x : Key), v) else (Sum.inl x, f x)) = (Sum.inl x, if x = k then v else f x)
    by_cases e : x = k
    · rw [if_pos (by rw [e]), if_pos e]
    · rw [if_neg (fun z => e (Sum.inl.inj z)), if_neg e]
  · rw [if_neg h, if_neg h, if_neg (by decide)]
    unfold tab
    rw [List.map_append, List.map_cons, List.map_nil]
    show _ ++ [(Sum.inl k, v)] = _ ++ [(Sum.inl k, if k = k then v else f k)]
    rw [if_pos rfl]
    congr 1
    refine List.map_congr_left fun x hx => ?_
    show (Sum.inl x, f x) = (Sum.inl x, if x = k then v else f x)
    rw [if_neg (fun e : x = k => h (e ▸ hx))]
theorem tab_len (xs : List Int) (f : Int → V) : (tab xs f).length = xs.length := List.length_map ..
theorem tab_keys (xs : List Int) (f : Int → V) : (tab xs f).map (·.1) = xs.map Sum.inl := by
  unfold tab
  rw [List.map_map]
  rfl
theorem tab_congr {xs : List Int} {f g : Int → V} (h : ∀ x ∈ xs, f x = g x) : tab xs f = tab xs g := List.map_congr_left fun x hx => by rw [h x hx]
theorem ite_heap {c A B : Prop} [Decidable c] {C : Hp → Prop} (R : Hp → Prop) (hb : ¬ c → (∀ H, R H → C H) → B) (ha : c → (∀ H, R H → C H) → A) (h : ∀ H, R H → C H) : if c then A else B := by
  by_cases e : c
  · rw [if_pos e]; exact ha e h
  · rw [if_neg e]; exact hb e h
/-! ### of twelve -/
def In12 (y : Int) : Prop := 0 ≤ y ∧ y < 12
theorem filt_lt {p q : Nat → Bool} (hs : ∀ x, q x = true → p x = true) {n : Nat} (pn : p n = true) (qn : q n = false) : ∀ l : List Nat, n ∈ l → (l.filter q).length < (l.filter p).length
  | [], h => nomatch h
  | a :: r, h => by
    have le : ∀ l : List Nat, (l.filter q).length ≤ (l.filter p).length := by
      intro l
      induction l with
      | nil => exact Nat.le_refl _
      | cons b l ih =>
        rw [List.filter_cons, List.filter_cons]
        cases e : q b with
        | true => rw [hs b e]; simpa using ih
        | false =>
          cases e2 : p b with
          | true => simp; omega
          | false => simpa using ih
    rw [List.filter_cons, List.filter_cons]
    by_cases ea : a = n
    · subst ea
      rw [pn, qn]
      have := le r
      simp
      omega
    · have hr : n ∈ r := (List.mem_cons.mp h).elim (fun e => (ea e.symm).elim) id
      have ih := filt_lt hs pn qn r hr
      cases e : q a with
      | true => rw [hs a e]; simpa using ih
      | false =>
        cases e2 : p a with
        | true => simp; omega
        | false => simpa using ih
/-- how many of the twelve are not in ts -/
def free (ts : List Int) : Nat := ((List.range 12).filter fun n : Nat => !decide ((n : Int) ∈ ts)).length
theorem free_nil : free [] = 12 := by decide
theorem free_lt {ts ts' : List Int} {y : Int} (hy : In12 y) (hn : y ∉ ts) (hi : y ∈ ts') (hs : ∀ a ∈ ts, a ∈ ts') : free ts' < free ts := by
  refine filt_lt (fun x hx => ?_) (n := y.toNat) ?_ ?_ _ ?_
  · rw [Bool.not_eq_true', decide_eq_false_iff_not] at hx ⊢
    exact fun h => hx (hs _ h)
  · rw [Bool.not_eq_true', decide_eq_false_iff_not]
    have : ((y.toNat : Nat) : Int) = y := Int.toNat_of_nonneg hy.1
    rw [this]; exact hn
  · have : ((y.toNat : Nat) : Int) = y := Int.toNat_of_nonneg hy.1
    rw [this, decide_eq_true hi]; rfl
  · rw [List.mem_range]
    have := hy.1; have := hy.2
    omega
theorem len12 {ts : List Int} (nd : ts.Nodup) (h : ∀ y ∈ ts, In12 y) : ts.length ≤ 12 := by
  have key : ∀ (ts D : List Int), ts.Nodup → (∀ x ∈ ts, x ∈ D) → ts.length ≤ D.length := by
    intro ts
    induction ts with
    | nil => intro D _ _; exact Nat.zero_le _
    | cons a r ih =>
      intro D nd hs
      obtain ⟨n1, n2⟩ := List.nodup_cons.mp nd
      have ha : a ∈ D := hs a List.mem_cons_self
      have := ih (D.erase a) n2 (fun x hx => (List.mem_erase_of_ne (fun e : x = a => n1 (e ▸ hx))).mpr (hs x (List.mem_cons_of_mem _ hx)))
      rw [List.length_erase_of_mem ha] at this
      have hp : 0 < D.length := List.length_pos_of_mem ha
      rw [List.length_cons]
      omega
  have := key ts ((List.range 12).map fun n : Nat => (n : Int)) nd (fun y hy => List.mem_map.mpr ⟨y.toNat, by rw [List.mem_range]; have := (h y hy).1; have := (h y hy).2; omega, Int.toNat_of_nonneg (h y hy).1⟩)
  simpa using this
/-! ### pairs of ints in the heap -/
def Pr (H : Hp) (q : Addr × Int × Int) : Prop := H q.1 = some (.tup [.int q.2.1, .int q.2.2])
def Prs (H : Hp) (l : Addr) (ps : List (Addr × Int × Int)) : Prop := H l = some (.lst (ps.map fun q => V.ref q.1)) ∧ ∀ q ∈ ps, Pr H q
def PrsT (H : Hp) (l : Addr) (ps : List (Addr × Int × Int)) : Prop := H l = some (.tup (ps.map fun q => V.ref q.1)) ∧ ∀ q ∈ ps, Pr H q
def Sm12 (ps : List (Addr × Int × Int)) : Prop := ∀ q ∈ ps, In12 q.2.1 ∧ In12 q.2.2
theorem Prs.same {H H' : Hp} {l : Addr} {ps : List (Addr × Int × Int)} (h : Prs H l ps) (s : Same H H') : Prs H' l ps := ⟨s _ _ h.1, fun q hq => s _ _ (h.2 q hq)⟩
theorem PrsT.same {H H' : Hp} {l : Addr} {ps : List (Addr × Int × Int)} (h : PrsT H l ps) (s : Same H H') : PrsT H' l ps := ⟨s _ _ h.1, fun q hq => s _ _ (h.2 q hq)⟩
end My
set_option Elab.async false
set_option linter.all false
set_option maxRecDepth 100000
namespace My
open PySem PySem.Spec PyProof.Rows L2
/-- a dict from ints to lists of ints -/
structure Riv (H : Hp) (d : Addr) (xs : List Int) (ad : Int → Addr) (N : Int → List Int) : Prop where
  dict : H d = some (.dK (tab xs fun x => .ref (ad x)))
  rows : ∀ x ∈ xs, H (ad x) = some (.lst ((N x).map V.int))
  nd : xs.Nodup
  inj : ∀ x ∈ xs, ∀ z ∈ xs, ad x = ad z → x = z
theorem Riv.same {H H' : Hp} {d : Addr} {xs : List Int} {ad : Int → Addr} {N : Int → List Int} (r : Riv H d xs ad N) (h1 : H' d = H d) (h2 : ∀ x ∈ xs, H' (ad x) = H (ad x)) : Riv H' d xs ad N :=
  ⟨by rw [h1]; exact r.dict, fun x hx => by rw [h2 x hx]; exact r.rows x hx, r.nd, r.inj⟩
/-- what it holds: the conflicts E -/
structure Graph (E : Int → Int → Prop) (xs : List Int) (N : Int → List Int) (n : Nat) : Prop where
  ed : ∀ x y, E x y ↔ x ∈ xs ∧ y ∈ N x
  sm : ∀ x ∈ xs, (N x).length ≤ n
theorem Riv.key {H : Hp} {d l : Addr} {xs : List Int} {ad : Int → Addr} {N : Int → List Int} {x : Int} (r : Riv H d xs ad N) (nl : H l = none) (hx : x ∉ xs) :
    Riv (upd (upd H l (.lst [])) d (.dK (putK (tab xs fun x => .ref (ad x)) (Sum.inl x) (.ref l)))) d (xs ++ [x]) (fun z => if z = x then l else ad z) (fun z => if z = x then [] else N z) := by
  have ld : l ≠ d := (ne_of_none r.dict nl).symm
  have la : ∀ z ∈ xs, ad z ≠ l := fun z hz => ne_of_none (r.rows z hz) nl
  have da : ∀ z ∈ xs, ad z ≠ d := fun z hz e => by
    have := r.rows z hz
    rw [e, r.dict] at this
    cases this
  refine ⟨?_, ?_, nd_snoc r.nd hx, ?_⟩
  · rw [upd_same, tab_put]
    congr 2
    unfold addK
    rw [if_neg hx]
    refine tab_congr fun z _ => ?_
    by_cases e : z = x
    · rw [if_pos e, if_pos e]
    · rw [if_neg e, if_neg e]
  · intro z hz
    by_cases e : z = x
    · rw [if_pos e, if_pos e, upd_ne ld, upd_same]; rfl
    · rw [if_neg e, if_neg e]
      have hz : z ∈ xs := (List.mem_append.mp hz).elim id (fun h => (e (List.mem_singleton.mp h)).elim)
      rw [upd_ne (da z hz), upd_ne (la z hz)]
      exact r.rows z hz
  · intro z hz u hu
    by_cases e : z = x
    · by_cases e2 : u = x
      · intro _; rw [e, e2]
      · have hu : u ∈ xs := (List.mem_append.mp hu).elim id (fun h => (e2 (List.mem_singleton.mp h)).elim)
        rw [if_pos e, if_neg e2]
        exact fun h => (la u hu h.symm).elim
    · have hz : z ∈ xs := (List.mem_append.mp hz).elim id (fun h => (e (List.mem_singleton.mp h)).elim)
      by_cases e2 : u = x
      · rw [if_neg e, if_pos e2]
        exact fun h => (la z hz h).elim
      · have hu : u ∈ xs := (List.mem_append.mp hu).elim id (fun h => (e2 (List.mem_singleton.mp h)).elim)
        rw [if_neg e, if_neg e2]
        exact r.inj z hz u hu
theorem Riv.push {H : Hp} {d : Addr} {xs : List Int} {ad : Int → Addr} {N : Int → List Int} {x : Int} (r : Riv H d xs ad N) (hx : x ∈ xs) (y : Int) :
    Riv (upd H (ad x) (.lst ((N x).map V.int ++ [.int y]))) d xs ad (fun z => if z = x then N x ++ [y] else N z) := by
  have da : ad x ≠ d := fun e => by
    have := r.rows x hx
    rw [e, r.dict] at this
    cases this
  refine ⟨by rw [upd_ne da.symm]; exact r.dict, fun z hz => ?_, r.nd, r.inj⟩
  by_cases e : z = x
  · rw [if_pos e, e, upd_same, List.map_append]; rfl
  · rw [if_neg e, upd_ne (fun h => e (r.inj z hz x hx h))]
    exact r.rows z hz
end My
set_option Elab.async false
set_option linter.all false
set_option maxRecDepth 100000
namespace My
open PySem PySem.Spec PyProof.Rows L2
def mOf (ys : List Int) (g : Int → Int) : Int → Option Int := fun y => if y ∈ ys then some (g y) else none
theorem mOf_at {ys : List Int} {g : Int → Int} {y : Int} (h : y ∈ ys) : mOf ys g y = some (g y) := if_pos h
theorem mOf_no {ys : List Int} {g : Int → Int} {y : Int} (h : y ∉ ys) : mOf ys g y = none := if_neg h
theorem mOf_put (ys : List Int) (g : Int → Int) (y x : Int) : mOf (addK ys y) (fun z => if z = y then x else g z) = setM (mOf ys g) y x := by
  funext a
  show (if a ∈ addK ys y then some (if a = y then x else g a) else none) = if a = y then some x else if a ∈ ys then some (g a) else none
  by_cases e : a = y
  · rw [if_pos (mem_addK.mpr (.inr e)), if_pos e, if_pos e]
  · by_cases h : a ∈ ys
    · rw [if_pos (mem_addK.mpr (.inl h)), if_pos h, if_neg e, if_neg e]
    · rw [if_neg (fun z => (mem_addK.mp z).elim h e), if_neg h, if_neg e]
/-- a matcher in the heap -/
structure MAt (C : Addr) (H : Hp) (a dx rd md td : Addr) (xs : List Int) (ad : Int → Addr) (N : Int → List Int) (ys : List Int) (g : Int → Int) (ts : List Int) : Prop where
  ob : H a = some (.ins C dx [("rivals", .ref rd), ("matched", .ref md), ("tried", .ref td)])
  riv : Riv H rd xs ad N
  mat : H md = some (.dK (tab ys fun y => .int (g y)))
  tri : H td = some (.dK (tab ts fun _ => .bl true))
  n1 : md ≠ td
  n2 : rd ≠ md
  n3 : rd ≠ td
def Kept2 (md td : Addr) (H H' : Hp) : Prop := ∀ b o, b ≠ md → b ≠ td → H b = some o → H' b = some o
theorem Kept2.trans {md td : Addr} {H H1 H2 : Hp} (a : Kept2 md td H H1) (c : Kept2 md td H1 H2) : Kept2 md td H H2 := fun b o h1 h2 e => c b o h1 h2 (a b o h1 h2 e)
theorem Kept2.same {md td : Addr} {H H' : Hp} (h : Same H H') : Kept2 md td H H' := fun b o _ _ e => h b o e
theorem Kept2.atM {md td : Addr} {H : Hp} {o : HO} : Kept2 md td H (upd H md o) := fun b o' h _ e => by rw [upd_ne h]; exact e
theorem Kept2.atT {md td : Addr} {H : Hp} {o : HO} : Kept2 md td H (upd H td o) := fun b o' _ h e => by rw [upd_ne h]; exact e
section
variable {C : Addr} {H H' : Hp} {a dx rd md td : Addr} {xs : List Int} {ad : Int → Addr} {N : Int → List Int} {ys ys' : List Int} {g g' : Int → Int} {ts ts' : List Int}
theorem MAt.am (M : MAt C H a dx rd md td xs ad N ys g ts) : a ≠ md := fun e => by have := M.ob; rw [e, M.mat] at this; cases this
theorem MAt.at' (M : MAt C H a dx rd md td xs ad N ys g ts) : a ≠ td := fun e => by have := M.ob; rw [e, M.tri] at this; cases this
theorem MAt.keep (M : MAt C H a dx rd md td xs ad N ys g ts) (k : Kept2 md td H H') (hm : H' md = some (.dK (tab ys' fun y => .int (g' y)))) (ht : H' td = some (.dK (tab ts' fun _ => .bl true))) : MAt C H' a dx rd md td xs ad N ys' g' ts' where
  ob := k _ _ M.am M.at' M.ob
  riv := ⟨k _ _ M.n2 M.n3 M.riv.dict, fun x hx => k _ _ (fun e => by have := M.riv.rows x hx; rw [e, M.mat] at this; cases this) (fun e => by have := M.riv.rows x hx; rw [e, M.tri] at this; cases this) (M.riv.rows x hx), M.riv.nd, M.riv.inj⟩
  mat := hm
  tri := ht
  n1 := M.n1
  n2 := M.n2
  n3 := M.n3
theorem MAt.more (M : MAt C H a dx rd md td xs ad N ys g ts) (s : Same H H') : MAt C H' a dx rd md td xs ad N ys g ts := M.keep (Kept2.same s) (s _ _ M.mat) (s _ _ M.tri)
theorem MAt.try (M : MAt C H a dx rd md td xs ad N ys g ts) {y : Int} (hy : y ∉ ts) : MAt C (upd H td (.dK (putK (tab ts fun _ => .bl true) (Sum.inl y) (.bl true)))) a dx rd md td xs ad N ys g (ts ++ [y]) := by
  refine M.keep Kept2.atT (by rw [upd_ne M.n1]; exact M.mat) ?_
  rw [upd_same, tab_put]
  unfold addK
  rw [if_neg hy]
  congr 2
  exact tab_congr fun z _ => by split <;> rfl
theorem MAt.match' (M : MAt C H a dx rd md td xs ad N ys g ts) (y x : Int) : MAt C (upd H md (.dK (putK (tab ys fun y => .int (g y)) (Sum.inl y) (.int x)))) a dx rd md td xs ad N (addK ys y) (fun z => if z = y then x else g z) ts := by
  refine M.keep Kept2.atM ?_ (by rw [upd_ne M.n1.symm]; exact M.tri)
  rw [upd_same, tab_put]
  congr 2
  refine tab_congr fun z _ => ?_
  by_cases e : z = y
  · rw [if_pos e, if_pos e]
  · rw [if_neg e, if_neg e]
/-- what the numbers of a matcher are -/
structure Fine (xs : List Int) (N : Int → List Int) (ys : List Int) (g : Int → Int) (ts : List Int) : Prop where
  n12 : ∀ x ∈ xs, ∀ y ∈ N x, In12 y
  few : ∀ x ∈ xs, (N x).length ≤ 64
  gy : ∀ y ∈ ys, g y ∈ xs
  y12 : ∀ y ∈ ys, In12 y
  ndy : ys.Nodup
  t12 : ∀ y ∈ ts, In12 y
  ndt : ts.Nodup
theorem Fine.tried (f : Fine xs N ys g ts) {y : Int} (hy : In12 y) (hn : y ∉ ts) : Fine xs N ys g (ts ++ [y]) :=
  { f with
    t12 := fun z hz => (List.mem_append.mp hz).elim (f.t12 z) (fun h => by rw [List.mem_singleton.mp h]; exact hy)
    ndt := nd_snoc f.ndt hn }
theorem Fine.matched (f : Fine xs N ys g ts) {x y : Int} (hx : x ∈ xs) (hy : In12 y) : Fine xs N (addK ys y) (fun z => if z = y then x else g z) ts :=
  { f with
    gy := fun z hz => by
      show (if z = y then x else g z) ∈ xs
      by_cases e : z = y
      · rw [if_pos e]; exact hx
      · rw [if_neg e]; exact f.gy z ((mem_addK.mp hz).elim id (fun h => (e h).elim))
    y12 := fun z hz => (mem_addK.mp hz).elim (f.y12 z) (fun h => by rw [h]; exact hy)
    ndy := nd_addK f.ndy }
end
def sp_find (C : Addr) (d : Nat) : Sp := fun vs H Q _ => ∃ (a dx rd md td : Addr) (x : Int) (xs : List Int) (ad : Int → Addr) (N : Int → List Int) (ys : List Int) (g : Int → Int) (ts : List Int),
  vs = [.ref a, .int x] ∧ MAt C H a dx rd md td xs ad N ys g ts ∧ x ∈ xs ∧ Fine xs N ys g ts ∧ Ready (mOf ys g) (· ∈ ts) x ∧ free ts ≤ d ∧
  (∀ (H' : Hp) (ts' : List Int), Kept2 md td H H' → MAt C H' a dx rd md td xs ad N ys g ts' → Fine xs N ys g ts' → Failed N (mOf ys g) (· ∈ ts) (· ∈ ts') x → Q (.bl false) H') ∧
  (∀ (H' : Hp) (ys' : List Int) (g' : Int → Int) (ts' : List Int), Kept2 md td H H' → MAt C H' a dx rd md td xs ad N ys' g' ts' → Fine xs N ys' g' ts' → Found N (mOf ys g) (mOf ys' g') (· ∈ ts) x → Q (.bl true) H')
end My
set_option Elab.async false
set_option linter.all false
set_option maxRecDepth 100000
namespace My
open PySem PySem.Spec PyProof.Rows L2
def ltP (p q : Int × Int) : Prop := p.1 < q.1 ∨ (p.1 = q.1 ∧ p.2 < q.2)
/-- from x no way by turns leads to a y without a partner -/
def DeadE (E F : List (Int × Int)) (x : Int) : Prop := ∃ T : Int → Prop, (∀ y, T y → ∃ x', (x', y) ∈ F ∧ ∀ z, (x', z) ∈ E → T z) ∧ ∀ z, (x, z) ∈ E → T z
structure Maxi (E F : List (Int × Int)) : Prop where
  sub : ∀ p ∈ F, p ∈ E
  n1 : (F.map (·.1)).Nodup
  n2 : (F.map (·.2)).Nodup
  dead : ∀ x y, (x, y) ∈ E → x ∉ F.map (·.1) → DeadE E F x
theorem perm_map_ex {α β : Type} {f : α → β} {ys zs : List β} (h : ys.Perm zs) : ∀ l : List α, zs = l.map f → ∃ l' : List α, l'.Perm l ∧ l'.map f = ys := by
  induction h with
  | nil => intro l e; cases l with
    | nil => exact ⟨[], .nil, rfl⟩
    | cons a r => cases e
  | cons x h ih =>
    intro l e
    cases l with
    | nil => cases e
    | cons a r =>
      injection e with e1 e2
      obtain ⟨l', p, e3⟩ := ih r e2
      exact ⟨a :: l', p.cons a, by rw [List.map_cons, e3, e1]⟩
  | swap x y r =>
    intro l e
    cases l with
    | nil => cases e
    | cons a l =>
      injection e with e1 e2
      cases l with
      | nil => cases e2
      | cons b l =>
        injection e2 with e2 e3
        exact ⟨b :: a :: l, .swap a b l, by rw [List.map_cons, List.map_cons, e1, e2, e3]⟩
  | trans h1 h2 ih1 ih2 =>
    intro l e
    obtain ⟨l2, p2, e2⟩ := ih2 l e
    obtain ⟨l1, p1, e1⟩ := ih1 l2 e2.symm
    exact ⟨l1, p1.trans p2, e1⟩
theorem nodup_map {α β : Type} {f : α → β} : ∀ {l : List α}, l.Nodup → (∀ a ∈ l, ∀ b ∈ l, f a = f b → a = b) → (l.map f).Nodup
  | [], _, _ => List.nodup_nil
  | a :: r, nd, h => by
    obtain ⟨n1, n2⟩ := List.nodup_cons.mp nd
    refine List.nodup_cons.mpr ⟨fun hm => ?_, nodup_map n2 fun b hb c hc => h b (List.mem_cons_of_mem _ hb) c (List.mem_cons_of_mem _ hc)⟩
    obtain ⟨b, hb, e⟩ := List.mem_map.mp hm
    exact n1 (h a List.mem_cons_self b (List.mem_cons_of_mem _ hb) e.symm ▸ hb)
theorem maxi_of {E F : List (Int × Int)} {xs : List Int} {N : Int → List Int} {ys : List Int} {g : Int → Int} {ts : List Int} (gr : Graph (fun x y => (x, y) ∈ E) xs N 64) (f : Fine xs N ys g ts) (M : Mat N (mOf ys g) xs) (p : F.Perm (ys.map fun y => (g y, y))) : Maxi E F := by
  have mem : ∀ x y, (x, y) ∈ F ↔ y ∈ ys ∧ g y = x := fun x y => by
    rw [p.mem_iff, List.mem_map]
    constructor
    · rintro ⟨z, hz, e⟩
      injection e with e1 e2
      subst e2
      exact ⟨hz, e1⟩
    · rintro ⟨h, e⟩
      exact ⟨y, h, by rw [e]⟩
  have one : ∀ x y, (x, y) ∈ F → mOf ys g y = some x := fun x y h => by
    obtain ⟨h1, h2⟩ := (mem x y).mp h
    rw [mOf_at h1, h2]
  have back : ∀ x y, mOf ys g y = some x → (x, y) ∈ F := fun x y h => by
    by_cases hy : y ∈ ys
    · rw [mOf_at hy] at h
      exact (mem x y).mpr ⟨hy, Option.some.inj h⟩
    · rw [mOf_no hy] at h; cases h
  refine ⟨fun q hq => ?_, ?_, ?_, fun x y hxy hx => ?_⟩
  · have := one q.1 q.2 hq
    exact (gr.ed q.1 q.2).mpr ⟨M.vs _ _ this, M.ed _ _ this⟩
  · rw [(p.map (·.1)).nodup_iff, List.map_map]
    exact nodup_map f.ndy fun a ha b hb e => M.inj a b (g a) (mOf_at ha) (by rw [mOf_at hb]; exact congrArg some e.symm)
  · rw [(p.map (·.2)).nodup_iff, List.map_map]
    exact nodup_map f.ndy fun a _ b _ e => e
  · have hxs := ((gr.ed x y).mp hxy).1
    rcases M.dead x hxs with ⟨a, ha⟩ | ⟨T, hT, hN⟩
    · exact (hx (List.mem_map.mpr ⟨(x, a), back x a ha, rfl⟩)).elim
    · refine ⟨T, fun b hb => ?_, fun z hz => hN z ((gr.ed x z).mp hz).2⟩
      obtain ⟨x', e, h'⟩ := hT b hb
      exact ⟨x', back x' b e, fun z hz => h' z ((gr.ed x' z).mp hz).2⟩
theorem dead_step {E F : List (Int × Int)} {x y : Int} (h : DeadE E F x) (hy : (x, y) ∈ E) : ∃ x', (x', y) ∈ F ∧ DeadE E F x' := by
  obtain ⟨T, hT, hx⟩ := h
  obtain ⟨x', e, h'⟩ := hT y (hx y hy)
  exact ⟨x', e, T, hT, h'⟩
end My
set_option Elab.async false
set_option linter.all false
/-! Covers and matchings: as many claims as conflicts (Nu), the least cover found claim by claim (greedy), what is left of it behind its first claim. Pure. -/
namespace My
/-- a claim: the slot, and whether it is the shipped side -/
abbrev Cl := Int × Bool
def bears (e : Int × Int) (c : Cl) : Bool := if c.2 = true then decide (e.2 = c.1) else decide (e.1 = c.1)
theorem bears_own {e : Int × Int} {x : Int} : bears e (x, false) = true ↔ e.1 = x := by simp [bears]
theorem bears_shp {e : Int × Int} {y : Int} : bears e (y, true) = true ↔ e.2 = y := by simp [bears]
def outOf (E : List (Int × Int)) (c : Cl) : List (Int × Int) := E.filter fun e => !bears e c
theorem mem_out {E : List (Int × Int)} {c : Cl} {e : Int × Int} : e ∈ outOf E c ↔ e ∈ E ∧ bears e c = false := by
  unfold outOf
  rw [List.mem_filter, Bool.not_eq_true']
def Cov (E : List (Int × Int)) (C : List Cl) : Prop := ∀ e ∈ E, ∃ c ∈ C, bears e c = true
structure IsM (E P : List (Int × Int)) : Prop where
  sub : ∀ p ∈ P, p ∈ E
  n1 : (P.map (·.1)).Nodup
  n2 : (P.map (·.2)).Nodup
theorem sub_len {α : Type} [DecidableEq α] : ∀ (l D : List α), l.Nodup → (∀ x ∈ l, x ∈ D) → l.length ≤ D.length
  | [], D, _, _ => Nat.zero_le _
  | a :: r, D, nd, hs => by
    obtain ⟨n1, n2⟩ := List.nodup_cons.mp nd
    have ha : a ∈ D := hs a List.mem_cons_self
    have := sub_len r (D.erase a) n2 (fun x hx => (List.mem_erase_of_ne (fun e : x = a => n1 (e ▸ hx))).mpr (hs x (List.mem_cons_of_mem _ hx)))
    rw [List.length_erase_of_mem ha] at this
    have hp : 0 < D.length := List.length_pos_of_mem ha
    rw [List.length_cons]
    omega
theorem uniq1 {F : List (Int × Int)} (nd : (F.map (·.1)).Nodup) : ∀ a ∈ F, ∀ b ∈ F, a.1 = b.1 → a = b := by
  induction F with
  | nil => intro a h; exact nomatch h
  | cons z r ih =>
    obtain ⟨n1, n2⟩ := List.nodup_cons.mp nd
    intro a ha b hb e
    rcases List.mem_cons.mp ha with ea | ha
    · rcases List.mem_cons.mp hb with eb | hb
      · rw [ea, eb]
      · exact (n1 (List.mem_map.mpr ⟨b, hb, by rw [← e, ea]⟩)).elim
    · rcases List.mem_cons.mp hb with eb | hb
      · exact (n1 (List.mem_map.mpr ⟨a, ha, by rw [e, eb]⟩)).elim
      · exact ih n2 a ha b hb e
theorem uniq2 {F : List (Int × Int)} (nd : (F.map (·.2)).Nodup) : ∀ a ∈ F, ∀ b ∈ F, a.2 = b.2 → a = b := by
  induction F with
  | nil => intro a h; exact nomatch h
  | cons z r ih =>
    obtain ⟨n1, n2⟩ := List.nodup_cons.mp nd
    intro a ha b hb e
    rcases List.mem_cons.mp ha with ea | ha
    · rcases List.mem_cons.mp hb with eb | hb
      · rw [ea, eb]
      · exact (n1 (List.mem_map.mpr ⟨b, hb, by rw [← e, ea]⟩)).elim
    · rcases List.mem_cons.mp hb with eb | hb
      · exact (n1 (List.mem_map.mpr ⟨a, ha, by rw [e, eb]⟩)).elim
      · exact ih n2 a ha b hb e
theorem nodup_of {α β : Type} {f : α → β} {l : List α} (h : (l.map f).Nodup) : l.Nodup := List.Pairwise.of_map f (fun _ _ hne e => hne (congrArg f e)) h
theorem weak {E P : List (Int × Int)} {C : List Cl} (m : IsM E P) (c : Cov E C) : P.length ≤ C.length := by
  let f : Int × Int → Cl := fun p => if (p.1, false) ∈ C then (p.1, false) else (p.2, true)
  have fin : ∀ p ∈ P, f p ∈ C := fun p hp => by
    show (if (p.1, false) ∈ C then (p.1, false) else (p.2, true)) ∈ C
    by_cases h : (p.1, false) ∈ C
    · rw [if_pos h]; exact h
    · rw [if_neg h]
      obtain ⟨⟨x, b⟩, hc, hb⟩ := c p (m.sub p hp)
      cases b with
      | false => rw [bears_own.mp hb] at h; exact (h hc).elim
      | true => rw [bears_shp.mp hb]; exact hc
  have inj : ∀ a ∈ P, ∀ b ∈ P, f a = f b → a = b := fun a ha b hb e => by
    have e : (if (a.1, false) ∈ C then (a.1, false) else (a.2, true)) = if (b.1, false) ∈ C then (b.1, false) else (b.2, true) := e
    by_cases h1 : (a.1, false) ∈ C
    · rw [if_pos h1] at e
      by_cases h2 : (b.1, false) ∈ C
      · rw [if_pos h2] at e
        exact uniq1 m.n1 a ha b hb (Prod.mk.inj e).1
      · rw [if_neg h2] at e
        exact nomatch (congrArg Prod.snd e : false = true)
    · rw [if_neg h1] at e
      by_cases h2 : (b.1, false) ∈ C
      · rw [if_pos h2] at e
        exact nomatch (congrArg Prod.snd e : true = false)
      · rw [if_neg h2] at e
        exact uniq2 m.n2 a ha b hb (Prod.mk.inj e).1
  have := sub_len (P.map f) C (nodup_map (nodup_of m.n1) inj) (fun x hx => by obtain ⟨p, hp, e⟩ := List.mem_map.mp hx; rw [← e]; exact fin p hp)
  rwa [List.length_map] at this
/-- n conflicts match, n claims cover -/
def Nu (E : List (Int × Int)) (n : Nat) : Prop := ∃ P C, IsM E P ∧ Cov E C ∧ P.length = n ∧ C.length = n
theorem nu_one {E : List (Int × Int)} {n m : Nat} (h : Nu E n) (g : Nu E m) : n = m := by
  obtain ⟨P, C, a1, a2, a3, a4⟩ := h
  obtain ⟨P', C', b1, b2, b3, b4⟩ := g
  have := weak a1 b2
  have := weak b1 a2
  omega
theorem nu_same {E E' : List (Int × Int)} {n : Nat} (s : ∀ e, e ∈ E ↔ e ∈ E') (h : Nu E n) : Nu E' n := by
  obtain ⟨P, C, a1, a2, a3, a4⟩ := h
  exact ⟨P, C, ⟨fun p hp => (s p).mp (a1.sub p hp), a1.n1, a1.n2⟩, fun e he => a2 e ((s e).mpr he), a3, a4⟩
theorem cov_len {E : List (Int × Int)} {n : Nat} {C : List Cl} (h : Nu E n) (c : Cov E C) : n ≤ C.length := by
  obtain ⟨P, _, a1, _, a3, _⟩ := h
  have := weak a1 c
  omega
theorem mat_len {E P : List (Int × Int)} {n : Nat} (h : Nu E n) (m : IsM E P) : P.length ≤ n := by
  obtain ⟨_, C, _, a2, _, a4⟩ := h
  have := weak m a2
  omega
theorem nu_out {E : List (Int × Int)} {c : Cl} {n n' : Nat} (h : Nu E n) (g : Nu (outOf E c) n') : n' ≤ n ∧ n ≤ n' + 1 := by
  obtain ⟨P', C', b1, b2, b3, b4⟩ := g
  refine ⟨?_, ?_⟩
  · rw [← b3]
    exact mat_len h ⟨fun p hp => (mem_out.mp (b1.sub p hp)).1, b1.n1, b1.n2⟩
  · have : Cov E (c :: C') := fun e he => by
      cases hb : bears e c with
      | true => exact ⟨c, List.mem_cons_self, hb⟩
      | false =>
        obtain ⟨d, hd, hh⟩ := b2 e (mem_out.mpr ⟨he, hb⟩)
        exact ⟨d, List.mem_cons_of_mem _ hd, hh⟩
    have := cov_len h this
    rw [List.length_cons] at this
    omega
theorem nu_nil : Nu [] 0 := ⟨[], [], ⟨(fun _ h => nomatch h), List.nodup_nil, List.nodup_nil⟩, (fun _ h => nomatch h), rfl, rfl⟩
/-- a maximal matching has a cover of its size -/
theorem Maxi.nu {E F : List (Int × Int)} (m : Maxi E F) : Nu E F.length := by
  classical
  let dd : Int → Prop := fun y => ∃ x, DeadE E F x ∧ (x, y) ∈ E
  let f : Int × Int → Cl := fun p => if dd p.2 then (p.2, true) else (p.1, false)
  refine ⟨F, F.map f, ⟨m.sub, m.n1, m.n2⟩, fun e he => ?_, rfl, List.length_map ..⟩
  obtain ⟨x, y⟩ := e
  by_cases hx : DeadE E F x
  · obtain ⟨x', hF, _⟩ := dead_step hx he
    refine ⟨(y, true), List.mem_map.mpr ⟨(x', y), hF, ?_⟩, bears_shp.mpr rfl⟩
    show (if dd y then _ else _) = _
    rw [if_pos ⟨x, hx, he⟩]
  · have hm : x ∈ F.map (·.1) := by
      by_cases h : x ∈ F.map (·.1)
      · exact h
      · exact (hx (m.dead x y he h)).elim
    obtain ⟨⟨x0, y'⟩, hF, e0⟩ := List.mem_map.mp hm
    have e0 : x0 = x := e0
    subst e0
    refine ⟨(x0, false), List.mem_map.mpr ⟨(x0, y'), hF, ?_⟩, bears_own.mpr rfl⟩
    show (if dd y' then _ else _) = _
    rw [if_neg]
    rintro ⟨x1, h1, h2⟩
    obtain ⟨x2, hF2, h3⟩ := dead_step h1 h2
    have := uniq2 m.n2 (x2, y') hF2 (x0, y') hF rfl
    have : x2 = x0 := congrArg Prod.fst this
    rw [this] at h3
    exact hx h3
/-! ### the least cover -/
def ltC (a b : Cl) : Prop := a.1 < b.1 ∨ (a.1 = b.1 ∧ a.2 = false ∧ b.2 = true)
theorem ltC_irr {a : Cl} : ¬ ltC a a := fun h => by
  rcases h with h | ⟨_, h1, h2⟩
  · omega
  · rw [h1] at h2; cases h2
theorem ltC_trans {a b c : Cl} (h : ltC a b) (g : ltC b c) : ltC a c := by
  unfold ltC at *
  rcases h with h | ⟨h1, h2, h3⟩
  · rcases g with g | ⟨g1, g2, g3⟩
    · left; omega
    · left; omega
  · rcases g with g | ⟨g1, g2, g3⟩
    · left; omega
    · rw [h3] at g2; cases g2
theorem ltC_tri (a b : Cl) : ltC a b ∨ a = b ∨ ltC b a := by
  obtain ⟨x, p⟩ := a
  obtain ⟨y, q⟩ := b
  unfold ltC
  rcases Int.lt_trichotomy x y with h | h | h
  · exact .inl (.inl h)
  · subst h
    cases p <;> cases q <;> simp
  · exact .inr (.inr (.inl h))
/-- ahead of, of lists of the same length -/
def lexC : List Cl → List Cl → Prop
  | a :: r, b :: q => ltC a b ∨ (a = b ∧ lexC r q)
  | _, _ => False
theorem lexC_irr : ∀ {l : List Cl}, ¬ lexC l l
  | [], h => h
  | a :: r, h => by
    rcases h with h | ⟨_, h⟩
    · exact ltC_irr h
    · exact lexC_irr h
theorem lexC_asym : ∀ {l m : List Cl}, lexC l m → ¬ lexC m l
  | [], _, h, _ => h
  | a :: r, [], h, _ => h
  | a :: r, b :: q, h, g => by
    rcases h with h | ⟨h1, h⟩
    · rcases g with g | ⟨g1, g⟩
      · exact ltC_irr (ltC_trans h g)
      · rw [g1] at h; exact ltC_irr h
    · rcases g with g | ⟨g1, g⟩
      · rw [h1] at g; exact ltC_irr g
      · exact lexC_asym h g
structure Least (E : List (Int × Int)) (C : List Cl) : Prop where
  cov : Cov E C
  nu : Nu E C.length
  asc : C.Pairwise ltC
  min : ∀ D, D.Pairwise ltC → Cov E D → D.length = C.length → C = D ∨ lexC C D
theorem Least.one {E : List (Int × Int)} {C D : List Cl} (a : Least E C) (b : Least E D) : C = D := by
  have e := nu_one a.nu b.nu
  rcases a.min D b.asc b.cov e.symm with h | h
  · exact h
  · rcases b.min C a.asc a.cov e with g | g
    · exact g.symm
    · exact (lexC_asym h g).elim
theorem Least.same {E E' : List (Int × Int)} {C : List Cl} (s : ∀ e, e ∈ E ↔ e ∈ E') (a : Least E C) : Least E' C :=
  ⟨fun e he => a.cov e ((s e).mpr he), nu_same s a.nu, a.asc, fun D h1 h2 h3 => a.min D h1 (fun e he => h2 e ((s e).mp he)) h3⟩
theorem least_nil : Least [] [] := ⟨(fun _ h => nomatch h), nu_nil, List.Pairwise.nil, fun D _ _ h => by
  cases D with
  | nil => exact .inl rfl
  | cons a r => cases h⟩
/-- every claim of a least list of claims is one of the conflicts' -/
theorem least_claim {E : List (Int × Int)} {n : Nat} {D : List Cl} (h : Nu E n) (c : Cov E D) (e : D.length = n) {d : Cl} (hd : d ∈ D) : ∃ e ∈ E, bears e d = true := by
  by_cases hh : ∃ e ∈ E, bears e d = true
  · exact hh
  · have : Cov E (D.erase d) := fun e he => by
      obtain ⟨c', hc, hb⟩ := c e he
      have : c' ≠ d := fun z => hh ⟨e, he, z ▸ hb⟩
      exact ⟨c', (List.mem_erase_of_ne this).mpr hc, hb⟩
    have := cov_len h this
    rw [List.length_erase_of_mem hd] at this
    have := List.length_pos_of_mem hd
    omega
/-- without d what is left of such a list covers the rest -/
theorem cov_erase {E : List (Int × Int)} {D : List Cl} (c : Cov E D) (d : Cl) : Cov (outOf E d) (D.erase d) := fun e he => by
  obtain ⟨h1, h2⟩ := mem_out.mp he
  obtain ⟨c', hc, hb⟩ := c e h1
  exact ⟨c', (List.mem_erase_of_ne (fun z => by rw [z, h2] at hb; cases hb)).mpr hc, hb⟩
/-- claim by claim: it is taken if the others have a smaller matching -/
def greedy (ν : List (Int × Int) → Nat) : List Cl → List (Int × Int) → Nat → List Cl
  | [], _, _ => []
  | c :: cs, left, n => if ν (outOf left c) < n then c :: greedy ν cs (outOf left c) (n - 1) else greedy ν cs left n
theorem out_comm (E : List (Int × Int)) (c d : Cl) : outOf (outOf E c) d = outOf (outOf E d) c := by
  unfold outOf
  rw [List.filter_filter, List.filter_filter]
  exact List.filter_congr fun e _ => Bool.and_comm _ _
theorem greedy_ok {ν : List (Int × Int) → Nat} {G : List (Int × Int) → Prop} (hG : ∀ E c, G E → G (outOf E c)) (hν : ∀ E, G E → Nu E (ν E)) : ∀ (cs : List Cl) (left : List (Int × Int)) (n : Nat) (ps : List Cl), G left → Nu left n → cs.Pairwise ltC →
    (∀ e ∈ left, ∀ d, bears e d = true → d ∈ cs ∨ d ∈ ps) → (∀ p ∈ ps, Nu (outOf left p) n) →
    Cov left (greedy ν cs left n) ∧ (greedy ν cs left n).length = n ∧ (greedy ν cs left n).Sublist cs ∧ ∀ D, D.Pairwise ltC → Cov left D → D.length = n → greedy ν cs left n = D ∨ lexC (greedy ν cs left n) D
  | [], left, n, ps, g, h, _, hall, hps => by
    have n0 : n = 0 := by
      cases n with
      | zero => rfl
      | succ n =>
        obtain ⟨P, C, a1, a2, a3, a4⟩ := id h
        cases C with
        | nil => cases a4
        | cons d r =>
          obtain ⟨e, he, hb⟩ := least_claim h a2 a4 List.mem_cons_self
          have hd := (hall e he d hb).elim (fun z => nomatch z) id
          have := cov_len (hps d hd) (cov_erase a2 d)
          rw [List.length_erase_of_mem List.mem_cons_self, a4] at this
          omega
    subst n0
    obtain ⟨P, C, a1, a2, a3, a4⟩ := h
    have : C = [] := List.eq_nil_of_length_eq_zero a4
    subst this
    refine ⟨a2, rfl, List.Sublist.refl _, fun D _ _ hD => .inl ?_⟩
    exact (List.eq_nil_of_length_eq_zero hD).symm
  | c :: cs, left, n, ps, g, h, asc, hall, hps => by
    obtain ⟨big, asc'⟩ := List.pairwise_cons.mp asc
    have g' := hG left c g
    have h' := hν _ g'
    obtain ⟨le, ge⟩ := nu_out h h'
    unfold greedy
    by_cases take : ν (outOf left c) < n
    · rw [if_pos take]
      have en : ν (outOf left c) = n - 1 := by omega
      rw [en] at h'
      obtain ⟨i1, i2, i3, i4⟩ := greedy_ok hG hν cs (outOf left c) (n - 1) ps g' h' asc' (fun e he d hb => by
        obtain ⟨h1, h2⟩ := mem_out.mp he
        rcases hall e h1 d hb with z | z
        · rcases List.mem_cons.mp z with z | z
          · rw [z, h2] at hb; cases hb
          · exact .inl z
        · exact .inr z) (fun p hp => by
        have q := hps p hp
        rw [out_comm]
        have g2 := hG _ c (hG left p g)
        have q2 := hν _ g2
        have := nu_out q q2
        have q3 : Nu (outOf (outOf left c) p) (ν (outOf (outOf left p) c)) := by rw [out_comm]; exact q2
        have := nu_out h' q3
        have e : ν (outOf (outOf left p) c) = n - 1 := by omega
        rw [e] at q2
        exact q2)
      refine ⟨fun e he => ?_, by rw [List.length_cons, i2]; omega, i3.cons_cons c, fun D dAsc dCov dLen => ?_⟩
      · cases hb : bears e c with
        | true => exact ⟨c, List.mem_cons_self, hb⟩
        | false =>
          obtain ⟨d, hd, hh⟩ := i1 e (mem_out.mpr ⟨he, hb⟩)
          exact ⟨d, List.mem_cons_of_mem _ hd, hh⟩
      · cases D with
        | nil => rw [List.length_nil] at dLen; omega
        | cons d r =>
          obtain ⟨dbig, rAsc⟩ := List.pairwise_cons.mp dAsc
          -- d is a claim of what is left, and none that was passed
          obtain ⟨e, he, hb⟩ := least_claim h dCov dLen List.mem_cons_self
          rcases hall e he d hb with z | z
          · rcases List.mem_cons.mp z with z | z
            · subst z
              have rc : Cov (outOf left d) r := fun e' he' => by
                obtain ⟨x, hx, hh⟩ := cov_erase dCov d e' he'
                rw [List.erase_cons_head] at hx
                exact ⟨x, hx, hh⟩
              rw [List.length_cons] at dLen
              rcases i4 r rAsc rc (by omega) with k | k
              · exact .inl (by rw [k])
              · exact .inr (.inr ⟨rfl, k⟩)
            · exact .inr (.inl (big d z))
          · have := cov_len (hps d z) (cov_erase dCov d)
            rw [List.erase_cons_head] at this
            rw [List.length_cons] at dLen
            omega
    · rw [if_neg take]
      have en : ν (outOf left c) = n := by omega
      rw [en] at h'
      obtain ⟨i1, i2, i3, i4⟩ := greedy_ok hG hν cs left n (c :: ps) g h asc' (fun e he d hb => by
        rcases hall e he d hb with z | z
        · rcases List.mem_cons.mp z with z | z
          · exact .inr (by rw [z]; exact List.mem_cons_self)
          · exact .inl z
        · exact .inr (List.mem_cons_of_mem _ z)) (fun p hp => by
        rcases List.mem_cons.mp hp with z | z
        · rw [z]; exact h'
        · exact hps p z)
      exact ⟨i1, i2, i3.cons c, i4⟩
theorem greedy_least {ν : List (Int × Int) → Nat} {G : List (Int × Int) → Prop} (hG : ∀ E c, G E → G (outOf E c)) (hν : ∀ E, G E → Nu E (ν E)) {E : List (Int × Int)} {cs : List Cl} (g : G E) (asc : cs.Pairwise ltC) (all : ∀ e ∈ E, ∀ d, bears e d = true → d ∈ cs) :
    Least E (greedy ν cs E (ν E)) := by
  obtain ⟨a1, a2, a3, a4⟩ := greedy_ok hG hν cs E (ν E) [] g (hν E g) asc (fun e he d hb => .inl (all e he d hb)) (fun _ h => nomatch h)
  exact ⟨a1, by rw [a2]; exact hν E g, asc.sublist a3, fun D h1 h2 h3 => a4 D h1 h2 (by rw [h3, a2])⟩
/-! ### behind the first claim -/
def insC (c : Cl) : List Cl → List Cl
  | [] => [c]
  | d :: r => if decide (d.1 < c.1) || (decide (d.1 = c.1) && (!d.2 && c.2)) then d :: insC c r else c :: d :: r
theorem ins_test {c d : Cl} : (decide (d.1 < c.1) || (decide (d.1 = c.1) && (!d.2 && c.2))) = true ↔ ltC d c := by
  unfold ltC
  cases hd : d.2 <;> cases hc : c.2 <;> simp
theorem ins_mem {c x : Cl} : ∀ {l : List Cl}, x ∈ insC c l ↔ x = c ∨ x ∈ l
  | [] => by simp [insC]
  | d :: r => by
    unfold insC
    split
    · rw [List.mem_cons, ins_mem, List.mem_cons]
      constructor
      · rintro (h | h | h)
        · exact .inr (.inl h)
        · exact .inl h
        · exact .inr (.inr h)
      · rintro (h | h | h)
        · exact .inr (.inl h)
        · exact .inl h
        · exact .inr (.inr h)
    · rw [List.mem_cons]
theorem ins_len {c : Cl} : ∀ {l : List Cl}, (insC c l).length = l.length + 1
  | [] => rfl
  | d :: r => by
    unfold insC
    split
    · rw [List.length_cons, ins_len, List.length_cons]
    · rfl
theorem ins_asc {c : Cl} : ∀ {l : List Cl}, l.Pairwise ltC → c ∉ l → (insC c l).Pairwise ltC
  | [], _, _ => List.pairwise_singleton _ _
  | d :: r, h, hn => by
    obtain ⟨h1, h2⟩ := List.pairwise_cons.mp h
    unfold insC
    split
    · rename_i t
      refine List.pairwise_cons.mpr ⟨fun x hx => ?_, ins_asc h2 (fun z => hn (List.mem_cons_of_mem _ z))⟩
      rcases ins_mem.mp hx with e | e
      · rw [e]; exact ins_test.mp t
      · exact h1 x e
    · rename_i t
      have cd : ltC c d := by
        rcases ltC_tri c d with k | k | k
        · exact k
        · exact (hn (k ▸ List.mem_cons_self)).elim
        · exact (t (ins_test.mpr k)).elim
      exact List.pairwise_cons.mpr ⟨fun x hx => by
        rcases List.mem_cons.mp hx with e | e
        · rw [e]; exact cd
        · exact ltC_trans cd (h1 x e), h⟩
theorem Least.tail {E : List (Int × Int)} {c : Cl} {R : List Cl} (a : Least E (c :: R)) {n' : Nat} (h : Nu (outOf E c) n') : Least (outOf E c) R := by
  have cov : Cov (outOf E c) R := fun e he => by
    obtain ⟨x, hx, hh⟩ := cov_erase a.cov c e he
    rw [List.erase_cons_head] at hx
    exact ⟨x, hx, hh⟩
  have en : n' = R.length := by
    have := nu_out a.nu h
    have := cov_len h cov
    rw [List.length_cons] at *
    omega
  rw [en] at h
  refine ⟨cov, h, (List.pairwise_cons.mp a.asc).2, fun D dAsc dCov dLen => ?_⟩
  have hc : c ∉ D := fun hc => by
    have : Cov E D := fun e he => by
      cases hb : bears e c with
      | true => exact ⟨c, hc, hb⟩
      | false => exact dCov e (mem_out.mpr ⟨he, hb⟩)
    have := cov_len a.nu this
    rw [List.length_cons] at this
    omega
  have big : Cov E (insC c D) := fun e he => by
    cases hb : bears e c with
    | true => exact ⟨c, ins_mem.mpr (.inl rfl), hb⟩
    | false =>
      obtain ⟨x, hx, hh⟩ := dCov e (mem_out.mpr ⟨he, hb⟩)
      exact ⟨x, ins_mem.mpr (.inr hx), hh⟩
  have key := a.min (insC c D) (ins_asc dAsc hc) big (by rw [ins_len, List.length_cons, dLen])
  cases D with
  | nil =>
    have : R = [] := List.eq_nil_of_length_eq_zero dLen.symm
    exact .inl this
  | cons d r =>
    unfold insC at key
    split at key
    · rename_i t
      have dc := ins_test.mp t
      rcases key with k | k
      · injection k with k1 k2
        rw [k1] at dc; exact (ltC_irr dc).elim
      · rcases k with k | ⟨k, _⟩
        · exact (ltC_irr (ltC_trans dc k)).elim
        · rw [k] at dc; exact (ltC_irr dc).elim
    · rcases key with k | k
      · injection k with k1 k2
        exact .inl k2
      · rcases k with k | ⟨_, k⟩
        · exact (ltC_irr k).elim
        · exact .inr k
end My
set_option Elab.async false
set_option linter.all false
set_option maxRecDepth 100000
namespace My
open PySem PySem.Spec PyProof.Rows L2
/-- data: pairs of ints -/
def pd (p : Int × Int) : PyData := .tuple [.int p.1, .int p.2]
theorem dp_pr {K : PySem.W.Frag} {H : Hp} {q : Addr × Int × Int} (h : Pr H q) : Dp K H (.ref q.1) (pd q.2) := .tup (SqT.of h) (.cons (.int _) (.cons (.int _) .nil))
theorem dp_prAll {K : PySem.W.Frag} {H : Hp} : ∀ {ps : List (Addr × Int × Int)}, (∀ q ∈ ps, Pr H q) → DpAll K H (ps.map fun q => V.ref q.1) ((ps.map (·.2)).map pd)
  | [], _ => .nil
  | q :: r, h => .cons (dp_pr (h q List.mem_cons_self)) (dp_prAll fun z hz => h z (List.mem_cons_of_mem _ hz))
theorem dp_prs {K : PySem.W.Frag} {H : Hp} {l : Addr} {ps : List (Addr × Int × Int)} (h : Prs H l ps) : Dp K H (.ref l) (.list ((ps.map (·.2)).map pd)) := .lst (SqL.of h.1) (dp_prAll h.2)
theorem dp_prsT {K : PySem.W.Frag} {H : Hp} {l : Addr} {ps : List (Addr × Int × Int)} (h : PrsT H l ps) : Dp K H (.ref l) (.tuple ((ps.map (·.2)).map pd)) := .tup (SqT.of h.1) (dp_prAll h.2)
theorem can_pd (l : List (Int × Int)) : PyData.canLayAll0 (l.map pd) = true ∧ PyData.depthAll (l.map pd) ≤ 1 := by
  induction l with
  | nil => exact ⟨rfl, Nat.zero_le _⟩
  | cons p r ih =>
    refine ⟨?_, ?_⟩
    · show (true && PyData.canLayAll0 (r.map pd)) = true
      rw [ih.1]; rfl
    · show max (max 0 (max 0 0) + 1) (PyData.depthAll (r.map pd)) ≤ 1
      have := ih.2
      omega
theorem shaped_pd (l : List (Int × Int)) : SeqAt.shaped (.list (l.map pd)) = true := by
  unfold SeqAt.shaped
  rw [Bool.and_eq_true]
  refine ⟨(can_pd l).1, decide_eq_true ?_⟩
  show PyData.depthAll (l.map pd) + 1 ≤ 64
  have := (can_pd l).2
  omega
theorem shaped_pdT (l : List (Int × Int)) : SeqAt.shaped (.tuple (l.map pd)) = true := by
  unfold SeqAt.shaped
  rw [Bool.and_eq_true]
  refine ⟨(can_pd l).1, decide_eq_true ?_⟩
  show PyData.depthAll (l.map pd) + 1 ≤ 64
  have := (can_pd l).2
  omega
theorem shaped_pd1 (p : Int × Int) : SeqAt.shaped (pd p) = true := by
  unfold SeqAt.shaped
  rw [Bool.and_eq_true]
  exact ⟨rfl, decide_eq_true (show max 0 (max 0 0) + 1 ≤ 64 by decide)⟩
theorem eqv_of {d : PyData} (h : SeqAt.shaped d = true) : PyData.eqv d d = true := SeqAt.eqv_refl d (SeqAt.canLay_of_shaped h)
theorem eqv_pd (p q : Int × Int) : PyData.eqv (pd p) (pd q) = decide (p = q) := by
  show ((p.1 == q.1) && ((p.2 == q.2) && true)) = _
  rw [Bool.and_true]
  obtain ⟨a, b⟩ := p
  obtain ⟨c, d⟩ := q
  by_cases h : a = c
  · by_cases h2 : b = d
    · simp [h, h2]
    · simp [h2]
  · simp [h]
theorem any_pd (l : List (Int × Int)) (p : Int × Int) : ((l.map pd).any fun z => PyData.eqv z (pd p)) = decide (p ∈ l) := by
  rw [List.any_map]
  by_cases h : p ∈ l
  · rw [decide_eq_true h]
    exact List.any_eq_true.mpr ⟨p, h, by show PyData.eqv (pd p) (pd p) = true; rw [eqv_pd, decide_eq_true rfl]⟩
  · rw [decide_eq_false h]
    refine List.any_eq_false.mpr fun q hq e => ?_
    have e : PyData.eqv (pd q) (pd p) = true := e
    rw [eqv_pd] at e
    exact h (of_decide_eq_true e ▸ hq)
theorem eqv_nilI (l : List (Int × Int)) : PyData.eqv (.list (l.map pd)) (.list []) = l.isEmpty := by
  cases l with
  | nil => rfl
  | cons y r => rfl
theorem sorted_eq {α : Type} {R : α → α → Prop} (as : ∀ a b, R a b → ¬ R b a) : ∀ l1 l2 : List α, l1.Pairwise R → l2.Pairwise R → (∀ x, x ∈ l1 ↔ x ∈ l2) → l1 = l2
  | [], [], _, _, _ => rfl
  | [], b :: r, _, _, h => nomatch (h b).mpr List.mem_cons_self
  | a :: r, [], _, _, h => nomatch (h a).mp List.mem_cons_self
  | a :: r1, b :: r2, p1, p2, h => by
    obtain ⟨q1, w1⟩ := List.pairwise_cons.mp p1
    obtain ⟨q2, w2⟩ := List.pairwise_cons.mp p2
    have e : a = b := by
      rcases List.mem_cons.mp ((h a).mp List.mem_cons_self) with e | ha
      · exact e
      · rcases List.mem_cons.mp ((h b).mpr List.mem_cons_self) with e | hb
        · exact e.symm
        · exact (as _ _ (q1 b hb) (q2 a ha)).elim
    subst e
    rw [sorted_eq as r1 r2 w1 w2 fun x => ⟨fun hx => ?_, fun hx => ?_⟩]
    · rcases List.mem_cons.mp ((h x).mp (List.mem_cons_of_mem _ hx)) with e | h'
      · exact (as _ _ (q1 x hx) (e ▸ q1 x hx)).elim
      · exact h'
    · rcases List.mem_cons.mp ((h x).mpr (List.mem_cons_of_mem _ hx)) with e | h'
      · exact (as _ _ (q2 x hx) (e ▸ q2 x hx)).elim
      · exact h'
theorem ltP_asym (a b : Int × Int) (h : ltP a b) : ¬ ltP b a := by
  unfold ltP at *
  omega
def asInts (ps : List (Addr × Int × Int)) : List (Addr × List Int) := ps.map fun q => (q.1, [q.2.1, q.2.2])
theorem asInts_mem {ps : List (Addr × Int × Int)} {p : Addr × List Int} (h : p ∈ asInts ps) : ∃ x y, (p.1, x, y) ∈ ps ∧ p.2 = [x, y] := by
  obtain ⟨q, hq, e⟩ := List.mem_map.mp h
  subst e
  exact ⟨q.2.1, q.2.2, hq, rfl⟩
theorem asInts_of {ps : List (Addr × Int × Int)} : ∀ L : List (Addr × List Int), (∀ g ∈ L, g ∈ asInts ps) → ∃ qs, L = asInts qs ∧ ∀ q ∈ qs, q ∈ ps
  | [], _ => ⟨[], rfl, fun _ h => nomatch h⟩
  | g :: r, h => by
    obtain ⟨qs, e, hs⟩ := asInts_of r fun z hz => h z (List.mem_cons_of_mem _ hz)
    obtain ⟨q, hq, eq⟩ := List.mem_map.mp (h g List.mem_cons_self)
    refine ⟨q :: qs, by rw [e, ← eq]; rfl, fun z hz => ?_⟩
    rcases List.mem_cons.mp hz with e | h'
    · rw [e]; exact hq
    · exact hs z h'
/-- what sorted(set(ps)) gives: the pairs, ascending -/
theorem sorted_pairs {ps qs : List (Addr × Int × Int)} {L : List (Addr × List Int)} (sm : Sm12 ps) (sub : ∀ q ∈ qs, q ∈ ps) (perm : (asInts qs).Perm L) (all : ∀ p ∈ asInts ps, p.2 ∈ L.map (·.2)) (nd : ((asInts qs).map (·.2)).Nodup)
    (pw : (asInts qs).Pairwise (fun q r => TS.code 64 q.2 ≤ TS.code 64 r.2)) : (qs.map (·.2)).Pairwise ltP ∧ ∀ x, x ∈ qs.map (·.2) ↔ x ∈ ps.map (·.2) := by
  refine ⟨?_, fun x => ⟨fun h => ?_, fun h => ?_⟩⟩
  · refine List.pairwise_map.mpr ?_
    unfold asInts at nd pw
    rw [List.map_map] at nd
    have n2 := List.pairwise_map.mp nd
    have p2 := List.pairwise_map.mp pw
    refine List.Pairwise.imp_of_mem (fun {a b} ha hb h => ?_) (List.Pairwise.and p2 n2)
    obtain ⟨⟨x0, x1⟩, y0, y1⟩ := sm a (sub a ha)
    obtain ⟨⟨x2, x3⟩, y2, y3⟩ := sm b (sub b hb)
    exact pair_lt h.1 h.2 ⟨x0, by omega⟩ ⟨y0, by omega⟩ ⟨x2, by omega⟩ ⟨y2, by omega⟩
  · obtain ⟨q, hq, e⟩ := List.mem_map.mp h
    exact List.mem_map.mpr ⟨q, sub q hq, e⟩
  · obtain ⟨q, hq, e⟩ := List.mem_map.mp h
    have := all (q.1, [q.2.1, q.2.2]) (List.mem_map.mpr ⟨q, hq, rfl⟩)
    obtain ⟨g, hg, eg⟩ := List.mem_map.mp ((perm.map (·.2)).mem_iff.mpr this)
    obtain ⟨u, hu, eu⟩ := List.mem_map.mp hg
    rw [← eu] at eg
    injection eg with e1 e2
    injection e2 with e2 _
    refine List.mem_map.mpr ⟨u, hu, ?_⟩
    rw [← e]
    exact Prod.ext e1 e2
theorem asInts_refs (ps : List (Addr × Int × Int)) : (asInts ps).map (fun q => V.ref q.1) = ps.map fun q => V.ref q.1 := by
  unfold asInts
  rw [List.map_map]
  rfl
theorem Room.u65 {k : Nat} {A : Around} (r : Room k A) : A.units + 65 < cLine := by have := r.un; omega
end My
set_option Elab.async false
set_option linter.all false
set_option maxRecDepth 100000
/-! Claims (slot, side) in the heap: sets of them, and these sorted. -/
namespace My
open PySem PySem.Spec PyProof.Rows L2
def side (b : Bool) : Str := if b = true then "shipped" else "own"
theorem side_inj {a b : Bool} (h : side a = side b) : a = b := by
  cases a <;> cases b <;> first | rfl | exact absurd h (by decide +kernel)
theorem side_eq (a b : Bool) : (side a == side b) = decide (a = b) := by
  cases a <;> cases b <;> decide +kernel
theorem side_lt (a b : Bool) : decide ((side a).cps.toList < (side b).cps.toList) = decide (a = false ∧ b = true) := by
  cases a <;> cases b <;> decide +kernel
instance (a b : Cl) : Decidable (ltC a b) := by unfold ltC; infer_instance
def clV (c : Cl) : List V := [.int c.1, .str (side c.2)]
def ck (c : Cl) : List Key := [Sum.inl c.1, Sum.inr (side c.2)]
theorem ck_kV (c : Cl) : (ck c).map kV = clV c := rfl
theorem ck_inj {a b : Cl} (h : ck a = ck b) : a = b := by
  injection h with h1 h2
  injection h2 with h2 _
  exact Prod.ext (Sum.inl.inj h1) (side_inj (Sum.inr.inj h2))
/-- the claim at an address -/
def CAt (K : PySem.W.Frag) (H : Hp) (q : Addr × Cl) : Prop := SqT K H q.1 (clV q.2)
theorem CAt.of {K : PySem.W.Frag} {H : Hp} {q : Addr × Cl} (h : H q.1 = some (.tup (clV q.2))) : CAt K H q := SqT.of h
section
variable {P : Program} {w : World} {A : Around} {E : Value → Shared → Prop} {s : Shared}
abbrev asK (L : List (Addr × Cl)) : List (Addr × List Key) := L.map fun q => (q.1, ck q.2)
theorem asK_refs (L : List (Addr × Cl)) : (asK L).map (fun p => Value.ref p.1) = L.map fun q => Value.ref q.1 := by rw [List.map_map]; rfl
theorem asK_keys (L : List (Addr × Cl)) : (asK L).map (·.2) = (L.map (·.2)).map ck := by rw [List.map_map, List.map_map]; rfl
theorem asK_of {ks : List (Addr × Cl)} : ∀ M : List (Addr × List Key), (∀ p ∈ M, p ∈ asK ks) → ∃ L, M = asK L ∧ ∀ q ∈ L, q ∈ ks
  | [], _ => ⟨[], rfl, fun _ h => nomatch h⟩
  | p :: r, h => by
    obtain ⟨L, e, hs⟩ := asK_of r fun z hz => h z (List.mem_cons_of_mem _ hz)
    obtain ⟨q, hq, eq⟩ := List.mem_map.mp (h p List.mem_cons_self)
    refine ⟨q :: L, by rw [e, ← eq]; rfl, fun z hz => ?_⟩
    rcases List.mem_cons.mp hz with e | h'
    · rw [e]; exact hq
    · exact hs z h'
theorem nodup_ck {l : List Cl} (h : (l.map ck).Nodup) : l.Nodup := nodup_of h
/-- the set at a, without the tuples themselves -/
def CSet (P : Program) (w : World) (h : Heap) (a : Addr) (L : List (Addr × Cl)) : Prop := ∃ (es : Array (Int × Value)) (ep : Nat) (t : SetTable), (∃ o, h.get? a = some o ∧ o.ExactSet ∧ o.data = .set es ep t) ∧
  es.toList = entsOf (mixKind P w) (asK L) ∧ TabOk t ((asK L).map fun p => hsh (mixKind P w) p.2) ∧ ((asK L).map (·.2)).Nodup ∧ (w.params.followText "set-order" = true ∨ t.led = true) ∧ (asK L).length * 5 < t.mask * 3 ∧ (asK L).length < 64
def SetCO (P : Program) (w : World) (a : Addr) (L : List (Addr × Cl)) : HO := .ext fun h => CSet P w h a L
theorem KSet.claims {h : Heap} {a : Addr} {L : List (Addr × Cl)} {es : Array (Int × Value)} {ep : Nat} {t : SetTable} (R : KSet (mixKind P w) h a (asK L) es ep t) : CSet P w h a L :=
  ⟨es, ep, t, R.obj, R.ents, R.tab, R.uniq, R.lead, R.room, R.few⟩
theorem CSet.full {h : Heap} {a : Addr} {L : List (Addr × Cl)} (R : CSet P w h a L) (ht : ∀ q ∈ L, Tp (mixKind P w) h (ck q.2) q.1) : ∃ es ep t, KSet (mixKind P w) h a (asK L) es ep t := by
  obtain ⟨es, ep, t, h1, h2, h3, h4, h5, h6, h7⟩ := R
  refine ⟨es, ep, t, h1, h2, h3, h4, fun p hp => ?_, h5, h6, h7⟩
  obtain ⟨q, hq, e⟩ := List.mem_map.mp hp
  rw [← e]
  exact ht q hq
theorem setCO_ok {H : Hp} {h : Heap} {a : Addr} {L : List (Addr × Cl)} (R : CSet P w h a L) : ObjOk P w H h a (SetCO P w a L) := by
  have ⟨es, ep, t, ⟨o, ho, r⟩, q⟩ := R
  refine ⟨R, ⟨o, ho⟩, fun h1 h2 p k => ?_⟩
  have ⟨es', ep', t', ⟨o', ho', r'⟩, q'⟩ := (show CSet P w h1 a L from p)
  exact (show CSet P w h2 a L from ⟨es', ep', t', ⟨o', k o' ho', r'⟩, q'⟩)
/-! ### the order of two claims -/
/-- the claim that a value is, by the list -/
noncomputable def clOf (L : List (Addr × Cl)) (v : Value) : Cl := by
  classical
  exact if h : ∃ q ∈ L, v = Value.ref q.1 then (Classical.choose h).2 else (0, false)
theorem clOf_at {L : List (Addr × Cl)} (one : ∀ q ∈ L, ∀ r ∈ L, q.1 = r.1 → q = r) {q : Addr × Cl} (hq : q ∈ L) : clOf L (.ref q.1) = q.2 := by
  classical
  have h : ∃ r ∈ L, Value.ref q.1 = Value.ref r.1 := ⟨q, hq, rfl⟩
  unfold clOf
  rw [dif_pos h]
  obtain ⟨h1, h2⟩ := Classical.choose_spec h
  injection h2 with h2
  exact congrArg Prod.snd (one q hq _ h1 h2).symm
theorem swoC (f : Value → Cl) : SrtO.Swo fun v u => decide (ltC (f v) (f u)) := by
  refine ⟨fun x y h => decide_eq_false fun g => ltC_irr (ltC_trans (of_decide_eq_true h) g), fun x y z h1 h2 => decide_eq_false fun g => ?_⟩
  have a := of_decide_eq_false h1
  have b := of_decide_eq_false h2
  rcases ltC_tri (f z) (f y) with k | k | k
  · exact b k
  · rw [k] at g; exact a g
  · exact a (ltC_trans k g)
theorem cmpC {L : List (Addr × Cl)} (one : ∀ q ∈ L, ∀ r ∈ L, q.1 = r.1 → q = r) (hk : ∀ q ∈ L, Tp (mixKind P w) s.heap (ck q.2) q.1) :
    SrtO.Cmp P w A s (tuples' true) (fun p => p.1 ∈ L.map fun q => Value.ref q.1) (SrtO.lt2 fun v u => decide (ltC (clOf L v) (clOf L u))) := by
  intro p q hm hm'
  obtain ⟨c, hc, e⟩ := List.mem_map.mp hm
  obtain ⟨d, hd, e'⟩ := List.mem_map.mp hm'
  show wpAny (model P w) A (keyLt' (tuples' true) p.1 q.1) (fun r s' => s' = s ∧ r = decide (ltC (clOf L p.1) (clOf L q.1))) (fun _ _ => False) s
  rw [← e, ← e', clOf_at one hc, clOf_at one hd]
  have ok : ∀ {c : Addr × Cl}, c ∈ L → ∃ o t u n, s.heap.get? c.1 = some o ∧ o.cls = .type "tuple" ∧ o.data = .seq #[.int c.2.1 t, .str (side c.2.2) u] n := fun {c} hc => by
    obtain ⟨o, its, n, ho, hcl, hdt, hi⟩ := hk c hc
    cases hit : its.toList with
    | nil => rw [hit] at hi; cases hi
    | cons x r =>
      rw [hit] at hi
      cases hi with
      | cons h1 h2 =>
        cases h2 with
        | cons h3 h4 =>
          cases h4
          rcases keyIs_shape (show keyIs (Sum.inl c.2.1) _ = true from h1) with ⟨i, t, e1, rfl⟩ | ⟨z, t, e1, _⟩
          · rcases keyIs_shape (show keyIs (Sum.inr (side c.2.2)) _ = true from h3) with ⟨i', t', e3, _⟩ | ⟨z', u, e3, rfl⟩
            · cases e3
            · cases e1
              cases e3
              refine ⟨o, t, u, n, ho, hcl, ?_⟩
              rw [hdt]
              congr 1
              exact Array.toList_inj.mp hit
          · cases e1
  obtain ⟨o, t, u, n, ho, _, hdt⟩ := ok hc
  obtain ⟨o', t', u', n', ho', _, hdt'⟩ := ok hd
  obtain ⟨_, x, b⟩ := c
  obtain ⟨_, y, b'⟩ := d
  dsimp only at *
  refine PySem.W.kat_lt ho hdt ho' hdt' ?_
  show PySem.W.KatLex P w A true (decide (2 < 2)) _ [(.int x t, .int y t'), (.str (side b) u, .str (side b') u')] 0 s
  refine PySem.W.kat_cons (SeqAt.EqAt.int_int x t y t' P w _ _ (PySem.W.kat_go (fun e1 => ?_) (fun e1 => ?_)))
  · have ex : x = y := by simpa using e1
    subst ex
    refine PySem.W.kat_yes (PySem.W.kat_cons (SeqAt.EqAt.str_str (side b) u (side b') u' P w _ _ ?_))
    rw [side_eq]
    refine PySem.W.kat_go (fun e2 => ?_) (fun e2 => ?_)
    · have eb := of_decide_eq_true e2
      subst eb
      exact PySem.W.kat_yes (PySem.W.kat_nil ⟨rfl, (decide_eq_false ltC_irr).symm⟩)
    · refine PySem.W.kat_no (PySem.W.kat_one _ _ (PyProof.Rows.lt_str ?_))
      refine (show s = s ∧ decide ((side b).cps.toList < (side b').cps.toList) = decide (ltC (x, b) (x, b')) from ⟨rfl, ?_⟩)
      rw [side_lt]
      exact decide_eq_decide.mpr ⟨fun h => .inr ⟨rfl, h⟩, fun h => h.elim (fun z => absurd z (Int.lt_irrefl _)) (·.2)⟩
  · have ex : ¬ x = y := by simpa using e1
    refine PySem.W.kat_no (oneLt_int (Q := fun r s' => s' = s ∧ r = decide (ltC (x, b) (y, b'))) ⟨rfl, decide_eq_decide.mpr ⟨fun h => .inl h, fun h => h.elim id (fun z => (ex z.1).elim)⟩⟩)

/-- sorted(set) of claims -/
theorem sorted_setC {a : Addr} {L : List (Addr × Cl)} {es : Array (Int × Value)} {ep : Nat} {t : SetTable} {Q : Value → Shared → Prop} (R : KSet (mixKind P w) s.heap a (asK L) es ep t) (hh : A.handled = none)
    (hQ : ∀ s' p (out : Array Value) (c : Nat) (M : List (Addr × Cl)), (∀ b o, s.heap.get? b = some o → s'.heap.get? b = some o) → s'.gens = s.gens → s'.os = s.os → s.heap.objs.size ≤ p →
      s'.heap.get? p = some (seqObj "list" out c) → out.toList = M.map (fun q => Value.ref q.1) → M.Perm L → (M.map (·.2)).Pairwise ltC → Q (.ref p) s') :
    wpAny (model P w) A (call (.builtin "sorted") [.ref a]) Q E s := by
  obtain ⟨o, ho, hex, hd⟩ := R.obj
  have le := ents_len R.ents
  rw [List.length_map] at le
  have few := R.few
  rw [List.length_map] at few
  have tup : ∀ q ∈ L, Tp (mixKind P w) s.heap (ck q.2) q.1 := fun q hq => R.tups (q.1, ck q.2) (List.mem_map.mpr ⟨q, hq, rfl⟩)
  have one : ∀ q ∈ L, ∀ r ∈ L, q.1 = r.1 → q = r := fun q hq r hr e => by
    have h1 := tup q hq
    have h2 := tup r hr
    rw [e] at h1
    exact Prod.ext e (ck_inj (h1.inj h2))
  have uq : (L.map (·.2)).Nodup := by
    have := R.uniq
    rw [asK_keys] at this
    exact nodup_ck this
  have uref : (L.map fun q => Value.ref q.1).Nodup := by
    refine List.pairwise_map.mpr (List.Pairwise.imp_of_mem (fun {q r} hq hr ne e => ?_) (nodup_of uq))
    injection e with e
    exact ne (one q hq r hr e)
  refine Calls.call_function_entry kind_sorted plain_sorted entry_sorted (args_sorted1 _) ?_
  unfold Builtin.«sorted»
  refine wpAny_bind (m := checkCount "sorted" 1 1 _) (wpAny_pure (wpAny_bind ?_))
  refine collect_set (A := A.in1) hh ⟨o, ho, hex.1, hd⟩ R.fits (by unfold scanBound; omega) R.tab.ris R.lead fun s1 vs keep1 grow g1 o1 pm => ?_
  have eV : es.toList.map (·.2) = L.map fun q => Value.ref q.1 := by
    rw [R.ents, List.map_map, List.map_map]
    rfl
  rw [eV] at pm
  have lv : vs.length = L.length := by rw [pm.length_eq, List.length_map]
  refine wpAny_bind (wpAny_newList ?_ (by rw [sizeLine_eq]; omega))
  have at1 : (s1.heap.push (seqObj "list" vs.toArray 0)).get? s1.heap.objs.size = some (seqObj "list" vs.toArray 0) := Heap.get?_push_size _ rfl
  have keep2 : ∀ b u, s.heap.get? b = some u → (s1.heap.push (seqObj "list" vs.toArray 0)).get? b = some u := fun b u e => Heap.get?_push_of_some _ (keep1 b u e)
  have mem : ∀ {v}, v ∈ vs → v ∈ L.map fun q => Value.ref q.1 := fun {v} hv => pm.mem_iff.mp hv
  refine wpAny_bind (wpAny_holding (wpAny_call_entry slot_list_sort ⟨_, at1, rfl⟩ entry_list_sort (SrtO.list_sort_ord (s := { s1 with heap := s1.heap.push (seqObj "list" vs.toArray 0) }) (ltv := fun v u => decide (ltC (clOf L v) (clOf L u))) (swoC _) at1 (by rw [sizeLine_eq]; omega)
    (fun h2 => ?_) fun out srt stb => ⟨_, rfl, ?_⟩) (args_list_sort _)))
  · intro h' keep3
    have tup' : ∀ q ∈ L, Tp (mixKind P w) h' (ck q.2) q.1 := fun q hq => by
      obtain ⟨u, its, n, hu, c, d, r⟩ := tup q hq
      refine ⟨u, its, n, keep3 q.1 u (fun e => ?_) (keep2 _ _ hu), c, d, r⟩
      have := keep2 _ _ hu
      rw [e, at1] at this
      cases this
      exact absurd (Value.type.inj c) (by decide)
    have firsts : ∀ l : List Value, (∀ v ∈ l, v ∈ L.map fun q => Value.ref q.1) → ∃ fs, PySem.W.KatTups h' l fs ∧ fs.length = l.length ∧ ∀ f ∈ fs, ∃ x t, f = Value.int x t := by
      intro l
      induction l with
      | nil => intro _; exact ⟨[], .nil, rfl, fun _ h => nomatch h⟩
      | cons v r ih =>
        intro hv
        obtain ⟨fs, k1, k2, k3⟩ := ih fun u hu => hv u (List.mem_cons_of_mem _ hu)
        obtain ⟨q, hq, e⟩ := List.mem_map.mp (hv v List.mem_cons_self)
        obtain ⟨u, its, n, hu, c, d, it⟩ := tup' q hq
        cases hit : its.toList with
        | nil => rw [hit] at it; cases it
        | cons x y =>
          rw [hit] at it
          cases it with
          | cons h1 _ =>
            obtain ⟨i, t, e1, ex⟩ | ⟨z, t, e1, _⟩ := keyIs_shape (show keyIs (Sum.inl q.2.1) _ = true from h1)
            · have f0 : its[0]? = some x := by rw [← Array.getElem?_toList, hit]; rfl
              rw [← e]
              refine ⟨x :: fs, .cons hu c d f0 k1, by rw [List.length_cons, List.length_cons, k2], fun f hf => ?_⟩
              rcases List.mem_cons.mp hf with z | z
              · exact ⟨i, t, z.trans ex⟩
              · exact k3 f z
            · cases e1
    obtain ⟨fs, k1, k2, k3⟩ := firsts vs fun v hv => mem hv
    refine ⟨tuples' true, fun Q' E' hq => ?_, fun p q hp hq => cmpC (s := { s1 with heap := h' }) one tup' p q (mem hp) (mem hq)⟩
    refine PySem.W.kat_kind (T := .type "int") k1 (by omega) (fun f hf => ?_) (by rfl) ?_
    · obtain ⟨x, t, rfl⟩ := k3 f hf
      exact PySem.W.Looks.now
    · have e : (Value.type "int" != Value.type "tuple") = true := by decide +kernel
      rw [e]
      exact hq
  · obtain ⟨c, hc⟩ := sortedHeap_at (vs := vs) (out := out.toArray) at1
    have pout := stb.perm.trans pm
    have back : ∀ l : List Value, (∀ v ∈ l, v ∈ L.map fun q => Value.ref q.1) → ∃ M : List (Addr × Cl), l = M.map (fun q => Value.ref q.1) ∧ ∀ q ∈ M, q ∈ L := by
      intro l
      induction l with
      | nil => intro _; exact ⟨[], rfl, fun _ h => nomatch h⟩
      | cons v r ih =>
        intro hv
        obtain ⟨M, e1, e2⟩ := ih fun u hu => hv u (List.mem_cons_of_mem _ hu)
        obtain ⟨q, hq, e⟩ := List.mem_map.mp (hv v List.mem_cons_self)
        refine ⟨q :: M, by rw [List.map_cons, ← e1, e], fun r hr => ?_⟩
        rcases List.mem_cons.mp hr with z | z
        · exact z ▸ hq
        · exact e2 r z
    obtain ⟨M, eM, sub⟩ := back out fun v hv => pout.mem_iff.mp hv
    have nM : M.Nodup := by
      have := pout.nodup_iff.mpr uref
      rw [eM] at this
      exact nodup_of this
    have pM : M.Perm L := by
      refine (List.perm_ext_iff_of_nodup nM (nodup_of uq)).mpr fun q => ⟨sub q, fun hq => ?_⟩
      have hm : Value.ref q.1 ∈ out := pout.mem_iff.mpr (List.mem_map.mpr ⟨q, hq, rfl⟩)
      rw [eM] at hm
      obtain ⟨r, hr, e⟩ := List.mem_map.mp hm
      injection e with e
      rw [← one r (sub r hr) q hq e]
      exact hr
    have asc : (M.map (·.2)).Pairwise ltC := by
      rw [eM] at srt
      refine List.pairwise_map.mpr (List.Pairwise.imp_of_mem (fun {q r} hq hr h => ?_) (List.Pairwise.and (List.pairwise_map.mp srt) (List.pairwise_map.mp ((pM.map (·.2)).nodup_iff.mpr uq))))
      obtain ⟨h1, h2⟩ := h
      dsimp only at h1
      rw [clOf_at one (sub q hq), clOf_at one (sub r hr)] at h1
      have h1 := of_decide_eq_false h1
      rcases ltC_tri q.2 r.2 with z | z | z
      · exact z
      · exact (h2 z).elim
      · exact (h1 z).elim
    refine wpAny_pure ⟨_, rfl, hQ _ s1.heap.objs.size out.toArray c M (fun b u e => ?_) g1 o1 grow hc eM pM asc⟩
    have q := keep1 b u e
    have lt := Heap.lt_size q
    show (sortedHeap (s1.heap.push (seqObj "list" vs.toArray 0)) s1.heap.objs.size vs out.toArray).get? b = some u
    rw [sortedHeap_old (Nat.ne_of_lt lt) (by rw [size_push']; exact Nat.lt_succ_of_lt lt)]
    exact Heap.get?_push_of_some _ q
end
/-! ### the rules -/
theorem refsC : ∀ {ks : List (Addr × Cl)} {us : List Value}, Vals (ks.map fun q => V.ref q.1) us → us = (asK ks).map fun p => Value.ref p.1
  | [], _, .nil => rfl
  | q :: ks, _, .cons r t => by
    cases r
    rw [refsC t]
    rfl
theorem valsC : ∀ (ks : List (Addr × Cl)), Vals (ks.map fun q => V.ref q.1) (ks.map fun q => Value.ref q.1)
  | [] => .nil
  | q :: ks => .cons rfl (valsC ks)
/-- few of the claims are unlike -/
def FewC (ks : List (Addr × Cl)) : Prop := ∀ M : List (Addr × Cl), (M.map (·.2)).Nodup → (∀ p ∈ M, p ∈ ks) → M.length < 63
theorem FewC.keys {ks : List (Addr × Cl)} (f : FewC ks) : FewK (asK ks) := fun M nd sub => by
  obtain ⟨L, e, hs⟩ := asK_of M sub
  subst e
  rw [asK_keys] at nd
  rw [List.length_map]
  exact f L (nodup_ck nd) hs
theorem fewC_len {ks : List (Addr × Cl)} (h : ks.length < 63) : FewC ks := fun M nd sub => by
  have := sub_len M ks (nodup_of nd) sub
  omega
section
variable {X : Cx}
theorem isC {pins : List (Addr × Obj)} {σ : L2.St} {H : Hp} {s : Shared} {q : Addr × Cl} (I : Inv X pins σ H s) (h : CAt X.K H q) : Tp (mixKind X.prog X.w) s.heap (ck q.2) q.1 := by
  obtain ⟨its, r, ⟨o, ho, hc, n, hd⟩, _⟩ := I.tuple h
  exact ⟨o, its.toArray, n, ho, hc, hd, by simpa using items_are (ks := ck q.2) r⟩
/-- set(xs), xs a list or a tuple of claims -/
def rSetOfC (K : PySem.W.Frag) (P : Program) (w : World) : List V → Hp → VK → Prop := fun xs H Q => ∃ (l : Addr) (ks : List (Addr × Cl)), xs = [V.ref l] ∧ (SqL K H l (ks.map fun q => V.ref q.1) ∨ SqT K H l (ks.map fun q => V.ref q.1)) ∧
  (∀ q ∈ ks, CAt K H q) ∧ FewC ks ∧ ∀ a L, H a = none → (∀ q ∈ L, q ∈ ks) → (∀ q ∈ ks, q.2 ∈ L.map (·.2)) → (L.map (·.2)).Nodup → Q (.ref a) (upd H a (SetCO P w a L))
theorem cr_setOfC (hc : X.calm = true) (hu : X.A.units + 64 < cLine) : CallR X (.type "set") (rSetOfC X.K X.prog X.w) := by
  intro pins s σ H xs us Q I r h
  obtain ⟨l, ks, rfl, hl, hk, few, q⟩ := h
  rw [Vals.ref1 r]
  obtain ⟨its, rv, pl⟩ : ∃ its : List Value, Vals (ks.map fun q => V.ref q.1) its ∧ (s.heap.IsList l its.toArray ∨ s.heap.IsTuple l its.toArray) := by
    rcases hl with hl | hl
    · obtain ⟨its, rv, pl, _⟩ := I.list hl
      exact ⟨its, rv, .inl pl.isList⟩
    · obtain ⟨its, rv, pl, _⟩ := I.tuple hl
      exact ⟨its, rv, .inr pl⟩
  have hks : ∀ p ∈ asK ks, Tp (mixKind X.prog X.w) s.heap p.2 p.1 := fun p hp => by
    obtain ⟨c, hc, e⟩ := List.mem_map.mp hp
    rw [← e]
    exact isC I (hk c hc)
  refine set_ofK (kd := mixKind X.prog X.w) (asK ks) (I.ok.hd hc) pl (by simpa using refsC rv) hks few.keys (by omega) fun h' tk L es ep t R g k => ?_
  obtain ⟨M, e, sub⟩ := asK_of L fun p hp => List.mem_of_mem_take (g.sub p hp)
  subst e
  have all : ∀ c ∈ ks, c.2 ∈ M.map (·.2) := fun c hc => by
    have := g.all (c.1, ck c.2) (by rw [List.length_map, List.take_of_length_le (by rw [List.length_map]; exact Nat.le_refl _)]; exact List.mem_map.mpr ⟨c, hc, rfl⟩)
    rw [asK_keys] at this
    obtain ⟨d, hd, e⟩ := List.mem_map.mp this
    rw [← ck_inj e]
    exact hd
  have nd : (M.map (·.2)).Nodup := by
    have := R.uniq
    rw [asK_keys] at this
    exact nodup_ck this
  exact ⟨.ref s.heap.objs.size, upd H _ (SetCO X.prog X.w _ M), I.laid (t' := tk) k (Nat.le_refl _) (setCO_ok R.claims), rfl, q _ M (I.hok.fresh (Nat.le_refl _)) sub all nd⟩
/-- sorted(set) of claims: a new list, ascending -/
def rSortedC (K : PySem.W.Frag) (P : Program) (w : World) : List V → Hp → VK → Prop := fun vs H Q => ∃ (a : Addr) (L : List (Addr × Cl)), vs = [V.ref a] ∧ H a = some (SetCO P w a L) ∧ (∀ q ∈ L, CAt K H q) ∧
  ∀ (M : List (Addr × Cl)) (p : Addr), M.Perm L → (M.map (·.2)).Pairwise ltC → M.length < 64 → H p = none → Q (.ref p) (upd H p (.lst (M.map fun q => V.ref q.1)))
theorem cr_sortedC (hc : X.calm = true) : CallR X (.builtin "sorted") (rSortedC X.K X.prog X.w) := by
  intro pins s σ H vs us Q I r h
  obtain ⟨a, L, rfl, ha, hk, q⟩ := h
  have R0 : CSet X.prog X.w s.heap a L := (I.hok a _ ha).1
  obtain ⟨es, ep, t, R⟩ := R0.full fun c hc => isC I (hk c hc)
  have few := R.few
  rw [List.length_map] at few
  rw [Vals.ref1 r]
  refine sorted_setC R (I.ok.hd hc) fun s' p out c M k g o hp hg hout pm asc => ?_
  have fewM : M.length < 64 := by rw [pm.length_eq]; exact few
  have hlen : (M.map fun q => V.ref q.1).length ≤ sizeLine := by rw [List.length_map, sizeLine_eq]; omega
  have hn : H p = none := I.hok.fresh hp
  have J : Inv X pins σ (upd H p (.lst (M.map fun q => V.ref q.1))) { s with heap := s'.heap, gens := s'.gens, drawn := s'.drawn, toks := s'.toks } :=
    I.call (ch := []) (Un.laid k hp hn) (I.hok.laid k hp ⟨hlen, out.toList, c, by rw [hout]; exact valsC M, hg⟩) (by rw [g]; exact I.bare) (fun _ z => nomatch z)
  have e : s' = { s with heap := s'.heap, gens := s'.gens, drawn := s'.drawn, toks := s'.toks } := by
    cases s'
    cases s
    cases o
    rfl
  rw [e]
  exact ⟨.ref p, _, J, rfl, q M p pm asc fewM hn⟩
end
end My
set_option Elab.async false
set_option linter.all false
set_option maxRecDepth 100000
/-! Lists and tuples of claims in the heap, and as data. -/
namespace My
open PySem PySem.Spec PyProof.Rows L2
def Cls (H : Hp) (l : Addr) (cs : List (Addr × Cl)) : Prop := H l = some (.lst (cs.map fun q => V.ref q.1)) ∧ ∀ q ∈ cs, H q.1 = some (.tup (clV q.2))
def ClsT (H : Hp) (l : Addr) (cs : List (Addr × Cl)) : Prop := H l = some (.tup (cs.map fun q => V.ref q.1)) ∧ ∀ q ∈ cs, H q.1 = some (.tup (clV q.2))
theorem Cls.same {H H' : Hp} {l : Addr} {cs : List (Addr × Cl)} (h : Cls H l cs) (s : Same H H') : Cls H' l cs := ⟨s _ _ h.1, fun q hq => s _ _ (h.2 q hq)⟩
theorem ClsT.same {H H' : Hp} {l : Addr} {cs : List (Addr × Cl)} (h : ClsT H l cs) (s : Same H H') : ClsT H' l cs := ⟨s _ _ h.1, fun q hq => s _ _ (h.2 q hq)⟩
/-- one more at the end of a list that grows at D: t is its new tuple -/
theorem Cls.more {H H4 : Hp} {D t : Addr} {cs : List (Addr × Cl)} {c : Cl} (nD : H D = none) (s4 : Same H H4) (h : Cls H4 D cs) (nt : H4 t = none) :
    Same H (upd (upd H4 t (.tup (clV c))) D (.lst (cs.map (fun q => V.ref q.1) ++ [.ref t]))) ∧ Cls (upd (upd H4 t (.tup (clV c))) D (.lst (cs.map (fun q => V.ref q.1) ++ [.ref t]))) D (cs ++ [(t, c)]) := by
  have tD : t ≠ D := (ne_of_none h.1 nt).symm
  refine ⟨fun b o e => ?_, ?_, fun z hz => ?_⟩
  · rw [upd_ne (fun h => by rw [h, nD] at e; cases e), upd_ne (ne_of_none (s4 _ _ e) nt)]
    exact s4 _ _ e
  · rw [upd_same, List.map_append]; rfl
  · rcases List.mem_append.mp hz with hz | hz
    · have e6 := h.2 z hz
      rw [upd_ne (fun e => by rw [e, h.1] at e6; cases e6), upd_ne (ne_of_none e6 nt)]
      exact e6
    · cases List.mem_singleton.mp hz
      rw [upd_ne tD, upd_same]
/-! ### as data -/
def clD (c : Cl) : PyData := .tuple [.int c.1, .str (side c.2)]
theorem dp_cl {K : PySem.W.Frag} {H : Hp} {t : Addr} {c : Cl} (h : H t = some (.tup (clV c))) : Dp K H (.ref t) (clD c) := .tup (SqT.of h) (.cons (.int _) (.cons (.str _) .nil))
theorem dp_clAll {K : PySem.W.Frag} {H : Hp} : ∀ {cs : List (Addr × Cl)}, (∀ q ∈ cs, H q.1 = some (.tup (clV q.2))) → DpAll K H (cs.map fun q => V.ref q.1) ((cs.map (·.2)).map clD)
  | [], _ => .nil
  | q :: r, h => .cons (dp_cl (h q List.mem_cons_self)) (dp_clAll fun z hz => h z (List.mem_cons_of_mem _ hz))
theorem dp_cls {K : PySem.W.Frag} {H : Hp} {l : Addr} {cs : List (Addr × Cl)} (h : Cls H l cs) : Dp K H (.ref l) (.list ((cs.map (·.2)).map clD)) := .lst (SqL.of h.1) (dp_clAll h.2)
theorem dp_clsT {K : PySem.W.Frag} {H : Hp} {l : Addr} {cs : List (Addr × Cl)} (h : ClsT H l cs) : Dp K H (.ref l) (.tuple ((cs.map (·.2)).map clD)) := .tup (SqT.of h.1) (dp_clAll h.2)
theorem can_side (b : Bool) : PyData.canLay0 (.str (side b)) = true := by cases b <;> decide +kernel
theorem can_cl (l : List Cl) : PyData.canLayAll0 (l.map clD) = true ∧ PyData.depthAll (l.map clD) ≤ 1 := by
  induction l with
  | nil => exact ⟨rfl, Nat.zero_le _⟩
  | cons c r ih =>
    refine ⟨?_, ?_⟩
    · show ((true && (PyData.canLay0 (.str (side c.2)) && true)) && PyData.canLayAll0 (r.map clD)) = true
      rw [ih.1, can_side]; rfl
    · show max (max 0 (max 0 0) + 1) (PyData.depthAll (r.map clD)) ≤ 1
      have := ih.2
      omega
theorem shaped_cl (l : List Cl) : SeqAt.shaped (.list (l.map clD)) = true := by
  unfold SeqAt.shaped
  rw [Bool.and_eq_true]
  refine ⟨(can_cl l).1, decide_eq_true ?_⟩
  show PyData.depthAll (l.map clD) + 1 ≤ 64
  have := (can_cl l).2
  omega
theorem shaped_clT (l : List Cl) : SeqAt.shaped (.tuple (l.map clD)) = true := by
  unfold SeqAt.shaped
  rw [Bool.and_eq_true]
  refine ⟨(can_cl l).1, decide_eq_true ?_⟩
  show PyData.depthAll (l.map clD) + 1 ≤ 64
  have := (can_cl l).2
  omega
theorem shaped_cl1 (c : Cl) : SeqAt.shaped (clD c) = true := by
  unfold SeqAt.shaped
  rw [Bool.and_eq_true]
  refine ⟨?_, decide_eq_true (show max 0 (max 0 0) + 1 ≤ 64 by decide)⟩
  show (true && (PyData.canLay0 (.str (side c.2)) && true)) = true
  rw [can_side]; rfl
theorem eqv_cl (a b : Cl) : PyData.eqv (clD a) (clD b) = decide (a = b) := by
  show ((a.1 == b.1) && ((side a.2 == side b.2) && true)) = _
  rw [Bool.and_true, side_eq]
  obtain ⟨x, p⟩ := a
  obtain ⟨y, q⟩ := b
  by_cases h : x = y
  · by_cases h2 : p = q
    · simp [h, h2]
    · simp [h2]
  · simp [h]
theorem eqvAll_cl : ∀ a b : List Cl, PyData.eqvAll (a.map clD) (b.map clD) = decide (a = b)
  | [], [] => rfl
  | [], b :: r => rfl
  | a :: r, [] => rfl
  | a :: r, b :: q => by
    show (PyData.eqv (clD a) (clD b) && PyData.eqvAll (r.map clD) (q.map clD)) = _
    rw [eqv_cl, eqvAll_cl]
    by_cases h : a = b
    · by_cases h2 : r = q
      · simp [h, h2]
      · simp [h2]
    · simp [h]
theorem eqv_clT (a b : List Cl) : PyData.eqv (.tuple (a.map clD)) (.tuple (b.map clD)) = decide (a = b) := by
  show PyData.eqvAll (a.map clD) (b.map clD) = _
  exact eqvAll_cl a b
theorem any_cl (l : List Cl) (c : Cl) : ((l.map clD).any fun z => PyData.eqv z (clD c)) = decide (c ∈ l) := by
  rw [List.any_map]
  by_cases h : c ∈ l
  · rw [decide_eq_true h]
    exact List.any_eq_true.mpr ⟨c, h, by show PyData.eqv (clD c) (clD c) = true; rw [eqv_cl, decide_eq_true rfl]⟩
  · rw [decide_eq_false h]
    refine List.any_eq_false.mpr fun q hq e => ?_
    have e : PyData.eqv (clD q) (clD c) = true := e
    rw [eqv_cl] at e
    exact h (of_decide_eq_true e ▸ hq)
/-! ### the claims of conflicts -/
def claimsL (E : List (Int × Int)) : List Cl := E.map (fun e => (e.1, false)) ++ E.map (fun e => (e.2, true))
theorem mem_claims {E : List (Int × Int)} {c : Cl} : c ∈ claimsL E ↔ ∃ e ∈ E, bears e c = true := by
  unfold claimsL
  rw [List.mem_append, List.mem_map, List.mem_map]
  obtain ⟨x, b⟩ := c
  constructor
  · rintro (⟨e, he, h⟩ | ⟨e, he, h⟩)
    · cases h; exact ⟨e, he, bears_own.mpr rfl⟩
    · cases h; exact ⟨e, he, bears_shp.mpr rfl⟩
  · rintro ⟨e, he, h⟩
    cases b with
    | false => exact .inl ⟨e, he, by rw [bears_own.mp h]⟩
    | true => exact .inr ⟨e, he, by rw [bears_shp.mp h]⟩
theorem out_take (E : List (Int × Int)) (c : Cl) {i : Nat} {e : Int × Int} (h : E[i]? = some e) : outOf (E.take (i + 1)) c = outOf (E.take i) c ++ if bears e c = true then [] else [e] := by
  unfold outOf
  rw [List.take_succ, h, Option.toList_some, List.filter_append]
  congr 1
  rw [List.filter_cons]
  cases bears e c <;> rfl
theorem not_bears (x y : Int) (c : Cl) : (!decide ((x, false) = c) && !decide ((y, true) = c)) = !bears (x, y) c := by
  obtain ⟨z, b⟩ := c
  cases b <;> simp [bears]
/-- as many conflicts as match -/
noncomputable def nuE (E : List (Int × Int)) : Nat := by
  classical
  exact if h : ∃ n, Nu E n then Classical.choose h else 0
theorem nuE_of {E : List (Int × Int)} {n : Nat} (h : Nu E n) : nuE E = n := by
  classical
  have g : ∃ n, Nu E n := ⟨n, h⟩
  unfold nuE
  rw [dif_pos g]
  exact nu_one (Classical.choose_spec g) h
end My
set_option Elab.async false
set_option linter.all false
set_option maxRecDepth 100000
/-! Objects of any plain kind in the heap: what they are as data, their types, isinstance, in of a tuple, repr. -/
namespace My
open PySem PySem.Spec PyProof.Rows L2
mutual
inductive DD (H : Hp) : V → PyData → Prop
  | non : DD H .non .none
  | bl (b : Bool) : DD H (.bl b) (.bool b)
  | int (i : Int) : DD H (.int i) (.int i)
  | str (x : Str) : DD H (.str x) (.str x)
  | lst {a : Addr} {xs : List V} {ds : List PyData} : H a = some (.lst xs) → DDs H xs ds → DD H (.ref a) (.list ds)
  | tup {a : Addr} {xs : List V} {ds : List PyData} : H a = some (.tup xs) → DDs H xs ds → DD H (.ref a) (.tuple ds)
inductive DDs (H : Hp) : List V → List PyData → Prop
  | nil : DDs H [] []
  | cons {v : V} {vs : List V} {d : PyData} {ds : List PyData} : DD H v d → DDs H vs ds → DDs H (v :: vs) (d :: ds)
end
mutual
theorem DD.dp {K : PySem.W.Frag} {H : Hp} : ∀ {v : V} {d : PyData}, DD H v d → Dp K H v d
  | _, _, .non => .non
  | _, _, .bl b => .bl b
  | _, _, .int i => .int i
  | _, _, .str x => .str x
  | _, _, .lst h a => .lst (SqL.of h) (DDs.dp a)
  | _, _, .tup h a => .tup (SqT.of h) (DDs.dp a)
theorem DDs.dp {K : PySem.W.Frag} {H : Hp} : ∀ {vs : List V} {ds : List PyData}, DDs H vs ds → DpAll K H vs ds
  | _, _, .nil => .nil
  | _, _, .cons h a => .cons (DD.dp h) (DDs.dp a)
end
mutual
theorem DD.same {H H' : Hp} (s : Same H H') : ∀ {v : V} {d : PyData}, DD H v d → DD H' v d
  | _, _, .non => .non
  | _, _, .bl b => .bl b
  | _, _, .int i => .int i
  | _, _, .str x => .str x
  | _, _, .lst h a => .lst (s _ _ h) (DDs.same s a)
  | _, _, .tup h a => .tup (s _ _ h) (DDs.same s a)
theorem DDs.same {H H' : Hp} (s : Same H H') : ∀ {vs : List V} {ds : List PyData}, DDs H vs ds → DDs H' vs ds
  | _, _, .nil => .nil
  | _, _, .cons h a => .cons (DD.same s h) (DDs.same s a)
end
theorem DDs.len {H : Hp} : ∀ {vs : List V} {ds : List PyData}, DDs H vs ds → vs.length = ds.length
  | _, _, .nil => rfl
  | _, _, .cons _ a => by rw [List.length_cons, List.length_cons, DDs.len a]
theorem DDs.get {H : Hp} : ∀ {vs : List V} {ds : List PyData}, DDs H vs ds → ∀ {i : Nat} {v : V}, vs[i]? = some v → ∃ d, ds[i]? = some d ∧ DD H v d
  | _, _, .nil, i, v, e => by cases e
  | _, _, .cons (d := d) h a, i, v, e => by
    cases i with
    | zero => cases e; exact ⟨d, rfl, h⟩
    | succ i => exact DDs.get a e
theorem DDs.app {H : Hp} : ∀ {vs us : List V} {ds es : List PyData}, DDs H vs ds → DDs H us es → DDs H (vs ++ us) (ds ++ es)
  | _, _, _, _, .nil, b => b
  | _, _, _, _, .cons h a, b => .cons h (DDs.app a b)
theorem DDs.cut {H : Hp} {vs : List V} {ds : List PyData} (a : DDs H vs ds) (lo hi : Option Int) : ∃ es, DDs H (cutV vs lo hi) es ∧ ∀ e ∈ es, e ∈ ds := by
  have tk : ∀ {vs : List V} {ds : List PyData} (n : Nat), DDs H vs ds → DDs H (vs.take n) (ds.take n) := by
    intro vs ds n a
    induction n generalizing vs ds with
    | zero => exact .nil
    | succ n ih =>
      cases a with
      | nil => exact .nil
      | cons h a => exact .cons h (ih a)
  have dr : ∀ {vs : List V} {ds : List PyData} (n : Nat), DDs H vs ds → DDs H (vs.drop n) (ds.drop n) := by
    intro vs ds n a
    induction n generalizing vs ds with
    | zero => exact a
    | succ n ih =>
      cases a with
      | nil => exact .nil
      | cons h a => exact ih a
  exact ⟨_, tk _ (dr _ a), fun e he => List.mem_of_mem_drop (List.mem_of_mem_take he)⟩
/-- and it is so whatever becomes of b -/
def DK (b : Addr) (H : Hp) (v : V) (d : PyData) : Prop := ∀ H', Kept b H H' → DD H' v d
def DKs (b : Addr) (H : Hp) (vs : List V) (ds : List PyData) : Prop := ∀ H', Kept b H H' → DDs H' vs ds
theorem DK.now {b : Addr} {H : Hp} {v : V} {d : PyData} (h : DK b H v d) : DD H v d := h H (Kept.refl _ _)
theorem DKs.now {b : Addr} {H : Hp} {v : List V} {d : List PyData} (h : DKs b H v d) : DDs H v d := h H (Kept.refl _ _)
theorem DK.keep {b : Addr} {H H' : Hp} {v : V} {d : PyData} (h : DK b H v d) (k : Kept b H H') : DK b H' v d := fun H2 k2 => h H2 (k.trans k2)
theorem DKs.keep {b : Addr} {H H' : Hp} {v : List V} {d : List PyData} (h : DKs b H v d) (k : Kept b H H') : DKs b H' v d := fun H2 k2 => h H2 (k.trans k2)
theorem DK.tup {b p : Addr} {H : Hp} {xs : List V} {ds : List PyData} (e : H p = some (.tup xs)) (pb : p ≠ b) (h : DKs b H xs ds) : DK b H (.ref p) (.tuple ds) := fun H' k => .tup (k _ _ pb e) (h H' k)
theorem DK.lst {b p : Addr} {H : Hp} {xs : List V} {ds : List PyData} (e : H p = some (.lst xs)) (pb : p ≠ b) (h : DKs b H xs ds) : DK b H (.ref p) (.list ds) := fun H' k => .lst (k _ _ pb e) (h H' k)
theorem DKs.nil {b : Addr} {H : Hp} : DKs b H [] [] := fun _ _ => .nil
theorem DKs.cons {b : Addr} {H : Hp} {v : V} {vs : List V} {d : PyData} {ds : List PyData} (h : DK b H v d) (t : DKs b H vs ds) : DKs b H (v :: vs) (d :: ds) := fun H' k => .cons (h H' k) (t H' k)
theorem DKs.app {b : Addr} {H : Hp} {vs us : List V} {ds es : List PyData} (h : DKs b H vs ds) (t : DKs b H us es) : DKs b H (vs ++ us) (ds ++ es) := fun H' k => (h H' k).app (t H' k)
theorem DK.int {b : Addr} {H : Hp} (i : Int) : DK b H (.int i) (.int i) := fun _ _ => .int i
theorem DK.str {b : Addr} {H : Hp} (i : Str) : DK b H (.str i) (.str i) := fun _ _ => .str i
theorem DK.bl {b : Addr} {H : Hp} (i : Bool) : DK b H (.bl i) (.bool i) := fun _ _ => .bl i
theorem DK.non {b : Addr} {H : Hp} : DK b H .non .none := fun _ _ => .non
/-! ### types -/
def tyOf : PyData → String
  | .none => "NoneType"
  | .bool _ => "bool"
  | .int _ => "int"
  | .str _ => "str"
  | .list _ => "list"
  | .tuple _ => "tuple"
  | .dict _ => "dict"
theorem DD.ty {K : PySem.W.Frag} {H : Hp} {v : V} {d : PyData} (h : DD H v d) : TyX K H v (.type (tyOf d)) := by
  cases h with
  | non => exact .base .non
  | bl b => exact .base (.bl b)
  | int i => exact .base (.int i)
  | str x => exact .base (.str x)
  | lst e _ => exact .base (.lst e)
  | tup e _ => exact .base (.tup e)
def isTupD : PyData → Bool | .tuple _ => true | _ => false
def isListD : PyData → Bool | .list _ => true | _ => false
def isBoolD : PyData → Bool | .bool _ => true | _ => false
def isIntD : PyData → Bool | .bool _ => true | .int _ => true | _ => false
def isStrD : PyData → Bool | .str _ => true | _ => false
theorem kit_tup : ∀ d : PyData, kitB (tyOf d) "tuple" = some (isTupD d)
  | .none => (by decide +kernel : kitB "NoneType" "tuple" = some false)
  | .bool _ => (by decide +kernel : kitB "bool" "tuple" = some false)
  | .int _ => (by decide +kernel : kitB "int" "tuple" = some false)
  | .str _ => (by decide +kernel : kitB "str" "tuple" = some false)
  | .list _ => (by decide +kernel : kitB "list" "tuple" = some false)
  | .tuple _ => (by decide +kernel : kitB "tuple" "tuple" = some true)
  | .dict _ => (by decide +kernel : kitB "dict" "tuple" = some false)
theorem kit_list : ∀ d : PyData, kitB (tyOf d) "list" = some (isListD d)
  | .none => (by decide +kernel : kitB "NoneType" "list" = some false)
  | .bool _ => (by decide +kernel : kitB "bool" "list" = some false)
  | .int _ => (by decide +kernel : kitB "int" "list" = some false)
  | .str _ => (by decide +kernel : kitB "str" "list" = some false)
  | .list _ => (by decide +kernel : kitB "list" "list" = some true)
  | .tuple _ => (by decide +kernel : kitB "tuple" "list" = some false)
  | .dict _ => (by decide +kernel : kitB "dict" "list" = some false)
theorem kit_bool : ∀ d : PyData, kitB (tyOf d) "bool" = some (isBoolD d)
  | .none => (by decide +kernel : kitB "NoneType" "bool" = some false)
  | .bool _ => (by decide +kernel : kitB "bool" "bool" = some true)
  | .int _ => (by decide +kernel : kitB "int" "bool" = some false)
  | .str _ => (by decide +kernel : kitB "str" "bool" = some false)
  | .list _ => (by decide +kernel : kitB "list" "bool" = some false)
  | .tuple _ => (by decide +kernel : kitB "tuple" "bool" = some false)
  | .dict _ => (by decide +kernel : kitB "dict" "bool" = some false)
theorem kit_int : ∀ d : PyData, kitB (tyOf d) "int" = some (isIntD d)
  | .none => (by decide +kernel : kitB "NoneType" "int" = some false)
  | .bool _ => (by decide +kernel : kitB "bool" "int" = some true)
  | .int _ => (by decide +kernel : kitB "int" "int" = some true)
  | .str _ => (by decide +kernel : kitB "str" "int" = some false)
  | .list _ => (by decide +kernel : kitB "list" "int" = some false)
  | .tuple _ => (by decide +kernel : kitB "tuple" "int" = some false)
  | .dict _ => (by decide +kernel : kitB "dict" "int" = some false)
theorem kit_str : ∀ d : PyData, kitB (tyOf d) "str" = some (isStrD d)
  | .none => (by decide +kernel : kitB "NoneType" "str" = some false)
  | .bool _ => (by decide +kernel : kitB "bool" "str" = some false)
  | .int _ => (by decide +kernel : kitB "int" "str" = some false)
  | .str _ => (by decide +kernel : kitB "str" "str" = some true)
  | .list _ => (by decide +kernel : kitB "list" "str" = some false)
  | .tuple _ => (by decide +kernel : kitB "tuple" "str" = some false)
  | .dict _ => (by decide +kernel : kitB "dict" "str" = some false)
/-! ### in of a tuple -/
section
variable {X : Cx}
def rInT (K : PySem.W.Frag) (neg : Bool) : R2 := fun x y H Q => ∃ d ds, Dp K H x d ∧ Dp K H y (.tuple ds) ∧ SeqAt.shaped d = true ∧ SeqAt.shaped (.tuple ds) = true ∧ Q (.bl (neg ^^ ds.any fun z => PyData.eqv z d)) H
theorem op_inT (hu : X.A.units + 65 < cLine) : OpR X (compareOp .In) (rInT X.K false) := by
  intro pins s σ H x y v u Q I rx ry h
  obtain ⟨d, ds, hd, he, sd, se, q⟩ := h
  obtain ⟨as, r1⟩ := Dp.reads I d x v hd rx
  obtain ⟨bs, r2⟩ := Dp.reads I (.tuple ds) y u he ry
  rw [Bool.false_xor] at q
  exact SeqAt.in_tuple_reads r2 r1 (SeqAt.canLay_of_shaped se) (SeqAt.canLay_of_shaped sd) (room_in_shaped sd hu) ⟨.bl _, H, I, rfl, q⟩
theorem op_notInT (hu : X.A.units + 65 < cLine) : OpR X (compareOp .NotIn) (rInT X.K true) := by
  intro pins s σ H x y v u Q I rx ry h
  obtain ⟨d, ds, hd, he, sd, se, q⟩ := h
  obtain ⟨as, r1⟩ := Dp.reads I d x v hd rx
  obtain ⟨bs, r2⟩ := Dp.reads I (.tuple ds) y u he ry
  rw [Bool.true_xor] at q
  exact SeqAt.notIn_tuple_reads r2 r1 (SeqAt.canLay_of_shaped se) (SeqAt.canLay_of_shaped sd) (room_in_shaped sd hu) ⟨.bl _, H, I, rfl, q⟩
end
/-! ### small data -/
def Leaf : PyData → Prop
  | .none => True
  | .bool _ => True
  | .int n => 0 ≤ n ∧ n ≤ 1000
  | .str s => Plain 20 s
  | _ => False
def Part : PyData → Prop
  | .tuple l => l.length ≤ 3 ∧ ∀ x ∈ l, Leaf x
  | .list l => l.length ≤ 3 ∧ ∀ x ∈ l, Leaf x
  | d => Leaf d
def OkD : PyData → Prop
  | .tuple l => l.length ≤ 60 ∧ ∀ x ∈ l, Part x
  | .list l => l.length ≤ 60 ∧ ∀ x ∈ l, Part x
  | d => Leaf d
structure Fact (n m : Nat) (d : PyData) : Prop where
  sh : d.showable = true
  nd : d.hasDict = false
  dp : d.depth ≤ n
  ls : d.leavesShort 8 = true
  bk : d.bulk ≤ m
  cl : d.canLay0 = true
theorem int_short {n : Int} (h0 : 0 ≤ n) (h1 : n ≤ 1000) : (PyData.int n).showable = true ∧ (PyData.int n).leavesShort 8 = true := by
  obtain ⟨k, rfl⟩ := Int.eq_ofNat_of_zero_le h0
  have hk : k ≤ 1000 := by omega
  have all : ((List.range 1001).all fun k => (PyData.int (k : Int)).showable && (PyData.int (k : Int)).leavesShort 8) = true := by decide +kernel
  have := List.all_eq_true.mp all k (List.mem_range.mpr (by omega))
  rw [Bool.and_eq_true] at this
  exact this
theorem Leaf.fact : ∀ {d : PyData}, Leaf d → Fact 0 20 d
  | .none, _ => ⟨rfl, rfl, Nat.le_refl _, by decide, by decide, rfl⟩
  | .bool b, _ => ⟨rfl, rfl, Nat.le_refl _, by cases b <;> decide, by cases b <;> decide, rfl⟩
  | .int n, h => ⟨(int_short h.1 h.2).1, rfl, Nat.le_refl _, (int_short h.1 h.2).2, by show 0 ≤ 20; decide, rfl⟩
  | .str s, h => by
    have h : Plain 20 s := h
    refine ⟨rfl, rfl, Nat.le_refl _, ?_, ?_, ?_⟩
    · have : ∀ c ∈ s.cps.toList, c < 16 ^ 8 := fun c hc => Nat.lt_trans (h.small c hc) (by decide)
      simpa only [PyData.leavesShort, List.all_eq_true, decide_eq_true_eq] using this
    · show s.cps.size ≤ 20
      have h1 := h.len
      have : s.length = s.cps.size := rfl
      omega
    · have : ∀ c ∈ s.cps.toList, c < 0x110000 := fun c hc => Nat.lt_trans (h.small c hc) (by decide)
      show PyData.strOk s = true
      unfold PyData.strOk
      rw [← Array.all_toList, List.all_eq_true]
      exact fun c hc => decide_eq_true (this c hc)
theorem facts {n m : Nat} : ∀ {l : List PyData}, (∀ x ∈ l, Fact n m x) → PyData.showableAll l = true ∧ PyData.hasDictAll l = false ∧ PyData.depthAll l ≤ n ∧ PyData.leavesShortAll 8 l = true ∧ PyData.bulkAll l ≤ (m + 1) * l.length ∧ PyData.canLayAll0 l = true
  | [], _ => ⟨rfl, rfl, Nat.zero_le _, rfl, Nat.zero_le _, rfl⟩
  | d :: r, h => by
    obtain ⟨h1, h2, h3, h4, h5, h6⟩ := facts (l := r) fun z hz => h z (List.mem_cons_of_mem _ hz)
    have f := h d List.mem_cons_self
    refine ⟨?_, ?_, ?_, ?_, ?_, ?_⟩
    · show (d.showable && PyData.showableAll r) = true
      rw [f.sh, h1]; rfl
    · show (d.hasDict || PyData.hasDictAll r) = false
      rw [f.nd, h2]; rfl
    · show max d.depth (PyData.depthAll r) ≤ n
      have := f.dp
      omega
    · show (d.leavesShort 8 && PyData.leavesShortAll 8 r) = true
      rw [f.ls, h4]; rfl
    · show d.bulk + 1 + PyData.bulkAll r ≤ (m + 1) * (r.length + 1)
      have := f.bk
      rw [Nat.mul_succ]
      omega
    · show (d.canLay0 && PyData.canLayAll0 r) = true
      rw [f.cl, h6]; rfl
theorem fact_seq {n m k : Nat} {l : List PyData} (h : ∀ x ∈ l, Fact n m x) (hl : l.length ≤ k) : Fact (n + 1) ((m + 1) * k) (.tuple l) ∧ Fact (n + 1) ((m + 1) * k) (.list l) := by
  obtain ⟨h1, h2, h3, h4, h5, h6⟩ := facts h
  have b : PyData.bulkAll l ≤ (m + 1) * k := Nat.le_trans h5 (Nat.mul_le_mul_left _ hl)
  exact ⟨⟨h1, h2, by show PyData.depthAll l + 1 ≤ n + 1; omega, h4, b, h6⟩, ⟨h1, h2, by show PyData.depthAll l + 1 ≤ n + 1; omega, h4, b, h6⟩⟩
theorem Fact.mono {n m n' m' : Nat} {d : PyData} (f : Fact n m d) (h : n ≤ n') (g : m ≤ m') : Fact n' m' d := ⟨f.sh, f.nd, Nat.le_trans f.dp h, f.ls, Nat.le_trans f.bk g, f.cl⟩
theorem Part.fact : ∀ {d : PyData}, Part d → Fact 1 63 d
  | .tuple l, h => ((fact_seq (fun x hx => Leaf.fact (h.2 x hx)) h.1).1)
  | .list l, h => ((fact_seq (fun x hx => Leaf.fact (h.2 x hx)) h.1).2)
  | .none, h => (Leaf.fact (d := .none) h).mono (by decide) (by decide)
  | .bool b, h => (Leaf.fact (d := .bool b) h).mono (by decide) (by decide)
  | .int n, h => (Leaf.fact (d := .int n) h).mono (by decide) (by decide)
  | .str s, h => (Leaf.fact (d := .str s) h).mono (by decide) (by decide)
  | .dict kvs, h => h.elim
theorem OkD.fact : ∀ {d : PyData}, OkD d → Fact 2 3840 d
  | .tuple l, h => ((fact_seq (fun x hx => Part.fact (h.2 x hx)) h.1).1)
  | .list l, h => ((fact_seq (fun x hx => Part.fact (h.2 x hx)) h.1).2)
  | .none, h => (Leaf.fact (d := .none) h).mono (by decide) (by decide)
  | .bool b, h => (Leaf.fact (d := .bool b) h).mono (by decide) (by decide)
  | .int n, h => (Leaf.fact (d := .int n) h).mono (by decide) (by decide)
  | .str s, h => (Leaf.fact (d := .str s) h).mono (by decide) (by decide)
  | .dict kvs, h => h.elim
theorem Fact.shaped {n m : Nat} {d : PyData} (f : Fact n m d) (h : n ≤ 60) : SeqAt.shaped d = true := by
  unfold SeqAt.shaped
  rw [Bool.and_eq_true]
  exact ⟨f.cl, decide_eq_true (by have := f.dp; omega)⟩
theorem Fact.shows {n m : Nat} {d : PyData} (f : Fact n m d) (h : n ≤ 8) (g : m ≤ 100000) : Shows d := by
  refine ⟨f.sh, f.nd, Nat.le_trans f.dp h, ?_⟩
  have b := PyData.shown_le_bulk 8 (by decide) d f.ls
  have h6 : (1100000 : Nat) ≤ sizeLine := by decide
  have := f.bk
  omega
end My
set_option Elab.async false
set_option linter.all false
set_option maxRecDepth 100000
set_option maxHeartbeats 2000000
namespace K16
open PySem PySem.Spec PyProof.Rows L2 My
/-- whether an object is a place of the settings -/
def inS (l : List (Str × Str)) : V → Bool := ofText fun z => decide (z ∈ l.map (·.1))
section
variable {P : Program} {w : World} {K : PySem.W.Frag} {mg : Str → Option Value} {base : Heap}
def sp_SettingsFile_places (K : PySem.W.Frag) (T : Top K mg) : Sp := fun vs H Q _ => ∃ (H0 : Hp) (x : Addr) (t : Str) (rows : List Str) (fs : FS) (A : Parts), vs = [.ref x] ∧ FileP T.C_SettingsFile H0 H x t rows fs A ∧
  ∀ H' p, Same H H' → H p = none → H' p = some (.lst ((fs.settings.map (·.1)).map V.str)) → Q (.ref p) H'
theorem ok_SettingsFile_places (T : Top K mg) : FnOk P w K mg base CX0 1 T.f_SettingsFile_places T.d_SettingsFile_places ["self"] (sp_SettingsFile_places K T) := by
  refine T.F_SettingsFile_places.ok scSettingsFile_places (fun vs H Q E h => ?_) (fun cdv A outer s H vs Q E hr h => ?_)
  · obtain ⟨H0, x, t, rows, fs, A, rfl, _⟩ := h
    rfl
  · obtain ⟨H0, x, t, rows, fs, A, rfl, f, q⟩ := h
    refine ⟨_, (pss_one (ps_ret (pe_callTy (call_listD rfl) (by rfl) T.m_list (by decide +kernel) (pa_cons (pe_fld (pv 0) rfl) pa_nil)))), ?_⟩
    refine ⟨.ref x, rfl, x, _, _, _, _, rfl, f.ob, T.cl_SettingsFile, T.no_SettingsFile_settings_read, f_settings _ _ _ _ _ _ _, A.s, _, rfl, .inl f.es, fun p np => ?_⟩
    exact q _ p (same_new np) np (by rw [upd_same, keys_map])
def sp_SettingsFile___contains__ (K : PySem.W.Frag) (T : Top K mg) : Sp := fun vs H Q _ => ∃ (H0 : Hp) (x : Addr) (t : Str) (rows : List Str) (fs : FS) (A : Parts) (v : V), vs = [.ref x, v] ∧ FileP T.C_SettingsFile H0 H x t rows fs A ∧ Ask K H v ∧ Q (.bl (inS fs.settings v)) H
theorem ok_SettingsFile___contains__ (T : Top K mg) : FnOk P w K mg base CX0 1 T.f_SettingsFile___contains__ T.d_SettingsFile___contains__ ["self", "x"] (sp_SettingsFile___contains__ K T) := by
  refine T.F_SettingsFile___contains__.ok scSettingsFile___contains__ (fun vs H Q E h => ?_) (fun cdv A outer s H vs Q E hr h => ?_)
  · obtain ⟨H0, x, t, rows, fs, A, v, rfl, _⟩ := h
    rfl
  · obtain ⟨H0, x, t, rows, fs, A, v, rfl, f, hv, q⟩ := h
    refine ⟨_, (pss_one (ps_ret (pe_and (pe_callB call_isi (by rfl) T.m_isinstance (by decide +kernel) (pa_cons (pv 1) (pa_cons (pe_bltn (v := .ty "str") (by rfl) T.m_str (by decide +kernel) rfl) pa_nil))) (pe_one (pe_cmp (pc_din (hu_of hr) (pv 1) (pe_fld (pv 0) rfl)) rfl))))), ?_⟩
    rcases hv with ⟨z, rfl, hz⟩ | ⟨hno, ty, ht, hk⟩
    · refine ⟨.str z, rfl, _, _, _, _, true, rfl, ClsV.ty "str", .base (.str z), kit_ty (by decide +kernel), true, rfl, iteT ?_⟩
      refine ⟨.str z, rfl, .ref x, rfl, x, _, _, _, _, rfl, f.ob, T.cl_SettingsFile, T.no_SettingsFile_settings_read, f_settings _ _ _ _ _ _ _, A.s, _, rfl, DGet.k (k := Sum.inr z) f.es, ?_⟩
      have e : (valV (setKV fs.settings) (Sum.inr z : Key)).isSome = inS fs.settings (.str z) := by
        rw [val_get, Option.isSome_map, valS_some]
        rfl
      rw [e]
      exact q
    · refine ⟨v, rfl, _, _, _, _, false, rfl, ClsV.ty "str", ht, kit_ty hk, false, rfl, iteF ?_⟩
      have e : inS fs.settings v = false := hno _
      rw [e] at q
      exact q
/-- a dict has a text as its key -/
def hasK (kvs : List (Key × V)) : V → Bool := ofText fun z => (valV kvs (Sum.inr z : Key)).isSome
def sp_is_key (K : PySem.W.Frag) : Sp := fun vs H Q _ => ∃ (v : V) (d : Addr) (kvs : List (Key × V)), vs = [v, .ref d] ∧ H d = some (.dK kvs) ∧ Ask K H v ∧ Q (.bl (hasK kvs v)) H
theorem ok_is_key (T : Top K mg) : FnOk P w K mg base CX0 1 T.f_is_key T.d_is_key ["thing", "table"] (sp_is_key K) := by
  refine T.F_is_key.ok scis_key (fun vs H Q E h => ?_) (fun cdv A outer s H vs Q E hr h => ?_)
  · obtain ⟨v, d, kvs, rfl, _⟩ := h
    rfl
  · obtain ⟨v, d, kvs, rfl, hd, hv, q⟩ := h
    refine ⟨_, (pss_one (ps_ret (pe_and (pe_callB call_isi (by rfl) T.m_isinstance (by decide +kernel) (pa_cons (pv 0) (pa_cons (pe_bltn (v := .ty "str") (by rfl) T.m_str (by decide +kernel) rfl) pa_nil))) (pe_one (pe_cmp (pc_din (hu_of hr) (pv 0) (pv 1)) rfl))))), ?_⟩
    rcases hv with ⟨z, rfl, hz⟩ | ⟨hno, ty, ht, hk⟩
    · refine ⟨.str z, rfl, _, _, _, _, true, rfl, ClsV.ty "str", .base (.str z), kit_ty (by decide +kernel), true, rfl, iteT ?_⟩
      exact ⟨.str z, rfl, .ref d, rfl, d, _, rfl, DGet.k (k := Sum.inr z) hd, q⟩
    · refine ⟨v, rfl, _, _, _, _, false, rfl, ClsV.ty "str", ht, kit_ty hk, false, rfl, iteF ?_⟩
      have e : hasK kvs v = false := hno _
      rw [e] at q
      exact q
theorem tyT {H : Hp} {t : Addr} {xs : List V} (h : SqT K H t xs) : TyX K H (.ref t) (.type "tuple") := by
  rcases h with (h | ⟨o, h⟩) | ⟨o, its, n, hk, hc, _⟩
  · exact .base (.tup h)
  · exact .fTuple h
  · exact .kTuple hk hc
theorem tyL {H : Hp} {t : Addr} {xs : List V} (h : SqL K H t xs) : TyX K H (.ref t) (.type "list") := by
  rcases h with (h | ⟨o, h⟩) | ⟨o, its, n, hk, hc, _⟩
  · exact .base (.lst h)
  · exact .base (.frz h)
  · exact .kList hk hc
def sp_is_tuple_of (K : PySem.W.Frag) : Sp := fun vs H Q _ => ∃ (t : Addr) (xs : List V) (n : Int), vs = [.ref t, .int n] ∧ SqT K H t xs ∧ Q (.bl (decide ((xs.length : Int) = n))) H
theorem ok_is_tuple_of (T : Top K mg) : FnOk P w K mg base CX0 1 T.f_is_tuple_of T.d_is_tuple_of ["thing", "many"] (sp_is_tuple_of K) := by
  refine T.F_is_tuple_of.ok scis_tuple_of (fun vs H Q E h => ?_) (fun cdv A outer s H vs Q E hr h => ?_)
  · obtain ⟨t, xs, n, rfl, _⟩ := h
    rfl
  · obtain ⟨t, xs, n, rfl, ht, q⟩ := h
    refine ⟨_, (pss_one (ps_ret (pe_and (pe_callB call_isi (by rfl) T.m_isinstance (by decide +kernel) (pa_cons (pv 0) (pa_cons (pe_bltn (v := .ty "tuple") (by rfl) T.m_tuple (by decide +kernel) rfl) pa_nil))) (pe_one (pe_cmpR op_eq (pe_callB call_len_seq (by rfl) T.m_len (by decide +kernel) (pa_cons (pv 0) pa_nil)) (pv 1) (nomark _)))))), ?_⟩
    refine ⟨.ref t, rfl, _, _, _, _, true, rfl, ClsV.ty "tuple", tyT ht, kit_ty (by decide +kernel), true, rfl, iteT ?_⟩
    refine ⟨.ref t, rfl, t, xs, rfl, .inr ht, .int n, rfl, rfl, ?_⟩
    have e : decide (V.int (xs.length : Nat) = V.int n) = decide ((xs.length : Int) = n) := decide_eq_decide.mpr ⟨fun e => V.int.inj e, fun e => by rw [e]⟩
    rw [e]
    exact q
def sp_are_different (K : PySem.W.Frag) : Sp := fun vs H Q _ => ∃ (l : Addr) (ks : List Key), vs = [.ref l] ∧ SqL K H l (ks.map kV) ∧ ks.length ≤ 1000 ∧ Q (.bl (decide ks.Nodup)) H
theorem ok_are_different (T : Top K mg) : FnOk P w K mg base CX0 1 T.f_are_different T.d_are_different ["things"] (sp_are_different K) := by
  refine T.F_are_different.ok scare_different (fun vs H Q E h => ?_) (fun cdv A outer s H vs Q E hr h => ?_)
  · obtain ⟨l, ks, rfl, _⟩ := h
    rfl
  · obtain ⟨l, ks, rfl, hl, few, q⟩ := h
    refine ⟨_, (pss_one (ps_ret (pe_cmpR op_eq (pe_lenSetK rfl (by rfl) T.m_len (by rfl) T.m_set (pv 0)) (pe_callB call_len_seq (by rfl) T.m_len (by decide +kernel) (pa_cons (pv 0) pa_nil)) (nomark _)))), ?_⟩
    refine ⟨.ref l, rfl, l, ks, rfl, hl, few, fun n hle hiff => ⟨.ref l, rfl, l, _, rfl, .inl hl, rfl, ?_⟩⟩
    have e : decide (V.int (n : Nat) = V.int ((ks.map kV).length : Nat)) = decide ks.Nodup := by
      refine decide_eq_decide.mpr ⟨fun e => hiff.mp ?_, fun e => ?_⟩
      · have := V.int.inj e
        rw [List.length_map] at this
        omega
      · rw [hiff.mpr e, List.length_map]
    rw [e]
    exact q
def sp_unshared (K : PySem.W.Frag) : Sp := fun vs H Q _ => ∃ (v : V), vs = [v] ∧ ((∃ (l : Addr) (xs : List V), v = .ref l ∧ H l = some (.lst xs) ∧ ∀ p, H p = none → Q (.ref p) (upd H p (.tup xs))) ∨ (∃ t, TyX K H v (.type t) ∧ kitB t "list" = some false ∧ Q v H))
theorem ok_unshared (T : Top K mg) : FnOk P w K mg base CX0 1 T.f_unshared T.d_unshared ["thing"] (sp_unshared K) := by
  refine T.F_unshared.ok scunshared (fun vs H Q E h => ?_) (fun cdv A outer s H vs Q E hr h => ?_)
  · obtain ⟨v, rfl, _⟩ := h
    rfl
  · obtain ⟨v, rfl, h⟩ := h
    refine ⟨_, (pss_one (ps_ret (pe_ifExp (pt_val (pe_callB call_isi (by rfl) T.m_isinstance (by decide +kernel) (pa_cons (pv 0) (pa_cons (pe_bltn (v := .ty "list") (by rfl) T.m_list (by decide +kernel) rfl) pa_nil)))) (pe_callTy call_tuple_of (by rfl) T.m_tuple (by decide +kernel) (pa_cons (pv 0) pa_nil)) (pv 0)))), ?_⟩
    rcases h with ⟨l, xs, rfl, hl, q⟩ | ⟨t, ht, hk, q⟩
    · refine ⟨.ref l, rfl, _, _, _, _, true, rfl, ClsV.ty "list", .base (.lst hl), kit_ty (by decide +kernel), true, rfl, iteT ?_⟩
      exact ⟨.ref l, rfl, l, xs, rfl, .inl ⟨SqL.of hl, q⟩⟩
    · refine ⟨v, rfl, _, _, _, _, false, rfl, ClsV.ty "list", ht, kit_ty hk, false, rfl, iteF ?_⟩
      exact ⟨v, rfl, q⟩
end
end K16

set_option Elab.async false
set_option linter.all false
set_option maxRecDepth 100000
set_option maxHeartbeats 2000000
namespace K16
open PySem PySem.Spec PyProof.Rows L2 My
section
variable {P : Program} {w : World} {K : PySem.W.Frag} {mg : Str → Option Value} {base : Heap}
theorem sqT_same {H H' : Hp} {t : Addr} {xs : List V} (s : Same H H') (h : SqT K H t xs) : SqT K H' t xs := by
  rcases h with (h | ⟨o, h⟩) | h
  · exact .inl (.inl (s _ _ h))
  · exact .inl (.inr ⟨o, s _ _ h⟩)
  · exact .inr h
theorem kit_lt {K : PySem.W.Frag} : PySem.W.kitAny K (.type "tuple") [.type "list", .type "tuple"] = some true :=
  kitAny_cons (kit_ty (by decide +kernel : kitB "tuple" "list" = some false)) (fun _ => kitAny_cons (kit_ty (by decide +kernel : kitB "tuple" "tuple" = some true)) (fun h => nomatch h) (fun _ => rfl)) (fun h => nomatch h)
/-- a text that is a file -/
structure IsFile (t : Str) (fs : FS) : Prop where
  l1 : t.length ≤ 1000000
  l2 : (rowsOf t).length ≤ 90000
  l3 : ∀ z ∈ rowsOf t, z.length ≤ 1000
  run : runF fs0 (rowsOf t) = some fs
def sp_shipped_file (K : PySem.W.Frag) (T : Top K mg) : Sp := fun vs H Q _ => ∃ (t : Str) (fs : FS), vs = [.str t] ∧ IsFile t fs ∧ fs.kept = [] ∧ ∀ H' x A, Same H H' → FileP T.C_SettingsFile H H' x t (rowsOf t) fs A → Q (.ref x) H'
theorem ok_shipped_file (T : Top K mg) : FnOk P w K mg base CX0 9 T.f_shipped_file T.d_shipped_file ["text"] (sp_shipped_file K T) := by
  have G_SettingsFile___init__ : FnOk P w K mg base CX0 7 T.f_SettingsFile___init__ T.d_SettingsFile___init__ ["self", "text"] (sp_SettingsFile___init__ K T) := ok_SettingsFile___init__ T
  have G_SettingsFile_kept : FnOk P w K mg base CX0 1 T.f_SettingsFile_kept T.d_SettingsFile_kept ["self"] (sp_SettingsFile_kept K T) := ok_SettingsFile_kept T
  refine T.F_shipped_file.ok scshipped_file (fun vs H Q E h => ?_) (fun cdv A outer s H vs Q E hr h => ?_)
  · obtain ⟨t, fs, rfl, _⟩ := h
    rfl
  · obtain ⟨t, fs, rfl, ⟨l1, l2, l3, run⟩, kn, q⟩ := h
    refine ⟨_, (pss_cons (ps_try_thru0 (pss_one (ps_set (i := 1) scshipped_file.nd rfl (.inl rfl) (pe_make T.mk_SettingsFile G_SettingsFile___init__ (hr.mono (by decide)) (by rfl) T.g_SettingsFile T.b_SettingsFile___init__ .nil pass0 (pa_cons (pv 0) pa_nil)))))
      (pss_one (ps_ret (pe_ifExp (pt_cmpR (op_eqNil hr.units0) (pe_meth0 (pv 1) T.cl_SettingsFile T.me_SettingsFile_kept G_SettingsFile_kept (hr.mono (by decide)) T.b_SettingsFile_kept .nil pass0) (pe_lst pa_nil) (nomark _)) (pv 1) pe_non)))), ?_⟩
    refine ⟨.str t, rfl, fun x dx nx ndx ne => ⟨H, x, dx, t, fs, rfl, rfl, nx, ndx, ne, l1, l2, l3, run, fun H1 A1 f => ⟨rfl, ?_⟩⟩⟩
    refine ⟨.ref x, rfl, x, _, _, rfl, f.ob, rfl, H, x, t, rowsOf t, fs, A1, rfl, f, by rw [kn]; exact List.nodup_nil, by rw [kn]; exact Nat.zero_le _, fun H2 p us s2 np hp ku => ⟨Nat.zero_le _, fun e ne2 => ?_⟩⟩
    rw [kn] at ku
    cases ku
    refine ⟨p, e, [], rfl, rfl, SqL.of (same_new ne2 _ _ hp), SqL.of upd_same, _, rfl, iteT ?_⟩
    refine ⟨.ref x, rfl, ?_⟩
    have s3 := s2.trans (same_new (o := .lst []) ne2)
    exact q _ x A1 (f.same.trans s3) (f.more s3)
/-- t is the tuple of a rename -/
def MvAt (K : PySem.W.Frag) (H : Hp) (t : Addr) (m : Str × Str) : Prop := SqT K H t [.str m.1, .str m.2]
def sp_is_rename (K : PySem.W.Frag) (T : Top K mg) : Sp := fun vs H Q _ => ∃ (t d : Addr) (m : Str × Str) (kvs : List (Key × V)) (H0 : Hp) (x : Addr) (tx : Str) (rows : List Str) (fs : FS) (A : Parts), vs = [.ref t, .ref d, .ref x] ∧ MvAt K H t m ∧ H d = some (.dK kvs) ∧ FileP T.C_SettingsFile H0 H x tx rows fs A ∧
  m.1.length ≤ 1000 ∧ m.2.length ≤ 1000 ∧ hasK kvs (.str m.1) = true ∧ inS fs.settings (.str m.2) = true ∧ Q (.bl true) H
theorem ok_is_rename (T : Top K mg) : FnOk P w K mg base CX0 2 T.f_is_rename T.d_is_rename ["thing", "before", "file"] (sp_is_rename K T) := by
  have G_SettingsFile___contains__ : FnOk P w K mg base CX0 1 T.f_SettingsFile___contains__ T.d_SettingsFile___contains__ ["self", "x"] (sp_SettingsFile___contains__ K T) := ok_SettingsFile___contains__ T
  have G_is_key : FnOk P w K mg base CX0 1 T.f_is_key T.d_is_key ["thing", "table"] (sp_is_key K) := ok_is_key T
  have G_is_tuple_of : FnOk P w K mg base CX0 1 T.f_is_tuple_of T.d_is_tuple_of ["thing", "many"] (sp_is_tuple_of K) := ok_is_tuple_of T
  refine T.F_is_rename.ok scis_rename (fun vs H Q E h => ?_) (fun cdv A outer s H vs Q E hr h => ?_)
  · obtain ⟨t, d, m, kvs, H0, x, tx, rows, fs, A, rfl, _⟩ := h
    rfl
  · obtain ⟨t, d, m, kvs, H0, x, tx, rows, fs, A, rfl, ht, hd, f, l1, l2, h1, h2, q⟩ := h
    refine ⟨_, (pss_one (ps_ret (pe_and (pe_call G_is_tuple_of (hr.mono (by decide)) (by rfl) T.g_is_tuple_of T.F_is_tuple_of.kp T.b_is_tuple_of .nil pass0 (pa_cons (pv 0) (pa_cons pe_int pa_nil))) (pe_and (pe_call G_is_key (hr.mono (by decide)) (by rfl) T.g_is_key T.F_is_key.kp T.b_is_key .nil pass0 (pa_cons (pe_ix ix_tup (pv 0) pe_int (fun _ _ => rfl)) (pa_cons (pv 1) pa_nil))) (pe_one (pe_cmpR (op_inOwn T.me_SettingsFile___contains__ G_SettingsFile___contains__ (hr.mono (by decide)) T.b_SettingsFile___contains__) (pe_ix ix_tup (pv 0) pe_int (fun _ _ => rfl)) (pv 2) (by rfl))))))), ?_⟩
    refine ⟨.ref t, rfl, t, _, 2, rfl, ht, true, rfl, iteT ?_⟩
    refine ⟨.ref t, rfl, t, _, 0, .str m.1, rfl, rfl, ht, atI_nat (j := 0) rfl, .ref d, rfl, .str m.1, d, kvs, rfl, hd, Ask.text l1, ?_⟩
    rw [h1]
    refine ⟨true, rfl, iteT ?_⟩
    refine ⟨.ref t, rfl, t, _, 1, .str m.2, rfl, rfl, ht, atI_nat (j := 1) rfl, .ref x, rfl, ?_⟩
    refine ⟨x, _, _, rfl, f.ob, H0, x, tx, rows, fs, A, .str m.2, rfl, f, Ask.text l2, _, rfl, ?_⟩
    rw [h2]
    exact q
/-- a tuple of renames -/
structure Mvs (K : PySem.W.Frag) (H : Hp) (r : Addr) (ts : List Addr) (mv : List (Str × Str)) : Prop where
  sq : SqT K H r (ts.map V.ref)
  at_ : Paired (MvAt K H) ts mv
theorem Mvs.same {H H' : Hp} {r : Addr} {ts : List Addr} {mv : List (Str × Str)} (s : Same H H') (h : Mvs K H r ts mv) : Mvs K H' r ts mv := ⟨sqT_same s h.sq, Paired.mapP h.at_ fun _ _ q => sqT_same s q⟩
theorem Mvs.get {H : Hp} {r : Addr} {ts : List Addr} {mv : List (Str × Str)} (h : Mvs K H r ts mv) {i : Nat} {v : V} (e : (ts.map V.ref)[i]? = some v) : ∃ t m, v = .ref t ∧ mv[i]? = some m ∧ MvAt K H t m := by
  rw [List.getElem?_map] at e
  cases e2 : ts[i]? with
  | none => rw [e2] at e; cases e
  | some t =>
    rw [e2] at e
    cases e
    have hl := My.Paired.len h.at_
    have hi : i < mv.length := by rw [← hl]; exact (List.getElem?_eq_some_iff.mp e2).1
    obtain ⟨t', h1, h2⟩ := My.Paired.get h.at_ (List.getElem?_eq_getElem hi)
    rw [e2] at h1
    cases h1
    exact ⟨t, mv[i], rfl, List.getElem?_eq_getElem hi, h2⟩
theorem Mvs.len {H : Hp} {r : Addr} {ts : List Addr} {mv : List (Str × Str)} (h : Mvs K H r ts mv) : (ts.map V.ref).length = mv.length := by rw [List.length_map]; exact My.Paired.len h.at_
theorem take_snoc {α β : Type} (f : α → β) {l : List α} {i : Nat} {x : α} (h : l[i]? = some x) : (l.take (i + 1)).map f = (l.take i).map f ++ [f x] := take_all_map f l i x h
/-- renames that lead from a table to a file -/
structure MvOk (mv : List (Str × Str)) (kvs : List (Key × V)) (fs : FS) : Prop where
  few : mv.length ≤ 100
  short : ∀ m ∈ mv, m.1.length ≤ 1000 ∧ m.2.length ≤ 1000
  from_ : ∀ m ∈ mv, hasK kvs (.str m.1) = true
  to_ : ∀ m ∈ mv, inS fs.settings (.str m.2) = true
  nd1 : (mv.map (·.1)).Nodup
  nd2 : (mv.map (·.2)).Nodup
theorem str_keys (l : List Str) : l.map V.str = (l.map (Sum.inr : Str → Key)).map kV := by rw [List.map_map]; rfl
theorem nodup_inr {l : List Str} (h : l.Nodup) : (l.map (Sum.inr : Str → Key)).Nodup := by
  induction l with
  | nil => exact List.nodup_nil
  | cons a r ih =>
    rw [List.nodup_cons] at h
    rw [List.map_cons, List.nodup_cons]
    refine ⟨fun z => ?_, ih h.2⟩
    obtain ⟨b, hb, e⟩ := List.mem_map.mp z
    exact h.1 ((Sum.inr.inj e) ▸ hb)
def sp_are_renames (K : PySem.W.Frag) (T : Top K mg) : Sp := fun vs H Q _ => ∃ (r d : Addr) (ts : List Addr) (mv : List (Str × Str)) (kvs : List (Key × V)) (H0 : Hp) (x : Addr) (tx : Str) (rows : List Str) (fs : FS) (A : Parts), vs = [.ref r, .ref d, .ref x] ∧ Mvs K H r ts mv ∧ H d = some (.dK kvs) ∧ FileP T.C_SettingsFile H0 H x tx rows fs A ∧
  MvOk mv kvs fs ∧ ∀ H', Same H H' → Q (.bl true) H'
theorem ok_are_renames (T : Top K mg) : FnOk P w K mg base CX0 3 T.f_are_renames T.d_are_renames ["things", "before", "file"] (sp_are_renames K T) := by
  have G_is_rename : FnOk P w K mg base CX0 2 T.f_is_rename T.d_is_rename ["thing", "before", "file"] (sp_is_rename K T) := ok_is_rename T
  have G_are_different : FnOk P w K mg base CX0 1 T.f_are_different T.d_are_different ["things"] (sp_are_different K) := ok_are_different T
  refine T.F_are_renames.ok scare_renames (fun vs H Q E h => ?_) (fun cdv A outer s H vs Q E hr h => ?_)
  · obtain ⟨r, d, ts, mv, kvs, H0, x, tx, rows, fs, A, rfl, _⟩ := h
    rfl
  · obtain ⟨r, d, ts, mv, kvs, H0, x, tx, rows, fs, A', rfl, hm, hd, f, ok, q⟩ := h
    refine ⟨_, (pss_cons (ps_if (PW.pt (pw_or (pt_not (pt_val (pe_callB call_isiT (by rfl) T.m_isinstance (by decide +kernel) (pa_cons (pv 0) (pa_cons (pe_tup (pa_cons (pe_bltn (v := .ty "list") (by rfl) T.m_list (by decide +kernel) rfl) (pa_cons (pe_bltn (v := .ty "tuple") (by rfl) T.m_tuple (by decide +kernel) rfl) pa_nil))) pa_nil))))) (pw_or1 (pt_not (pt_val (pe_callB (cr_all rfl) (by rfl) T.m_all (by decide +kernel) (pa_cons (pe_lc (own := [("thing", 3)]) rfl scare_renames.nd (pi_tup (pv 0)) (blkOk_by (N := N_are_renames) (sc := defScope s_are_renames) (by decide +kernel)) (fun _ _ _ _ _ => (pg_name (i := 3) scare_renames.nd rfl (.inl rfl))) (fun _ _ _ _ _ => pts_nil) (fun _ _ _ _ _ => (pe_call G_is_rename (hr.mono (by decide)) (by rfl) T.g_is_rename T.F_is_rename.kp T.b_is_rename .nil pass0 (pa_cons (pv 3) (pa_cons (pv 1) (pa_cons (pv 2) pa_nil)))))) pa_nil))))))) (pss_one (ps_ret pe_bl)) pss_nil)
      (pss_one (ps_ret (pe_and (pe_call G_are_different (hr.mono (by decide)) (by rfl) T.g_are_different T.F_are_different.kp T.b_are_different .nil pass0 (pa_cons (pe_lc (own := [("old", 4), ("new", 5)]) (g := gTup K 2 (gCons (gName 4) (gCons (gName 5) gNil))) rfl scare_renames.nd (pi_tup (pv 0)) (blkOk_by (N := N_are_renames) (sc := defScope s_are_renames) (by decide +kernel)) (fun _ _ _ _ _ => (pg_tup rfl (pgs_cons (pg_name (i := 4) scare_renames.nd rfl (.inl rfl)) (pgs_cons (pg_name (i := 5) scare_renames.nd rfl (.inl rfl)) pgs_nil)))) (fun _ _ _ _ _ => pts_nil) (fun _ _ _ _ _ => (pv 4))) pa_nil)) (pe_one (pe_call G_are_different (hr.mono (by decide)) (by rfl) T.g_are_different T.F_are_different.kp T.b_are_different .nil pass0 (pa_cons (pe_lc (own := [("old", 4), ("new", 5)]) (g := gTup K 2 (gCons (gName 4) (gCons (gName 5) gNil))) rfl scare_renames.nd (pi_tup (pv 0)) (blkOk_by (N := N_are_renames) (sc := defScope s_are_renames) (by decide +kernel)) (fun _ _ _ _ _ => (pg_tup rfl (pgs_cons (pg_name (i := 4) scare_renames.nd rfl (.inl rfl)) (pgs_cons (pg_name (i := 5) scare_renames.nd rfl (.inl rfl)) pgs_nil)))) (fun _ _ _ _ _ => pts_nil) (fun _ _ _ _ _ => (pv 5))) pa_nil))))))), ?_⟩
    refine ⟨.ref r, rfl, by decide, fun tp ntp => ⟨.ref r, tp, _, _, _, true, rfl, upd_same, .cons (ClsV.ty "list") (.cons (ClsV.ty "tuple") .nil), tyT (sqT_same (same_new ntp) hm.sq), kit_lt, true, rfl, iteF ?_⟩⟩
    have s1 : Same H (upd H tp (.tup [.ty "list", .ty "tuple"])) := same_new ntp
    generalize upd H tp (.tup [.ty "list", .ty "tuple"]) = H1 at s1
    have big : mv.length ≤ sizeLine := Nat.le_of_lt (small1000 (Nat.le_trans ok.few (by decide)))
    refine ⟨.ref r, rfl, r, rfl, ⟨_, (hm.same s1).sq⟩, fun D nD => lc_it (walk_tup (xs := ts.map V.ref)) (fun i H4 => Same H1 H4 ∧ H4 D = some (.lst ((List.replicate i true).map V.bl))) ?_ ?_ ?_ ?_⟩
    · exact ⟨same_new nD, upd_same⟩
    · rintro i H4 _ ⟨s4, _⟩
      exact (hm.same (s1.trans s4)).sq
    · rintro i v H4' H4 hi ⟨s4, d4⟩ ⟨rfl, hv⟩
      have s4H := s1.trans s4
      obtain ⟨t, m, rfl, hmi, ht⟩ := (hm.same s4H).get hv
      have mm := List.mem_of_getElem? hmi
      refine ⟨rfl, ?_⟩
      refine ⟨.ref t, rfl, .ref d, rfl, .ref x, rfl, t, d, m, kvs, H0, x, tx, rows, fs, A', rfl, ht, s4H _ _ hd, f.more s4H, (ok.short m mm).1, (ok.short m mm).2, ok.from_ m mm, ok.to_ m mm, ?_⟩
      refine ⟨_, d4, ?_, upd_off nD s4, ?_⟩
      · rw [List.length_map, List.length_replicate]
        rw [hm.len] at hi
        exact Nat.lt_of_lt_of_le hi big
      · rw [upd_same, List.replicate_succ', List.map_append]
        rfl
    · rintro H4 ⟨s4, d4⟩
      refine ⟨D, _, rfl, SqL.of d4, ?_⟩
      have e : (List.replicate (ts.map V.ref).length true).all id = true := by
        rw [List.all_eq_true]
        intro b hb
        exact (List.mem_replicate.mp hb).2
      rw [e]
      refine ⟨true, rfl, iteF ?_⟩
      have s4H := s1.trans s4
      refine ⟨.ref r, rfl, r, rfl, ⟨_, (hm.same s4H).sq⟩, fun D2 nD2 => lc_it (walk_tup (xs := ts.map V.ref)) (fun i H6 => Same H4 H6 ∧ H6 D2 = some (.lst (((mv.map (·.1)).take i).map V.str))) ?_ ?_ ?_ ?_⟩
      · exact ⟨same_new nD2, upd_same⟩
      · rintro i H6 _ ⟨s6, _⟩
        exact (hm.same (s4H.trans s6)).sq
      · rintro i v H6' H6 hi ⟨s6, d6⟩ ⟨rfl, hv⟩
        have s6H := s4H.trans s6
        obtain ⟨t, m, rfl, hmi, ht⟩ := (hm.same s6H).get hv
        refine ⟨t, _, rfl, ht, rfl, .str m.1, [.str m.2], rfl, .str m.2, [], rfl, rfl, rfl, ?_⟩
        refine ⟨.str m.1, rfl, _, d6, ?_, upd_off nD2 s6, ?_⟩
        · rw [List.length_map, List.length_take]
          exact Nat.lt_of_le_of_lt (Nat.min_le_right _ _) (by rw [List.length_map]; exact small1000 (Nat.le_trans ok.few (by decide)))
        · rw [upd_same, take_snoc V.str (x := m.1) (by rw [List.getElem?_map, hmi]; rfl)]
      · rintro H6 ⟨s6, d6⟩
        rw [hm.len, ← List.length_map (f := (·.1)) (as := mv), List.take_length] at d6
        refine ⟨D2, (mv.map (·.1)).map Sum.inr, rfl, SqL.of (by rw [d6, str_keys]), by rw [List.length_map, List.length_map]; exact Nat.le_trans ok.few (by decide), ?_⟩
        rw [decide_eq_true (nodup_inr ok.nd1)]
        refine ⟨true, rfl, iteT ?_⟩
        have s6H := s4H.trans s6
        refine ⟨.ref r, rfl, r, rfl, ⟨_, (hm.same s6H).sq⟩, fun D3 nD3 => lc_it (walk_tup (xs := ts.map V.ref)) (fun i H8 => Same H6 H8 ∧ H8 D3 = some (.lst (((mv.map (·.2)).take i).map V.str))) ?_ ?_ ?_ ?_⟩
        · exact ⟨same_new nD3, upd_same⟩
        · rintro i H8 _ ⟨s8, _⟩
          exact (hm.same (s6H.trans s8)).sq
        · rintro i v H8' H8 hi ⟨s8, d8⟩ ⟨rfl, hv⟩
          have s8H := s6H.trans s8
          obtain ⟨t, m, rfl, hmi, ht⟩ := (hm.same s8H).get hv
          refine ⟨t, _, rfl, ht, rfl, .str m.1, [.str m.2], rfl, .str m.2, [], rfl, rfl, rfl, ?_⟩
          refine ⟨.str m.2, rfl, _, d8, ?_, upd_off nD3 s8, ?_⟩
          · rw [List.length_map, List.length_take]
            exact Nat.lt_of_le_of_lt (Nat.min_le_right _ _) (by rw [List.length_map]; exact small1000 (Nat.le_trans ok.few (by decide)))
          · rw [upd_same, take_snoc V.str (x := m.2) (by rw [List.getElem?_map, hmi]; rfl)]
        · rintro H8 ⟨s8, d8⟩
          rw [hm.len, ← List.length_map (f := (·.2)) (as := mv), List.take_length] at d8
          refine ⟨D3, (mv.map (·.2)).map Sum.inr, rfl, SqL.of (by rw [d8, str_keys]), by rw [List.length_map, List.length_map]; exact Nat.le_trans ok.few (by decide), ?_⟩
          rw [decide_eq_true (nodup_inr ok.nd2)]
          exact q _ (s6H.trans s8)
end
end K16

set_option Elab.async false
set_option linter.all false
set_option maxRecDepth 100000
set_option maxHeartbeats 2000000
namespace K16
open PySem PySem.Spec PyProof.Rows L2 My
section
variable {P : Program} {w : World} {K : PySem.W.Frag} {mg : Str → Option Value} {base : Heap}
theorem carryStep_len (mv : List (Str × Str)) (bef acc : Tb) (p : Str) : (carryStep mv bef acc p).length ≤ acc.length + 1 := by
  unfold carryStep
  split
  · split
    · exact putL_len ..
    · exact Nat.le_succ _
  · split
    · split
      · exact Nat.le_succ _
      · exact putL_len ..
    · exact Nat.le_succ _
theorem cs1 {mv : List (Str × Str)} {bef : Tb} {p o : Str} {s : Int} (acc : Tb) (e1 : getL (origins mv) p = some o) (e2 : getL bef o = some s) : carryStep mv bef acc p = putL acc p s := by simp [carryStep, e1, e2]
theorem cs2 {mv : List (Str × Str)} {bef : Tb} {p : Str} (acc : Tb) (e1 : getL (origins mv) p = none) (e2 : getL bef p = none) : carryStep mv bef acc p = acc := by simp [carryStep, e1, e2]
theorem cs3 {mv : List (Str × Str)} {bef : Tb} {p : Str} {s : Int} (acc : Tb) (e1 : getL (origins mv) p = none) (e2 : getL bef p = some s) (e3 : p ∈ mv.map (·.1)) : carryStep mv bef acc p = acc := by
  unfold carryStep
  rw [e1]
  show (match getL bef p with | some s => _ | none => _) = _
  rw [e2]
  exact if_pos e3
theorem cs4 {mv : List (Str × Str)} {bef : Tb} {p : Str} {s : Int} (acc : Tb) (e1 : getL (origins mv) p = none) (e2 : getL bef p = some s) (e3 : ¬ p ∈ mv.map (·.1)) : carryStep mv bef acc p = putL acc p s := by
  unfold carryStep
  rw [e1]
  show (match getL bef p with | some s => _ | none => _) = _
  rw [e2]
  exact if_neg e3
theorem foldl_len {α β : Type} (f : List β → α → List β) (hf : ∀ acc x, (f acc x).length ≤ acc.length + 1) : ∀ (l : List α) (acc : List β), (l.foldl f acc).length ≤ acc.length + l.length
  | [], _ => Nat.le_refl _
  | x :: r, acc => by
    have h1 := foldl_len f hf r (f acc x)
    have h2 := hf acc x
    rw [List.foldl_cons, List.length_cons]
    omega
theorem foldl_take {α β : Type} (f : β → α → β) (b : β) {l : List α} {i : Nat} {x : α} (h : l[i]? = some x) : (l.take (i + 1)).foldl f b = f ((l.take i).foldl f b) x := by
  rw [List.take_add_one, h, List.foldl_append]
  rfl
theorem valT (t : Tb) (p : Str) : valV (kvT t) (Sum.inr p : Key) = (getL t p).map V.int := kvD_val inr_inj t p
theorem valSS (t : List (Str × Str)) (p : Str) : valV (kvS t) (Sum.inr p : Key) = (getL t p).map V.str := kvD_val inr_inj t p
theorem valRR (t : Rt) (p : Int) : valV (kvR t) (Sum.inl p : Key) = (getL t p).map V.str := kvD_val inl_inj t p
theorem strs_flat (l : List Str) : (l.map V.str).all flatV = true := by rw [List.all_map]; exact List.all_eq_true.mpr fun _ _ => rfl
/-- every old place is there -/
def sp_carried_slots (K : PySem.W.Frag) (T : Top K mg) : Sp := fun vs H Q _ => ∃ (r d : Addr) (ts : List Addr) (mv : List (Str × Str)) (bef : Tb) (H0 : Hp) (x : Addr) (tx : Str) (rows : List Str) (fs : FS) (A : Parts), vs = [.ref r, .ref d, .ref x] ∧ Mvs K H r ts mv ∧ H d = some (.dK (kvT bef)) ∧ FileP T.C_SettingsFile H0 H x tx rows fs A ∧
  mv.length ≤ 100 ∧ fs.settings.length ≤ 1000 ∧ (∀ p o, getL (origins mv) p = some o → (getL bef o).isSome = true) ∧ ∀ H' c, Same H H' → H c = none → H' c = some (.dK (kvT (carry mv bef (fs.settings.map (·.1))))) → Q (.ref c) H'
theorem ok_carried_slots (T : Top K mg) : FnOk P w K mg base CX0 2 T.f_carried_slots T.d_carried_slots ["renames", "before", "file"] (sp_carried_slots K T) := by
  have G_SettingsFile_places : FnOk P w K mg base CX0 1 T.f_SettingsFile_places T.d_SettingsFile_places ["self"] (sp_SettingsFile_places K T) := ok_SettingsFile_places T
  refine T.F_carried_slots.ok sccarried_slots (fun vs H Q E h => ?_) (fun cdv A outer s H vs Q E hr h => ?_)
  · obtain ⟨r, d, ts, mv, bef, H0, x, tx, rows, fs, A, rfl, _⟩ := h
    rfl
  · obtain ⟨r, d, ts, mv, bef, H0, x, tx, rows, fs, A', rfl, hm, hd, f, few, fewp, org, q⟩ := h
    refine ⟨_, (pss_cons (ps_setDc (own := [("old", 7), ("new", 8)]) (g := gTup K 2 (gCons (gName 7) (gCons (gName 8) gNil))) (i := 3) rfl sccarried_slots.nd rfl rfl (sw_trueD rfl rfl rfl (by decide +kernel)) (pi_tup (pv 0)) (blkOk_by (N := N_carried_slots) (sc := defScope s_carried_slots) (by decide +kernel)) (fun _ _ _ _ _ => (pg_tup rfl (pgs_cons (pg_name (i := 7) sccarried_slots.nd rfl (.inl rfl)) (pgs_cons (pg_name (i := 8) sccarried_slots.nd rfl (.inl rfl)) pgs_nil)))) (fun _ _ _ _ _ => pts_nil) (fun _ _ _ _ _ => (pv 8)) (fun _ _ _ _ _ => (pv 7)))
      (pss_cons (ps_setLc (own := [("old", 7), ("new", 8)]) (g := gTup K 2 (gCons (gName 7) (gCons (gName 8) gNil))) (i := 4) rfl sccarried_slots.nd rfl rfl (sw_true rfl rfl rfl (by decide +kernel)) (pi_tup (pv 0)) (blkOk_by (N := N_carried_slots) (sc := defScope s_carried_slots) (by decide +kernel)) (fun _ _ _ _ _ => (pg_tup rfl (pgs_cons (pg_name (i := 7) sccarried_slots.nd rfl (.inl rfl)) (pgs_cons (pg_name (i := 8) sccarried_slots.nd rfl (.inl rfl)) pgs_nil)))) (fun _ _ _ _ _ => pts_nil) (fun _ _ _ _ _ => (pv 7)))
      (pss_cons (ps_set (i := 5) sccarried_slots.nd rfl (.inl rfl) pe_dnewK)
      (pss_cons (ps_for PassesOwn.never rfl (pi_list (pe_meth0 (pv 2) T.cl_SettingsFile T.me_SettingsFile_places G_SettingsFile_places (hr.mono (by decide)) T.b_SettingsFile_places .nil pass0)) (pg_name (i := 6) sccarried_slots.nd rfl (.inl rfl)) (pss_one (ps_if (pt_cmp (pc_din (hu_of hr) (pv 6) (pv 3))) (pss_one (ps_dput (hu_of hr) (pv 5) (pv 6) (pe_dget (hu_of hr) (pv 1) (pe_dget (hu_of hr) (pv 3) (pv 6) (fun _ _ => rfl)) (fun _ _ => rfl)) rfl)) (pss_one (ps_if (PW.pt (pw_and (pt_cmp (pc_din (hu_of hr) (pv 6) (pv 1))) (pw_and1 (pt_cmpR op_notIn_seq (pv 6) (pv 4) (by rfl))))) (pss_one (ps_dput (hu_of hr) (pv 5) (pv 6) (pe_dget (hu_of hr) (pv 1) (pv 6) (fun _ _ => rfl)) rfl)) pss_nil)))))
      (pss_one (ps_ret (pv 5))))))), ?_⟩
    have small : ∀ i, ((mv.take i)).length ≤ 100 := fun i => by rw [List.length_take]; omega
    refine ⟨.ref r, rfl, r, rfl, ⟨_, hm.sq⟩, fun o no => dc_tup (xs := ts.map V.ref) (fun i H4 => Same H H4 ∧ H4 o = some (.dK (kvS ((mv.take i).foldl (fun acc m => putL acc m.2 m.1) [])))) ?_ ?_ ?_ ?_⟩
    · exact ⟨same_new no, upd_same⟩
    · rintro i H4 _ ⟨s4, _⟩
      exact (hm.same s4).sq
    · rintro i v H4 hv ⟨s4, d4⟩
      obtain ⟨t, m, rfl, hmi, ht⟩ := (hm.same s4).get hv
      refine ⟨t, _, rfl, ht, rfl, .str m.1, [.str m.2], rfl, .str m.2, [], rfl, rfl, rfl, ?_⟩
      refine ⟨.str m.2, rfl, .str m.1, rfl, _, Sum.inr m.2, rfl, d4, ?_, upd_off no s4, ?_⟩
      · rw [kvD_len]
        have := foldl_len (fun acc (m : Str × Str) => putL acc m.2 m.1) (fun acc m => putL_len acc m.2 m.1) (mv.take i) []
        have := small i
        exact small1000 (by rw [List.length_nil] at *; omega)
      · rw [upd_same]
        show some (HO.dK (putK _ (Sum.inr m.2) (V.str m.1))) = _
        rw [kvD_put inr_inj, foldl_take _ _ hmi]
    rintro H1 ⟨s1, d1⟩
    rw [hm.len, List.take_length] at d1
    refine ⟨.ref r, rfl, r, rfl, ⟨_, (hm.same s1).sq⟩, fun l nl => lc_it (walk_tup (xs := ts.map V.ref)) (fun i H4 => Same H1 H4 ∧ H4 l = some (.lst (((mv.map (·.1)).take i).map V.str))) ?_ ?_ ?_ ?_⟩
    · exact ⟨same_new nl, upd_same⟩
    · rintro i H4 _ ⟨s4, _⟩
      exact (hm.same (s1.trans s4)).sq
    · rintro i v H4' H4 hi ⟨s4, d4⟩ ⟨rfl, hv⟩
      obtain ⟨t, m, rfl, hmi, ht⟩ := (hm.same (s1.trans s4)).get hv
      refine ⟨t, _, rfl, ht, rfl, .str m.1, [.str m.2], rfl, .str m.2, [], rfl, rfl, rfl, ?_⟩
      refine ⟨.str m.1, rfl, _, d4, ?_, upd_off nl s4, ?_⟩
      · rw [List.length_map, List.length_take]
        exact Nat.lt_of_le_of_lt (Nat.min_le_right _ _) (by rw [List.length_map]; exact small1000 (Nat.le_trans few (by decide)))
      · rw [upd_same, take_snoc V.str (x := m.1) (by rw [List.getElem?_map, hmi]; rfl)]
    rintro H2 ⟨s2, d2⟩
    rw [hm.len, ← List.length_map (f := (·.1)) (as := mv), List.take_length] at d2
    refine fun c nc => ?_
    have s3 := s2.trans (same_new (o := .dK []) nc)
    have d3 : upd H2 c (.dK []) c = some (.dK []) := upd_same
    have nH : H c = none := by
      cases e : H c with
      | none => rfl
      | some u => rw [s2 _ _ (s1 _ _ e)] at nc; cases nc
    have n1c : H1 c = none := by
      cases e : H1 c with
      | none => rfl
      | some u => rw [s2 _ _ e] at nc; cases nc
    have d1' : upd H2 c (.dK []) o = some (.dK (kvS (origins mv))) := s3 _ _ d1
    have d2' : upd H2 c (.dK []) l = some (.lst ((mv.map (·.1)).map V.str)) := by
      rw [upd_ne (ne_of_none d2 nc)]; exact d2
    have loc : l ≠ c := ne_of_none d2 nc
    have ooc : o ≠ c := ne_of_none d1 n1c
    have doc : d ≠ c := ne_of_none hd nH
    generalize upd H2 c (.dK []) = H3 at s3 d3 d1' d2'
    have s3H := s1.trans s3
    have f3 := f.more s3H
    refine ⟨.ref x, rfl, x, _, _, rfl, f3.ob, f_no _ _ _ _ _ _ _ (by decide +kernel) (by decide +kernel) (by decide +kernel) (by decide +kernel) (by decide +kernel) (by decide +kernel) (by decide +kernel), H0, x, tx, rows, fs, A', rfl, f3, fun H5 pl s5 npl hpl => ?_⟩
    have plc : pl ≠ c := fun z => by rw [z, d3] at npl; cases npl
    have d5 := s5 _ _ d3
    have o5 := s5 _ _ d1'
    have l5 := s5 _ _ d2'
    have b5 := s5 _ _ (s3H _ _ hd)
    refine ⟨pl, rfl, ⟨_, SqL.of hpl⟩, for_it (walk_list (xs := (fs.settings.map (·.1)).map V.str)) (fun i σ H6 => ∃ y6 y7 y8, σ = [some (.ref r), some (.ref d), some (.ref x), some (.ref o), some (.ref l), some (.ref c), y6, y7, y8] ∧ Kept c H5 H6 ∧ H6 c = some (.dK (kvT (((fs.settings.map (·.1)).take i).foldl (carryStep mv bef) [])))) ?_ ?_ ?_ ?_⟩
    · exact ⟨none, none, none, rfl, Kept.refl _ _, d5⟩
    · rintro i σ H6 _ ⟨y6, y7, y8, rfl, k6, _⟩
      exact SqL.of (k6 _ _ plc hpl)
    · rintro i v σ H6' H6 hi ⟨y6, y7, y8, rfl, k6, d6⟩ ⟨rfl, hv⟩
      rw [List.getElem?_map] at hv
      cases hp : (fs.settings.map (·.1))[i]? with
      | none => rw [hp] at hv; cases hv
      | some p =>
        rw [hp] at hv
        cases hv
        have len6 : (((fs.settings.map (·.1)).take i).foldl (carryStep mv bef) []).length < sizeLine := by
          have h1 := foldl_len (carryStep mv bef) (carryStep_len mv bef) ((fs.settings.map (·.1)).take i) []
          have h2 : ((fs.settings.map (·.1)).take i).length ≤ 1000 := by rw [List.length_take, List.length_map]; omega
          rw [List.length_nil] at h1
          exact small1000 (by omega)
        have fin : ∀ {H7 : Hp}, H7 = upd H6 c (.dK (kvT (((fs.settings.map (·.1)).take (i + 1)).foldl (carryStep mv bef) []))) → Kept c H5 H7 ∧ H7 c = some (.dK (kvT (((fs.settings.map (·.1)).take (i + 1)).foldl (carryStep mv bef) []))) := fun {H7} e => by
          rw [e]
          exact ⟨k6.trans Kept.at, upd_same⟩
        rw [foldl_take _ _ hp] at fin
        show _
        refine ⟨.str p, rfl, .ref o, rfl, o, _, rfl, DGet.k (k := Sum.inr p) (k6 _ _ ooc o5), _, rfl, ?_⟩
        rw [valSS]
        cases e1 : getL (origins mv) p with
        | some og =>
          refine iteT ?_
          have hb := org p og e1
          cases e2 : getL bef og with
          | none => rw [e2] at hb; cases hb
          | some sl =>
            refine ⟨.ref d, rfl, .ref o, rfl, .str p, rfl, o, .str og, rfl, (by have := DGet.k (k := Sum.inr p) (k6 _ _ ooc o5); rw [valSS, e1] at this; exact this), d, .int sl, rfl, (by have := DGet.k (k := Sum.inr og) (k6 _ _ doc b5); rw [valT, e2] at this; exact this), .ref c, rfl, .str p, rfl, c, _, rfl, DPut.k (k := Sum.inr p) d6 (by rw [kvD_len]; exact len6), ?_⟩
            obtain ⟨z1, z2⟩ := fin (H7 := upd H6 c (.dK (putK (kvT (((fs.settings.map (·.1)).take i).foldl (carryStep mv bef) [])) (Sum.inr p) (.int sl)))) (by
              rw [kvD_put inr_inj, cs1 _ e1 e2])
            refine ⟨some (.str p), y7, y8, rfl, z1, ?_⟩
            rw [foldl_take _ _ hp]
            exact z2
        | none =>
          refine iteF ?_
          refine ⟨.str p, rfl, .ref d, rfl, d, _, rfl, DGet.k (k := Sum.inr p) (k6 _ _ doc b5), _, rfl, ?_⟩
          rw [valT]
          cases e2 : getL bef p with
          | none =>
            refine iteF (iteF ?_)
            refine ⟨some (.str p), y7, y8, rfl, k6, ?_⟩
            rw [foldl_take _ _ hp, cs2 _ e1 e2]
            exact d6
          | some sl =>
            refine iteT ?_
            refine ⟨.str p, rfl, .ref l, rfl, l, _, rfl, .inl (SqL.of (k6 _ _ loc l5)), rfl, strs_flat _, _, rfl, ?_⟩
            rw [in_strs]
            by_cases e3 : p ∈ mv.map (·.1)
            · rw [decide_eq_true e3]
              refine iteF ?_
              refine ⟨some (.str p), y7, y8, rfl, k6, ?_⟩
              rw [foldl_take _ _ hp, cs3 _ e1 e2 e3]
              exact d6
            · rw [decide_eq_false e3]
              refine iteT ?_
              refine ⟨.ref d, rfl, .str p, rfl, d, .int sl, rfl, (by have := DGet.k (k := Sum.inr p) (k6 _ _ doc b5); rw [valT, e2] at this; exact this), .ref c, rfl, .str p, rfl, c, _, rfl, DPut.k (k := Sum.inr p) d6 (by rw [kvD_len]; exact len6), ?_⟩
              obtain ⟨z1, z2⟩ := fin (H7 := upd H6 c (.dK (putK (kvT (((fs.settings.map (·.1)).take i).foldl (carryStep mv bef) [])) (Sum.inr p) (.int sl)))) (by
                rw [kvD_put inr_inj, cs4 _ e1 e2 e3])
              refine ⟨some (.str p), y7, y8, rfl, z1, ?_⟩
              rw [foldl_take _ _ hp]
              exact z2
    · rintro σ H6 ⟨y6, y7, y8, rfl, k6, d6⟩
      refine ⟨.ref c, rfl, ?_⟩
      rw [List.length_map, List.take_length] at d6
      refine q H6 c (fun b u e => ?_) nH d6
      exact k6 _ _ (ne_of_none e nH) (s5 _ _ (s3H _ _ e))
end
end K16

set_option Elab.async false
set_option linter.all false
set_option maxRecDepth 100000
set_option maxHeartbeats 2000000
namespace K16
open PySem PySem.Spec PyProof.Rows L2 My
section
variable {P : Program} {w : World} {K : PySem.W.Frag} {mg : Str → Option Value} {base : Heap}
/-- never called here -/
def sp_slot_returned (K : PySem.W.Frag) (T : Top K mg) : Sp := fun _ _ _ _ => False
theorem ok_slot_returned (T : Top K mg) : FnOk P w K mg base CX0 1 T.f_slot_returned T.d_slot_returned ["thing", "earlier", "carried", "file"] (sp_slot_returned K T) :=
  T.F_slot_returned.ok scslot_returned (fun _ _ _ _ h => h.elim) (fun _ _ _ _ _ _ _ _ _ h => h.elim)
def sp_History_take_exclusion (K : PySem.W.Frag) (T : Top K mg) : Sp := fun _ _ _ _ => False
theorem ok_History_take_exclusion (T : Top K mg) : FnOk P w K mg base CX0 1 T.f_History_take_exclusion T.d_History_take_exclusion ["self", "at", "thing"] (sp_History_take_exclusion K T) :=
  T.F_History_take_exclusion.ok scHistory_take_exclusion (fun _ _ _ _ h => h.elim) (fun _ _ _ _ _ _ _ _ _ h => h.elim)
def sp_are_returns (K : PySem.W.Frag) (T : Top K mg) : Sp := fun vs H Q _ => ∃ (e S c x : Addr), vs = [.ref e, .ref S, .ref c, .ref x] ∧ SqT K H e [] ∧ ∀ H', Same H H' → Q (.bl true) H'
theorem ok_are_returns (T : Top K mg) : FnOk P w K mg base CX0 2 T.f_are_returns T.d_are_returns ["things", "earlier", "carried", "file"] (sp_are_returns K T) := by
  have G_slot_returned : FnOk P w K mg base CX0 1 T.f_slot_returned T.d_slot_returned ["thing", "earlier", "carried", "file"] (sp_slot_returned K T) := ok_slot_returned T
  have G_are_different : FnOk P w K mg base CX0 1 T.f_are_different T.d_are_different ["things"] (sp_are_different K) := ok_are_different T
  refine T.F_are_returns.ok scare_returns (fun vs H Q E h => ?_) (fun cdv A outer s H vs Q E hr h => ?_)
  · obtain ⟨e, S, c, x, rfl, _⟩ := h
    rfl
  · obtain ⟨e, S, c, x, rfl, he, q⟩ := h
    refine ⟨_, (pss_cons (ps_if (pt_not (pt_val (pe_callB call_isiT (by rfl) T.m_isinstance (by decide +kernel) (pa_cons (pv 0) (pa_cons (pe_tup (pa_cons (pe_bltn (v := .ty "list") (by rfl) T.m_list (by decide +kernel) rfl) (pa_cons (pe_bltn (v := .ty "tuple") (by rfl) T.m_tuple (by decide +kernel) rfl) pa_nil))) pa_nil))))) (pss_one (ps_ret pe_bl)) pss_nil)
      (pss_cons (ps_setLc (own := [("thing", 5)]) (i := 4) rfl scare_returns.nd rfl rfl (sw_true rfl rfl rfl (by decide +kernel)) (pi_tup (pv 0)) (blkOk_by (N := N_are_returns) (sc := defScope s_are_returns) (by decide +kernel)) (fun _ _ _ _ _ => (pg_name (i := 5) scare_returns.nd rfl (.inl rfl))) (fun _ _ _ _ _ => pts_nil) (fun _ _ _ _ _ => (pe_call G_slot_returned (hr.mono (by decide)) (by rfl) T.g_slot_returned T.F_slot_returned.kp T.b_slot_returned .nil pass0 (pa_cons (pv 5) (pa_cons (pv 1) (pa_cons (pv 2) (pa_cons (pv 3) pa_nil)))))))
      (pss_one (ps_ret (pe_and (pe_cmpR op_notIn_seq pe_non (pv 4) (by rfl)) (pe_and (pe_call G_are_different (hr.mono (by decide)) (by rfl) T.g_are_different T.F_are_different.kp T.b_are_different .nil pass0 (pa_cons (pv 4) pa_nil)) (pe_one (pe_call G_are_different (hr.mono (by decide)) (by rfl) T.g_are_different T.F_are_different.kp T.b_are_different .nil pass0 (pa_cons (pe_lc (own := [("thing", 5)]) rfl scare_returns.nd (pi_tup (pv 0)) (blkOk_by (N := N_are_returns) (sc := defScope s_are_returns) (by decide +kernel)) (fun _ _ _ _ _ => (pg_name (i := 5) scare_returns.nd rfl (.inl rfl))) (fun _ _ _ _ _ => pts_nil) (fun _ _ _ _ _ => (pe_ix (r := rIxT K) ix_tup (pv 5) pe_int (fun _ _ => rfl)))) pa_nil))))))))), ?_⟩
    refine ⟨.ref e, rfl, by decide, fun tp ntp => ⟨.ref e, tp, _, _, _, true, rfl, upd_same, .cons (ClsV.ty "list") (.cons (ClsV.ty "tuple") .nil), tyT (sqT_same (same_new ntp) he), kit_lt, true, rfl, iteF ?_⟩⟩
    have s1 : Same H (upd H tp (.tup [.ty "list", .ty "tuple"])) := same_new ntp
    generalize upd H tp (.tup [.ty "list", .ty "tuple"]) = H1 at s1
    refine ⟨.ref e, rfl, e, rfl, ⟨_, sqT_same s1 he⟩, fun D nD => lc_it (walk_tup (xs := [])) (fun i H4 => Same H1 H4 ∧ H4 D = some (.lst [])) ?_ ?_ ?_ ?_⟩
    · exact ⟨same_new nD, upd_same⟩
    · rintro i H4 _ ⟨s4, _⟩
      exact sqT_same (s1.trans s4) he
    · rintro i v H4' H4 hi _ _
      exact absurd hi (Nat.not_lt_zero _)
    · rintro H4 ⟨s4, d4⟩
      have s4H := s1.trans s4
      refine ⟨.ref D, rfl, D, [], rfl, .inl (SqL.of d4), rfl, rfl, true, rfl, iteT ?_⟩
      refine ⟨.ref D, rfl, D, [], rfl, SqL.of d4, Nat.zero_le _, true, by simp, iteT ?_⟩
      refine ⟨.ref e, rfl, e, rfl, ⟨_, sqT_same s4H he⟩, fun D2 nD2 => lc_it (walk_tup (xs := [])) (fun i H6 => Same H4 H6 ∧ H6 D2 = some (.lst [])) ?_ ?_ ?_ ?_⟩
      · exact ⟨same_new nD2, upd_same⟩
      · rintro i H6 _ ⟨s6, _⟩
        exact sqT_same (s4H.trans s6) he
      · rintro i v H6' H6 hi _ _
        exact absurd hi (Nat.not_lt_zero _)
      · rintro H6 ⟨s6, d6⟩
        refine ⟨D2, [], rfl, SqL.of d6, Nat.zero_le _, ?_⟩
        have e1 : decide (([] : List Key).Nodup) = true := by simp
        rw [e1]
        exact q _ (s4H.trans s6)
/-! ### releases -/
/-- an object that is no list -/
def NotL (K : PySem.W.Frag) (H : Hp) (v : V) : Prop := (v = .non ∨ (∃ b, v = .bl b) ∨ (∃ i, v = .int i) ∨ ∃ z, v = .str z) ∨ ∃ t xs, v = .ref t ∧ SqT K H t xs
theorem NotL.same {H H' : Hp} {v : V} (s : Same H H') (h : NotL K H v) : NotL K H' v := by
  rcases h with h | ⟨t, xs, e, h⟩
  · exact .inl h
  · exact .inr ⟨t, xs, e, sqT_same s h⟩
theorem NotL.ty {H : Hp} {v : V} (h : NotL K H v) : ∃ t, TyX K H v (.type t) ∧ kitB t "list" = some false := by
  rcases h with (rfl | ⟨b, rfl⟩ | ⟨i, rfl⟩ | ⟨z, rfl⟩) | ⟨t, xs, rfl, h⟩
  · exact ⟨_, .base .non, by decide +kernel⟩
  · exact ⟨_, .base (.bl b), by decide +kernel⟩
  · exact ⟨_, .base (.int i), by decide +kernel⟩
  · exact ⟨_, .base (.str z), by decide +kernel⟩
  · exact ⟨_, tyT h, by decide +kernel⟩
/-- v' is v, a list (f) as a new tuple -/
def UnA (K : PySem.W.Frag) (x : Addr) (H0 H' : Hp) : Bool → V → V → Prop
  | true, v, v' => ∃ l xs t, v = .ref l ∧ H0 l = some (.lst xs) ∧ v' = .ref t ∧ H0 t = none ∧ t ≠ x ∧ H' t = some (.tup xs)
  | false, v, v' => NotL K H0 v ∧ v' = v
theorem UnA.keep {x : Addr} {H0 H1 H2 : Hp} {f : Bool} {v v' : V} (h : UnA K x H0 H1 f v v') (k : Kept x H1 H2) : UnA K x H0 H2 f v v' := by
  cases f with
  | true =>
    obtain ⟨l, xs, t, a1, a2, a3, a4, a5, a6⟩ := h
    exact ⟨l, xs, t, a1, a2, a3, a4, a5, k _ _ a5 a6⟩
  | false => exact h
/-- a list (f), or none -/
def Lent (K : PySem.W.Frag) (H : Hp) : Bool → V → Prop
  | true, v => ∃ l xs, v = .ref l ∧ H l = some (.lst xs)
  | false, v => NotL K H v
theorem un_step {x : Addr} {H0 Hc : Hp} {f : Bool} {v : V} {Q : VK} {E : XK} (s : Same H0 Hc) (hx : ∃ o, Hc x = some o) (h : Lent K H0 f v) (q : ∀ v' H', Same Hc H' → UnA K x H0 H' f v v' → Q v' H') : sp_unshared K [v] Hc Q E := by
  cases f with
  | true =>
    obtain ⟨l, xs, rfl, hl⟩ := h
    refine ⟨_, rfl, .inl ⟨l, xs, rfl, s _ _ hl, fun p np => q _ _ (same_new np) ⟨l, xs, p, rfl, hl, rfl, s.free np, ?_, upd_same⟩⟩⟩
    obtain ⟨o, ho⟩ := hx
    exact fun z => by rw [z, ho] at np; cases np
  | false =>
    have h : NotL K H0 v := h
    obtain ⟨t, h1, h2⟩ := (h.same s).ty
    exact ⟨_, rfl, .inr ⟨t, h1, h2, q _ _ (fun _ _ e => e) ⟨h, rfl⟩⟩⟩
def rf1 (a : V) : List (Str × V) := [("text", a)]
def rf2 (a b : V) : List (Str × V) := [("text", a), ("renames", b)]
def rfl3 (a b c : V) : List (Str × V) := [("text", a), ("renames", b), ("returns", c)]
def sp_Release___init__ (K : PySem.W.Frag) (T : Top K mg) : Sp := fun vs H Q _ => ∃ (H0 : Hp) (x dx : Addr) (a b c : V) (fa fb fc : Bool), vs = [.ref x, a, b, c] ∧ H = upd (upd H0 dx (.own x)) x (.ins T.C_Release dx []) ∧ H0 x = none ∧ H0 dx = none ∧ dx ≠ x ∧
  Lent K H0 fa a ∧ Lent K H0 fb b ∧ Lent K H0 fc c ∧ ∀ H' a' b' c', Same H0 H' → H' x = some (.ins T.C_Release dx (rfl3 a' b' c')) → UnA K x H0 H' fa a a' → UnA K x H0 H' fb b b' → UnA K x H0 H' fc c c' → Q .non H'
theorem ok_Release___init__ (T : Top K mg) : FnOk P w K mg base CX0 2 T.f_Release___init__ T.d_Release___init__ ["self", "text", "renames", "returns"] (sp_Release___init__ K T) := by
  have G_unshared : FnOk P w K mg base CX0 1 T.f_unshared T.d_unshared ["thing"] (sp_unshared K) := ok_unshared T
  refine T.F_Release___init__.ok scRelease___init__ (fun vs H Q E h => ?_) (fun cdv A outer s H vs Q E hr h => ?_)
  · obtain ⟨H0, x, dx, a, b, c, fa, fb, fc, rfl, _⟩ := h
    rfl
  · obtain ⟨H0, x, dx, a, b, c, fa, fb, fc, rfl, eH, nx, ndx, nex, la, lb, lc, q⟩ := h
    refine ⟨_, (pss_cons (ps_fld (pv 0) (pe_call G_unshared (hr.mono (by decide)) (by rfl) T.g_unshared T.F_unshared.kp T.b_unshared .nil pass0 (pa_cons (pv 1) pa_nil)) rfl)
      (pss_cons (ps_fld (pv 0) (pe_call G_unshared (hr.mono (by decide)) (by rfl) T.g_unshared T.F_unshared.kp T.b_unshared .nil pass0 (pa_cons (pv 2) pa_nil)) rfl)
      (pss_one (ps_fld (pv 0) (pe_call G_unshared (hr.mono (by decide)) (by rfl) T.g_unshared T.F_unshared.kp T.b_unshared .nil pass0 (pa_cons (pv 3) pa_nil)) rfl)))), ?_⟩
    have s0 : Same H0 H := by
      rw [eH]
      intro b o e
      rw [upd_ne (ne_of_none e nx), upd_ne (ne_of_none e ndx)]
      exact e
    have hx0 : H x = some (.ins T.C_Release dx []) := by rw [eH]; exact upd_same
    have sx : ∀ {H1 : Hp} {o : HO}, Same H0 H1 → Same H0 (upd H1 x o) := fun s => upd_off nx s
    refine ⟨a, rfl, ?_⟩
    dsimp only [tNil]
    refine un_step s0 ⟨_, hx0⟩ la fun a' H1 s1 ua => ?_
    have hx1 := s1 _ _ hx0
    refine ⟨.ref x, rfl, x, _, _, _, rfl, hx1, T.cl_Release, T.no_Release_text, by show (0 : Nat) < 1000; decide, ?_⟩
    have ua1 := ua.keep (Kept.at (b := x) (H := H1) (o := .ins T.C_Release dx (rf1 a')))
    have s1' := sx (o := .ins T.C_Release dx (rf1 a')) (s0.trans s1)
    have hx1' : upd H1 x (.ins T.C_Release dx (rf1 a')) x = some (.ins T.C_Release dx (rf1 a')) := upd_same
    rw [show putF "text" a' [] = (rf1 a') from rfl]
    generalize upd H1 x (.ins T.C_Release dx (rf1 a')) = H2 at ua1 s1' hx1'
    refine ⟨b, rfl, ?_⟩
    dsimp only [tNil]
    refine un_step s1' ⟨_, hx1'⟩ lb fun b' H3 s3 ub => ?_
    have hx3 := s3 _ _ hx1'
    refine ⟨.ref x, rfl, x, _, _, _, rfl, hx3, T.cl_Release, T.no_Release_renames, by show (1 : Nat) < 1000; decide, ?_⟩
    rw [show putF "renames" b' (rf1 a') = (rf2 a' b') from rfl]
    have ua2 := (ua1.keep (Kept.same s3)).keep (Kept.at (b := x) (H := H3) (o := .ins T.C_Release dx (rf2 a' b')))
    have ub2 := ub.keep (Kept.at (b := x) (H := H3) (o := .ins T.C_Release dx (rf2 a' b')))
    have s3' := sx (o := .ins T.C_Release dx (rf2 a' b')) (s1'.trans s3)
    have hx3' : upd H3 x (.ins T.C_Release dx (rf2 a' b')) x = some (.ins T.C_Release dx (rf2 a' b')) := upd_same
    generalize upd H3 x (.ins T.C_Release dx (rf2 a' b')) = H4 at ua2 ub2 s3' hx3'
    refine ⟨c, rfl, ?_⟩
    dsimp only [tNil]
    refine un_step s3' ⟨_, hx3'⟩ lc fun c' H5 s5 uc => ?_
    have hx5 := s5 _ _ hx3'
    refine ⟨.ref x, rfl, x, _, _, _, rfl, hx5, T.cl_Release, T.no_Release_returns, by show (2 : Nat) < 1000; decide, ?_⟩
    rw [show putF "returns" c' (rf2 a' b') = rfl3 a' b' c' from rfl]
    exact q _ a' b' c' (sx (s3'.trans s5)) upd_same ((ua2.keep (Kept.same s5)).keep Kept.at) ((ub2.keep (Kept.same s5)).keep Kept.at) (uc.keep Kept.at)
end
end K16

set_option Elab.async false
set_option linter.all false
set_option maxRecDepth 100000
set_option maxHeartbeats 2000000
namespace K16
open PySem PySem.Spec PyProof.Rows L2 My
section
variable {P : Program} {w : World} {K : PySem.W.Frag} {mg : Str → Option Value} {base : Heap}
def sp_is_number_below (K : PySem.W.Frag) : Sp := fun vs H Q _ => ∃ (i n : Int), vs = [.int i, .int n] ∧ 0 ≤ i ∧ i < n ∧ Q (.bl true) H
theorem ok_is_number_below (T : Top K mg) : FnOk P w K mg base CX0 1 T.f_is_number_below T.d_is_number_below ["thing", "limit"] (sp_is_number_below K) := by
  refine T.F_is_number_below.ok scis_number_below (fun vs H Q E h => ?_) (fun cdv A outer s H vs Q E hr h => ?_)
  · obtain ⟨i, n, rfl, _⟩ := h
    rfl
  · obtain ⟨i, n, rfl, h0, h1, q⟩ := h
    refine ⟨_, (pss_one (ps_ret (pe_and (pe_callB call_isi (by rfl) T.m_isinstance (by decide +kernel) (pa_cons (pv 0) (pa_cons (pe_bltn (v := .ty "int") (by rfl) T.m_int (by decide +kernel) rfl) pa_nil))) (pe_and (pe_not (pe_callB call_isi (by rfl) T.m_isinstance (by decide +kernel) (pa_cons (pv 0) (pa_cons (pe_bltn (v := .ty "bool") (by rfl) T.m_bool (by decide +kernel) rfl) pa_nil)))) (pe_one (pe_chain op_le op_lt pe_int (pv 0) (pv 1))))))), ?_⟩
    refine ⟨.int i, rfl, _, _, _, _, true, rfl, ClsV.ty "int", .base (.int i), kit_ty (by decide +kernel), true, rfl, iteT ?_⟩
    refine ⟨.int i, rfl, _, _, _, _, false, rfl, ClsV.ty "bool", .base (.int i), kit_ty (by decide +kernel), ?_⟩
    refine ⟨_, rfl, true, rfl, iteT ?_⟩
    refine ⟨.int i, rfl, 0, i, rfl, rfl, _, rfl, ?_⟩
    rw [decide_eq_true h0]
    refine iteT ⟨.int n, rfl, i, n, rfl, rfl, ?_⟩
    show Q (.bl (decide (i < n))) H
    rw [decide_eq_true h1]
    exact q
def sp_History_slots (K : PySem.W.Frag) (T : Top K mg) : Sp := fun vs H Q _ => ∃ (H0 : Hp) (x : Addr) (hs : HS) (A : HPts), vs = [.ref x] ∧ HistP T.C_History H0 H x hs A ∧ Q (.int (hs.rts.length : Nat)) H
theorem ok_History_slots (T : Top K mg) : FnOk P w K mg base CX0 1 T.f_History_slots T.d_History_slots ["self"] (sp_History_slots K T) := by
  refine T.F_History_slots.ok scHistory_slots (fun vs H Q E h => ?_) (fun cdv A outer s H vs Q E hr h => ?_)
  · obtain ⟨H0, x, hs, A, rfl, _⟩ := h
    rfl
  · obtain ⟨H0, x, hs, A', rfl, hp, q⟩ := h
    refine ⟨_, (pss_one (ps_ret (pe_callB call_len_seq (by rfl) T.m_len (by decide +kernel) (pa_cons (pe_fld (pv 0) rfl) pa_nil)))), ?_⟩
    refine ⟨.ref x, rfl, x, _, _, _, _, rfl, hp.ob, T.cl_History, T.no_History_routes, h_routes A', A'.R, _, rfl, .inl (SqL.of hp.eR), ?_⟩
    rw [List.length_map, hp.rlen]
    exact q
def sp_History___len__ (K : PySem.W.Frag) (T : Top K mg) : Sp := fun vs H Q _ => ∃ (H0 : Hp) (x : Addr) (hs : HS) (A : HPts), vs = [.ref x] ∧ HistP T.C_History H0 H x hs A ∧ Q (.int (hs.tabs.length : Nat)) H
theorem ok_History___len__ (T : Top K mg) : FnOk P w K mg base CX0 1 T.f_History___len__ T.d_History___len__ ["self"] (sp_History___len__ K T) := by
  refine T.F_History___len__.ok scHistory___len__ (fun vs H Q E h => ?_) (fun cdv A outer s H vs Q E hr h => ?_)
  · obtain ⟨H0, x, hs, A, rfl, _⟩ := h
    rfl
  · obtain ⟨H0, x, hs, A', rfl, hp, q⟩ := h
    refine ⟨_, (pss_one (ps_ret (pe_callB call_len_seq (by rfl) T.m_len (by decide +kernel) (pa_cons (pe_fld (pv 0) rfl) pa_nil)))), ?_⟩
    refine ⟨.ref x, rfl, x, _, _, _, _, rfl, hp.ob, T.cl_History, T.no_History_slot_tables, h_tables A', A'.S, _, rfl, .inl (SqL.of hp.eS), ?_⟩
    rw [List.length_map, hp.tlen]
    exact q
def sp_History_check_release (K : PySem.W.Frag) (T : Top K mg) : Sp := fun vs H Q _ => ∃ (H0 : Hp) (x : Addr) (hs : HS) (A : HPts) (i : Int), vs = [.ref x, .int i] ∧ HistP T.C_History H0 H x hs A ∧ 0 ≤ i ∧ i < (hs.tabs.length : Nat) ∧ Q .non H
theorem ok_History_check_release (T : Top K mg) : FnOk P w K mg base CX0 2 T.f_History_check_release T.d_History_check_release ["self", "release"] (sp_History_check_release K T) := by
  have G_is_number_below : FnOk P w K mg base CX0 1 T.f_is_number_below T.d_is_number_below ["thing", "limit"] (sp_is_number_below K) := ok_is_number_below T
  refine T.F_History_check_release.ok scHistory_check_release (fun vs H Q E h => ?_) (fun cdv A outer s H vs Q E hr h => ?_)
  · obtain ⟨H0, x, hs, A, i, rfl, _⟩ := h
    rfl
  · obtain ⟨H0, x, hs, A', i, rfl, hp, h0, h1, q⟩ := h
    refine ⟨_, (pss_one (ps_if (pt_not (pt_val (pe_call G_is_number_below (hr.mono (by decide)) (by rfl) T.g_is_number_below T.F_is_number_below.kp T.b_is_number_below .nil pass0 (pa_cons (pv 1) (pa_cons (pe_callB call_len_seq (by rfl) T.m_len (by decide +kernel) (pa_cons (pe_fld (pv 0) rfl) pa_nil)) pa_nil))))) (pss_one ps_never) pss_nil)), ?_⟩
    refine ⟨.int i, rfl, .ref x, rfl, x, _, _, _, _, rfl, hp.ob, T.cl_History, T.no_History_slot_tables, h_tables A', A'.S, _, rfl, .inl (SqL.of hp.eS), i, _, rfl, h0, (by rw [List.length_map, hp.tlen]; exact h1), true, rfl, iteF ?_⟩
    exact q
/-- the slot of a text in a table -/
def slotV (t : Tb) : V → V
  | .str z => ((getL t z).map V.int).getD .non
  | _ => .non
def sp_History_slot_at (K : PySem.W.Frag) (T : Top K mg) : Sp := fun vs H Q _ => ∃ (H0 : Hp) (x : Addr) (hs : HS) (A : HPts) (v : V) (i : Nat) (t : Tb), vs = [.ref x, v, .int (i : Nat)] ∧ HistP T.C_History H0 H x hs A ∧ hs.tabs[i]? = some t ∧ Ask K H v ∧ Q (slotV t v) H
theorem ok_History_slot_at (T : Top K mg) : FnOk P w K mg base CX0 3 T.f_History_slot_at T.d_History_slot_at ["self", "place", "release"] (sp_History_slot_at K T) := by
  have G_History_check_release : FnOk P w K mg base CX0 2 T.f_History_check_release T.d_History_check_release ["self", "release"] (sp_History_check_release K T) := ok_History_check_release T
  have G_is_key : FnOk P w K mg base CX0 1 T.f_is_key T.d_is_key ["thing", "table"] (sp_is_key K) := ok_is_key T
  refine T.F_History_slot_at.ok scHistory_slot_at (fun vs H Q E h => ?_) (fun cdv A outer s H vs Q E hr h => ?_)
  · obtain ⟨H0, x, hs, A, v, i, t, rfl, _⟩ := h
    rfl
  · obtain ⟨H0, x, hs, A', v, i, t, rfl, hp, ht, hv, q⟩ := h
    refine ⟨_, (pss_cons (ps_expr (pe_meth (pv 0) T.cl_History T.me_History_check_release G_History_check_release (hr.mono (by decide)) T.b_History_check_release .nil pass0 (pa_cons (pv 2) pa_nil)))
      (pss_one (ps_ret (pe_ifExp (pt_val (pe_call G_is_key (hr.mono (by decide)) (by rfl) T.g_is_key T.F_is_key.kp T.b_is_key .nil pass0 (pa_cons (pv 1) (pa_cons (pe_ix ix_list (pe_fld (pv 0) rfl) (pv 2) (fun _ _ => rfl)) pa_nil)))) (pe_dget (hu_of hr) (pe_ix ix_list (pe_fld (pv 0) rfl) (pv 2) (fun _ _ => rfl)) (pv 1) (fun _ _ => rfl)) pe_non)))), ?_⟩
    have hi : i < hs.tabs.length := (List.getElem?_eq_some_iff.mp ht).1
    refine ⟨.ref x, rfl, x, _, _, rfl, hp.ob, rfl, .int i, rfl, H0, x, hs, A', i, rfl, hp, by omega, by omega, ?_⟩
    obtain ⟨c, hc, hcv⟩ := hp.table ht
    have hat : (A'.tb.map V.ref)[i]? = some (.ref c) := by rw [List.getElem?_map, hc]; rfl
    refine ⟨v, rfl, .ref x, rfl, x, _, _, _, _, rfl, hp.ob, T.cl_History, T.no_History_slot_tables, h_tables A', .int i, rfl, A'.S, _, (i : Nat), .ref c, rfl, rfl, SqL.of hp.eS, atI_nat (j := i) hat, v, c, _, rfl, hcv, hv, ?_⟩
    refine ⟨_, rfl, ?_⟩
    rcases hv with ⟨z, rfl, hz⟩ | ⟨hno, ty, h1, h2⟩
    · have e : hasK (kvT t) (.str z) = (getL t z).isSome := by
        show (valV (kvT t) (Sum.inr z : Key)).isSome = _
        rw [valT, Option.isSome_map]
      rw [e]
      cases e2 : getL t z with
      | none =>
        refine iteF ?_
        have : slotV t (.str z) = .non := by show ((getL t z).map V.int).getD .non = _; rw [e2]; rfl
        rw [this] at q
        exact q
      | some sl =>
        refine iteT ?_
        have : slotV t (.str z) = .int sl := by show ((getL t z).map V.int).getD .non = _; rw [e2]; rfl
        rw [this] at q
        refine ⟨.ref x, rfl, x, _, _, _, _, rfl, hp.ob, T.cl_History, T.no_History_slot_tables, h_tables A', .int i, rfl, A'.S, _, (i : Nat), .ref c, rfl, rfl, SqL.of hp.eS, atI_nat (j := i) hat, .str z, rfl, c, .int sl, rfl, (by have := DGet.k (k := Sum.inr z) hcv; rw [valT, e2] at this; exact this), q⟩
    · have e : hasK (kvT t) v = false := hno _
      rw [e]
      refine iteF ?_
      have : slotV t v = .non := by
        unfold slotV
        split
        · rename_i z
          exact absurd (hno fun _ => true) (by show ¬ (true = false); decide)
        · rfl
      rw [this] at q
      exact q
end
end K16

set_option Elab.async false
set_option linter.all false
set_option maxRecDepth 100000
set_option maxHeartbeats 4000000
namespace K16
open PySem PySem.Spec PyProof.Rows L2 My
section
variable {P : Program} {w : World} {K : PySem.W.Frag} {mg : Str → Option Value} {base : Heap}
theorem ps1 {at_ : Int} {known : Tb} {st : Tb × List Rt} {p : Str} {s : Int} (e : getL known p = some s) : placeStep at_ known st p = (putL st.1 p s, st.2.modify s.toNat fun r => putL r at_ p) := by
  unfold placeStep
  rw [e]
theorem ps2 {at_ : Int} {known : Tb} {st : Tb × List Rt} {p : Str} (e : getL known p = none) : placeStep at_ known st p = (putL st.1 p (st.2.length : Nat), st.2 ++ [putL [] at_ p]) := by
  unfold placeStep
  rw [e]
theorem getL_put {κ ν : Type} [DecidableEq κ] (l : List (κ × ν)) (k : κ) (v : ν) : getL (putL l k v) k = some v := by
  unfold getL putL
  split
  · rename_i h
    induction l with
    | nil => exact absurd h (by simp)
    | cons p r ih =>
      by_cases e : p.1 = k
      · simp [List.find?_cons, e]
      · have h2 : (r.any fun p => decide (p.1 = k)) = true := by
          simpa [e] using h
        have := ih h2
        rw [List.map_cons, if_neg e, List.find?_cons]
        rw [decide_eq_false e]
        exact this
  · rename_i h
    have hn : l.find? (fun p => decide (p.1 = k)) = none := by
      rw [List.find?_eq_none]
      intro x hx hh
      exact h (List.any_eq_true.mpr ⟨x, hx, hh⟩)
    rw [List.find?_append, hn]
    simp
/-- the state of the loop -/
structure PlOk (n : Nat) (st : Tb × List Rt) : Prop where
  a : st.1.length ≤ n
  b : st.2.length ≤ 1000 + n
  c : ∀ r ∈ st.2, r.length ≤ 1000 + n
theorem mem_modify {α : Type} {f : α → α} : ∀ {l : List α} {i : Nat} {x : α}, x ∈ l.modify i f → x ∈ l ∨ ∃ y ∈ l, x = f y
  | [], i, x, h => by
    rw [List.modify_nil] at h
    cases h
  | a :: l, 0, x, h => by
    rw [List.modify_cons, if_pos rfl] at h
    rcases List.mem_cons.mp h with rfl | h
    · exact .inr ⟨a, List.mem_cons_self, rfl⟩
    · exact .inl (List.mem_cons_of_mem _ h)
  | a :: l, i + 1, x, h => by
    have e2 : (a :: l).modify (i + 1) f = a :: l.modify i f := by rw [List.modify_cons, if_neg (Nat.succ_ne_zero _)]; rfl
    rw [e2] at h
    rcases List.mem_cons.mp h with rfl | h
    · exact .inl List.mem_cons_self
    · rcases mem_modify h with h | ⟨y, hy, e⟩
      · exact .inl (List.mem_cons_of_mem _ h)
      · exact .inr ⟨y, List.mem_cons_of_mem _ hy, e⟩
theorem PlOk.step {n : Nat} {st : Tb × List Rt} {at_ : Int} {known : Tb} {p : Str} (h : PlOk n st) : PlOk (n + 1) (placeStep at_ known st p) := by
  obtain ⟨ha, hb, hc⟩ := h
  cases e : getL known p with
  | some s =>
    rw [ps1 e]
    refine ⟨Nat.le_trans (putL_len _ _ _) (by omega), by show (st.2.modify _ _).length ≤ _; rw [List.length_modify]; omega, fun r hr => ?_⟩
    rcases mem_modify hr with hr | ⟨y, hy, rfl⟩
    · have := hc r hr; omega
    · have := hc y hy
      have := putL_len y at_ p
      omega
  | none =>
    rw [ps2 e]
    refine ⟨Nat.le_trans (putL_len _ _ _) (by omega), by show (st.2 ++ _).length ≤ _; rw [List.length_append, List.length_singleton]; omega, fun r hr => ?_⟩
    rcases List.mem_append.mp hr with hr | hr
    · have := hc r hr; omega
    · rw [List.mem_singleton.mp hr]
      have := putL_len ([] : Rt) at_ p
      rw [List.length_nil] at this
      omega
theorem step_len {at_ : Int} {known : Tb} (st : Tb × List Rt) (p : Str) : st.2.length ≤ (placeStep at_ known st p).2.length := by
  cases e : getL known p with
  | some s => rw [ps1 e]; show _ ≤ (st.2.modify _ _).length; rw [List.length_modify]; exact Nat.le_refl _
  | none => rw [ps2 e]; show _ ≤ (st.2 ++ _).length; rw [List.length_append]; exact Nat.le_add_right _ _
theorem mod_new (l : List Rt) (at_ : Int) (p : Str) : (l ++ [[]]).modify l.length (fun r => putL r at_ p) = l ++ [putL [] at_ p] := by
  induction l with
  | nil => rfl
  | cons a r ih =>
    show (a :: (r ++ [[]])).modify (r.length + 1) _ = _
    rw [List.modify_cons, if_neg (Nat.succ_ne_zero _)]
    show a :: (r ++ [[]]).modify r.length _ = _
    rw [ih]
    rfl
def sp_History_take_places (K : PySem.W.Frag) (T : Top K mg) : Sp := fun vs H Q _ => ∃ (H0 : Hp) (x : Addr) (hs : HS) (A : HPts) (Hf : Hp) (f : Addr) (tx : Str) (rows : List Str) (fs : FS) (Af : Parts) (kn : Addr) (known : Tb), vs = [.ref x, .int (hs.tabs.length : Nat), .ref f, .ref kn] ∧ HistP T.C_History H0 H x hs A ∧ FileP T.C_SettingsFile Hf H f tx rows fs Af ∧
  H kn = some (.dK (kvT known)) ∧ kn ∉ A.rt ∧ (∀ p s, getL known p = some s → 0 ≤ s ∧ s.toNat < hs.rts.length) ∧ fs.settings.length ≤ 1000 ∧ hs.rts.length ≤ 1000 ∧ hs.tabs.length ≤ 1000 ∧ (∀ r ∈ hs.rts, r.length ≤ 1000) ∧
  ∀ H' A', HistP T.C_History H0 H' x (placed hs known (fs.settings.map (·.1))) A' → Q .non H'
theorem ok_History_take_places (T : Top K mg) : FnOk P w K mg base CX0 2 T.f_History_take_places T.d_History_take_places ["self", "at", "file", "known"] (sp_History_take_places K T) := by
  have G_SettingsFile_places : FnOk P w K mg base CX0 1 T.f_SettingsFile_places T.d_SettingsFile_places ["self"] (sp_SettingsFile_places K T) := ok_SettingsFile_places T
  refine T.F_History_take_places.ok scHistory_take_places (fun vs H Q E h => ?_) (fun cdv A outer s H vs Q E hr h => ?_)
  · obtain ⟨H0, x, hs, A, Hf, f, tx, rows, fs, Af, kn, known, rfl, _⟩ := h
    rfl
  · obtain ⟨H0, x, hs, A', Hf, f, tx, rows, fs, Af, kn, known, rfl, hp, ff, hk, nkr, inr, l1, l2, l3, l4, q⟩ := h
    refine ⟨_, (pss_cons (ps_set (i := 4) scHistory_take_places.nd rfl (.inl rfl) pe_dnewK)
      (pss_cons (ps_for PassesOwn.never rfl (pi_list (pe_meth0 (pv 2) T.cl_SettingsFile T.me_SettingsFile_places G_SettingsFile_places (hr.mono (by decide)) T.b_SettingsFile_places .nil pass0)) (pg_name (i := 5) scHistory_take_places.nd rfl (.inl rfl)) (pss_cons (ps_if (pt_cmp (pc_din (hu_of hr) (pv 5) (pv 3))) (pss_one (ps_dput (hu_of hr) (pv 4) (pv 5) (pe_dget (hu_of hr) (pv 3) (pv 5) (fun _ _ => rfl)) rfl)) (pss_cons (ps_dput (hu_of hr) (pv 4) (pv 5) (pe_callB call_len_seq (by rfl) T.m_len (by decide +kernel) (pa_cons (pe_fld (pv 0) rfl) pa_nil)) rfl)
      (pss_one (ps_expr (pe_bm PySem.F.plainAttrs_list PySem.F.slot_list_append PySem.F.type_list_append mt_append (pe_fld (pv 0) rfl) (pa_cons pe_dnewK pa_nil))))))
      (pss_one (ps_dput (hu_of hr) (pe_ix ix_list (pe_fld (pv 0) rfl) (pe_dget (hu_of hr) (pv 4) (pv 5) (fun _ _ => rfl)) (fun _ _ => rfl)) (pv 1) (pv 5) rfl))))
      (pss_cons (ps_expr (pe_bm PySem.F.plainAttrs_list PySem.F.slot_list_append PySem.F.type_list_append mt_append (pe_fld (pv 0) rfl) (pa_cons (pv 2) pa_nil)))
      (pss_one (ps_expr (pe_bm PySem.F.plainAttrs_list PySem.F.slot_list_append PySem.F.type_list_append mt_append (pe_fld (pv 0) rfl) (pa_cons (pv 4) pa_nil))))))), ?_⟩
    refine fun t nt => ?_
    have s1 : Same H (upd H t (.dK [])) := same_new nt
    have ht1 : upd H t (.dK []) t = some (.dK []) := upd_same
    have n0t : H0 t = none := hp.same.free nt
    obtain ⟨tr, tt⟩ := hp.rtFree nt
    have knt : kn ≠ t := ne_of_none hk nt
    generalize upd H t (.dK []) = H1 at s1 ht1
    have hp1 := hp.more s1
    have ff1 := ff.more s1
    have hk1 := s1 _ _ hk
    refine ⟨.ref f, rfl, f, _, _, rfl, ff1.ob, f_no _ _ _ _ _ _ _ (by decide +kernel) (by decide +kernel) (by decide +kernel) (by decide +kernel) (by decide +kernel) (by decide +kernel) (by decide +kernel), Hf, f, tx, rows, fs, Af, rfl, ff1, fun H2 pl s2 npl hpl => ?_⟩
    have hp2 := hp1.more s2
    have hk2 := s2 _ _ hk1
    have ht2 := s2 _ _ ht1
    have plR : pl ≠ A'.R := fun z => by rw [z, hp1.eR] at npl; cases npl
    have plt : pl ≠ t := fun z => by rw [z, ht1] at npl; cases npl
    have n0pl : H0 pl = none := by
      cases e : H0 pl with
      | none => rfl
      | some u => rw [hp1.same _ _ e] at npl; cases npl
    generalize hps : fs.settings.map (·.1) = ps at hpl q
    have lps : ps.length ≤ 1000 := by rw [← hps, List.length_map]; exact l1
    refine ⟨pl, rfl, ⟨_, SqL.of hpl⟩, for_it (walk_list (xs := ps.map V.str)) (fun i σ H6 => ∃ (y5 : Option V) (rt : List Addr) (st : Tb × List Rt), σ = [some (.ref x), some (.int (hs.tabs.length : Nat)), some (.ref f), some (.ref kn), some (.ref t), y5] ∧
      st = (ps.take i).foldl (placeStep (hs.tabs.length : Nat) known) ([], hs.rts) ∧ PlOk i st ∧ hs.rts.length ≤ st.2.length ∧ HistP T.C_History H0 H6 x { hs with rts := st.2 } { A' with rt := rt } ∧ H6 t = some (.dK (kvT st.1)) ∧ t ∉ rt ∧ H6 kn = some (.dK (kvT known)) ∧ kn ∉ rt ∧ H6 pl = some (.lst (ps.map V.str))) ?_ ?_ ?_ ?_⟩
    · exact ⟨none, A'.rt, ([], hs.rts), rfl, rfl, ⟨Nat.le_refl _, l2, l4⟩, Nat.le_refl _, hp2, ht2, tr, hk2, nkr, hpl⟩
    · rintro i σ H6 _ ⟨y5, rt, st, rfl, _, _, _, _, _, _, _, _, h⟩
      exact SqL.of h
    · rintro i v σ H6' H6 hi ⟨y5, rt, st, rfl, est, ok, ler, hp6, ht6, ntr, hk6, nkr6, hpl6⟩ ⟨rfl, hv⟩
      rw [List.getElem?_map] at hv
      rw [List.length_map] at hi
      cases hpi : ps[i]? with
      | none => rw [hpi] at hv; cases hv
      | some p =>
        rw [hpi] at hv
        cases hv
        have est' := foldl_take (placeStep (hs.tabs.length : Nat) known) ([], hs.rts) hpi
        rw [← est] at est'
        have ok' := ok.step (at_ := (hs.tabs.length : Nat)) (known := known) (p := p)
        have ler' := Nat.le_trans ler (step_len (at_ := (hs.tabs.length : Nat)) (known := known) st p)
        have len1 : (kvT st.1).length < sizeLine := by rw [kvD_len]; have := ok.a; exact big (by omega)
        -- routes[table[place]][at] = place
        have fin : ∀ {H7 : Hp} {rt7 : List Addr} {rts7 : List Rt} {sl : Nat} {r : Rt}, HistP T.C_History H0 H7 x { hs with rts := rts7 } { A' with rt := rt7 } → H7 t = some (.dK (kvT (putL st.1 p (sl : Nat)))) → t ∉ rt7 → H7 kn = some (.dK (kvT known)) → kn ∉ rt7 → H7 pl = some (.lst (ps.map V.str)) → rts7[sl]? = some r → r.length ≤ 100000 →
            placeStep (hs.tabs.length : Nat) known st p = (putL st.1 p (sl : Nat), rts7.modify sl fun r => putL r (hs.tabs.length : Nat) p) →
            ∃ c : Addr, rt7[sl]? = some c ∧ H7 c = some (.dK (kvR r)) ∧ ∃ (y5 : Option V) (rt : List Addr) (st' : Tb × List Rt), [some (V.ref x), some (.int (hs.tabs.length : Nat)), some (.ref f), some (.ref kn), some (.ref t), some (.str p)] = [some (.ref x), some (.int (hs.tabs.length : Nat)), some (.ref f), some (.ref kn), some (.ref t), y5] ∧
              st' = (ps.take (i + 1)).foldl (placeStep (hs.tabs.length : Nat) known) ([], hs.rts) ∧ PlOk (i + 1) st' ∧ hs.rts.length ≤ st'.2.length ∧ HistP T.C_History H0 (upd H7 c (.dK (putK (kvR r) (Sum.inl ((hs.tabs.length : Nat) : Int)) (.str p)))) x { hs with rts := st'.2 } { A' with rt := rt } ∧ (upd H7 c (.dK (putK (kvR r) (Sum.inl ((hs.tabs.length : Nat) : Int)) (.str p)))) t = some (.dK (kvT st'.1)) ∧ t ∉ rt ∧ (upd H7 c (.dK (putK (kvR r) (Sum.inl ((hs.tabs.length : Nat) : Int)) (.str p)))) kn = some (.dK (kvT known)) ∧ kn ∉ rt ∧ (upd H7 c (.dK (putK (kvR r) (Sum.inl ((hs.tabs.length : Nat) : Int)) (.str p)))) pl = some (.lst (ps.map V.str)) := by
          intro H7 rt7 rts7 sl r hp7 ht7 ntr7 hk7 nkr7 hpl7 hr hrl epl
          obtain ⟨c, hc, hcv⟩ := hp7.route (i := sl) (r := r) hr
          have hc : rt7[sl]? = some c := hc
          have cm := List.mem_of_getElem? hc
          refine ⟨c, hc, hcv, some (.str p), rt7, placeStep (hs.tabs.length : Nat) known st p, rfl, est'.symm, ok', ler', ?_, ?_, ntr7, ?_, nkr7, ?_⟩
          · rw [kvD_put inl_inj]
            have := hp7.modR (i := sl) (c := c) hc (hs.tabs.length : Nat) p r hr
            rw [epl]
            exact this
          · rw [upd_ne (fun z : t = c => ntr7 (by rw [z]; exact cm)), epl]
            exact ht7
          · rw [upd_ne (fun z : kn = c => nkr7 (by rw [z]; exact cm))]
            exact hk7
          · rw [upd_ne (ne_of hpl7 hcv (fun z => nomatch z))]
            exact hpl7
        refine ⟨.str p, rfl, .ref kn, rfl, kn, _, rfl, DGet.k (k := Sum.inr p) hk6, _, rfl, ?_⟩
        rw [valT]
        cases e1 : getL known p with
        | some s =>
          refine iteT ?_
          obtain ⟨s0, s1'⟩ := inr p s e1
          obtain ⟨sl, rfl⟩ := Int.eq_ofNat_of_zero_le s0
          have hsl : sl < st.2.length := by
            have : (Int.ofNat sl).toNat = sl := rfl
            have h2 : sl < hs.rts.length := s1'
            omega
          refine ⟨.ref kn, rfl, .str p, rfl, kn, .int sl, rfl, (by have := DGet.k (k := Sum.inr p) hk6; rw [valT, e1] at this; exact this), .ref t, rfl, .str p, rfl, t, _, rfl, DPut.k (k := Sum.inr p) ht6 len1, ?_⟩
          have hp7 := hp6.offD (o := .dK (kvT (putL st.1 p (sl : Nat)))) ht6 n0t ntr (by exact tt)
          rw [kvD_put inr_inj]
          have ht7 : upd H6 t (.dK (kvT (putL st.1 p (sl : Nat)))) t = some (.dK (kvT (putL st.1 p (sl : Nat)))) := upd_same
          have hk7 : upd H6 t (.dK (kvT (putL st.1 p (sl : Nat)))) kn = some (.dK (kvT known)) := by rw [upd_ne knt]; exact hk6
          have hpl7 : upd H6 t (.dK (kvT (putL st.1 p (sl : Nat)))) pl = some (.lst (ps.map V.str)) := by rw [upd_ne plt]; exact hpl6
          generalize upd H6 t (.dK (kvT (putL st.1 p (sl : Nat)))) = H7 at hp7 ht7 hk7 hpl7
          obtain ⟨c, hc, hcv, hfin⟩ := fin hp7 ht7 ntr hk7 nkr6 hpl7 (List.getElem?_eq_getElem hsl) (Nat.le_trans (ok.c _ (List.getElem_mem hsl)) (by omega)) (ps1 e1)
          refine ⟨.str p, rfl, .ref x, rfl, x, _, _, _, _, rfl, hp7.ob, T.cl_History, T.no_History_routes, h_routes _, .ref t, rfl, .str p, rfl, t, .int sl, rfl, (by have := DGet.k (k := Sum.inr p) ht7; rw [valT, getL_put] at this; exact this), A'.R, _, (sl : Nat), .ref c, rfl, rfl, SqL.of hp7.eR, atI_nat (j := sl) (by rw [List.getElem?_map]; show (rt[sl]?).map V.ref = _; rw [hc]; rfl), .int (hs.tabs.length : Nat), rfl, c, _, rfl, DPut.k (k := Sum.inl ((hs.tabs.length : Nat) : Int)) hcv (by rw [kvD_len]; exact big (Nat.le_trans (ok.c _ (List.getElem_mem hsl)) (by omega))), ?_⟩
          exact hfin
        | none =>
          refine iteF ?_
          refine ⟨.ref x, rfl, x, _, _, _, _, rfl, hp6.ob, T.cl_History, T.no_History_routes, h_routes _, A'.R, _, rfl, .inl (SqL.of hp6.eR), .ref t, rfl, .str p, rfl, t, _, rfl, DPut.k (k := Sum.inr p) ht6 len1, ?_⟩
          have er : ((List.map V.ref rt).length : Nat) = st.2.length := by rw [List.length_map]; exact hp6.rlen
          show _
          rw [show (putK (kvT st.1) (Sum.inr p) (V.int ((List.map V.ref rt).length : Nat))) = kvT (putL st.1 p (st.2.length : Nat)) by rw [er, kvD_put inr_inj]]
          have hp7 := hp6.offD (o := .dK (kvT (putL st.1 p (st.2.length : Nat)))) ht6 n0t ntr (by exact tt)
          have ht7 : upd H6 t (.dK (kvT (putL st.1 p (st.2.length : Nat)))) t = some (.dK (kvT (putL st.1 p (st.2.length : Nat)))) := upd_same
          have hk7 : upd H6 t (.dK (kvT (putL st.1 p (st.2.length : Nat)))) kn = some (.dK (kvT known)) := by rw [upd_ne knt]; exact hk6
          have hpl7 : upd H6 t (.dK (kvT (putL st.1 p (st.2.length : Nat)))) pl = some (.lst (ps.map V.str)) := by rw [upd_ne plt]; exact hpl6
          generalize upd H6 t (.dK (kvT (putL st.1 p (st.2.length : Nat)))) = H7 at hp7 ht7 hk7 hpl7
          refine ⟨.ref x, rfl, x, _, _, _, _, rfl, hp7.ob, T.cl_History, T.no_History_routes, h_routes _, .inl ⟨rfl, _, SqL.of hp7.eR⟩, fun z nz => ?_⟩
          have s8 : Same H7 (upd H7 z (.dK [])) := same_new nz
          have hz8 : upd H7 z (.dK []) z = some (.dK []) := upd_same
          obtain ⟨zr, zt⟩ := hp7.rtFree nz
          have z0 : H0 z = none := hp7.same.free nz
          have ztt : z ≠ t := fun e => by rw [e, ht7] at nz; cases nz
          have zkn : z ≠ kn := fun e => by rw [e, hk7] at nz; cases nz
          generalize upd H7 z (.dK []) = H8 at s8 hz8
          have hp8 := hp7.more s8
          have rlt : (List.map V.ref rt).length < sizeLine := by rw [er]; have := ok.b; exact big (by omega)
          refine ⟨A'.R, _, _, rfl, rfl, hp8.eR, rlt, ?_⟩
          have zR : z ≠ A'.R := fun e => by rw [e, hp7.eR] at nz; cases nz
          have hp9 := hp8.addR hz8 z0 zr zt zR
          have ht9 := s8 _ _ ht7
          have hk9 := s8 _ _ hk7
          have hpl9 := s8 _ _ hpl7
          have off : ∀ {a : Addr} {o : HO} {l : List V}, a ≠ A'.R → H8 a = some o → upd H8 A'.R (.lst l) a = some o := fun na e => by rw [upd_ne na]; exact e
          have eapp : List.map V.ref rt ++ [V.ref z] = (rt ++ [z]).map V.ref := by rw [List.map_append]; rfl
          show _
          rw [eapp]
          have ht9' := off (l := (rt ++ [z]).map V.ref) (ne_of ht9 hp8.eR (fun z => nomatch z)) ht9
          have hk9' := off (l := (rt ++ [z]).map V.ref) (ne_of hk9 hp8.eR (fun z => nomatch z)) hk9
          have hpl9' := off (l := (rt ++ [z]).map V.ref) plR hpl9
          have hp9 : HistP T.C_History H0 (upd H8 A'.R (.lst ((rt ++ [z]).map V.ref))) x { hs with rts := st.2 ++ [[]] } { A' with rt := rt ++ [z] } := hp9
          generalize upd H8 A'.R (.lst ((rt ++ [z]).map V.ref)) = H9 at hp9 ht9' hk9' hpl9'
          have hr9 : (st.2 ++ [([] : Rt)])[st.2.length]? = some [] := by rw [List.getElem?_append_right (Nat.le_refl _), Nat.sub_self]; rfl
          obtain ⟨c, hc, hcv, hfin⟩ := fin hp9 ht9' (fun q => (List.mem_append.mp q).elim ntr (fun q => ztt (List.mem_singleton.mp q).symm)) hk9' (fun q => (List.mem_append.mp q).elim nkr6 (fun q => zkn (List.mem_singleton.mp q).symm)) hpl9' hr9 (Nat.zero_le _) (by rw [ps2 e1, mod_new])
          refine ⟨.str p, rfl, .ref x, rfl, x, _, _, _, _, rfl, hp9.ob, T.cl_History, T.no_History_routes, h_routes _, .ref t, rfl, .str p, rfl, t, .int (st.2.length : Nat), rfl, (by have := DGet.k (k := Sum.inr p) ht9'; rw [valT, getL_put] at this; exact this), A'.R, _, (st.2.length : Nat), .ref c, rfl, rfl, SqL.of hp9.eR, atI_nat (j := st.2.length) (by rw [List.getElem?_map]; show ((rt ++ [z])[st.2.length]?).map V.ref = _; rw [hc]; rfl), .int (hs.tabs.length : Nat), rfl, c, _, rfl, DPut.k (k := Sum.inl ((hs.tabs.length : Nat) : Int)) hcv (by decide), ?_⟩
          exact hfin
    · rintro σ H6 ⟨y5, rt, st, rfl, est, ok, ler, hp6, ht6, ntr, hk6, nkr6, hpl6⟩
      rw [List.length_map, List.take_length] at est
      have lF : A'.fv.length < sizeLine := by rw [hp6.fl]; exact big (by show hs.tabs.length ≤ 100000; omega)
      refine ⟨.ref x, rfl, x, _, _, _, _, rfl, hp6.ob, T.cl_History, T.no_History_shipped_files, h_files _, .inl ⟨rfl, _, SqL.of hp6.eF⟩, .ref f, rfl, A'.F, _, _, rfl, rfl, hp6.eF, lF, ?_⟩
      have hpT := hp6.addT (.ref f) ht6 ntr
      have ob7 : (upd H6 A'.F (.lst (A'.fv ++ [.ref f]))) x = some (.ins T.C_History A'.dx (hflds A')) := by rw [upd_ne (ne_of hp6.ob hp6.eF (fun z => nomatch z))]; exact hp6.ob
      have eS7 : (upd H6 A'.F (.lst (A'.fv ++ [.ref f]))) A'.S = some (.lst (A'.tb.map V.ref)) := by rw [upd_ne hp6.fs.symm]; exact hp6.eS
      refine ⟨.ref x, rfl, x, _, _, _, _, rfl, ob7, T.cl_History, T.no_History_slot_tables, h_tables _, .inl ⟨rfl, _, SqL.of eS7⟩, .ref t, rfl, A'.S, _, _, rfl, rfl, eS7, (by rw [List.length_map]; have : A'.tb.length = hs.tabs.length := hp6.tlen; exact big (by omega)), ?_⟩
      have eapp : List.map V.ref A'.tb ++ [V.ref t] = (A'.tb ++ [t]).map V.ref := by rw [List.map_append]; rfl
      rw [eapp]
      refine q _ { A' with fv := A'.fv ++ [.ref f], tb := A'.tb ++ [t], rt := rt } ?_
      have epl : placed hs known ps = ⟨hs.tabs ++ [st.1], st.2⟩ := by rw [est]; rfl
      rw [epl]
      exact hpT
end
end K16

set_option Elab.async false
set_option linter.all false
set_option maxRecDepth 100000
set_option maxHeartbeats 4000000
namespace K16
open PySem PySem.Spec PyProof.Rows L2 My
section
variable {P : Program} {w : World} {K : PySem.W.Frag} {mg : Str → Option Value} {base : Heap}
theorem getL_ne {κ ν : Type} [DecidableEq κ] (l : List (κ × ν)) {k j : κ} (v : ν) (h : ¬ j = k) : getL (putL l k v) j = getL l j := by
  have hk : ¬ k = j := fun e => h e.symm
  unfold getL putL
  split
  · congr 1
    rename_i ha
    clear ha
    induction l with
    | nil => rfl
    | cons p r ih =>
      by_cases e : p.1 = k
      · rw [List.map_cons, if_pos e, List.find?_cons, List.find?_cons]
        have e2 : ¬ p.1 = j := fun z => h (by rw [← z, e])
        rw [decide_eq_false e2]
        exact ih
      · rw [List.map_cons, if_neg e, List.find?_cons, List.find?_cons]
        by_cases e2 : p.1 = j
        · rw [decide_eq_true e2]
        · rw [decide_eq_false e2]
          exact ih
  · rw [List.find?_append]
    simp [hk]
theorem org_from : ∀ (mv : List (Str × Str)) (acc : List (Str × Str)) {p o : Str}, getL (mv.foldl (fun acc m => putL acc m.2 m.1) acc) p = some o → getL acc p = some o ∨ ∃ m ∈ mv, m.1 = o
  | [], acc, p, o, h => .inl h
  | m :: r, acc, p, o, h => by
    rcases org_from r (putL acc m.2 m.1) h with h | ⟨m', h1, h2⟩
    · by_cases e : p = m.2
      · subst e
        rw [getL_put] at h
        exact .inr ⟨m, List.mem_cons_self, Option.some.inj h⟩
      · rw [getL_ne _ _ e] at h
        exact .inl h
    · exact .inr ⟨m', List.mem_cons_of_mem _ h1, h2⟩
theorem last_tab {hs : HS} (h : 0 < hs.tabs.length) : hs.tabs = hs.tabs.dropLast ++ [lastT hs] := by
  have ne : hs.tabs ≠ [] := fun e => by rw [e] at h; exact absurd h (Nat.lt_irrefl _)
  unfold lastT
  rw [List.getLast?_eq_some_getLast ne]
  exact (List.dropLast_concat_getLast ne).symm
theorem hasK_tab {t : Tb} {z : Str} : hasK (kvT t) (.str z) = (getL t z).isSome := by
  show (valV (kvT t) (Sum.inr z : Key)).isSome = _
  rw [valT, Option.isSome_map]
theorem r_text (a b c : V) : (rfl3 a b c).lookup ("text" : Str) = some a := rfl
theorem r_renames (a b c : V) : (rfl3 a b c).lookup ("renames" : Str) = some b := rfl
theorem r_returns (a b c : V) : (rfl3 a b c).lookup ("returns" : Str) = some c := rfl
/-- a release that follows in a history -/
structure RelOk (hs : HS) (t : Str) (mv : List (Str × Str)) (fs : FS) : Prop where
  file : IsFile t fs
  kept : fs.kept = []
  few : fs.settings.length ≤ 1000
  mvok : MvOk mv (kvT (lastT hs)) fs
  range : ∀ p s, getL (knownOf hs mv [] (fs.settings.map (·.1))) p = some s → 0 ≤ s ∧ s.toNat < hs.rts.length
  l1 : hs.tabs.length ≤ 7
  l2 : hs.rts.length ≤ 1000
  l3 : ∀ r ∈ hs.rts, r.length ≤ 1000
  most : (placed hs (knownOf hs mv [] (fs.settings.map (·.1))) (fs.settings.map (·.1))).rts.length ≤ 12
/-- a release in the heap -/
structure RelP (K : PySem.W.Frag) (C : Addr) (H : Hp) (r : Addr) (t : Str) (mv : List (Str × Str)) : Prop where
  ex : ∃ (dx m e : Addr) (ts : List Addr), H r = some (.ins C dx (rfl3 (.str t) (.ref m) (.ref e))) ∧ Mvs K H m ts mv ∧ SqT K H e []
theorem RelP.same {C : Addr} {H H' : Hp} {r : Addr} {t : Str} {mv : List (Str × Str)} (s : Same H H') (h : RelP K C H r t mv) : RelP K C H' r t mv := by
  obtain ⟨dx, m, e, ts, h1, h2, h3⟩ := h.ex
  exact ⟨dx, m, e, ts, s _ _ h1, h2.same s, sqT_same s h3⟩
def sp_History_take_release (K : PySem.W.Frag) (T : Top K mg) : Sp := fun vs H Q _ => ∃ (H0 : Hp) (x : Addr) (hs : HS) (A : HPts) (r : Addr) (t : Str) (mv : List (Str × Str)) (fs : FS), vs = [.ref x, .int (hs.tabs.length : Nat), .ref r] ∧ HistP T.C_History H0 H x hs A ∧ RelP K T.C_Release H r t mv ∧ RelOk hs t mv fs ∧
  ∀ H' A', HistP T.C_History H0 H' x (placed hs (knownOf hs mv [] (fs.settings.map (·.1))) (fs.settings.map (·.1))) A' → Q .non H'
theorem ok_History_take_release (T : Top K mg) : FnOk P w K mg base CX0 10 T.f_History_take_release T.d_History_take_release ["self", "at", "release"] (sp_History_take_release K T) := by
  have G_shipped_file : FnOk P w K mg base CX0 9 T.f_shipped_file T.d_shipped_file ["text"] (sp_shipped_file K T) := ok_shipped_file T
  have G_are_renames : FnOk P w K mg base CX0 3 T.f_are_renames T.d_are_renames ["things", "before", "file"] (sp_are_renames K T) := ok_are_renames T
  have G_carried_slots : FnOk P w K mg base CX0 2 T.f_carried_slots T.d_carried_slots ["renames", "before", "file"] (sp_carried_slots K T) := ok_carried_slots T
  have G_are_returns : FnOk P w K mg base CX0 2 T.f_are_returns T.d_are_returns ["things", "earlier", "carried", "file"] (sp_are_returns K T) := ok_are_returns T
  have G_History_take_places : FnOk P w K mg base CX0 2 T.f_History_take_places T.d_History_take_places ["self", "at", "file", "known"] (sp_History_take_places K T) := ok_History_take_places T
  have G_History_slots : FnOk P w K mg base CX0 1 T.f_History_slots T.d_History_slots ["self"] (sp_History_slots K T) := ok_History_slots T
  refine T.F_History_take_release.ok scHistory_take_release (fun vs H Q E h => ?_) (fun cdv A outer s H vs Q E hr h => ?_)
  · obtain ⟨H0, x, hs, A, r, t, mv, fs, rfl, _⟩ := h
    rfl
  · obtain ⟨H0, x, hs, A', r, t, mv, fs, rfl, hp, rp, ok, q⟩ := h
    obtain ⟨dxr, m, e, ts, hr0, hm, he⟩ := rp.ex
    have cr := T.cl_Release
    obtain ⟨t2, p2, q2⟩ : ∃ t', PSs (cxOf CX0 P w K mg base N_History_take_release "History.take_release" (defScope s_History_take_release) T.f_History_take_release cdv A outer s H E).nox ((defBody s_History_take_release).drop 4) t' ∧ ∀ (f bd : Addr) (Hf H1 H2 : Hp) (Af : Parts), Same H H1 → FileP T.C_SettingsFile Hf H1 f t (rowsOf t) fs Af → Same H1 H2 → H2 bd = some (.dK (kvT (lastT hs))) →
        t' { nx := fun _ H' => Q .non H', rt := Q } [some (.ref x), some (.int (hs.tabs.length : Nat)), some (.ref r), some (.ref f), some (.ref bd), none, none, none, none, none] H2 := by
      refine ⟨_, (pss_cons (ps_if (pt_not (pt_val (pe_call G_are_renames (hr.mono (by decide)) (by rfl) T.g_are_renames T.F_are_renames.kp T.b_are_renames .nil pass0 (pa_cons (pe_fld (pv 2) rfl) (pa_cons (pv 4) (pa_cons (pv 3) pa_nil)))))) (pss_one ps_never) pss_nil)
      (pss_cons (ps_set (i := 5) scHistory_take_release.nd rfl (.inl rfl) (pe_call G_carried_slots (hr.mono (by decide)) (by rfl) T.g_carried_slots T.F_carried_slots.kp T.b_carried_slots .nil pass0 (pa_cons (pe_fld (pv 2) rfl) (pa_cons (pv 4) (pa_cons (pv 3) pa_nil)))))
      (pss_cons (ps_if (pt_not (pt_val (pe_call G_are_returns (hr.mono (by decide)) (by rfl) T.g_are_returns T.F_are_returns.kp T.b_are_returns .nil pass0 (pa_cons (pe_fld (pv 2) rfl) (pa_cons (pe_fld (pv 0) rfl) (pa_cons (pv 5) (pa_cons (pv 3) pa_nil))))))) (pss_one ps_never) pss_nil)
      (pss_cons (ps_setDc (own := [("named", 7), ("old", 8), ("new", 9)]) (g := gTup K 3 (gCons (gName 7) (gCons (gName 8) (gCons (gName 9) gNil)))) (i := 6) rfl scHistory_take_release.nd rfl rfl (sw_trueD rfl rfl rfl (by decide +kernel)) (pi_tup (pe_fld (pv 2) rfl)) (blkOk_by (N := N_History_take_release) (sc := defScope s_History_take_release) (by decide +kernel)) (fun _ _ _ _ _ => (pg_tup rfl (pgs_cons (pg_name (i := 7) scHistory_take_release.nd rfl (.inl rfl)) (pgs_cons (pg_name (i := 8) scHistory_take_release.nd rfl (.inl rfl)) (pgs_cons (pg_name (i := 9) scHistory_take_release.nd rfl (.inl rfl)) pgs_nil))))) (fun _ _ _ _ _ => pts_nil) (fun _ _ _ _ _ => (pv 9)) (fun _ _ _ _ _ => (pe_dget (td := tOp (rIxL K) (tFld K (tVar 0) "slot_tables") (tVar 7)) (hu_of hr) (pe_ix (r := rIxL K) ix_list (pe_fld (pv 0) rfl) (pv 7) (fun _ _ => rfl)) (pv 8) (fun _ _ => rfl))))
      (pss_cons (ps_expr (pe_meth (pv 0) T.cl_History T.me_History_take_places G_History_take_places (hr.mono (by decide)) T.b_History_take_places .nil pass0 (pa_cons (pv 1) (pa_cons (pv 3) (pa_cons (pe_dstar2 (pv 5) (pv 6)) pa_nil)))))
      (pss_one (ps_if (pt_cmpR op_gt (pe_prop (pv 0) T.cl_History T.pr_History_slots G_History_slots (hr.mono (by decide)) T.b_History_slots .nil pass0 rfl) (ClX.pe_cval (pe_glob (v := .ref T.C_History) (by rfl) T.g_History rfl)) (nomark _)) (pss_one ps_never) pss_nil))))))), fun f bd Hf H1 H2 Af s1 ff s2 hb => ?_⟩
      have s2H := s1.trans s2
      have ff2 := ff.more s2
      have hm2 := hm.same s2H
      refine ⟨.ref r, rfl, r, _, _, _, _, rfl, s2H _ _ hr0, cr, T.no_Release_renames, r_renames _ _ _, .ref bd, rfl, .ref f, rfl, m, bd, ts, mv, _, Hf, f, t, rowsOf t, fs, Af, rfl, hm2, hb, ff2, ok.mvok, fun H3 s3 => ⟨true, rfl, iteF ?_⟩⟩
      have s3H := s2H.trans s3
      refine ⟨.ref r, rfl, r, _, _, _, _, rfl, s3H _ _ hr0, cr, T.no_Release_renames, r_renames _ _ _, .ref bd, rfl, .ref f, rfl, m, bd, ts, mv, lastT hs, Hf, f, t, rowsOf t, fs, Af, rfl, hm.same s3H, s3 _ _ hb, ff2.more s3, ok.mvok.few, ok.few, fun p o h => ?_, fun H4 c s4 nc hc => ?_⟩
      · rcases org_from mv [] h with h | ⟨m', h1, h2⟩
        · cases h
        · have := ok.mvok.from_ m' h1
          rw [hasK_tab, h2] at this
          exact this
      have s4H := s3H.trans s4
      have hp4 := hp.more s4H
      refine ⟨.ref r, rfl, r, _, _, _, _, rfl, s4H _ _ hr0, cr, T.no_Release_returns, r_returns _ _ _, .ref x, rfl, x, _, _, _, _, rfl, hp4.ob, T.cl_History, T.no_History_slot_tables, h_tables _, .ref c, rfl, .ref f, rfl, e, A'.S, c, f, rfl, sqT_same s4H he, fun H5 s5 => ⟨true, rfl, iteF ?_⟩⟩
      have s5H := s4H.trans s5
      refine ⟨.ref r, rfl, r, _, _, _, _, rfl, s5H _ _ hr0, cr, T.no_Release_returns, r_returns _ _ _, e, rfl, ⟨_, sqT_same s5H he⟩, fun D nD => dc_tup (xs := []) (fun i H6 => Same H5 H6 ∧ H6 D = some (.dK [])) ?_ ?_ ?_ ?_⟩
      · exact ⟨same_new nD, upd_same⟩
      · rintro i H6 _ ⟨s6, _⟩
        exact sqT_same (s5H.trans s6) he
      · rintro i v H6 hv _
        rw [List.getElem?_nil] at hv
        cases hv
      rintro H6 ⟨s6, d6⟩
      have s6H := s5H.trans s6
      have hp6 := hp.more s6H
      have hc6 := s6 _ _ (s5 _ _ hc)
      refine ⟨.ref x, rfl, x, _, _, rfl, hp6.ob, rfl, .int (hs.tabs.length : Nat), rfl, .ref f, rfl, fun p np => ⟨.ref c, rfl, c, _, rfl, ne_of_none hc6 np, same_new np _ _ hc6, upd_same, .ref D, rfl, D, [], _, rfl, ne_of_none d6 np, ?_, upd_same, ?_, ?_⟩⟩
      · rw [upd_ne (ne_of_none d6 np), upd_ne (ne_of_none d6 np)]
        exact d6
      · show (mergeK [] (kvT (carry mv (lastT hs) (fs.settings.map (·.1))))).length + 0 ≤ sizeLine
        have h1 := length_mergeK (kvT (carry mv (lastT hs) (fs.settings.map (·.1)))) []
        rw [kvD_len] at h1
        have h2 := foldl_len (carryStep mv (lastT hs)) (carryStep_len mv (lastT hs)) (fs.settings.map (·.1)) []
        have h3 := ok.few
        rw [List.length_nil, List.length_map] at h2
        rw [List.length_nil] at h1
        have h4 : (carry mv (lastT hs) (fs.settings.map (·.1))).length ≤ 1000 := by unfold carry; omega
        exact Nat.le_trans (by omega) (Nat.le_of_lt (small1000 (Nat.le_refl 1000)))
      have ekn : mergeK (mergeK [] (kvT (carry mv (lastT hs) (fs.settings.map (·.1))))) [] = kvT (knownOf hs mv [] (fs.settings.map (·.1))) := by
        have := kvD_merge (f := (Sum.inr : Str → Key)) (g := V.int) inr_inj (carry mv (lastT hs) (fs.settings.map (·.1))) []
        show mergeK [] (kvT (carry mv (lastT hs) (fs.settings.map (·.1)))) = _
        exact this
      rw [ekn, upd_upd, upd_upd]
      have s7 : Same H6 (upd H6 p (.dK (kvT (knownOf hs mv [] (fs.settings.map (·.1)))))) := same_new np
      have hk7 : upd H6 p (.dK (kvT (knownOf hs mv [] (fs.settings.map (·.1))))) p = some (.dK (kvT (knownOf hs mv [] (fs.settings.map (·.1))))) := upd_same
      obtain ⟨pr, _⟩ := hp6.rtFree np
      generalize upd H6 p (.dK (kvT (knownOf hs mv [] (fs.settings.map (·.1))))) = H7 at s7 hk7
      have hp7 := hp6.more s7
      have ff7 := (ff2.more s3).more ((s4.trans s5).trans (s6.trans s7))
      refine ⟨H0, x, hs, A', Hf, f, t, rowsOf t, fs, Af, p, _, rfl, hp7, ff7, hk7, pr, ok.range, ok.few, ok.l2, Nat.le_trans ok.l1 (by decide), ok.l3, fun H8 A8 hp8 => ?_⟩
      refine ⟨.ref x, rfl, x, _, _, rfl, hp8.ob, H0, x, _, A8, rfl, hp8, T.C_History, _, .int 12, _, rfl, T.cr_History, T.cv_History_MOST_SLOTS, _, _, rfl, rfl, _, rfl, ?_⟩
      have := ok.most
      rw [decide_eq_false (by omega)]
      refine iteF ?_
      exact q _ A8 hp8
    refine ⟨_, (pss_cons (ps_if (pt_cmpR op_eq (pv 1) (ClX.pe_cval (pe_glob (v := .ref T.C_History) (by rfl) T.g_History rfl)) (nomark _)) (pss_one ps_never) pss_nil)
      (pss_cons (ps_set (i := 3) scHistory_take_release.nd rfl (.inl rfl) (pe_call G_shipped_file (hr.mono (by decide)) (by rfl) T.g_shipped_file T.F_shipped_file.kp T.b_shipped_file .nil pass0 (pa_cons (pe_fld (pv 2) rfl) pa_nil)))
      (pss_cons (ps_if (pt_cmpR op_isN (pv 3) pe_non (nomark _)) (pss_one ps_never) pss_nil)
      (pss_cons (ps_set (i := 4) scHistory_take_release.nd rfl (.inl rfl) (pe_ifExp (pt_cmpR op_gt (pv 1) pe_int (nomark _)) (pe_ix ix_list (pe_fld (pv 0) rfl) (pe_un un_neg pe_int) (fun _ _ => rfl)) pe_dnewK))
      p2)))), ?_⟩
    refine ⟨.int (hs.tabs.length : Nat), rfl, T.C_History, _, .int 8, _, rfl, T.cr_History, T.cv_History_MOST_RELEASES, rfl, _, rfl, ?_⟩
    have n8 : ¬ V.int (hs.tabs.length : Nat) = V.int 8 := fun z => by
      have := V.int.inj z
      have := ok.l1
      omega
    rw [decide_eq_false n8]
    refine iteF ?_
    refine ⟨.ref r, rfl, r, _, _, _, _, rfl, hr0, cr, T.no_Release_text, r_text _ _ _, t, fs, rfl, ok.file, ok.kept, fun H1 f Af s1 ff => ?_⟩
    refine ⟨.ref f, rfl, rfl, _, rfl, ?_⟩
    rw [decide_eq_false (fun z => nomatch z)]
    refine iteF ?_
    have hp1 := hp.more s1
    refine ⟨.int (hs.tabs.length : Nat), rfl, _, 0, rfl, rfl, _, rfl, ite2 (fun e => ?_) (fun e => ?_)⟩
    · have pos : 0 < hs.tabs.length := by
        have := of_decide_eq_true e
        omega
      have el := last_tab pos
      have hl : hs.tabs[hs.tabs.length - 1]? = some (lastT hs) := by
        rw [el]
        simp
      obtain ⟨c, hc, hcv⟩ := hp1.table hl
      have hat : atI (A'.tb.map V.ref) (-1) = some (.ref c) := by
        have hlen := hp1.tlen
        have e2 : A'.tb = A'.tb.dropLast ++ [c] := by
          have ne : A'.tb ≠ [] := fun z => by rw [z] at hlen; rw [← hlen] at pos; exact absurd pos (Nat.lt_irrefl _)
          have h3 : A'.tb.getLast ne = c := by
            rw [List.getLast_eq_getElem]
            rw [← hlen] at hc
            exact Option.some.inj ((List.getElem?_eq_getElem _).symm.trans hc)
          rw [← h3, List.dropLast_concat_getLast]
        rw [e2, List.map_append]
        exact atI_last _ _
      refine ⟨.ref x, rfl, x, _, _, _, _, rfl, hp1.ob, T.cl_History, T.no_History_slot_tables, h_tables _, _, rfl, A'.S, _, -1, .ref c, rfl, rfl, SqL.of hp1.eS, hat, ?_⟩
      exact q2 f c _ _ _ Af s1 ff (fun _ _ z => z) hcv
    · refine fun d nd => ?_
      have zero : hs.tabs = [] := by
        have : ¬ (0 : Int) < (hs.tabs.length : Nat) := fun z => e (decide_eq_true z)
        exact List.length_eq_zero_iff.mp (by omega)
      have el : lastT hs = [] := by unfold lastT; rw [zero]; rfl
      exact q2 f d _ _ _ Af s1 ff (same_new nd) (by rw [upd_same, el]; rfl)
end
end K16

set_option Elab.async false
set_option linter.all false
set_option maxRecDepth 100000
set_option maxHeartbeats 4000000
namespace K16
open PySem PySem.Spec PyProof.Rows L2 My
section
variable {P : Program} {w : World} {K : PySem.W.Frag} {mg : Str → Option Value} {base : Heap}
/-- a release as the texts tell it: its text, its renames, its file -/
abbrev RelD := Str × List (Str × Str) × FS
def nextH (hs : HS) (q : RelD) : HS := placed hs (knownOf hs q.2.1 [] (q.2.2.settings.map (·.1))) (q.2.2.settings.map (·.1))
def Takes : HS → List RelD → Prop
  | _, [] => True
  | hs, q :: r => RelOk hs q.1 q.2.1 q.2.2 ∧ Takes (nextH hs q) r
theorem Takes.get : ∀ {l : List RelD} {hs : HS}, Takes hs l → ∀ {i : Nat} {q : RelD}, l[i]? = some q → RelOk ((l.take i).foldl nextH hs) q.1 q.2.1 q.2.2
  | [], _, _, i, q, e => by rw [List.getElem?_nil] at e; cases e
  | p :: r, hs, h, 0, q, e => by cases e; exact h.1
  | p :: r, hs, h, i + 1, q, e => by
    rw [List.getElem?_cons_succ] at e
    rw [List.take_succ_cons, List.foldl_cons]
    exact Takes.get h.2 e
theorem nextH_len (hs : HS) (q : RelD) : (nextH hs q).tabs.length = hs.tabs.length + 1 := List.length_append ..
def hf1 (F : Addr) : List (Str × V) := [("shipped_files", .ref F)]
def hf2 (F S : Addr) : List (Str × V) := [("shipped_files", .ref F), ("slot_tables", .ref S)]
def hf3 (F S R : Addr) : List (Str × V) := [("shipped_files", .ref F), ("slot_tables", .ref S), ("routes", .ref R)]
theorem stay2 {H : Hp} {a p x : Addr} {o o1 o2 : HO} (h : H a = some o) (np : H p = none) (ax : a ≠ x) : (upd (upd H p o1) x o2) a = some o := by
  rw [upd_ne ax, upd_ne (ne_of_none h np)]
  exact h
def sp_History___init__ (K : PySem.W.Frag) (T : Top K mg) : Sp := fun vs H Q _ => ∃ (HB : Hp) (x dx e p : Addr) (rs : List Addr) (rels : List RelD), vs = [.ref x, .ref e, .ref p] ∧ Same HB H ∧ HB x = none ∧ H x = some (.ins T.C_History dx []) ∧ SqT K HB p (rs.map V.ref) ∧ SqT K HB e [] ∧
  Paired (fun r (q : RelD) => RelP K T.C_Release HB r q.1 q.2.1) rs rels ∧ rels ≠ [] ∧ Takes hs0 rels ∧ ∀ H' A, HistP T.C_History HB H' x (rels.foldl nextH hs0) A → Q .non H'
theorem ok_History___init__ (T : Top K mg) : FnR P w K mg base CX0 11 T.f_History___init__ (starSp 1 (.ref T.dv_History___init___exclusions) (sp_History___init__ K T)) := by
  have G_History_take_release : FnOk P w K mg base CX0 10 T.f_History_take_release T.d_History_take_release ["self", "at", "release"] (sp_History_take_release K T) := ok_History_take_release T
  have G_History_take_exclusion : FnOk P w K mg base CX0 1 T.f_History_take_exclusion T.d_History_take_exclusion ["self", "at", "thing"] (sp_History_take_exclusion K T) := ok_History_take_exclusion T
  refine My.Fun.okS0 (ps := ["self"]) T.F_History___init__ scHistory___init__ T.nk_History___init__ rfl T.sb_History___init__ (fun cdv A outer s H vs Q E hr h => ?_)
  obtain ⟨HB, x, dx, e, p, rs, rels, rfl, s0, nx, hx, hp, he, pr, ne, tk, q⟩ := h
  refine ⟨_, (pss_cons (ps_if (pt_cmpR op_eq (pe_callB call_len_seq (by rfl) T.m_len (by decide +kernel) (pa_cons (pv 2) pa_nil)) pe_int (nomark _)) (pss_one ps_never) pss_nil)
      (pss_cons (ps_fld (pv 0) (pe_lst pa_nil) rfl)
      (pss_cons (ps_fld (pv 0) (pe_lst pa_nil) rfl)
      (pss_cons (ps_fld (pv 0) (pe_lst pa_nil) rfl)
      (pss_cons (ps_fld (pv 0) pe_dnewT rfl)
      (pss_cons (ps_for PassesOwn.never rfl (pi_enumT (by rfl) T.m_enumerate (pa_cons (pv 2) pa_nil)) (pg_tup rfl (pgs_cons (pg_name (i := 3) scHistory___init__.nd rfl (.inl rfl)) (pgs_cons (pg_name (i := 4) scHistory___init__.nd rfl (.inl rfl)) pgs_nil))) (pss_one (ps_expr (pe_meth (pv 0) T.cl_History T.me_History_take_release G_History_take_release (hr.mono (by decide)) T.b_History_take_release .nil pass0 (pa_cons (pv 3) (pa_cons (pv 4) pa_nil))))))
      (pss_one (ps_for PassesOwn.never rfl (pi_enumT (by rfl) T.m_enumerate (pa_cons (pv 1) pa_nil)) (pg_tup rfl (pgs_cons (pg_name (i := 3) scHistory___init__.nd rfl (.inl rfl)) (pgs_cons (pg_name (i := 5) scHistory___init__.nd rfl (.inl rfl)) pgs_nil))) (pss_one (ps_expr (pe_meth (pv 0) T.cl_History T.me_History_take_exclusion G_History_take_exclusion (hr.mono (by decide)) T.b_History_take_exclusion .nil pass0 (pa_cons (pv 3) (pa_cons (pv 5) pa_nil))))))))))))), ?_⟩
  have hrl : rs.length = rels.length := My.Paired.len pr
  have pos : 0 < rels.length := List.length_pos_iff.mpr ne
  refine ⟨.ref p, rfl, p, _, rfl, .inr (sqT_same s0 hp), rfl, _, rfl, ?_⟩
  have n0 : ¬ V.int ((rs.map V.ref).length : Nat) = V.int 0 := fun z => by
    have := V.int.inj z
    rw [List.length_map, hrl] at this
    omega
  rw [decide_eq_false n0]
  refine iteF ?_
  refine ⟨Nat.zero_le _, fun F nF => ⟨.ref x, rfl, x, _, _, _, rfl, same_new nF _ _ hx, T.cl_History, T.no_History_shipped_files, by show (0 : Nat) < 1000; decide, ?_⟩⟩
  rw [show putF "shipped_files" (.ref F) [] = hf1 F from rfl]
  have nF0 : HB F = none := s0.free nF
  have Fx : F ≠ x := fun z => by rw [z, hx] at nF; cases nF
  have s1 : Same HB (upd (upd H F (.lst [])) x (.ins T.C_History dx (hf1 F))) := upd_off nx (s0.trans (same_new nF))
  have x1 : (upd (upd H F (.lst [])) x (.ins T.C_History dx (hf1 F))) x = some (.ins T.C_History dx (hf1 F)) := upd_same
  have f1 : (upd (upd H F (.lst [])) x (.ins T.C_History dx (hf1 F))) F = some (.lst []) := by rw [upd_ne Fx]; exact upd_same
  generalize upd (upd H F (.lst [])) x (.ins T.C_History dx (hf1 F)) = H1 at s1 x1 f1
  refine ⟨Nat.zero_le _, fun S nS => ⟨.ref x, rfl, x, _, _, _, rfl, same_new nS _ _ x1, T.cl_History, T.no_History_slot_tables, by show (1 : Nat) < 1000; decide, ?_⟩⟩
  rw [show putF "slot_tables" (.ref S) (hf1 F) = hf2 F S from rfl]
  have nS0 : HB S = none := s1.free nS
  have Sx : S ≠ x := fun z => by rw [z, x1] at nS; cases nS
  have FS : F ≠ S := ne_of_none f1 nS
  have s2 : Same HB (upd (upd H1 S (.lst [])) x (.ins T.C_History dx (hf2 F S))) := upd_off nx (s1.trans (same_new nS))
  have x2 : (upd (upd H1 S (.lst [])) x (.ins T.C_History dx (hf2 F S))) x = some (.ins T.C_History dx (hf2 F S)) := upd_same
  have t2 : (upd (upd H1 S (.lst [])) x (.ins T.C_History dx (hf2 F S))) S = some (.lst []) := by rw [upd_ne Sx]; exact upd_same
  have f2 := stay2 (o1 := .lst []) (o2 := .ins T.C_History dx (hf2 F S)) f1 nS Fx
  generalize upd (upd H1 S (.lst [])) x (.ins T.C_History dx (hf2 F S)) = H2 at s2 x2 t2 f2
  refine ⟨Nat.zero_le _, fun R nR => ⟨.ref x, rfl, x, _, _, _, rfl, same_new nR _ _ x2, T.cl_History, T.no_History_routes, by show (2 : Nat) < 1000; decide, ?_⟩⟩
  rw [show putF "routes" (.ref R) (hf2 F S) = hf3 F S R from rfl]
  have nR0 : HB R = none := s2.free nR
  have Rx : R ≠ x := fun z => by rw [z, x2] at nR; cases nR
  have FR : F ≠ R := ne_of_none f2 nR
  have SR : S ≠ R := ne_of_none t2 nR
  have s3 : Same HB (upd (upd H2 R (.lst [])) x (.ins T.C_History dx (hf3 F S R))) := upd_off nx (s2.trans (same_new nR))
  have x3 : (upd (upd H2 R (.lst [])) x (.ins T.C_History dx (hf3 F S R))) x = some (.ins T.C_History dx (hf3 F S R)) := upd_same
  have r3 : (upd (upd H2 R (.lst [])) x (.ins T.C_History dx (hf3 F S R))) R = some (.lst []) := by rw [upd_ne Rx]; exact upd_same
  have f3 := stay2 (o1 := .lst []) (o2 := .ins T.C_History dx (hf3 F S R)) f2 nR Fx
  have t3 := stay2 (o1 := .lst []) (o2 := .ins T.C_History dx (hf3 F S R)) t2 nR Sx
  generalize upd (upd H2 R (.lst [])) x (.ins T.C_History dx (hf3 F S R)) = H3 at s3 x3 t3 f3 r3
  refine fun D nD => ⟨.ref x, rfl, x, _, _, _, rfl, same_new nD _ _ x3, T.cl_History, T.no_History_clashes, by show (3 : Nat) < 1000; decide, ?_⟩
  rw [show putF "clashes" (.ref D) (hf3 F S R) = hflds ⟨dx, F, S, R, D, [], [], []⟩ from rfl]
  have Dx : D ≠ x := fun z => by rw [z, x3] at nD; cases nD
  have s4 : Same HB (upd (upd H3 D (.dT [])) x (.ins T.C_History dx (hflds ⟨dx, F, S, R, D, [], [], []⟩))) := upd_off nx (s3.trans (same_new nD))
  have x4 : (upd (upd H3 D (.dT [])) x (.ins T.C_History dx (hflds ⟨dx, F, S, R, D, [], [], []⟩))) x = some (.ins T.C_History dx (hflds ⟨dx, F, S, R, D, [], [], []⟩)) := upd_same
  have d4 : (upd (upd H3 D (.dT [])) x (.ins T.C_History dx (hflds ⟨dx, F, S, R, D, [], [], []⟩))) D = some (.dT []) := by rw [upd_ne Dx]; exact upd_same
  have f4 := stay2 (o1 := .dT []) (o2 := .ins T.C_History dx (hflds ⟨dx, F, S, R, D, [], [], []⟩)) f3 nD Fx
  have t4 := stay2 (o1 := .dT []) (o2 := .ins T.C_History dx (hflds ⟨dx, F, S, R, D, [], [], []⟩)) t3 nD Sx
  have r4 := stay2 (o1 := .dT []) (o2 := .ins T.C_History dx (hflds ⟨dx, F, S, R, D, [], [], []⟩)) r3 nD Rx
  generalize upd (upd H3 D (.dT [])) x (.ins T.C_History dx (hflds ⟨dx, F, S, R, D, [], [], []⟩)) = H4 at s4 x4 t4 f4 r4 d4
  have hp4 : HistP T.C_History HB H4 x hs0 ⟨dx, F, S, R, D, [], [], []⟩ := ⟨s4, x4, f4, t4, r4, d4, .nil, .nil, List.nodup_nil, FS, FR, SR, ⟨nx, nF0, nS0, nR0⟩, rfl⟩
  refine ⟨.ref p, rfl, p, _, rfl, sqT_same hp4.same hp, for_it (walk_enumT (xs := rs.map V.ref)) (fun i σ H5 => ∃ y3 y4 A, σ = [some (.ref x), some (.ref e), some (.ref p), y3, y4, none] ∧ ((rels.take i).foldl nextH hs0).tabs.length = i ∧ HistP T.C_History HB H5 x ((rels.take i).foldl nextH hs0) A) ?_ ?_ ?_ ?_⟩
  · exact ⟨none, none, _, rfl, rfl, hp4⟩
  · rintro i σ H5 _ ⟨_, _, A5, rfl, _, h5⟩
    exact sqT_same h5.same hp
  · rintro i v σ H5 H6 hi ⟨y3, y4, A5, rfl, len, h5⟩ ⟨t, z1, z2, rfl, nt, rfl, e1, e2⟩
    cases e1
    replace e2 : (rs.map V.ref)[i]? = some z2 := e2
    rw [List.getElem?_map] at e2
    cases er : rs[i]? with
    | none => rw [er] at e2; cases e2
    | some r =>
      rw [er] at e2
      cases e2
      have hil : i < rels.length := by rw [← hrl]; exact (List.getElem?_eq_some_iff.mp er).1
      have hq := List.getElem?_eq_getElem hil
      generalize rels[i] = qd at hq
      obtain ⟨r', h1, rp⟩ := My.Paired.get pr hq
      rw [er] at h1
      cases h1
      have h6 := h5.more (same_new (o := .tup [.int (i : Nat), .ref r]) nt)
      have ok := tk.get hq
      refine ⟨t, _, rfl, SqT.of upd_same, rfl, .int (i : Nat), [.ref r], rfl, .ref r, [], rfl, rfl, ?_⟩
      refine ⟨.ref x, rfl, x, _, _, rfl, h6.ob, rfl, .int (i : Nat), rfl, .ref r, rfl, HB, x, (rels.take i).foldl nextH hs0, A5, r, qd.1, qd.2.1, qd.2.2, (by rw [len]; rfl), h6, rp.same h6.same, ok, fun H7 A7 h7 => ?_⟩
      refine ⟨some (.int (i : Nat)), some (.ref r), A7, rfl, ?_, ?_⟩
      · rw [foldl_take nextH hs0 hq, nextH_len, len]
      · rw [foldl_take nextH hs0 hq]
        exact h7
  · rintro σ H5 ⟨y3, y4, A5, rfl, _, h5⟩
    rw [List.length_map, hrl, List.take_length] at h5
    refine ⟨.ref e, rfl, e, _, rfl, sqT_same h5.same he, for_it (walk_enumT (xs := [])) (fun _ σ H6 => σ = [some (.ref x), some (.ref e), some (.ref p), y3, y4, none] ∧ H6 = H5) ?_ ?_ ?_ ?_⟩
    · exact ⟨rfl, rfl⟩
    · rintro i σ H6 _ ⟨rfl, rfl⟩
      exact sqT_same h5.same he
    · rintro i v σ H6 H7 hi _ _
      exact absurd hi (Nat.not_lt_zero _)
    · rintro σ H6 ⟨rfl, rfl⟩
      exact q _ A5 h5
end
end K16

set_option Elab.async false
set_option linter.all false
set_option maxRecDepth 100000
set_option maxHeartbeats 4000000
namespace K16
open PySem PySem.Spec PyProof.Rows L2 My
section
variable {P : Program} {w : World} {K : PySem.W.Frag} {mg : Str → Option Value} {base : Heap}
theorem dk_lst {b p : Addr} {H : Hp} {xs : List V} {ds : List PyData} (hb : Bag H b) (np : H p = none) (h : DKs b H xs ds) : DK b (upd H p (.lst xs)) (.ref p) (.list ds) := DK.lst upd_same (hb.ne np) (h.keep (Kept.new np))
theorem dk_tup {b p : Addr} {H : Hp} {xs : List V} {ds : List PyData} (hb : Bag H b) (np : H p = none) (h : DKs b H xs ds) : DK b (upd H p (.tup xs)) (.ref p) (.tuple ds) := DK.tup upd_same (hb.ne np) (h.keep (Kept.new np))
theorem dks_mem {b : Addr} {H : Hp} {vs : List V} {ds : List PyData} {v : V} (h : DKs b H vs ds) (hv : v ∈ vs) : ∃ d ∈ ds, DK b H v d := by
  obtain ⟨i, hi⟩ := List.getElem?_of_mem hv
  obtain ⟨d, hd, _⟩ := h.now.get hi
  refine ⟨d, List.mem_of_getElem? hd, fun H' k => ?_⟩
  obtain ⟨d', e, q⟩ := (h H' k).get hi
  rw [hd] at e
  cases e
  exact q
def anyDs : List PyData := [.none, .int 7, .bool true, .str "ab", .str "", .list [], .list [.int 1], .tuple [], .tuple [.none], .list [.list [.str "a.x"]], .list [.tuple [.str "a.x", .str "a.y"], .int 3], .tuple [.str "a.x"]]
def sp_L_any (K : PySem.W.Frag) : Sp := fun vs H Q _ => ∃ (b : Addr), vs = [.ref b] ∧ Bag H b ∧ ∀ H' v d, d ∈ anyDs → Kept b H H' → Bag H' b → DK b H' v d → Q v H'
theorem ok_L_any (T : Top K mg) : FnOk P w K mg base CX0 3 T.f__law_any T.d__law_any ["_law_bag_here"] (sp_L_any K) := by
  have G__law_of : FnOk P w K mg base CX0 2 T.f__law_of T.d__law_of ["_law_bag_here", "_law_some"] (sp_L_of K) := ok_L_of T
  refine T.F__law_any.ok scL_any (fun vs H Q E h => ?_) (fun cdv A outer s H vs Q E hr h => ?_)
  · obtain ⟨b, rfl, _⟩ := h
    rfl
  · obtain ⟨b, rfl, hb, q⟩ := h
    refine ⟨_, (pss_cons (ps_set (i := 1) scL_any.nd rfl (.inl rfl) (pe_lst (pa_cons pe_non (pa_cons pe_int (pa_cons pe_bl (pa_cons pe_str (pa_cons pe_str (pa_cons (pe_lst pa_nil) (pa_cons (pe_lst (pa_cons pe_int pa_nil)) (pa_cons (pe_tup pa_nil) (pa_cons (pe_tup (pa_cons pe_non pa_nil)) (pa_cons (pe_lst (pa_cons (pe_lst (pa_cons pe_str pa_nil)) pa_nil)) (pa_cons (pe_lst (pa_cons (pe_tup (pa_cons pe_str (pa_cons pe_str pa_nil))) (pa_cons pe_int pa_nil))) (pa_cons (pe_tup (pa_cons pe_str pa_nil)) pa_nil))))))))))))))
      (pss_one (ps_ret (pe_call G__law_of (hr.mono (by decide)) (by rfl) T.g__law_of T.F__law_of.kp T.b__law_of .nil pass0 (pa_cons (pv 0) (pa_cons (pv 1) pa_nil)))))), ?_⟩
    refine ⟨Nat.zero_le _, fun l1 n1 => ?_⟩
    have a1 := DKs.cons (dk_lst hb n1 DKs.nil) DKs.nil
    have k1 : Kept b H (upd H l1 (.lst [])) := Kept.new n1
    have b1 := hb.new (o := .lst []) n1
    generalize upd H l1 (.lst []) = H1 at a1 k1 b1
    refine ⟨Nat.le_of_ble_eq_true rfl, fun l2 n2 => ?_⟩
    have a2 := (a1.keep (Kept.new n2)).app (.cons (dk_lst b1 n2 (.cons (.int 1) .nil)) .nil)
    have k2 := k1.trans (Kept.new (o := .lst [.int 1]) n2)
    have b2 := b1.new (o := .lst [.int 1]) n2
    generalize upd H1 l2 (.lst [.int 1]) = H2 at a2 k2 b2
    refine ⟨Nat.zero_le _, fun l3 n3 => ?_⟩
    have a3 := (a2.keep (Kept.new n3)).app (.cons (dk_tup b2 n3 .nil) .nil)
    have k3 := k2.trans (Kept.new (o := .tup []) n3)
    have b3 := b2.new (o := .tup []) n3
    generalize upd H2 l3 (.tup []) = H3 at a3 k3 b3
    refine ⟨Nat.le_of_ble_eq_true rfl, fun l4 n4 => ?_⟩
    have a4 := (a3.keep (Kept.new n4)).app (.cons (dk_tup b3 n4 (.cons .non .nil)) .nil)
    have k4 := k3.trans (Kept.new (o := .tup [.non]) n4)
    have b4 := b3.new (o := .tup [.non]) n4
    generalize upd H3 l4 (.tup [.non]) = H4 at a4 k4 b4
    refine ⟨Nat.le_of_ble_eq_true rfl, fun l5 n5 => ?_⟩
    have c5 := dk_lst b4 n5 (.cons (.str "a.x") .nil)
    have a5 := a4.keep (Kept.new (o := .lst [.str "a.x"]) n5)
    have k5 := k4.trans (Kept.new (o := .lst [.str "a.x"]) n5)
    have b5 := b4.new (o := .lst [.str "a.x"]) n5
    generalize upd H4 l5 (.lst [.str "a.x"]) = H5 at a5 k5 b5 c5
    refine ⟨Nat.le_of_ble_eq_true rfl, fun l6 n6 => ?_⟩
    have a6 := (a5.keep (Kept.new n6)).app (.cons (dk_lst b5 n6 (.cons c5 .nil)) .nil)
    have k6 := k5.trans (Kept.new (o := .lst [.ref l5]) n6)
    have b6 := b5.new (o := .lst [.ref l5]) n6
    generalize upd H5 l6 (.lst [.ref l5]) = H6 at a6 k6 b6
    refine ⟨Nat.le_of_ble_eq_true rfl, fun l7 n7 => ?_⟩
    have c7 := dk_tup b6 n7 (.cons (.str "a.x") (.cons (.str "a.y") .nil))
    have a7 := a6.keep (Kept.new (o := .tup [.str "a.x", .str "a.y"]) n7)
    have k7 := k6.trans (Kept.new (o := .tup [.str "a.x", .str "a.y"]) n7)
    have b7 := b6.new (o := .tup [.str "a.x", .str "a.y"]) n7
    generalize upd H6 l7 (.tup [.str "a.x", .str "a.y"]) = H7 at a7 k7 b7 c7
    refine ⟨Nat.le_of_ble_eq_true rfl, fun l8 n8 => ?_⟩
    have a8 := (a7.keep (Kept.new n8)).app (.cons (dk_lst b7 n8 (.cons c7 (.cons (.int 3) .nil))) .nil)
    have k8 := k7.trans (Kept.new (o := .lst [.ref l7, .int 3]) n8)
    have b8 := b7.new (o := .lst [.ref l7, .int 3]) n8
    generalize upd H7 l8 (.lst [.ref l7, .int 3]) = H8 at a8 k8 b8
    refine ⟨Nat.le_of_ble_eq_true rfl, fun l9 n9 => ?_⟩
    have a9 := (a8.keep (Kept.new n9)).app (.cons (dk_tup b8 n9 (.cons (.str "a.x") .nil)) .nil)
    have k9 := k8.trans (Kept.new (o := .tup [.str "a.x"]) n9)
    have b9 := b8.new (o := .tup [.str "a.x"]) n9
    generalize upd H8 l9 (.tup [.str "a.x"]) = H9 at a9 k9 b9
    have all : DKs b H9 [.non, .int 7, .bl true, .str "ab", .str "", .ref l1, .ref l2, .ref l3, .ref l4, .ref l6, .ref l8, .ref l9] anyDs := .cons .non (.cons (.int 7) (.cons (.bl true) (.cons (.str "ab") (.cons (.str "") a9))))
    refine ⟨Nat.le_of_ble_eq_true rfl, fun L nL => ?_⟩
    refine ⟨.ref b, rfl, .ref L, rfl, b, L, _, rfl, b9.new nL, upd_same, b9.ne nL, (fun z => nomatch z), Nat.le_of_ble_eq_true rfl, fun v n m hv n0 m0 m1 => ?_⟩
    have kl := Kept.new (b := b) (o := .lst [.non, .int 7, .bl true, .str "ab", .str "", .ref l1, .ref l2, .ref l3, .ref l4, .ref l6, .ref l8, .ref l9]) nL
    obtain ⟨d, hd, dk⟩ := dks_mem all hv
    exact q _ v d hd ((k9.trans kl).trans Kept.at) ⟨n, m, upd_same, n0, m0, m1⟩ ((dk.keep kl).keep Kept.at)
def plainD : PyData → PyData
  | .list l => .tuple l
  | d => d
def sp_L_plain (K : PySem.W.Frag) : Sp := fun vs H Q _ => ∃ (v : V) (d : PyData), vs = [v] ∧ DD H v d ∧ ∀ H' v', Same H H' → DD H' v' (plainD d) → Q v' H'
theorem ok_L_plain (T : Top K mg) : FnOk P w K mg base CX0 1 T.f__law_plain T.d__law_plain ["_law_what"] (sp_L_plain K) := by
  refine T.F__law_plain.ok scL_plain (fun vs H Q E h => ?_) (fun cdv A outer s H vs Q E hr h => ?_)
  · obtain ⟨v, d, rfl, _⟩ := h
    rfl
  · obtain ⟨v, d, rfl, hd, q⟩ := h
    refine ⟨_, (pss_one (ps_ret (pe_ifExp (pt_val (pe_callB call_isi (by rfl) T.m_isinstance (by decide +kernel) (pa_cons (pv 0) (pa_cons (pe_bltn (v := .ty "list") (by rfl) T.m_list (by decide +kernel) rfl) pa_nil)))) (pe_callTy call_tuple_of (by rfl) T.m_tuple (by decide +kernel) (pa_cons (pv 0) pa_nil)) (pv 0)))), ?_⟩
    refine ⟨v, rfl, _, _, _, _, isListD d, rfl, ClsV.ty "list", hd.ty, kit_ty (kit_list d), _, rfl, ?_⟩
    cases hd with
    | non => exact iteF ⟨_, rfl, q _ _ (Same.refl _) .non⟩
    | bl b => exact iteF ⟨_, rfl, q _ _ (Same.refl _) (.bl b)⟩
    | int b => exact iteF ⟨_, rfl, q _ _ (Same.refl _) (.int b)⟩
    | str b => exact iteF ⟨_, rfl, q _ _ (Same.refl _) (.str b)⟩
    | lst e ds => exact iteT ⟨_, rfl, _, _, rfl, .inl ⟨SqL.of e, fun p np => q _ _ (same_new np) (.tup upd_same (ds.same (same_new np)))⟩⟩
    | tup e ds => exact iteF ⟨_, rfl, q _ _ (Same.refl _) (.tup e ds)⟩
theorem lent_of {H : Hp} {v : V} {d : PyData} (h : DD H v d) : Lent K H (isListD d) v := by
  cases h with
  | non => exact .inl (.inl rfl)
  | bl b => exact .inl (.inr (.inl ⟨b, rfl⟩))
  | int i => exact .inl (.inr (.inr (.inl ⟨i, rfl⟩)))
  | str z => exact .inl (.inr (.inr (.inr ⟨z, rfl⟩)))
  | lst e ds => exact ⟨_, _, rfl, e⟩
  | tup e ds => exact .inr ⟨_, _, rfl, SqT.of e⟩
theorem un_dd {x : Addr} {H0 H' : Hp} {v v' : V} {d : PyData} (h : DD H0 v d) (s : Same H0 H') (u : UnA K x H0 H' (isListD d) v v') : DD H' v' (plainD d) := by
  cases h with
  | non => obtain ⟨_, rfl⟩ := u; exact .non
  | bl b => obtain ⟨_, rfl⟩ := u; exact .bl b
  | int i => obtain ⟨_, rfl⟩ := u; exact .int i
  | str z => obtain ⟨_, rfl⟩ := u; exact .str z
  | lst e ds =>
    obtain ⟨l, xs, t, e1, hl, rfl, _, _, ht⟩ := u
    cases e1
    rw [e] at hl
    cases hl
    exact .tup ht (ds.same s)
  | tup e ds => obtain ⟨_, rfl⟩ := u; exact .tup (s _ _ e) (ds.same s)
theorem okD_plain {d : PyData} (h : OkD d) : OkD (plainD d) := by
  cases d <;> exact h
theorem any_ok : ∀ d ∈ anyDs, OkD d :=
  List.forall_mem_cons.mpr ⟨trivial, List.forall_mem_cons.mpr ⟨⟨by decide, by decide⟩, List.forall_mem_cons.mpr ⟨trivial, List.forall_mem_cons.mpr ⟨⟨by decide, by decide⟩, List.forall_mem_cons.mpr ⟨⟨by decide, by decide⟩,
  List.forall_mem_cons.mpr ⟨⟨by decide, fun _ h => nomatch h⟩, List.forall_mem_cons.mpr ⟨⟨by decide, List.forall_mem_cons.mpr ⟨(⟨by decide, by decide⟩ : (0 : Int) ≤ 1 ∧ (1 : Int) ≤ 1000), fun _ h => nomatch h⟩⟩,
  List.forall_mem_cons.mpr ⟨⟨by decide, fun _ h => nomatch h⟩, List.forall_mem_cons.mpr ⟨⟨by decide, List.forall_mem_cons.mpr ⟨trivial, fun _ h => nomatch h⟩⟩,
  List.forall_mem_cons.mpr ⟨⟨by decide, List.forall_mem_cons.mpr ⟨(⟨by decide, List.forall_mem_cons.mpr ⟨(⟨by decide, by decide⟩ : Plain 20 "a.x"), fun _ h => nomatch h⟩⟩ : Part (.list [.str "a.x"])), fun _ h => nomatch h⟩⟩,
  List.forall_mem_cons.mpr ⟨⟨by decide, List.forall_mem_cons.mpr ⟨(⟨by decide, List.forall_mem_cons.mpr ⟨(⟨by decide, by decide⟩ : Plain 20 "a.x"), List.forall_mem_cons.mpr ⟨(⟨by decide, by decide⟩ : Plain 20 "a.y"), fun _ h => nomatch h⟩⟩⟩ : Part (.tuple [.str "a.x", .str "a.y"])), List.forall_mem_cons.mpr ⟨(⟨by decide, by decide⟩ : (0 : Int) ≤ 3 ∧ (3 : Int) ≤ 1000), fun _ h => nomatch h⟩⟩⟩,
  List.forall_mem_cons.mpr ⟨⟨by decide, List.forall_mem_cons.mpr ⟨(⟨by decide, by decide⟩ : Plain 20 "a.x"), fun _ h => nomatch h⟩⟩, fun _ h => nomatch h⟩⟩⟩⟩⟩⟩⟩⟩⟩⟩⟩⟩
theorem one_ok : ∀ v ∈ [V.non, .int 7, .bl true, .str "ab", .str "", .str "[a]"], ∃ d, OkD d ∧ ∀ H, DD H v d :=
  List.forall_mem_cons.mpr ⟨⟨.none, trivial, fun _ => .non⟩, List.forall_mem_cons.mpr ⟨⟨.int 7, ⟨by decide, by decide⟩, fun _ => .int 7⟩, List.forall_mem_cons.mpr ⟨⟨.bool true, trivial, fun _ => .bl true⟩,
  List.forall_mem_cons.mpr ⟨⟨.str "ab", ⟨by decide, by decide⟩, fun _ => .str _⟩, List.forall_mem_cons.mpr ⟨⟨.str "", ⟨by decide, by decide⟩, fun _ => .str _⟩, List.forall_mem_cons.mpr ⟨⟨.str "[a]", ⟨by decide, by decide⟩, fun _ => .str _⟩, fun _ h => nomatch h⟩⟩⟩⟩⟩⟩
theorem shows3 {a b c : PyData} (ha : OkD a) (hb : OkD b) (hc : OkD c) : Shows (.list [a, b, c]) :=
  (fact_seq (n := 2) (m := 3840) (k := 3) (l := [a, b, c]) (List.forall_mem_cons.mpr ⟨ha.fact, List.forall_mem_cons.mpr ⟨hb.fact, List.forall_mem_cons.mpr ⟨hc.fact, fun _ h => nomatch h⟩⟩⟩) (Nat.le_refl 3)).2.shows (by decide) (by decide)
theorem okD_nil : OkD (.tuple []) := ⟨by decide, fun _ h => nomatch h⟩
def sp_L_any_right (K : PySem.W.Frag) (T : Top K mg) : Sp := fun vs H Q _ => ∃ (b : Addr), vs = [.ref b] ∧ Bag H b ∧ ∀ H', Kept b H H' → Bag H' b → Q (.bl true) H'
theorem ok_L_any_right (T : Top K mg) : FnG P w K mg base 4 T.f__law_any_right T.d__law_any_right ["_law_bag_here"] (sp_L_any_right K T) := by
  have G__law_any : FnOk P w K mg base CX0 3 T.f__law_any T.d__law_any ["_law_bag_here"] (sp_L_any K) := ok_L_any T
  have G__law_of : FnOk P w K mg base CX0 2 T.f__law_of T.d__law_of ["_law_bag_here", "_law_some"] (sp_L_of K) := ok_L_of T
  have G_Release___init__ : FnOk P w K mg base CX0 2 T.f_Release___init__ T.d_Release___init__ ["self", "text", "renames", "returns"] (sp_Release___init__ K T) := ok_Release___init__ T
  have G__law_plain : FnOk P w K mg base CX0 1 T.f__law_plain T.d__law_plain ["_law_what"] (sp_L_plain K) := ok_L_plain T
  refine My.Fun.okG T.F__law_any_right scL_any_right (fun vs H Q E h => ?_) (fun cdv A outer s H vs Q E hr hgd h => ?_)
  · obtain ⟨b, rfl, _⟩ := h
    rfl
  · obtain ⟨b, rfl, hb, q⟩ := h
    refine ⟨_, (pss_cons (ps_par3 (i := 1) (j := 2) (l := 3) (by rfl) scL_any_right.nd rfl rfl rfl (by decide) (by decide) (by decide) rfl rfl rfl (pa_cons (pe_call G__law_of (hr.mono (by decide)) (by rfl) T.g__law_of T.F__law_of.kp T.b__law_of .nil pass0 (pa_cons (pv 0) (pa_cons (pe_lst (pa_cons pe_non (pa_cons pe_int (pa_cons pe_bl (pa_cons pe_str (pa_cons pe_str (pa_cons pe_str pa_nil))))))) pa_nil))) (pa_cons (pe_call G__law_any (hr.mono (by decide)) (by rfl) T.g__law_any T.F__law_any.kp T.b__law_any .nil pass0 (pa_cons (pv 0) pa_nil)) (pa_cons (pe_call G__law_any (hr.mono (by decide)) (by rfl) T.g__law_any T.F__law_any.kp T.b__law_any .nil pass0 (pa_cons (pv 0) pa_nil)) pa_nil))) (by rfl))
      (pss_cons (ps_set (i := 4) scL_any_right.nd rfl (.inl rfl) (pe_callB (call_repr hgd hr.units) (by rfl) T.m_repr (by decide +kernel) (pa_cons (pe_lst (pa_cons (pv 1) (pa_cons (pv 2) (pa_cons (pv 3) pa_nil)))) pa_nil)))
      (pss_cons (ps_set (i := 5) scL_any_right.nd rfl (.inl rfl) (pe_makeK T.mk_Release G_Release___init__ (hr.mono (by decide)) (by rfl) T.g_Release T.kn_Release___init___0 pass0 (pa_cons (pv 1) pa_nil) (pk_cons (pv 3) (pk_cons (pv 2) pk_nil))))
      (pss_cons (ps_set (i := 6) scL_any_right.nd rfl (.inl rfl) (pe_lst (pa_cons (pe_fld (pv 5) rfl) (pa_cons (pe_fld (pv 5) rfl) (pa_cons (pe_fld (pv 5) rfl) pa_nil)))))
      (pss_cons (ps_if (PW.pt (pw_or (pt_cmpR op_ne (pe_callB (call_repr hgd hr.units) (by rfl) T.m_repr (by decide +kernel) (pa_cons (pv 6) pa_nil)) (pe_callB (call_repr hgd hr.units) (by rfl) T.m_repr (by decide +kernel) (pa_cons (pe_lst (pa_cons (pv 1) (pa_cons (pe_call G__law_plain (hr.mono (by decide)) (by rfl) T.g__law_plain T.F__law_plain.kp T.b__law_plain .nil pass0 (pa_cons (pv 2) pa_nil)) (pa_cons (pe_call G__law_plain (hr.mono (by decide)) (by rfl) T.g__law_plain T.F__law_plain.kp T.b__law_plain .nil pass0 (pa_cons (pv 3) pa_nil)) pa_nil)))) pa_nil)) (nomark _)) (pw_or1 (pt_cmpR op_ne (pe_callB (call_repr hgd hr.units) (by rfl) T.m_repr (by decide +kernel) (pa_cons (pe_lst (pa_cons (pv 1) (pa_cons (pv 2) (pa_cons (pv 3) pa_nil)))) pa_nil)) (pv 4) (nomark _))))) (pss_one (ps_ret pe_bl)) pss_nil)
      (pss_cons (ps_set (i := 7) scL_any_right.nd rfl (.inl rfl) (pe_makeK0 T.mk_Release G_Release___init__ (hr.mono (by decide)) (by rfl) T.g_Release T.kn_Release___init___1 pass0 (pk_cons (pv 1) pk_nil)))
      (pss_one (ps_ret (pe_cmpR op_eq (pe_callB (call_repr hgd hr.units) (by rfl) T.m_repr (by decide +kernel) (pa_cons (pe_lst (pa_cons (pe_fld (pv 7) rfl) (pa_cons (pe_fld (pv 7) rfl) (pa_cons (pe_fld (pv 7) rfl) pa_nil)))) pa_nil)) (pe_callB (call_repr hgd hr.units) (by rfl) T.m_repr (by decide +kernel) (pa_cons (pe_lst (pa_cons (pv 1) (pa_cons (pe_tup pa_nil) (pa_cons (pe_tup pa_nil) pa_nil)))) pa_nil)) (nomark _)))))))))), ?_⟩
    refine ⟨.ref b, rfl, Nat.le_of_ble_eq_true rfl, fun l nl => ⟨b, l, _, rfl, hb.new nl, upd_same, hb.ne nl, (fun z => nomatch z), Nat.le_of_ble_eq_true rfl, fun v1 n m hv n0 m0 m1 => ?_⟩⟩
    obtain ⟨d1, o1, D1⟩ := one_ok v1 hv
    have k1 : Kept b H (upd (upd H l (.lst [.non, .int 7, .bl true, .str "ab", .str "", .str "[a]"])) b (.lst [.int n, .int m])) := (Kept.new nl).trans Kept.at
    have b1 : Bag (upd (upd H l (.lst [.non, .int 7, .bl true, .str "ab", .str "", .str "[a]"])) b (.lst [.int n, .int m])) b := ⟨n, m, upd_same, n0, m0, m1⟩
    generalize upd (upd H l (.lst [.non, .int 7, .bl true, .str "ab", .str "", .str "[a]"])) b (.lst [.int n, .int m]) = H1 at k1 b1
    refine ⟨.ref b, rfl, b, rfl, b1, fun H2 v2 d2 m2 k2 b2 q2 => ?_⟩
    refine ⟨.ref b, rfl, b, rfl, b2, fun H3 v3 d3 m3 k3 b3 q3 => ?_⟩
    have o2 := any_ok _ m2
    have o3 := any_ok _ m3
    have D2 := (q2.keep k3).now
    have D3 := q3.now
    have k3 := (k1.trans k2).trans k3
    clear q2 q3
    refine ⟨v1, v2, v3, rfl, ?_⟩
    have sh := shows3 o1 o2 o3
    refine ⟨v1, rfl, v2, rfl, v3, rfl, Nat.le_of_ble_eq_true rfl, fun p np => ⟨.ref p, .list [d1, d2, d3], rfl, (DD.lst upd_same (.cons (D1 _) (.cons (D2.same (same_new np)) (.cons (D3.same (same_new np)) .nil)))).dp, sh.s, sh.n, sh.p, sh.z, ?_⟩⟩
    have s4 : Same H3 (upd H3 p (.lst [v1, v2, v3])) := same_new np
    generalize upd H3 p (.lst [v1, v2, v3]) = H4 at s4
    have D2 := D2.same s4
    have D3 := D3.same s4
    refine ⟨v1, rfl, v3, rfl, v2, rfl, rfl, rfl, fun x dx nx ndx nex => ⟨H4, x, dx, v1, v2, v3, isListD d1, isListD d2, isListD d3, rfl, rfl, nx, ndx, nex, lent_of (D1 _), lent_of D2, lent_of D3, fun H5 a' b' c' s5 hx5 ua ub uc => ⟨rfl, ?_⟩⟩⟩
    have A' := un_dd (D1 _) s5 ua
    have B' := un_dd D2 s5 ub
    have C' := un_dd D3 s5 uc
    refine ⟨.ref x, rfl, x, _, _, _, _, rfl, hx5, T.cl_Release, T.no_Release_text, r_text _ _ _, .ref x, rfl, x, _, _, _, _, rfl, hx5, T.cl_Release, T.no_Release_renames, r_renames _ _ _, .ref x, rfl, x, _, _, _, _, rfl, hx5, T.cl_Release, T.no_Release_returns, r_returns _ _ _, Nat.le_of_ble_eq_true rfl, fun f nf => ?_⟩
    have hf : upd H5 f (.lst [a', b', c']) f = some (.lst [a', b', c']) := upd_same
    have s6 : Same H5 (upd H5 f (.lst [a', b', c'])) := same_new nf
    generalize upd H5 f (.lst [a', b', c']) = H6 at s6 hf
    have sH := (s5.trans s6)
    have sh2 := shows3 (okD_plain o1) (okD_plain o2) (okD_plain o3)
    have e1 : plainD d1 = d1 := by
      have := D1 (fun _ => none)
      cases this with
      | non => rfl
      | bl b => rfl
      | int i => rfl
      | str z => rfl
      | lst e _ => cases e
      | tup e _ => cases e
    refine ⟨.ref f, rfl, .ref f, .list [plainD d1, plainD d2, plainD d3], rfl, (DD.lst hf (.cons (A'.same s6) (.cons (B'.same s6) (.cons (C'.same s6) .nil)))).dp, sh2.s, sh2.n, sh2.p, sh2.z, ?_⟩
    refine ⟨v1, rfl, v2, rfl, v2, d2, rfl, D2.same sH, fun H7 w2 s7 E2 => ⟨v3, rfl, v3, d3, rfl, D3.same (sH.trans s7), fun H8 w3 s8 E3 => ⟨Nat.le_of_ble_eq_true rfl, fun g ng => ⟨.ref g, .list [plainD d1, plainD d2, plainD d3], rfl, (DD.lst upd_same (.cons ?_ (.cons ((E2.same s8).same (same_new ng)) (.cons (E3.same (same_new ng)) .nil)))).dp, sh2.s, sh2.n, sh2.p, sh2.z, rfl, _, rfl, ?_⟩⟩⟩⟩
    · rw [e1]
      exact D1 _
    rw [decide_eq_true rfl]
    refine iteF ?_
    have s8H := (sH.trans s7).trans (s8.trans (same_new (o := .lst [v1, w2, w3]) ng))
    generalize upd H8 g (.lst [v1, w2, w3]) = H9 at s8H
    refine ⟨v1, rfl, v2, rfl, v3, rfl, Nat.le_of_ble_eq_true rfl, fun r nr => ⟨.ref r, .list [d1, d2, d3], rfl, (DD.lst upd_same (.cons (D1 _) (.cons ((D2.same s8H).same (same_new nr)) (.cons ((D3.same s8H).same (same_new nr)) .nil)))).dp, sh.s, sh.n, sh.p, sh.z, .str (PyData.list [d1, d2, d3]).shown, rfl, rfl, _, rfl, ?_⟩⟩
    rw [decide_eq_true rfl]
    refine iteF ?_
    have s10 := s8H.trans (same_new (o := .lst [v1, v2, v3]) nr)
    generalize upd H9 r (.lst [v1, v2, v3]) = H10 at s10
    refine ⟨v1, rfl, rfl, rfl, fun x2 dx2 nx2 ndx2 nex2 => ⟨H10, x2, dx2, v1, _, _, isListD d1, false, false, rfl, rfl, nx2, ndx2, nex2, lent_of (D1 _), .inr ⟨_, _, rfl, T.sq_Release___init___renames _⟩, .inr ⟨_, _, rfl, T.sq_Release___init___returns _⟩, fun H11 a2 b2' c2 s11 hx11 ua2 ub2 uc2 => ⟨rfl, ?_⟩⟩⟩
    have A2 := un_dd (D1 _) s11 ua2
    obtain ⟨_, rfl⟩ := ub2
    obtain ⟨_, rfl⟩ := uc2
    rw [e1] at A2
    have sh3 := shows3 o1 okD_nil okD_nil
    refine ⟨.ref x2, rfl, x2, _, _, _, _, rfl, hx11, T.cl_Release, T.no_Release_text, r_text _ _ _, .ref x2, rfl, x2, _, _, _, _, rfl, hx11, T.cl_Release, T.no_Release_renames, r_renames _ _ _, .ref x2, rfl, x2, _, _, _, _, rfl, hx11, T.cl_Release, T.no_Release_returns, r_returns _ _ _, Nat.le_of_ble_eq_true rfl, fun f2 nf2 => ⟨.ref f2, .list [d1, .tuple [], .tuple []], rfl, .lst (SqL.of upd_same) (.cons (A2.same (same_new nf2)).dp (.cons (.tup (T.sq_Release___init___renames _) .nil) (.cons (.tup (T.sq_Release___init___returns _) .nil) .nil))), sh3.s, sh3.n, sh3.p, sh3.z, ?_⟩⟩
    have s12 := s11.trans (same_new (o := .lst [a2, .ref T.dv_Release___init___renames, .ref T.dv_Release___init___returns]) nf2)
    generalize upd H11 f2 (.lst [a2, .ref T.dv_Release___init___renames, .ref T.dv_Release___init___returns]) = H12 at s12
    refine ⟨v1, rfl, Nat.zero_le _, fun t1 nt1 => ⟨Nat.zero_le _, fun t2 nt2 => ⟨Nat.le_of_ble_eq_true rfl, fun g2 ng2 => ⟨.ref g2, .list [d1, .tuple [], .tuple []], rfl, (DD.lst upd_same (.cons (D1 _) (.cons ?_ (.cons ?_ .nil)))).dp, sh3.s, sh3.n, sh3.p, sh3.z, rfl, ?_⟩⟩⟩⟩
    · exact .tup (same_new ng2 _ _ (same_new nt2 _ _ upd_same)) .nil
    · exact .tup (same_new ng2 _ _ upd_same) .nil
    rw [decide_eq_true rfl]
    have sall : Same H3 (upd (upd (upd H12 t1 (.tup [])) t2 (.tup [])) g2 (.lst [v1, .ref t1, .ref t2])) := ((s4.trans s10).trans s12).trans (((same_new nt1).trans (same_new nt2)).trans (same_new ng2))
    exact q _ (k3.trans (Kept.same sall)) (b3.same sall)
end
end K16

set_option Elab.async false
set_option linter.all false
set_option maxRecDepth 100000
set_option maxHeartbeats 4000000
namespace K16
open PySem PySem.Spec PyProof.Rows L2 My
section
variable {P : Program} {w : World} {K : PySem.W.Frag} {mg : Str → Option Value} {base : Heap}
def spots : List Str := ["a.x", "a.y", "a.z", "b.x", "b.y"]
def slotO : Option Int → V
  | some i => .int i
  | none => .non
def slotD : Option Int → PyData
  | some i => .int i
  | none => .none
def rowV (t : Tb) (l : List Str) : List V := l.map fun z => slotO (getL t z)
def rowD (t : Tb) : PyData := .list (spots.map fun z => slotD (getL t z))
theorem slotV_eq (t : Tb) (z : Str) : slotV t (.str z) = slotO (getL t z) := by
  show ((getL t z).map V.int).getD .non = _
  cases getL t z <;> rfl
theorem dd_slot {H : Hp} : ∀ o : Option Int, DD H (slotO o) (slotD o)
  | some i => .int i
  | none => .non
theorem dds_row {H : Hp} (t : Tb) : ∀ l : List Str, DDs H (rowV t l) (l.map fun z => slotD (getL t z))
  | [] => .nil
  | z :: r => .cons (dd_slot _) (dds_row t r)
theorem row_len (t : Tb) (l : List Str) : (rowV t l).length = l.length := List.length_map ..
theorem row_snoc {t : Tb} {l : List Str} {i : Nat} {z : Str} (h : l[i]? = some z) : rowV t (l.take (i + 1)) = rowV t (l.take i) ++ [slotO (getL t z)] := take_snoc _ h
theorem spot_at {i : Nat} {v : V} {l : List Str} (h : (l.map V.str)[i]? = some v) : ∃ z, l[i]? = some z ∧ v = .str z := by
  rw [List.getElem?_map] at h
  cases e : l[i]? with
  | none => rw [e] at h; cases h
  | some z => rw [e] at h; cases h; exact ⟨z, rfl, rfl⟩
theorem spot_len : ∀ z ∈ spots, z.length ≤ 1000 := by decide
def sp_L_table (K : PySem.W.Frag) (T : Top K mg) : Sp := fun vs H Q _ => ∃ (H0 : Hp) (x : Addr) (hs : HS) (A : HPts) (t0 t1 t2 : Tb), vs = [.ref x] ∧ HistP T.C_History H0 H x hs A ∧ hs.tabs = [t0, t1, t2] ∧ ∀ H' p, Same H H' → H p = none → (∀ b o, H b = some o → DK b H' (.ref p) (.list [rowD t0, rowD t1, rowD t2, .int 3])) → Q (.ref p) H'
theorem ok_L_table (T : Top K mg) : FnOk P w K mg base CX0 4 T.f__law_table T.d__law_table ["_law_history"] (sp_L_table K T) := by
  have G_History___len__ : FnOk P w K mg base CX0 1 T.f_History___len__ T.d_History___len__ ["self"] (sp_History___len__ K T) := ok_History___len__ T
  have G_History_slot_at : FnOk P w K mg base CX0 3 T.f_History_slot_at T.d_History_slot_at ["self", "place", "release"] (sp_History_slot_at K T) := ok_History_slot_at T
  refine T.F__law_table.ok scL_table (fun vs H Q E h => ?_) (fun cdv A outer s H vs Q E hr h => ?_)
  · obtain ⟨H0, x, hs, A, t0, t1, t2, rfl, _⟩ := h
    rfl
  · obtain ⟨H0, x, hs, A', t0, t1, t2, rfl, hp, ht, q⟩ := h
    refine ⟨_, (pss_cons (ps_set (i := 1) scL_table.nd rfl (.inl rfl) (pe_lst (pa_cons pe_str (pa_cons pe_str (pa_cons pe_str (pa_cons pe_str (pa_cons pe_str pa_nil)))))))
      (pss_one (ps_ret (pe_lst (pa_cons (pe_lc (own := [("_law_one", 2)]) rfl scL_table.nd (pi_list (pv 1)) (blkOk_by (N := N_L_table) (sc := defScope s_L_table) (by decide +kernel)) (fun _ _ _ _ _ => (pg_name (i := 2) scL_table.nd rfl (.inl rfl))) (fun _ _ _ _ _ => pts_nil) (fun _ _ _ _ _ => (pe_meth (pv 0) T.cl_History T.me_History_slot_at G_History_slot_at (hr.mono (by decide)) T.b_History_slot_at .nil pass0 (pa_cons (pv 2) (pa_cons pe_int pa_nil))))) (pa_cons (pe_lc (own := [("_law_one", 2)]) rfl scL_table.nd (pi_list (pv 1)) (blkOk_by (N := N_L_table) (sc := defScope s_L_table) (by decide +kernel)) (fun _ _ _ _ _ => (pg_name (i := 2) scL_table.nd rfl (.inl rfl))) (fun _ _ _ _ _ => pts_nil) (fun _ _ _ _ _ => (pe_meth (pv 0) T.cl_History T.me_History_slot_at G_History_slot_at (hr.mono (by decide)) T.b_History_slot_at .nil pass0 (pa_cons (pv 2) (pa_cons pe_int pa_nil))))) (pa_cons (pe_lc (own := [("_law_one", 2)]) rfl scL_table.nd (pi_list (pv 1)) (blkOk_by (N := N_L_table) (sc := defScope s_L_table) (by decide +kernel)) (fun _ _ _ _ _ => (pg_name (i := 2) scL_table.nd rfl (.inl rfl))) (fun _ _ _ _ _ => pts_nil) (fun _ _ _ _ _ => (pe_meth (pv 0) T.cl_History T.me_History_slot_at G_History_slot_at (hr.mono (by decide)) T.b_History_slot_at .nil pass0 (pa_cons (pv 2) (pa_cons pe_int pa_nil))))) (pa_cons (pe_callB (call_lenOwn T.me_History___len__ G_History___len__ (hr.mono (by decide)) T.b_History___len__) (by rfl) T.m_len (by decide +kernel) (pa_cons (pv 0) pa_nil)) pa_nil)))))))), ?_⟩
    refine ⟨Nat.le_of_ble_eq_true rfl, fun l nl => ?_⟩
    have sA : Same H (upd H l (.lst (spots.map V.str))) := same_new nl
    have hl : upd H l (.lst (spots.map V.str)) l = some (.lst (spots.map V.str)) := upd_same
    have eH : upd H l (.lst [.str "a.x", .str "a.y", .str "a.z", .str "b.x", .str "b.y"]) = upd H l (.lst (spots.map V.str)) := rfl
    rw [eH]
    generalize upd H l (.lst (spots.map V.str)) = H00 at sA hl
    have s0 : Same H00 H00 := Same.refl _
    refine ⟨.ref l, rfl, l, rfl, ⟨_, SqL.of (s0 _ _ hl)⟩, fun D0 nD0 => lc_it (walk_list (xs := spots.map V.str)) (fun i H4 => Same H00 H4 ∧ H4 D0 = some (.lst (rowV t0 (spots.take i)))) ?_ ?_ ?_ ?_⟩
    · exact ⟨same_new nD0, upd_same⟩
    · rintro i H4 _ ⟨s4, _⟩
      exact SqL.of (s4 _ _ (s0 _ _ hl))
    · rintro i v H4' H4 hi ⟨s4, d4⟩ ⟨rfl, hv⟩
      obtain ⟨z, hz, rfl⟩ := spot_at hv
      have h4 := hp.more ((sA.trans s0).trans s4)
      refine ⟨rfl, ?_⟩
      refine ⟨.ref x, rfl, x, _, _, rfl, h4.ob, rfl, .str z, rfl, H0, x, hs, A', .str z, 0, t0, rfl, h4, (by rw [ht]; rfl), Ask.text (spot_len z (List.mem_of_getElem? hz)), ?_⟩
      refine ⟨_, d4, ?_, upd_off nD0 s4, ?_⟩
      · rw [row_len, List.length_take]
        exact Nat.lt_of_le_of_lt (Nat.min_le_right _ _) (Nat.le_of_ble_eq_true rfl)
      · rw [upd_same, row_snoc hz, slotV_eq]
    rintro HR1 ⟨z0, d1⟩
    have s1 := s0.trans z0
    rw [show spots.take (spots.map V.str).length = spots from rfl] at d1
    refine ⟨.ref l, rfl, l, rfl, ⟨_, SqL.of (s1 _ _ hl)⟩, fun D1 nD1 => lc_it (walk_list (xs := spots.map V.str)) (fun i H4 => Same HR1 H4 ∧ H4 D1 = some (.lst (rowV t1 (spots.take i)))) ?_ ?_ ?_ ?_⟩
    · exact ⟨same_new nD1, upd_same⟩
    · rintro i H4 _ ⟨s4, _⟩
      exact SqL.of (s4 _ _ (s1 _ _ hl))
    · rintro i v H4' H4 hi ⟨s4, d4⟩ ⟨rfl, hv⟩
      obtain ⟨z, hz, rfl⟩ := spot_at hv
      have h4 := hp.more ((sA.trans s1).trans s4)
      refine ⟨rfl, ?_⟩
      refine ⟨.ref x, rfl, x, _, _, rfl, h4.ob, rfl, .str z, rfl, H0, x, hs, A', .str z, 1, t1, rfl, h4, (by rw [ht]; rfl), Ask.text (spot_len z (List.mem_of_getElem? hz)), ?_⟩
      refine ⟨_, d4, ?_, upd_off nD1 s4, ?_⟩
      · rw [row_len, List.length_take]
        exact Nat.lt_of_le_of_lt (Nat.min_le_right _ _) (Nat.le_of_ble_eq_true rfl)
      · rw [upd_same, row_snoc hz, slotV_eq]
    rintro HR2 ⟨z1, d2⟩
    have s2 := s1.trans z1
    rw [show spots.take (spots.map V.str).length = spots from rfl] at d2
    refine ⟨.ref l, rfl, l, rfl, ⟨_, SqL.of (s2 _ _ hl)⟩, fun D2 nD2 => lc_it (walk_list (xs := spots.map V.str)) (fun i H4 => Same HR2 H4 ∧ H4 D2 = some (.lst (rowV t2 (spots.take i)))) ?_ ?_ ?_ ?_⟩
    · exact ⟨same_new nD2, upd_same⟩
    · rintro i H4 _ ⟨s4, _⟩
      exact SqL.of (s4 _ _ (s2 _ _ hl))
    · rintro i v H4' H4 hi ⟨s4, d4⟩ ⟨rfl, hv⟩
      obtain ⟨z, hz, rfl⟩ := spot_at hv
      have h4 := hp.more ((sA.trans s2).trans s4)
      refine ⟨rfl, ?_⟩
      refine ⟨.ref x, rfl, x, _, _, rfl, h4.ob, rfl, .str z, rfl, H0, x, hs, A', .str z, 2, t2, rfl, h4, (by rw [ht]; rfl), Ask.text (spot_len z (List.mem_of_getElem? hz)), ?_⟩
      refine ⟨_, d4, ?_, upd_off nD2 s4, ?_⟩
      · rw [row_len, List.length_take]
        exact Nat.lt_of_le_of_lt (Nat.min_le_right _ _) (Nat.le_of_ble_eq_true rfl)
      · rw [upd_same, row_snoc hz, slotV_eq]
    rintro HR3 ⟨z2, d3⟩
    have s3 := s2.trans z2
    rw [show spots.take (spots.map V.str).length = spots from rfl] at d3
    have e3 := hp.more (sA.trans s3)
    refine ⟨.ref x, rfl, x, _, _, rfl, e3.ob, H0, x, hs, A', rfl, e3, _, rfl, by omega, (by rw [ht]; show (3 : Int) ≤ 1000000; decide), Nat.le_of_ble_eq_true rfl, fun p np => ?_⟩
    have sp := s3.trans (same_new (o := .lst [.ref D0, .ref D1, .ref D2, .int (hs.tabs.length : Nat)]) np)
    refine q _ p (sA.trans sp) (sA.free (s3.free np)) ?_
    have e4 : (hs.tabs.length : Int) = 3 := by rw [ht]; rfl
    intro b o hb
    have b0 := sA _ _ hb
    have nb : ∀ {D : Addr} {H' : Hp}, Same H00 H' → H' D = none → D ≠ b := fun sx nD => (ne_of_none (sx _ _ b0) nD).symm
    have rw_ : ∀ (t : Tb) (H' : Hp), DKs b H' (rowV t spots) (spots.map fun z => slotD (getL t z)) := fun t H' _ _ => dds_row t spots
    refine DK.lst upd_same (nb s3 np) (.cons ?_ (.cons ?_ (.cons ?_ (.cons (by rw [e4]; exact .int 3) .nil))))
    · exact DK.lst (same_new np _ _ (z2 _ _ (z1 _ _ d1))) (nb s0 nD0) (rw_ t0 _)
    · exact DK.lst (same_new np _ _ (z2 _ _ d2)) (nb s1 nD1) (rw_ t1 _)
    · exact DK.lst (same_new np _ _ d3) (nb s2 nD2) (rw_ t2 _)
end
end K16

set_option Elab.async false
set_option linter.all false
set_option maxRecDepth 100000
set_option maxHeartbeats 4000000
namespace K16
open PySem PySem.Spec PyProof.Rows L2 My
section
variable {P : Program} {w : World} {K : PySem.W.Frag} {mg : Str → Option Value} {base : Heap}
/-- all moves that are drawn -/
def moves8 : List (List (Str × Str)) := [[("a.x", "a.z")], [("a.x", "a.z"), ("a.y", "b.x")], [("a.x", "b.y")], [("a.x", "b.y"), ("a.y", "a.x")], [("a.x", "a.y")], [("a.x", "a.y"), ("a.y", "a.x")], [("a.x", "b.x")], [("a.x", "b.x"), ("a.y", "b.y")]]
/-- a list of moves in the heap -/
structure MvL (K : PySem.W.Frag) (H : Hp) (r : Addr) (ts : List Addr) (mv : List (Str × Str)) : Prop where
  sq : SqL K H r (ts.map V.ref)
  at_ : Paired (MvAt K H) ts mv
theorem sqL_same {H H' : Hp} {t : Addr} {xs : List V} (s : Same H H') (h : SqL K H t xs) : SqL K H' t xs := by
  rcases h with (h | ⟨o, h⟩) | h
  · exact .inl (.inl (s _ _ h))
  · exact .inl (.inr ⟨o, s _ _ h⟩)
  · exact .inr h
theorem MvL.same {H H' : Hp} {r : Addr} {ts : List Addr} {mv : List (Str × Str)} (s : Same H H') (h : MvL K H r ts mv) : MvL K H' r ts mv := ⟨sqL_same s h.sq, Paired.mapP h.at_ fun _ _ q => sqT_same s q⟩
theorem MvL.get {H : Hp} {r : Addr} {ts : List Addr} {mv : List (Str × Str)} (h : MvL K H r ts mv) {i : Nat} {v : V} (e : (ts.map V.ref)[i]? = some v) : ∃ t m, v = .ref t ∧ mv[i]? = some m ∧ MvAt K H t m := by
  rw [List.getElem?_map] at e
  cases e2 : ts[i]? with
  | none => rw [e2] at e; cases e
  | some t =>
    rw [e2] at e
    cases e
    have hl := My.Paired.len h.at_
    have hi : i < mv.length := by rw [← hl]; exact (List.getElem?_eq_some_iff.mp e2).1
    obtain ⟨t', h1, h2⟩ := My.Paired.get h.at_ (List.getElem?_eq_getElem hi)
    rw [e2] at h1
    cases h1
    exact ⟨t, mv[i], rfl, List.getElem?_eq_getElem hi, h2⟩
theorem MvL.len {H : Hp} {r : Addr} {ts : List Addr} {mv : List (Str × Str)} (h : MvL K H r ts mv) : (ts.map V.ref).length = mv.length := by rw [List.length_map]; exact My.Paired.len h.at_
def lineOf (z : Str) : Str := cutS z (some 2) none ++ " = 1"
def movedL (mv : List (Str × Str)) (pre : Str) : List Str := (mv.filter fun m => Txt.startswith m.2 pre).map fun m => lineOf m.2
def movedLs (mv : List (Str × Str)) : List Str := (([("[a]" : Str)] ++ movedL mv "a.") ++ [("[b]" : Str)]) ++ movedL mv "b."
def movedT (mv : List (Str × Str)) : Str := Txt.join "\n" (movedLs mv)
theorem moved_t {mv : List (Str × Str)} {pre : Str} {i : Nat} {m : Str × Str} (h : mv[i]? = some m) (e : Txt.startswith m.2 pre = true) : movedL (mv.take (i + 1)) pre = movedL (mv.take i) pre ++ [lineOf m.2] := by
  unfold movedL
  rw [List.take_add_one, h, List.filter_append, List.map_append]
  simp [e]
theorem moved_f {mv : List (Str × Str)} {pre : Str} {i : Nat} {m : Str × Str} (h : mv[i]? = some m) (e : ¬ Txt.startswith m.2 pre = true) : movedL (mv.take (i + 1)) pre = movedL (mv.take i) pre := by
  unfold movedL
  rw [List.take_add_one, h, List.filter_append, List.map_append]
  simp [e]
theorem moved_len (mv : List (Str × Str)) (pre : Str) : (movedL mv pre).length ≤ mv.length := by
  unfold movedL
  rw [List.length_map]
  exact List.length_filter_le ..
theorem m8_len : ∀ mv ∈ moves8, mv.length ≤ 2 := by decide
theorem m8_txt : ∀ mv ∈ moves8, ∀ m ∈ mv, m.2.length ≤ 1000 ∧ (cutS m.2 (some 2) none).length ≤ 1000 := by decide +kernel
theorem m8_join : ∀ mv ∈ moves8, ((movedLs mv).map (·.length)).sum + (movedLs mv).length * ("\n" : Str).length ≤ 16777216 := by decide +kernel
theorem tk2 {α : Type} {l : List α} {n i : Nat} (h : l.length ≤ n) : (l.take i).length ≤ n := by rw [List.length_take]; omega
def sp_L_moved (K : PySem.W.Frag) : Sp := fun vs H Q _ => ∃ (l : Addr) (ts : List Addr) (mv : List (Str × Str)), vs = [.ref l] ∧ MvL K H l ts mv ∧ mv ∈ moves8 ∧ ∀ H', Same H H' → Q (.str (movedT mv)) H'
theorem ok_L_moved (T : Top K mg) : FnOk P w K mg base CX0 1 T.f__law_moved T.d__law_moved ["_law_moves"] (sp_L_moved K) := by
  refine T.F__law_moved.ok scL_moved (fun vs H Q E h => ?_) (fun cdv A outer s H vs Q E hr h => ?_)
  · obtain ⟨l, ts, mv, rfl, _⟩ := h
    rfl
  · obtain ⟨l, ts, mv, rfl, hm, m8, q⟩ := h
    refine ⟨_, (pss_cons (ps_set (i := 1) scL_moved.nd rfl (.inl rfl) (pe_op op_cat (pe_lst (pa_cons pe_str pa_nil)) (pe_lc (own := [("_law_old", 2), ("_law_new", 3)]) (g := gTup K 2 (gCons (gName 2) (gCons (gName 3) gNil))) rfl scL_moved.nd (pi_list (pv 0)) (blkOk_by (N := N_L_moved) (sc := defScope s_L_moved) (by decide +kernel)) (fun _ _ _ _ _ => (pg_tup rfl (pgs_cons (pg_name (i := 2) scL_moved.nd rfl (.inl rfl)) (pgs_cons (pg_name (i := 3) scL_moved.nd rfl (.inl rfl)) pgs_nil)))) (fun _ _ _ _ _ => pts_one (pt_val (pe_m1 F.slot_str_startswith F.type_str_startswith mt_startswith (pv 3) pe_str))) (fun _ _ _ _ _ => (pe_op op_add_str (pe_slice sl_str (pv 3) (po_some pe_int) po_none) pe_str)))))
      (pss_one (ps_ret (pe_m1 F.slot_str_join F.type_str_join mt_join pe_str (pe_op op_cat (pe_op op_cat (pv 1) (pe_lst (pa_cons pe_str pa_nil))) (pe_lc (own := [("_law_old", 2), ("_law_new", 3)]) (g := gTup K 2 (gCons (gName 2) (gCons (gName 3) gNil))) rfl scL_moved.nd (pi_list (pv 0)) (blkOk_by (N := N_L_moved) (sc := defScope s_L_moved) (by decide +kernel)) (fun _ _ _ _ _ => (pg_tup rfl (pgs_cons (pg_name (i := 2) scL_moved.nd rfl (.inl rfl)) (pgs_cons (pg_name (i := 3) scL_moved.nd rfl (.inl rfl)) pgs_nil)))) (fun _ _ _ _ _ => pts_one (pt_val (pe_m1 F.slot_str_startswith F.type_str_startswith mt_startswith (pv 3) pe_str))) (fun _ _ _ _ _ => (pe_op op_add_str (pe_slice sl_str (pv 3) (po_some pe_int) po_none) pe_str)))))))), ?_⟩
    have len2 := m8_len mv m8
    have small : ∀ (pre : Str) (i : Nat), ((movedL (mv.take i) pre).map V.str).length < sizeLine := fun pre i => by
      rw [List.length_map]
      have h1 := moved_len (mv.take i) pre
      have h2 := tk2 (i := i) len2
      exact small1000 (by omega)
    refine ⟨Nat.le_of_ble_eq_true rfl, fun a na => ?_⟩
    have s1 : Same H (upd H a (.lst [.str "[a]"])) := same_new na
    have ha : upd H a (.lst [.str "[a]"]) a = some (.lst [.str "[a]"]) := upd_same
    generalize upd H a (.lst [.str "[a]"]) = H1 at s1 ha
    refine ⟨.ref l, rfl, l, rfl, ⟨_, (hm.same s1).sq⟩, fun D nD => lc_it (walk_list (xs := ts.map V.ref)) (fun i H4 => Same H1 H4 ∧ H4 D = some (.lst ((movedL (mv.take i) "a.").map V.str))) ?_ ?_ ?_ ?_⟩
    · exact ⟨same_new nD, upd_same⟩
    · rintro i H4 _ ⟨s4, _⟩
      exact (hm.same (s1.trans s4)).sq
    · rintro i v H4' H4 hi ⟨s4, d4⟩ ⟨rfl, hv⟩
      obtain ⟨t, m, rfl, hmi, ht⟩ := (hm.same (s1.trans s4)).get hv
      obtain ⟨b1, b2⟩ := m8_txt mv m8 m (List.mem_of_getElem? hmi)
      refine ⟨t, _, rfl, ht, rfl, .str m.1, [.str m.2], rfl, .str m.2, [], rfl, rfl, rfl, ?_⟩
      refine ⟨.str m.2, rfl, ⟨_, rfl⟩, m.2, "a.", rfl, rfl, _, rfl, ite2 (fun e => ?_) (fun e => ?_)⟩
      · refine ⟨.str m.2, rfl, 2, rfl, m.2, rfl, Nat.le_trans b1 (Nat.le_of_ble_eq_true rfl), _, _, rfl, rfl, Nat.le_trans (Nat.add_le_add_right b2 _) (Nat.le_of_ble_eq_true rfl), _, d4, small _ _, upd_off nD s4, ?_⟩
        rw [upd_same, moved_t hmi e, List.map_append]
        rfl
      · refine ⟨s4, ?_⟩
        rw [moved_f hmi e]
        exact d4
    rintro H2 ⟨s2, d2⟩
    rw [hm.len, List.take_length] at d2
    refine ⟨a, D, _, _, rfl, rfl, s2 _ _ ha, d2, ?_, fun ls nls => ?_⟩
    · rw [List.length_map]
      have := moved_len mv "a."
      exact Nat.le_of_lt (small1000 (by show 1 + _ ≤ 1000; omega))
    have e3 : [V.str "[a]"] ++ (movedL mv "a.").map V.str = ([("[a]" : Str)] ++ movedL mv "a.").map V.str := rfl
    rw [e3]
    have s3 := s2.trans (same_new (o := .lst (([("[a]" : Str)] ++ movedL mv "a.").map V.str)) nls)
    have h3 : upd H2 ls (.lst (([("[a]" : Str)] ++ movedL mv "a.").map V.str)) ls = some (.lst (([("[a]" : Str)] ++ movedL mv "a.").map V.str)) := upd_same
    generalize upd H2 ls (.lst (([("[a]" : Str)] ++ movedL mv "a.").map V.str)) = H3 at s3 h3
    refine ⟨⟨_, rfl⟩, .ref ls, rfl, Nat.le_of_ble_eq_true rfl, fun b nb => ⟨ls, b, _, _, rfl, rfl, same_new nb _ _ h3, upd_same, ?_, fun c nc => ?_⟩⟩
    · rw [List.length_map, List.length_append]
      have := moved_len mv "a."
      exact Nat.le_of_lt (small1000 (by show 1 + _ + 1 ≤ 1000; omega))
    have e5 : ([("[a]" : Str)] ++ movedL mv "a.").map V.str ++ [V.str "[b]"] = (([("[a]" : Str)] ++ movedL mv "a.") ++ [("[b]" : Str)]).map V.str := by simp only [List.map_append, List.map_cons, List.map_nil]
    rw [e5]
    have s5 := (s3.trans (same_new (o := .lst [.str "[b]"]) nb)).trans (same_new (o := .lst ((([("[a]" : Str)] ++ movedL mv "a.") ++ [("[b]" : Str)]).map V.str)) nc)
    have h5 : upd (upd H3 b (.lst [.str "[b]"])) c (.lst ((([("[a]" : Str)] ++ movedL mv "a.") ++ [("[b]" : Str)]).map V.str)) c = some (.lst ((([("[a]" : Str)] ++ movedL mv "a.") ++ [("[b]" : Str)]).map V.str)) := upd_same
    generalize upd (upd H3 b (.lst [.str "[b]"])) c (.lst ((([("[a]" : Str)] ++ movedL mv "a.") ++ [("[b]" : Str)]).map V.str)) = H5 at s5 h5
    have s5H := s1.trans s5
    refine ⟨.ref l, rfl, l, rfl, ⟨_, (hm.same s5H).sq⟩, fun D2 nD2 => lc_it (walk_list (xs := ts.map V.ref)) (fun i H4 => Same H5 H4 ∧ H4 D2 = some (.lst ((movedL (mv.take i) "b.").map V.str))) ?_ ?_ ?_ ?_⟩
    · exact ⟨same_new nD2, upd_same⟩
    · rintro i H4 _ ⟨s4, _⟩
      exact (hm.same (s5H.trans s4)).sq
    · rintro i v H4' H4 hi ⟨s4, d4⟩ ⟨rfl, hv⟩
      obtain ⟨t, m, rfl, hmi, ht⟩ := (hm.same (s5H.trans s4)).get hv
      obtain ⟨b1, b2⟩ := m8_txt mv m8 m (List.mem_of_getElem? hmi)
      refine ⟨t, _, rfl, ht, rfl, .str m.1, [.str m.2], rfl, .str m.2, [], rfl, rfl, rfl, ?_⟩
      refine ⟨.str m.2, rfl, ⟨_, rfl⟩, m.2, "b.", rfl, rfl, _, rfl, ite2 (fun e => ?_) (fun e => ?_)⟩
      · refine ⟨.str m.2, rfl, 2, rfl, m.2, rfl, Nat.le_trans b1 (Nat.le_of_ble_eq_true rfl), _, _, rfl, rfl, Nat.le_trans (Nat.add_le_add_right b2 _) (Nat.le_of_ble_eq_true rfl), _, d4, small _ _, upd_off nD2 s4, ?_⟩
        rw [upd_same, moved_t hmi e, List.map_append]
        rfl
      · refine ⟨s4, ?_⟩
        rw [moved_f hmi e]
        exact d4
    rintro H6 ⟨s6, d6⟩
    rw [hm.len, List.take_length] at d6
    refine ⟨c, D2, _, _, rfl, rfl, s6 _ _ h5, d6, ?_, fun r nr => ?_⟩
    · rw [List.length_map, List.length_map, List.length_append, List.length_append]
      have h1 := moved_len mv "a."
      have h2 := moved_len mv "b."
      exact Nat.le_of_lt (small1000 (by show 1 + _ + 1 + _ ≤ 1000; omega))
    have e7 : (([("[a]" : Str)] ++ movedL mv "a.") ++ [("[b]" : Str)]).map V.str ++ (movedL mv "b.").map V.str = (movedLs mv).map V.str := by unfold movedLs; simp only [List.map_append]
    rw [e7]
    exact ⟨_, r, movedLs mv, rfl, rfl, .inl (SqL.of upd_same), m8_join mv m8, q _ (s5H.trans (s6.trans (same_new nr)))⟩
end
end K16

set_option Elab.async false
set_option linter.all false
set_option maxRecDepth 100000
set_option maxHeartbeats 4000000
namespace K16
open PySem PySem.Spec PyProof.Rows L2 My
section
variable {P : Program} {w : World} {K : PySem.W.Frag} {mg : Str → Option Value} {base : Heap}
def first : Tb := [("a.x", 0), ("a.y", 1)]
def names3 : List Str := ["a.x", "a.y", "b.x"]
def secP (mv : List (Str × Str)) : Tb := mv.map fun m => (m.2, (getL first m.1).getD 0)
def secondT (mv : List (Str × Str)) : Tb := mergeL [] (secP mv)
def thiP (t : Tb) (l : List Str) : Tb := (l.filter fun p => (getL t p).isSome).map fun p => (p, (getL t p).getD 0)
def thirdS (t : Tb) : Tb := mergeL [] (thiP t names3)
def dueStep (st : Tb × Int) (p : Str) : Tb × Int := if (getL st.1 p).isSome = true then st else (putL st.1 p st.2, st.2 + 1)
def thirdT (t : Tb) : Tb := (names3.foldl dueStep (thirdS t, 2)).1
theorem due_len : ∀ (l : List Str) (st : Tb × Int), (l.foldl dueStep st).1.length ≤ st.1.length + l.length
  | [], _ => Nat.le_refl _
  | p :: r, st => by
    have h1 := due_len r (dueStep st p)
    have h2 : (dueStep st p).1.length ≤ st.1.length + 1 := by
      unfold dueStep
      split
      · exact Nat.le_succ _
      · exact putL_len ..
    rw [List.foldl_cons, List.length_cons]
    omega
theorem thi_t {t : Tb} {l : List Str} {i : Nat} {p : Str} {s : Int} (h : l[i]? = some p) (e : getL t p = some s) : thiP t (l.take (i + 1)) = thiP t (l.take i) ++ [(p, s)] := by
  unfold thiP
  rw [List.take_add_one, h, List.filter_append, List.map_append]
  simp [e]
theorem thi_f {t : Tb} {l : List Str} {i : Nat} {p : Str} (h : l[i]? = some p) (e : getL t p = none) : thiP t (l.take (i + 1)) = thiP t (l.take i) := by
  unfold thiP
  rw [List.take_add_one, h, List.filter_append, List.map_append]
  simp [e]
theorem thi_len (t : Tb) (l : List Str) : (thiP t l).length ≤ l.length := by
  unfold thiP
  rw [List.length_map]
  exact List.length_filter_le ..
/-- new tuples (key, slot) -/
def Prz (H : Hp) (ps : List Addr) (t : Tb) : Prop := Paired (fun p (kv : Key × V) => H p = some (.tup [kV kv.1, kv.2])) ps (kvT t)
theorem Prz.same {H H' : Hp} {ps : List Addr} {t : Tb} (s : Same H H') (h : Prz H ps t) : Prz H' ps t := Paired.mapP h fun _ _ q => s _ _ q
theorem Prz.offL {H : Hp} {ps : List Addr} {t : Tb} {D : Addr} {l : List V} {o : HO} (hD : H D = some (.lst l)) (h : Prz H ps t) : Prz (upd H D o) ps t := Paired.mapP h fun a b q => by
  rw [upd_ne (ne_of q hD (fun z => nomatch z))]
  exact q
theorem Prz.snoc {H : Hp} {ps : List Addr} {t : Tb} {p : Addr} {z : Str} {s : Int} (h : Prz H ps t) (e : H p = some (.tup [.str z, .int s])) : Prz H (ps ++ [p]) (t ++ [(z, s)]) := by
  unfold Prz
  rw [show kvT (t ++ [(z, s)]) = kvT t ++ [(Sum.inr z, V.int s)] by unfold kvT kvD; rw [List.map_append]; rfl]
  exact Paired.app h (.cons e .nil)
theorem Prz.len {H : Hp} {ps : List Addr} {t : Tb} (h : Prz H ps t) : ps.length = t.length := by rw [My.Paired.len h, kvD_len]
theorem m8_from : ∀ mv ∈ moves8, ∀ m ∈ mv, (getL first m.1).isSome = true := by decide +kernel
theorem sec_snoc {mv : List (Str × Str)} {i : Nat} {m : Str × Str} {s : Int} (h : mv[i]? = some m) (e : getL first m.1 = some s) : secP (mv.take (i + 1)) = secP (mv.take i) ++ [(m.2, s)] := by
  unfold secP
  rw [take_snoc _ h, e]
  rfl
/-- three tables, each in its dict -/
def Tri (H : Hp) (ds : List Addr) (ts : List Tb) : Prop := Paired (fun a t => H a = some (.dK (kvT t))) ds ts
def dueD (mv : List (Str × Str)) : PyData := .list [rowD first, rowD (secondT mv), rowD (thirdT (secondT mv)), .int 3]
theorem get_slot (t : Tb) (z : Str) : ((getL t z).map V.int).getD .non = slotO (getL t z) := by cases getL t z <;> rfl
def sp_L_due (K : PySem.W.Frag) : Sp := fun vs H Q _ => ∃ (l : Addr) (ts : List Addr) (mv : List (Str × Str)), vs = [.ref l] ∧ MvL K H l ts mv ∧ mv ∈ moves8 ∧ ∀ H' p, Same H H' → DD H' (.ref p) (dueD mv) → Q (.ref p) H'
theorem ok_L_due (T : Top K mg) : FnOk P w K mg base CX0 1 T.f__law_due T.d__law_due ["_law_moves"] (sp_L_due K) := by
  refine T.F__law_due.ok scL_due (fun vs H Q E h => ?_) (fun cdv A outer s H vs Q E hr h => ?_)
  · obtain ⟨l, ts, mv, rfl, _⟩ := h
    rfl
  · obtain ⟨l, ts, mv, rfl, hm, m8, q⟩ := h
    refine ⟨_, (pss_cons (ps_asg (pe_tup (pa_cons (pe_disp (pps_cons pe_str pe_int (pps_cons pe_str pe_int pps_nil)) rfl rfl (by decide) (by decide)) (pa_cons pe_int pa_nil))) (pg_tup rfl (pgs_cons (pg_name (i := 1) scL_due.nd rfl (.inr rfl)) (pgs_cons (pg_name (i := 2) scL_due.nd rfl (.inl rfl)) pgs_nil))))
      (pss_cons (ps_set (i := 3) scL_due.nd rfl (.inr rfl) (pe_callTy (call_dictP rfl) (by rfl) T.m_dict (by decide +kernel) (pa_cons (pe_lc (own := [("_law_old", 7), ("_law_new", 8)]) (g := gTup K 2 (gCons (gName 7) (gCons (gName 8) gNil))) rfl scL_due.nd (pi_list (pv 0)) (blkOk_by (N := N_L_due) (sc := defScope s_L_due) (by decide +kernel)) (fun _ _ _ _ _ => (pg_tup rfl (pgs_cons (pg_name (i := 7) scL_due.nd rfl (.inl rfl)) (pgs_cons (pg_name (i := 8) scL_due.nd rfl (.inl rfl)) pgs_nil)))) (fun _ _ _ _ _ => pts_nil) (fun _ _ _ _ _ => (pe_tup (pa_cons (pv 8) (pa_cons (pe_dget (hu_of hr) (pv 1) (pv 7) (fun _ _ => rfl)) pa_nil))))) pa_nil)))
      (pss_cons (ps_set (i := 4) scL_due.nd rfl (.inl rfl) (pe_callTy (call_dictP rfl) (by rfl) T.m_dict (by decide +kernel) (pa_cons (pe_lc (own := [("_law_one", 5)]) rfl scL_due.nd (pi_list (pe_lst (pa_cons pe_str (pa_cons pe_str (pa_cons pe_str pa_nil))))) (blkOk_by (N := N_L_due) (sc := defScope s_L_due) (by decide +kernel)) (fun _ _ _ _ _ => (pg_name (i := 5) scL_due.nd rfl (.inl rfl))) (fun _ _ _ _ _ => pts_one (pt_cmp (pc_din (hu_of hr) (pv 5) (pv 3)))) (fun _ _ _ _ _ => (pe_tup (pa_cons (pv 5) (pa_cons (pe_dget (hu_of hr) (pv 3) (pv 5) (fun _ _ => rfl)) pa_nil))))) pa_nil)))
      (pss_cons (ps_for PassesOwn.never rfl (pi_list (pe_lst (pa_cons pe_str (pa_cons pe_str (pa_cons pe_str pa_nil))))) (pg_name (i := 5) scL_due.nd rfl (.inl rfl)) (pss_one (ps_if (pt_cmp (pc_dnotin (hu_of hr) (pv 5) (pv 4))) (pss_cons (ps_dput (hu_of hr) (pv 4) (pv 5) (pv 2) rfl)
      (pss_one (ps_set (i := 2) scL_due.nd rfl (.inl rfl) (pe_op op_add (pv 2) pe_int)))) pss_nil)))
      (pss_cons (ps_set (i := 6) scL_due.nd rfl (.inr rfl) (pe_lst (pa_cons pe_str (pa_cons pe_str (pa_cons pe_str (pa_cons pe_str (pa_cons pe_str pa_nil)))))))
      (pss_one (ps_ret (pe_op op_cat (pe_lc (own := [("_law_row", 9)]) rfl scL_due.nd (pi_list (pe_lst (pa_cons (pv 1) (pa_cons (pv 3) (pa_cons (pv 4) pa_nil))))) (blkOk_by (N := N_L_due) (sc := defScope s_L_due) (by decide +kernel)) (fun _ _ _ _ _ => (pg_name (i := 9) scL_due.nd rfl (.inr rfl))) (fun _ _ _ _ _ => pts_nil) (fun _ _ _ _ _ => (pe_lc (own := [("_law_one", 5)]) (wi := iList K (tVar 6)) rfl scL_due.nd (pi_list (pv 6)) (blkOk_by (by rfl)) (fun _ _ _ _ _ => (pg_name (i := 5) scL_due.nd rfl (.inl rfl))) (fun _ _ _ _ _ => pts_nil) (fun _ _ _ _ _ => (pe_dget1 (hu_of hr) (pv 9) (pv 5) ⟨rfl, rfl, rfl, rfl⟩))))) (pe_lst (pa_cons pe_int pa_nil)))))))))), ?_⟩
    have len2 := m8_len mv m8
    refine fun d1 nd1 => ⟨upd_same, [(Sum.inr "a.x", .int 0), (Sum.inr "a.y", .int 1)], rfl, by decide, Nat.le_of_ble_eq_true rfl, fun t nt => ?_⟩
    refine ⟨t, _, rfl, SqT.of upd_same, rfl, .ref d1, [.int 2], rfl, .int 2, [], rfl, rfl, ?_⟩
    have eH : upd (upd (upd H d1 (.dK [])) d1 (.dK (mergeK [] [(Sum.inr "a.x", V.int 0), (Sum.inr "a.y", V.int 1)]))) t (.tup [.ref d1, .int 2]) = upd (upd H d1 (.dK (kvT first))) t (.tup [.ref d1, .int 2]) := by rw [upd_upd]; rfl
    have nt' : upd H d1 (.dK (kvT first)) t = none := by rw [upd_upd] at nt; exact nt
    have s1 : Same H (upd (upd H d1 (.dK (kvT first))) t (.tup [.ref d1, .int 2])) := (same_new nd1).trans (same_new nt')
    have h1 : upd (upd H d1 (.dK (kvT first))) t (.tup [.ref d1, .int 2]) d1 = some (.dK (kvT first)) := same_new nt' _ _ upd_same
    rw [eH]
    generalize upd (upd H d1 (.dK (kvT first))) t (.tup [.ref d1, .int 2]) = H1 at s1 h1
    refine ⟨.ref l, rfl, l, rfl, ⟨_, (hm.same s1).sq⟩, fun D nD => lc_it (walk_list (xs := ts.map V.ref)) (fun i H4 => ∃ ps : List Addr, Same H1 H4 ∧ H4 D = some (.lst (ps.map V.ref)) ∧ Prz H4 ps (secP (mv.take i))) ?_ ?_ ?_ ?_⟩
    · exact ⟨[], same_new nD, upd_same, .nil⟩
    · rintro i H4 _ ⟨ps, s4, _⟩
      exact (hm.same (s1.trans s4)).sq
    · rintro i v H4' H4 hi ⟨ps, s4, d4, p4⟩ ⟨rfl, hv⟩
      obtain ⟨t2, m, rfl, hmi, ht⟩ := (hm.same (s1.trans s4)).get hv
      have hf := m8_from mv m8 m (List.mem_of_getElem? hmi)
      cases e : getL first m.1 with
      | none => rw [e] at hf; cases hf
      | some sl =>
        refine ⟨t2, _, rfl, ht, rfl, .str m.1, [.str m.2], rfl, .str m.2, [], rfl, rfl, rfl, ?_⟩
        refine ⟨.str m.2, rfl, .ref d1, rfl, .str m.1, rfl, d1, .int sl, rfl, (by have := DGet.k (k := Sum.inr m.1) (s4 _ _ h1); rw [valT, e] at this; exact this), Nat.le_of_ble_eq_true rfl, fun p np => ⟨_, same_new np _ _ d4, ?_, ps ++ [p], upd_off nD (s4.trans (same_new np)), ?_, ?_⟩⟩
        · rw [List.length_map, p4.len]
          have := tk2 (i := i) len2
          exact small1000 (by unfold secP; rw [List.length_map]; omega)
        · rw [upd_same, List.map_append]
          rfl
        · rw [sec_snoc hmi e]
          exact ((p4.same (same_new np)).snoc upd_same).offL (same_new np _ _ d4)
    rintro H2 ⟨ps, s2, dl2, p2⟩
    rw [hm.len, List.take_length] at p2
    refine ⟨D, ps, kvT (secP mv), rfl, SqL.of dl2, Paired.mapP p2 fun _ _ q => SqT.of q, fun d2 nd2 => ?_⟩
    have e2 : mergeK [] (kvT (secP mv)) = kvT (secondT mv) := kvD_merge (f := (Sum.inr : Str → Key)) (g := V.int) inr_inj (secP mv) []
    rw [e2]
    have s3 := s2.trans (same_new (o := .dK (kvT (secondT mv))) nd2)
    have h2 : upd H2 d2 (.dK (kvT (secondT mv))) d2 = some (.dK (kvT (secondT mv))) := upd_same
    generalize upd H2 d2 (.dK (kvT (secondT mv))) = H3 at s3 h2
    refine ⟨Nat.le_of_ble_eq_true rfl, fun l3 nl3 => ?_⟩
    have s5 : Same H3 (upd H3 l3 (.lst (names3.map V.str))) := same_new nl3
    have h5 : upd H3 l3 (.lst (names3.map V.str)) l3 = some (.lst (names3.map V.str)) := upd_same
    have eH5 : upd H3 l3 (.lst [.str "a.x", .str "a.y", .str "b.x"]) = upd H3 l3 (.lst (names3.map V.str)) := rfl
    rw [eH5]
    generalize upd H3 l3 (.lst (names3.map V.str)) = H5 at s5 h5
    refine ⟨l3, rfl, ⟨_, SqL.of h5⟩, fun D2 nD2 => lc_it (walk_list (xs := names3.map V.str)) (fun i H4 => ∃ ps : List Addr, Same H5 H4 ∧ H4 D2 = some (.lst (ps.map V.ref)) ∧ Prz H4 ps (thiP (secondT mv) (names3.take i))) ?_ ?_ ?_ ?_⟩
    · exact ⟨[], same_new nD2, upd_same, .nil⟩
    · rintro i H4 _ ⟨ps, s4, _⟩
      exact SqL.of (s4 _ _ h5)
    · rintro i v H4' H4 hi ⟨ps, s4, d4, p4⟩ ⟨rfl, hv⟩
      obtain ⟨z, hz, rfl⟩ := spot_at hv
      refine ⟨rfl, ?_⟩
      refine ⟨.str z, rfl, .ref d2, rfl, d2, _, rfl, DGet.k (k := Sum.inr z) (s4 _ _ (s5 _ _ h2)), _, rfl, ?_⟩
      rw [valT]
      cases e : getL (secondT mv) z with
      | none =>
        refine iteF ⟨ps, s4, d4, ?_⟩
        rw [thi_f hz e]
        exact p4
      | some sl =>
        refine iteT ⟨.str z, rfl, .ref d2, rfl, .str z, rfl, d2, .int sl, rfl, (by have := DGet.k (k := Sum.inr z) (s4 _ _ (s5 _ _ h2)); rw [valT, e] at this; exact this), Nat.le_of_ble_eq_true rfl, fun p np => ⟨_, same_new np _ _ d4, ?_, ps ++ [p], upd_off nD2 (s4.trans (same_new np)), ?_, ?_⟩⟩
        · rw [List.length_map, p4.len]
          have h1 := thi_len (secondT mv) (names3.take i)
          have h2 : (names3.take i).length ≤ 3 := tk2 (Nat.le_refl 3)
          exact small1000 (by omega)
        · rw [upd_same, List.map_append]
          rfl
        · rw [thi_t hz e]
          exact ((p4.same (same_new np)).snoc upd_same).offL (same_new np _ _ d4)
    rintro H6 ⟨ps6, s6, dl6, p6⟩
    refine ⟨D2, ps6, kvT (thiP (secondT mv) names3), rfl, SqL.of dl6, Paired.mapP p6 fun _ _ q => SqT.of q, fun d3 nd3 => ?_⟩
    have e3 : mergeK [] (kvT (thiP (secondT mv) names3)) = kvT (thirdS (secondT mv)) := kvD_merge (f := (Sum.inr : Str → Key)) (g := V.int) inr_inj (thiP (secondT mv) names3) []
    rw [e3]
    have s7 := s6.trans (same_new (o := .dK (kvT (thirdS (secondT mv)))) nd3)
    have h7 : upd H6 d3 (.dK (kvT (thirdS (secondT mv)))) d3 = some (.dK (kvT (thirdS (secondT mv)))) := upd_same
    have n3H5 : H5 d3 = none := s6.free nd3
    generalize upd H6 d3 (.dK (kvT (thirdS (secondT mv)))) = H7 at s7 h7
    refine ⟨Nat.le_of_ble_eq_true rfl, fun l4 nl4 => ?_⟩
    have s8 : Same H7 (upd H7 l4 (.lst (names3.map V.str))) := same_new nl4
    have h8 : upd H7 l4 (.lst (names3.map V.str)) l4 = some (.lst (names3.map V.str)) := upd_same
    have eH8 : upd H7 l4 (.lst [.str "a.x", .str "a.y", .str "b.x"]) = upd H7 l4 (.lst (names3.map V.str)) := rfl
    rw [eH8]
    have h78 := s8 _ _ h7
    generalize upd H7 l4 (.lst (names3.map V.str)) = H8 at s8 h8 h78
    have s8H5 := s7.trans s8
    refine ⟨l4, rfl, ⟨_, SqL.of h8⟩, for_it (walk_list (xs := names3.map V.str)) (fun i σ H9 => ∃ y5 : Option V, σ = [some (.ref l), some (.ref d1), some (.int ((names3.take i).foldl dueStep (thirdS (secondT mv), 2)).2), some (.ref d2), some (.ref d3), y5, none, none, none, none] ∧ Kept d3 H8 H9 ∧ H9 d3 = some (.dK (kvT ((names3.take i).foldl dueStep (thirdS (secondT mv), 2)).1))) ?_ ?_ ?_ ?_⟩
    · exact ⟨none, rfl, Kept.refl _ _, h78⟩
    · rintro i σ H9 _ ⟨y5, rfl, k9, _⟩
      exact SqL.of (k9 _ _ (ne_of h8 h78 (fun z => nomatch z)) h8)
    · rintro i v σ H9' H9 hi ⟨y5, rfl, k9, d9⟩ ⟨rfl, hv⟩
      obtain ⟨z, hz, rfl⟩ := spot_at hv
      refine ⟨.str z, rfl, .ref d3, rfl, d3, _, rfl, DGet.k (k := Sum.inr z) d9, _, rfl, ?_⟩
      rw [valT]
      have hst : (names3.take (i + 1)).foldl dueStep (thirdS (secondT mv), 2) = dueStep ((names3.take i).foldl dueStep (thirdS (secondT mv), 2)) z := foldl_take _ _ hz
      have lst : ((names3.take i).foldl dueStep (thirdS (secondT mv), 2)).1.length < sizeLine := by
        have h1 := due_len (names3.take i) (thirdS (secondT mv), 2)
        have h2 : (names3.take i).length ≤ 3 := tk2 (Nat.le_refl 3)
        have h3 := mergeL_len (thiP (secondT mv) names3) []
        have h4 := thi_len (secondT mv) names3
        have h5 : names3.length = 3 := rfl
        have h6 : (thirdS (secondT mv)).length ≤ 3 := by unfold thirdS; rw [List.length_nil] at h3; omega
        have h7 : (thirdS (secondT mv), (2 : Int)).1.length ≤ 3 := h6
        exact small1000 (by omega)
      rw [hst]
      generalize (names3.take i).foldl dueStep (thirdS (secondT mv), 2) = st at d9 lst
      cases e : getL st.1 z with
      | some sl =>
        refine iteF ?_
        have : dueStep st z = st := by unfold dueStep; rw [e]; rfl
        rw [this]
        exact ⟨_, rfl, k9, d9⟩
      | none =>
        have : dueStep st z = (putL st.1 z st.2, st.2 + 1) := by unfold dueStep; rw [e]; rfl
        rw [this]
        refine iteT ⟨.int st.2, rfl, .ref d3, rfl, .str z, rfl, d3, _, rfl, DPut.k (k := Sum.inr z) d9 (by rw [kvD_len]; exact lst), ?_⟩
        refine ⟨.int st.2, rfl, st.2, 1, rfl, rfl, _, rfl, k9.trans Kept.at, ?_⟩
        rw [upd_same, kvD_put inr_inj]
    rintro σ H9 ⟨y5, rfl, k9, d9⟩
    replace d9 : H9 d3 = some (.dK (kvT (thirdT (secondT mv)))) := d9
    generalize hn : ((names3.take (names3.map V.str).length).foldl dueStep (thirdS (secondT mv), 2)).2 = nn
    have n3 : H d3 = none := s1.free ((s3.trans s5).free n3H5)
    have s9 : Same H H9 := fun b u e => k9 _ _ (ne_of_none e n3) ((s1.trans ((s3.trans s5).trans s8H5)) _ _ e)
    have d1n : d1 ≠ d3 := ne_of_none h1 ((s3.trans s5).free n3H5)
    have d2n : d2 ≠ d3 := ne_of_none (s5 _ _ h2) n3H5
    have h19 := k9 _ _ d1n (((s3.trans s5).trans s8H5) _ _ h1)
    have h29 := k9 _ _ d2n ((s5.trans s8H5) _ _ h2)
    have tri : Tri H9 [d1, d2, d3] [first, secondT mv, thirdT (secondT mv)] := .cons h19 (.cons h29 (.cons d9 .nil))
    clear k9 h19 h29 d9 hn
    refine ⟨Nat.le_of_ble_eq_true rfl, fun ls nls => ?_⟩
    have s10 : Same H9 (upd H9 ls (.lst (spots.map V.str))) := same_new nls
    have h10 : upd H9 ls (.lst (spots.map V.str)) ls = some (.lst (spots.map V.str)) := upd_same
    have eH10 : upd H9 ls (.lst [.str "a.x", .str "a.y", .str "a.z", .str "b.x", .str "b.y"]) = upd H9 ls (.lst (spots.map V.str)) := rfl
    rw [eH10]
    generalize upd H9 ls (.lst (spots.map V.str)) = H10 at s10 h10
    refine ⟨.ref d1, rfl, .ref d2, rfl, .ref d3, rfl, Nat.le_of_ble_eq_true rfl, fun l5 nl5 => ?_⟩
    have s11 : Same H10 (upd H10 l5 (.lst ([d1, d2, d3].map V.ref))) := same_new nl5
    have h11 : upd H10 l5 (.lst ([d1, d2, d3].map V.ref)) l5 = some (.lst ([d1, d2, d3].map V.ref)) := upd_same
    have eH11 : upd H10 l5 (.lst [.ref d1, .ref d2, .ref d3]) = upd H10 l5 (.lst ([d1, d2, d3].map V.ref)) := rfl
    rw [eH11]
    generalize upd H10 l5 (.lst ([d1, d2, d3].map V.ref)) = H11 at s11 h11
    have tri11 : Tri H11 [d1, d2, d3] [first, secondT mv, thirdT (secondT mv)] := Paired.mapP tri fun _ _ q => s11 _ _ (s10 _ _ q)
    have hs11 := s11 _ _ h10
    generalize eds : [d1, d2, d3] = ds at *
    generalize etb : [first, secondT mv, thirdT (secondT mv)] = tb at *
    have ltb : tb.length = 3 := by rw [← etb]; rfl
    have lds : (ds.map V.ref).length = tb.length := by rw [List.length_map]; exact My.Paired.len tri11
    refine ⟨l5, rfl, ⟨_, SqL.of h11⟩, fun D3 nD3 => lc_it (walk_list (xs := ds.map V.ref)) (fun i H4 => ∃ vs, Same H11 H4 ∧ H4 D3 = some (.lst vs) ∧ DKs D3 H4 vs ((tb.take i).map rowD)) ?_ ?_ ?_ ?_⟩
    · exact ⟨[], same_new nD3, upd_same, DKs.nil⟩
    · rintro i H4 _ ⟨vs, s4, _⟩
      exact SqL.of (s4 _ _ h11)
    · rintro i v H4' H4 hi ⟨vs, s4, d4, q4⟩ ⟨rfl, hv⟩
      have hit : i < tb.length := by rw [← lds]; exact hi
      obtain ⟨a, ha, hta⟩ := My.Paired.get tri11 (List.getElem?_eq_getElem hit)
      have hti := List.getElem?_eq_getElem hit
      generalize tb[i] = tt at hti hta
      rw [List.getElem?_map, ha] at hv
      cases hv
      refine ⟨rfl, ?_⟩
      refine ⟨.ref ls, rfl, ls, rfl, ⟨_, SqL.of (s4 _ _ hs11)⟩, fun D4 nD4 => lc_it (walk_list (xs := spots.map V.str)) (fun j H5 => Same H4 H5 ∧ H5 D4 = some (.lst (rowV tt (spots.take j)))) ?_ ?_ ?_ ?_⟩
      · exact ⟨same_new nD4, upd_same⟩
      · rintro j H5 _ ⟨s5', _⟩
        exact SqL.of (s5' _ _ (s4 _ _ hs11))
      · rintro j v H5' H5 hj ⟨s5', d5⟩ ⟨rfl, hv⟩
        obtain ⟨z, hz, rfl⟩ := spot_at hv
        refine ⟨rfl, ?_⟩
        have hd := s5' _ _ (s4 _ _ hta)
        refine ⟨.ref a, rfl, a, rfl, .inl ⟨_, .inl hd⟩, .str z, rfl, _, DGet.k (k := Sum.inr z) hd, ?_⟩
        rw [valT, get_slot]
        refine ⟨_, d5, ?_, upd_off nD4 s5', ?_⟩
        · rw [row_len, List.length_take]
          exact Nat.lt_of_le_of_lt (Nat.min_le_right _ _) (Nat.le_of_ble_eq_true rfl)
        · rw [upd_same, row_snoc hz]
      rintro H5 ⟨s5', d5⟩
      rw [show spots.take (spots.map V.str).length = spots from rfl] at d5
      refine ⟨vs, s5' _ _ d4, ?_, vs ++ [.ref D4], upd_off nD3 (s4.trans s5'), upd_same, ?_⟩
      · rw [q4.now.len, List.length_map, List.length_take]
        exact small1000 (by omega)
      · have nD : D4 ≠ D3 := (ne_of_none d4 nD4).symm
        rw [take_snoc rowD hti]
        have q5 := (q4.keep (Kept.same s5')).app (.cons (DK.lst (b := D3) (H := H5) d5 nD (fun _ _ => dds_row tt spots)) .nil)
        exact q5.keep Kept.at
    rintro H12 ⟨vs, s12, d12, q12⟩
    rw [lds, List.take_length, ← etb] at q12
    have q12 := q12.now
    refine ⟨Nat.le_of_ble_eq_true rfl, fun g ng => ⟨D3, g, vs, [.int 3], rfl, rfl, same_new ng _ _ d12, upd_same, ?_, fun r nr => ?_⟩⟩
    · rw [q12.len]
      exact Nat.le_of_ble_eq_true rfl
    have sg : Same H12 (upd (upd H12 g (.lst [.int 3])) r (.lst (vs ++ [.int 3]))) := (same_new ng).trans (same_new nr)
    exact q _ r (s9.trans (s10.trans (s11.trans (s12.trans sg)))) (.lst upd_same ((q12.same sg).app (.cons (.int 3) .nil)))
end
end K16

set_option Elab.async false
set_option linter.all false
set_option maxRecDepth 100000
set_option maxHeartbeats 4000000
namespace K16
open PySem PySem.Spec PyProof.Rows L2 My
section
variable {P : Program} {w : World} {K : PySem.W.Frag} {mg : Str → Option Value} {base : Heap}
theorem getL_mem {κ ν : Type} [DecidableEq κ] {l : List (κ × ν)} {k : κ} {v : ν} (h : getL l k = some v) : ∃ p ∈ l, p.2 = v := by
  unfold getL at h
  rw [Option.map_eq_some_iff] at h
  obtain ⟨p, h1, h2⟩ := h
  exact ⟨p, List.mem_of_find?_eq_some h1, h2⟩
def relB (hs : HS) (q : RelD) : Bool :=
  decide (q.1.length ≤ 1000000) && (decide ((rowsOf q.1).length ≤ 90000) && ((rowsOf q.1).all (fun z => decide (z.length ≤ 1000)) && (decide (runF fs0 (rowsOf q.1) = some q.2.2) && (decide (q.2.2.kept = []) && (decide (q.2.2.settings.length ≤ 1000) &&
  (decide (q.2.1.length ≤ 100) && (q.2.1.all (fun m => decide (m.1.length ≤ 1000 ∧ m.2.length ≤ 1000)) && (q.2.1.all (fun m => hasK (kvT (lastT hs)) (.str m.1)) && (q.2.1.all (fun m => inS q.2.2.settings (.str m.2)) && (decide (q.2.1.map (·.1)).Nodup && (decide (q.2.1.map (·.2)).Nodup &&
  ((knownOf hs q.2.1 [] (q.2.2.settings.map (·.1))).all (fun kv => decide (0 ≤ kv.2 ∧ kv.2.toNat < hs.rts.length)) && (decide (hs.tabs.length ≤ 7) && (decide (hs.rts.length ≤ 1000) && (hs.rts.all (fun r => decide (r.length ≤ 1000)) && decide ((nextH hs q).rts.length ≤ 12))))))))))))))))
theorem relB_ok {hs : HS} {q : RelD} (h : relB hs q = true) : RelOk hs q.1 q.2.1 q.2.2 := by
  unfold relB at h
  simp only [Bool.and_eq_true, decide_eq_true_eq, List.all_eq_true] at h
  obtain ⟨a1, a2, a3, a4, a5, a6, a7, a8, a9, a10, a11, a12, a13, a14, a15, a16, a17⟩ := h
  refine ⟨⟨a1, a2, a3, a4⟩, a5, a6, ⟨a7, a8, a9, a10, a11, a12⟩, fun p s e => ?_, a14, a15, a16, a17⟩
  obtain ⟨kv, hk, rfl⟩ := getL_mem e
  exact a13 kv hk
def takesB : HS → List RelD → Bool
  | _, [] => true
  | hs, q :: r => relB hs q && takesB (nextH hs q) r
theorem takesB_ok : ∀ {l : List RelD} {hs : HS}, takesB hs l = true → Takes hs l
  | [], _, _ => trivial
  | q :: r, hs, h => by
    have h : (relB hs q && takesB (nextH hs q) r) = true := h
    rw [Bool.and_eq_true] at h
    exact ⟨relB_ok h.1, takesB_ok h.2⟩
def fsOf (t : Str) : FS := (runF fs0 (rowsOf t)).getD fs0
abbrev tx1 : Str := "[a]\nx = 1\ny = 1"
abbrev tx3 : Str := "[a]\nx = 2\ny = 2\n[b]\nx = 1"
def relsOf (mv : List (Str × Str)) : List RelD := [(tx1, [], fsOf tx1), (movedT mv, mv, fsOf (movedT mv)), (tx3, [], fsOf tx3)]
theorem m8_takes : ∀ mv ∈ moves8, takesB hs0 (relsOf mv) = true := by decide +kernel
def histOf (mv : List (Str × Str)) : HS := (relsOf mv).foldl nextH hs0
theorem m8_tabs : ∀ mv ∈ moves8, (histOf mv).tabs.map (fun t => spots.map (getL t)) = [first, secondT mv, thirdT (secondT mv)].map (fun t => spots.map (getL t)) := by decide +kernel
theorem rowD_of {t u : Tb} (h : spots.map (getL t) = spots.map (getL u)) : rowD t = rowD u := by
  have e : ∀ t : Tb, rowD t = .list ((spots.map (getL t)).map slotD) := fun t => by unfold rowD; rw [List.map_map]; rfl
  rw [e, e, h]
theorem tabs_of {mv : List (Str × Str)} (m8 : mv ∈ moves8) : ∃ t0 t1 t2, (histOf mv).tabs = [t0, t1, t2] ∧ PyData.list [rowD t0, rowD t1, rowD t2, .int 3] = dueD mv := by
  have h := m8_tabs mv m8
  generalize (histOf mv).tabs = l at h
  match l, h with
  | [t0, t1, t2], h =>
    simp only [List.map_cons, List.map_nil, List.cons.injEq, and_true] at h
    obtain ⟨h0, h1, h2⟩ := h
    refine ⟨t0, t1, t2, rfl, ?_⟩
    unfold dueD
    rw [rowD_of (t := t0) (u := first) (by simpa using h0), rowD_of (t := t1) (u := secondT mv) (by simpa using h1), rowD_of (t := t2) (u := thirdT (secondT mv)) (by simpa using h2)]
  | [], h => exact absurd (congrArg List.length h) (by simp)
  | [_], h => exact absurd (congrArg List.length h) (by simp)
  | [_, _], h => exact absurd (congrArg List.length h) (by simp)
  | _ :: _ :: _ :: _ :: _, h => exact absurd (congrArg List.length h) (by simp)
def mvD (mv : List (Str × Str)) : PyData := .tuple (mv.map fun m => .tuple [.str m.1, .str m.2])
theorem m8_due : ∀ mv ∈ moves8, SeqAt.shaped (.list [dueD mv, dueD mv, dueD mv]) = true ∧ PyData.eqv (.list [dueD mv, dueD mv, dueD mv]) (.list [dueD mv, dueD mv, dueD mv]) = true := by decide +kernel
theorem m8_mv : ∀ mv ∈ moves8, SeqAt.shaped (mvD mv) = true ∧ PyData.eqv (mvD mv) (mvD mv) = true := by decide +kernel
theorem dp_mv {H : Hp} : ∀ {ts : List Addr} {mv : List (Str × Str)}, Paired (MvAt K H) ts mv → DpAll K H (ts.map V.ref) (mv.map fun m => .tuple [.str m.1, .str m.2])
  | _, _, .nil => .nil
  | _, _, .cons h r => .cons (.tup h (.cons (.str _) (.cons (.str _) .nil))) (dp_mv r)
/-! ### histories in the heap -/
variable {C : Addr} {H0 H : Hp} {x : Addr} {hs : HS} {A : HPts}
theorem _root_.My.HistP.weaken {H1 : Hp} (h : HistP C H0 H x hs A) (s : Same H1 H0) : HistP C H1 H x hs A := by
  obtain ⟨n1, n2, n3, n4⟩ := h.n
  exact ⟨s.trans h.same, h.ob, h.eF, h.eS, h.eR, h.eD, h.tbs, Paired.mapP h.rts fun a b q => ⟨q.1, s.free q.2⟩, h.nd, h.fs, h.fr, h.sr, ⟨s.free n1, s.free n2, s.free n3, s.free n4⟩, h.fl⟩
/-- another list changes -/
theorem _root_.My.HistP.poke {l : Addr} {ys : List V} {o : HO} (h : HistP C H0 H x hs A) (hl : H l = some (.lst ys)) (a1 : A.F ≠ l) (a2 : A.S ≠ l) (a3 : A.R ≠ l) : HistP C (fun _ => none) (upd H l o) x hs A := by
  refine ⟨(fun _ _ e => nomatch e), by rw [upd_ne (ne_of h.ob hl (fun z => nomatch z))]; exact h.ob, by rw [upd_ne a1]; exact h.eF, by rw [upd_ne a2]; exact h.eS, by rw [upd_ne a3]; exact h.eR, by rw [upd_ne (ne_of h.eD hl (fun z => nomatch z))]; exact h.eD, ?_, ?_, h.nd, h.fs, h.fr, h.sr, ⟨rfl, rfl, rfl, rfl⟩, h.fl⟩
  · exact Paired.mapP h.tbs fun a b q => ⟨by rw [upd_ne (ne_of q.1 hl (fun z => nomatch z))]; exact q.1, q.2⟩
  · exact Paired.mapP h.rts fun a b q => ⟨by rw [upd_ne (ne_of q.1 hl (fun z => nomatch z))]; exact q.1, rfl⟩
theorem rel_plain (T : Top K mg) {H H' : Hp} {x dx : Addr} {t : Str} {a b c : V} (hx : H' x = some (.ins T.C_Release dx (rfl3 a b c))) (ua : UnA K x H H' false (.str t) a) (ub : UnA K x H H' false (.ref T.dv_Release___init___renames) b) (uc : UnA K x H H' false (.ref T.dv_Release___init___returns) c) : RelP K T.C_Release H' x t [] := by
  obtain ⟨_, rfl⟩ := ua
  obtain ⟨_, rfl⟩ := ub
  obtain ⟨_, rfl⟩ := uc
  exact ⟨dx, _, _, [], hx, ⟨T.sq_Release___init___renames _, .nil⟩, T.sq_Release___init___returns _⟩
theorem mk_hist (T : Top K mg) {H : Hp} {x1 x2 x3 xh dxh : Addr} {mv : List (Str × Str)} {Q : VK} {E : XK} (m8 : mv ∈ moves8) (r1 : RelP K T.C_Release H x1 tx1 []) (r2 : RelP K T.C_Release H x2 (movedT mv) mv) (r3 : RelP K T.C_Release H x3 tx3 [])
    (nx : H xh = none) (nd : H dxh = none) (q : ∀ H' A, HistP T.C_History H H' xh (histOf mv) A → Q .non H') :
    starSp 1 (.ref T.dv_History___init___exclusions) (sp_History___init__ K T) [.ref xh, .ref x1, .ref x2, .ref x3] (upd (upd H dxh (.own xh)) xh (.ins T.C_History dxh [])) Q E := by
  refine ⟨[.ref xh], [.ref x1, .ref x2, .ref x3], rfl, rfl, Nat.le_of_ble_eq_true rfl, fun p np => ?_⟩
  have pxh : p ≠ xh := fun z => by rw [z, upd_same] at np; cases np
  have np1 : upd H dxh (.own xh) p = none := by rw [upd_ne pxh] at np; exact np
  have pdx : p ≠ dxh := fun z => by rw [z, upd_same] at np1; cases np1
  have npH : H p = none := by rw [upd_ne pdx] at np1; exact np1
  have sH : Same H (upd H p (.tup ([x1, x2, x3].map V.ref))) := same_new npH
  refine ⟨upd H p (.tup ([x1, x2, x3].map V.ref)), xh, dxh, _, p, [x1, x2, x3], relsOf mv, rfl, ?_, ?_, ?_, SqT.of upd_same, T.sq_History___init___exclusions _, .cons (r1.same sH) (.cons (r2.same sH) (.cons (r3.same sH) .nil)), (fun z => nomatch z), takesB_ok (m8_takes mv m8), fun H' A h => ?_⟩
  · intro b o e
    by_cases hb : b = p
    · subst hb
      rw [upd_same] at e ⊢
      exact e
    · rw [upd_ne hb] at e ⊢
      rw [upd_ne (ne_of_none e nx), upd_ne (ne_of_none e nd)]
      exact e
  · rw [upd_ne pxh.symm]
    exact nx
  · rw [upd_ne pxh.symm]
    exact upd_same
  · exact q H' A (h.weaken sH)
theorem kept_off {b c : Addr} {H0 H : Hp} {o : HO} (k : Kept b H0 H) (n : H0 c = none) : Kept b H0 (upd H c o) := fun x u h e => by
  rw [upd_ne (ne_of_none e n)]
  exact k x u h e
def pairs4 : List (Str × Str) := [("a.z", "b.x"), ("b.y", "a.x"), ("a.y", "a.x"), ("b.x", "b.y")]
theorem p4_m8 : ∀ p ∈ pairs4, [(("a.x" : Str), p.1)] ∈ moves8 ∧ [(("a.x" : Str), p.1), (("a.y" : Str), p.2)] ∈ moves8 := by decide +kernel
theorem cut2 {t1 t2 : Addr} {c : Int} (h0 : 0 ≤ c) (h1 : c < 2) {p : Str × Str} (hp : p ∈ pairs4) : ∃ ts mv, cutV [V.ref t1, .ref t2] none (some (1 + c)) = ts.map V.ref ∧ mv ∈ moves8 ∧ ∀ H, SqT K H t1 [.str "a.x", .str p.1] → SqT K H t2 [.str "a.y", .str p.2] → Paired (MvAt K H) ts mv := by
  have : c = 0 ∨ c = 1 := by omega
  rcases this with rfl | rfl
  · exact ⟨[t1], [("a.x", p.1)], rfl, (p4_m8 p hp).1, fun H a _ => .cons a .nil⟩
  · exact ⟨[t1, t2], [("a.x", p.1), ("a.y", p.2)], rfl, (p4_m8 p hp).2, fun H a b => .cons a (.cons b .nil)⟩
end
end K16

set_option Elab.async false
set_option linter.all false
set_option maxRecDepth 100000
set_option maxHeartbeats 8000000
namespace K16
open PySem PySem.Spec PyProof.Rows L2 My
section
variable {P : Program} {w : World} {K : PySem.W.Frag} {mg : Str → Option Value} {base : Heap}
def sp_law (K : PySem.W.Frag) : Sp := fun vs H Q _ => ∃ (a : Addr) (ns : List Int), vs = [.ref a] ∧ SqL K H a (ns.map V.int) ∧ ns.length ≤ 63 ∧ ∀ H', Q (.bl true) H'
theorem ok_law (T : Top K mg) : FnG P w K mg base 13 T.f_law T.d_law ["_law_script"] (sp_law K) := by
  have G__law_bag : FnOk P w K mg base CX0 1 T.f__law_bag T.d__law_bag ["_law_script", "_law_at"] (sp_L_bag K) := ok_L_bag T
  have G__law_any_right : FnG P w K mg base 4 T.f__law_any_right T.d__law_any_right ["_law_bag_here"] (sp_L_any_right K T) := ok_L_any_right T
  have G__law_of : FnOk P w K mg base CX0 2 T.f__law_of T.d__law_of ["_law_bag_here", "_law_some"] (sp_L_of K) := ok_L_of T
  have G__law_take : FnOk P w K mg base CX0 1 T.f__law_take T.d__law_take ["_law_bag_here", "_law_many"] (sp_L_take K) := ok_L_take T
  have G_Release___init__ : FnOk P w K mg base CX0 2 T.f_Release___init__ T.d_Release___init__ ["self", "text", "renames", "returns"] (sp_Release___init__ K T) := ok_Release___init__ T
  have G__law_moved : FnOk P w K mg base CX0 1 T.f__law_moved T.d__law_moved ["_law_moves"] (sp_L_moved K) := ok_L_moved T
  have G_History___init__ : FnR P w K mg base CX0 11 T.f_History___init__ (starSp 1 (.ref T.dv_History___init___exclusions) (sp_History___init__ K T)) := ok_History___init__ T
  have G__law_due : FnOk P w K mg base CX0 1 T.f__law_due T.d__law_due ["_law_moves"] (sp_L_due K) := ok_L_due T
  have G__law_table : FnOk P w K mg base CX0 4 T.f__law_table T.d__law_table ["_law_history"] (sp_L_table K T) := ok_L_table T
  refine My.Fun.okG T.F_law sclaw (fun vs H Q E h => ?_) (fun cdv A outer s H vs Q E hr hgd h => ?_)
  · obtain ⟨a, ns, rfl, _⟩ := h
    rfl
  · obtain ⟨a, ns, rfl, hS, hl, q⟩ := h
    refine ⟨_, (pss_cons (ps_for PassesOwn.never rfl (pi_range1 (by rfl) T.m_range (pa_cons (pe_callB (call_max2 rfl) (by rfl) T.m_max (by decide +kernel) (pa_cons pe_int (pa_cons (pe_callB (call_min2 rfl) (by rfl) T.m_min (by decide +kernel) (pa_cons pe_int (pa_cons (pe_callB call_len_seq (by rfl) T.m_len (by decide +kernel) (pa_cons (pv 0) pa_nil)) pa_nil))) pa_nil))) pa_nil)) (pg_name (i := 1) sclaw.nd rfl (.inl rfl)) (pss_cons (ps_set (i := 2) sclaw.nd rfl (.inl rfl) (pe_call G__law_bag (hr.mono (by decide)) (by rfl) T.g__law_bag T.F__law_bag.kp T.b__law_bag .nil pass0 (pa_cons (pv 0) (pa_cons (pv 1) pa_nil))))
      (pss_cons (ps_for PassesOwn.never rfl (pi_range1 (by rfl) T.m_range (pa_cons pe_int pa_nil)) (pg_name (i := 3) sclaw.nd rfl (.inl rfl)) (pss_one (ps_if (pt_not (pt_val (pe_callG G__law_any_right hgd (hr.mono (by decide)) (by rfl) T.g__law_any_right T.F__law_any_right.kp T.b__law_any_right (pa_cons (pv 2) pa_nil)))) (pss_one (ps_ret pe_bl)) pss_nil)))
      (pss_one (ps_for PassesOwn.never rfl (pi_range1 (by rfl) T.m_range (pa_cons pe_int pa_nil)) (pg_name (i := 3) sclaw.nd rfl (.inl rfl)) (pss_cons (ps_set (i := 4) sclaw.nd rfl (.inl rfl) (pe_call G__law_of (hr.mono (by decide)) (by rfl) T.g__law_of T.F__law_of.kp T.b__law_of .nil pass0 (pa_cons (pv 2) (pa_cons (pe_lst (pa_cons (pe_lst (pa_cons pe_str (pa_cons pe_str pa_nil))) (pa_cons (pe_lst (pa_cons pe_str (pa_cons pe_str pa_nil))) (pa_cons (pe_lst (pa_cons pe_str (pa_cons pe_str pa_nil))) (pa_cons (pe_lst (pa_cons pe_str (pa_cons pe_str pa_nil))) pa_nil))))) pa_nil))))
      (pss_cons (ps_set (i := 5) sclaw.nd rfl (.inl rfl) (pe_slice sl_list (pe_lst (pa_cons (pe_tup (pa_cons pe_str (pa_cons (pe_ix ix_list (pv 4) pe_int (fun _ _ => rfl)) pa_nil))) (pa_cons (pe_tup (pa_cons pe_str (pa_cons (pe_ix ix_list (pv 4) pe_int (fun _ _ => rfl)) pa_nil))) pa_nil))) po_none (po_some (pe_op op_add pe_int (pe_call G__law_take (hr.mono (by decide)) (by rfl) T.g__law_take T.F__law_take.kp T.b__law_take .nil pass0 (pa_cons (pv 2) (pa_cons pe_int pa_nil)))))))
      (pss_cons (ps_set (i := 6) sclaw.nd rfl (.inl rfl) (pe_ifExp (pt_cmpR op_eq (pe_call G__law_take (hr.mono (by decide)) (by rfl) T.g__law_take T.F__law_take.kp T.b__law_take .nil pass0 (pa_cons (pv 2) (pa_cons pe_int pa_nil))) pe_int (nomark _)) (pe_callTy call_list_of (by rfl) T.m_list (by decide +kernel) (pa_cons (pv 5) pa_nil)) (pe_callTy call_tuple_of (by rfl) T.m_tuple (by decide +kernel) (pa_cons (pv 5) pa_nil))))
      (pss_cons (ps_par (i := 7) (j := 8) (by rfl) sclaw.nd rfl rfl (by decide) rfl rfl (pa_cons (pe_make T.mk_Release G_Release___init__ (hr.mono (by decide)) (by rfl) T.g_Release T.b_Release___init__ (show Vals [V.ref T.dv_Release___init___renames, V.ref T.dv_Release___init___returns] _ from (.cons rfl (.cons rfl .nil))) pass0 (pa_cons pe_str pa_nil)) (pa_cons (pe_makeK T.mk_Release G_Release___init__ (hr.mono (by decide)) (by rfl) T.g_Release T.kn_Release___init___2 pass0 (pa_cons (pe_call G__law_moved (hr.mono (by decide)) (by rfl) T.g__law_moved T.F__law_moved.kp T.b__law_moved .nil pass0 (pa_cons (pv 5) pa_nil)) pa_nil) (pk_cons (pv 6) pk_nil)) pa_nil)) (by rfl))
      (pss_cons (ps_set (i := 9) sclaw.nd rfl (.inl rfl) (pe_make T.mk_Release G_Release___init__ (hr.mono (by decide)) (by rfl) T.g_Release T.b_Release___init__ (show Vals [V.ref T.dv_Release___init___renames, V.ref T.dv_Release___init___returns] _ from (.cons rfl (.cons rfl .nil))) pass0 (pa_cons pe_str pa_nil)))
      (pss_cons (ps_set (i := 10) sclaw.nd rfl (.inl rfl) (pe_lst (pa_cons (StX.pe_makeR T.mk_History G_History___init__ (hr.mono (by decide)) (by rfl) T.g_History pass0 (pa_cons (pv 7) (pa_cons (pv 8) (pa_cons (pv 9) pa_nil)))) (pa_cons (StX.pe_makeR T.mk_History G_History___init__ (hr.mono (by decide)) (by rfl) T.g_History pass0 (pa_cons (pv 7) (pa_cons (pv 8) (pa_cons (pv 9) pa_nil)))) pa_nil))))
      (pss_cons (ps_if (pt_val (pe_callB call_isi (by rfl) T.m_isinstance (by decide +kernel) (pa_cons (pv 6) (pa_cons (pe_bltn (v := .ty "list") (by rfl) T.m_list (by decide +kernel) rfl) pa_nil)))) (pss_cons (ps_expr (pe_bm PySem.F.plainAttrs_list PySem.F.slot_list_append PySem.F.type_list_append mt_append (pv 6) (pa_cons (pe_tup (pa_cons pe_str (pa_cons pe_str pa_nil))) pa_nil)))
      (pss_one (ps_expr (pe_bm0 PySem.F.plainAttrs_list PySem.F.slot_list_reverse PySem.F.type_list_reverse mt_reverse (pv 6))))) pss_nil)
      (pss_cons (ps_expr (pe_bm PySem.F.plainAttrs_list PySem.F.slot_list_append PySem.F.type_list_append mt_append (pv 10) (pa_cons (StX.pe_makeR T.mk_History G_History___init__ (hr.mono (by decide)) (by rfl) T.g_History pass0 (pa_cons (pv 7) (pa_cons (pv 8) (pa_cons (pv 9) pa_nil)))) pa_nil)))
      (pss_cons (ps_set (i := 11) sclaw.nd rfl (.inl rfl) (pe_call G__law_due (hr.mono (by decide)) (by rfl) T.g__law_due T.F__law_due.kp T.b__law_due .nil pass0 (pa_cons (pv 5) pa_nil)))
      (pss_one (ps_if (PW.pt (pw_or (pt_cmpR (op_neD hr.units) (pe_lc (own := [("_law_each", 12)]) rfl sclaw.nd (pi_list (pv 10)) (blkOk_by (N := N_law) (sc := defScope s_law) (by decide +kernel)) (fun _ _ _ _ _ => (pg_name (i := 12) sclaw.nd rfl (.inl rfl))) (fun _ _ _ _ _ => pts_nil) (fun _ _ _ _ _ => (pe_call G__law_table (hr.mono (by decide)) (by rfl) T.g__law_table T.F__law_table.kp T.b__law_table .nil pass0 (pa_cons (pv 12) pa_nil)))) (pe_lst (pa_cons (pv 11) (pa_cons (pv 11) (pa_cons (pv 11) pa_nil)))) (nomark _)) (pw_or1 (pt_cmpR (op_neD hr.units) (pe_fld (pv 8) rfl) (pe_callTy call_tuple_of (by rfl) T.m_tuple (by decide +kernel) (pa_cons (pv 5) pa_nil)) (nomark _))))) (pss_one (ps_ret pe_bl)) pss_nil))))))))))))))))
      (pss_one (ps_ret pe_bl))), ?_⟩
    refine ⟨.ref a, rfl, a, _, rfl, .inl hS, _, _, rfl, _, _, rfl, ?_⟩
    obtain ⟨M, hM, M1, M4⟩ : ∃ M : Int, (if (if (((ns.map V.int).length : Nat) : Int) < 4 then (((ns.map V.int).length : Nat) : Int) else 4) > 1 then (if (((ns.map V.int).length : Nat) : Int) < 4 then (((ns.map V.int).length : Nat) : Int) else 4) else 1) = M ∧ 0 ≤ M ∧ M ≤ 4 := by
      refine ⟨_, rfl, ?_, ?_⟩
      · split <;> split <;> omega
      · split <;> split <;> omega
    refine ⟨M, congrArg (fun z => [V.int z]) hM, by omega, by omega, for_it walk_range (fun _ σ H3 => ∃ y1 y2 y3 y4 y5 y6 y7 y8 y9 y10 y11 y12, σ = [some (.ref a), y1, y2, y3, y4, y5, y6, y7, y8, y9, y10, y11, y12] ∧ SqL K H3 a (ns.map V.int)) ?_ (fun _ _ _ _ _ => trivial) ?_ ?_⟩
    · exact ⟨none, none, none, none, none, none, none, none, none, none, none, none, rfl, hS⟩
    · rintro i x σ H1' H1 hi ⟨y1, y2, y3, y4, y5, y6, y7, y8, y9, y10, y11, y12, rfl, hS1⟩ ⟨rfl, rfl⟩
      refine ⟨.ref a, rfl, .int (0 + (i : Int)), rfl, a, _, ns, rfl, hS1, hl, by omega, by omega, fun H2 b s2 nb b2 => ?_⟩
      have hold := held_of hS1 s2 nb
      refine ⟨10, rfl, by decide, by decide, for_it walk_range (fun _ σ H3 => ∃ y1 y3 y4 y5 y6 y7 y8 y9 y10 y11 y12, σ = [some (.ref a), y1, some (.ref b), y3, y4, y5, y6, y7, y8, y9, y10, y11, y12] ∧ Bag H3 b ∧ Kept b H2 H3) ?_ (fun _ _ _ _ _ => trivial) ?_ ?_⟩
      · exact ⟨_, _, _, _, _, _, _, _, _, _, _, rfl, b2, Kept.refl _ _⟩
      · rintro j x σ H3' H3 hj ⟨y1, y3, y4, y5, y6, y7, y8, y9, y10, y11, y12, rfl, b3, k3⟩ ⟨rfl, rfl⟩
        refine ⟨.ref b, rfl, b, rfl, b3, fun H4 k4 b4 => ⟨true, rfl, iteF ?_⟩⟩
        exact ⟨_, _, _, _, _, _, _, _, _, _, _, rfl, b4, k3.trans k4⟩
      rintro σ H2x ⟨y1, y3, y4, y5, y6, y7, y8, y9, y10, y11, y12, rfl, b2x, k2x⟩
      refine ⟨6, rfl, by decide, by decide, for_it walk_range (fun _ σ H3 => ∃ y1 y3 y4 y5 y6 y7 y8 y9 y10 y11 y12, σ = [some (.ref a), y1, some (.ref b), y3, y4, y5, y6, y7, y8, y9, y10, y11, y12] ∧ Bag H3 b ∧ Kept b H2 H3) ?_ (fun _ _ _ _ _ => trivial) ?_ ?_⟩
      · exact ⟨_, _, _, _, _, _, _, _, _, _, _, rfl, b2x, k2x⟩
      rotate_left
      · rintro σ H3 ⟨y1, y3, y4, y5, y6, y7, y8, y9, y10, y11, y12, rfl, b3, k3⟩
        exact ⟨_, _, _, _, _, _, _, _, _, _, _, _, rfl, hold H3 k3⟩
      rintro j x σ H3' H3 hj ⟨y1, y3, y4, y5, y6, y7, y8, y9, y10, y11, y12, rfl, b3, k3⟩ ⟨rfl, rfl⟩
      refine ⟨.ref b, rfl, Nat.le_of_ble_eq_true rfl, fun l1 n1 => ⟨Nat.le_of_ble_eq_true rfl, fun l2 n2 => ⟨Nat.le_of_ble_eq_true rfl, fun l3 n3 => ⟨Nat.le_of_ble_eq_true rfl, fun l4 n4 => ⟨Nat.le_of_ble_eq_true rfl, fun L nL => ?_⟩⟩⟩⟩⟩
      have s4 : Same H3 (upd (upd (upd (upd (upd H3 l1 (.lst [.str "a.z", .str "b.x"])) l2 (.lst [.str "b.y", .str "a.x"])) l3 (.lst [.str "a.y", .str "a.x"])) l4 (.lst [.str "b.x", .str "b.y"])) L (.lst [.ref l1, .ref l2, .ref l3, .ref l4])) := (same_new n1).trans ((same_new n2).trans ((same_new n3).trans ((same_new n4).trans (same_new nL))))
      have hL : (upd (upd (upd (upd (upd H3 l1 (.lst [.str "a.z", .str "b.x"])) l2 (.lst [.str "b.y", .str "a.x"])) l3 (.lst [.str "a.y", .str "a.x"])) l4 (.lst [.str "b.x", .str "b.y"])) L (.lst [.ref l1, .ref l2, .ref l3, .ref l4])) L = some (.lst [.ref l1, .ref l2, .ref l3, .ref l4]) := upd_same
      have c4 : (upd (upd (upd (upd (upd H3 l1 (.lst [.str "a.z", .str "b.x"])) l2 (.lst [.str "b.y", .str "a.x"])) l3 (.lst [.str "a.y", .str "a.x"])) l4 (.lst [.str "b.x", .str "b.y"])) L (.lst [.ref l1, .ref l2, .ref l3, .ref l4])) l4 = some (.lst [.str "b.x", .str "b.y"]) := same_new nL _ _ upd_same
      have c3 : (upd (upd (upd (upd (upd H3 l1 (.lst [.str "a.z", .str "b.x"])) l2 (.lst [.str "b.y", .str "a.x"])) l3 (.lst [.str "a.y", .str "a.x"])) l4 (.lst [.str "b.x", .str "b.y"])) L (.lst [.ref l1, .ref l2, .ref l3, .ref l4])) l3 = some (.lst [.str "a.y", .str "a.x"]) := ((same_new n4).trans (same_new nL)) _ _ upd_same
      have c2 : (upd (upd (upd (upd (upd H3 l1 (.lst [.str "a.z", .str "b.x"])) l2 (.lst [.str "b.y", .str "a.x"])) l3 (.lst [.str "a.y", .str "a.x"])) l4 (.lst [.str "b.x", .str "b.y"])) L (.lst [.ref l1, .ref l2, .ref l3, .ref l4])) l2 = some (.lst [.str "b.y", .str "a.x"]) := ((same_new n3).trans ((same_new n4).trans (same_new nL))) _ _ upd_same
      have c1 : (upd (upd (upd (upd (upd H3 l1 (.lst [.str "a.z", .str "b.x"])) l2 (.lst [.str "b.y", .str "a.x"])) l3 (.lst [.str "a.y", .str "a.x"])) l4 (.lst [.str "b.x", .str "b.y"])) L (.lst [.ref l1, .ref l2, .ref l3, .ref l4])) l1 = some (.lst [.str "a.z", .str "b.x"]) := ((same_new n2).trans ((same_new n3).trans ((same_new n4).trans (same_new nL)))) _ _ upd_same
      have bn : ∀ {l : Addr} {H' : Hp}, Same H3 H' → H' l = none → l ≠ b := fun s n => (b3.same s).ne n
      have e1 : l1 ≠ b := bn (Same.refl _) n1
      have e2 : l2 ≠ b := bn (same_new n1) n2
      have e3 : l3 ≠ b := bn ((same_new n1).trans (same_new n2)) n3
      have e4 : l4 ≠ b := bn ((same_new n1).trans ((same_new n2).trans (same_new n3))) n4
      have eL : L ≠ b := bn ((same_new n1).trans ((same_new n2).trans ((same_new n3).trans (same_new n4)))) nL
      generalize upd (upd (upd (upd (upd H3 l1 (.lst [.str "a.z", .str "b.x"])) l2 (.lst [.str "b.y", .str "a.x"])) l3 (.lst [.str "a.y", .str "a.x"])) l4 (.lst [.str "b.x", .str "b.y"])) L (.lst [.ref l1, .ref l2, .ref l3, .ref l4]) = H4 at s4 hL c1 c2 c3 c4
      clear n1 n2 n3 n4 nL
      have b4 := b3.same s4
      refine ⟨b, L, _, rfl, b4, hL, eL, (fun z => nomatch z), Nat.le_of_ble_eq_true rfl, fun v n m hv n0 m0 m1 => ?_⟩
      have k5 : Kept b H4 (upd H4 b (.lst [.int n, .int m])) := Kept.at
      have b5 : Bag (upd H4 b (.lst [.int n, .int m])) b := Bag.at n0 m0 m1
      generalize upd H4 b (.lst [.int n, .int m]) = H5 at k5 b5
      obtain ⟨lx, z, rfl, hz, hlx⟩ : ∃ lx z, v = .ref lx ∧ z ∈ pairs4 ∧ H5 lx = some (.lst [.str z.1, .str z.2]) := by
        simp only [List.mem_cons, List.not_mem_nil, or_false] at hv
        rcases hv with rfl | rfl | rfl | rfl
        · exact ⟨l1, ("a.z", "b.x"), rfl, List.mem_cons_self, k5 _ _ e1 c1⟩
        · exact ⟨l2, ("b.y", "a.x"), rfl, List.mem_cons_of_mem _ List.mem_cons_self, k5 _ _ e2 c2⟩
        · exact ⟨l3, ("a.y", "a.x"), rfl, List.mem_cons_of_mem _ (List.mem_cons_of_mem _ List.mem_cons_self), k5 _ _ e3 c3⟩
        · exact ⟨l4, ("b.x", "b.y"), rfl, List.mem_cons_of_mem _ (List.mem_cons_of_mem _ (List.mem_cons_of_mem _ List.mem_cons_self)), k5 _ _ e4 c4⟩
      have k5 := (Kept.same s4).trans k5
      clear hv c1 c2 c3 c4 hL e1 e2 e3 e4 eL bn s4 b4
      refine ⟨.ref lx, rfl, lx, _, 0, .str z.1, rfl, rfl, SqL.of hlx, atI_nat (j := 0) rfl, Nat.le_of_ble_eq_true rfl, fun t1 nt1 => ?_⟩
      refine ⟨.ref lx, rfl, lx, _, 1, .str z.2, rfl, rfl, SqL.of (same_new nt1 _ _ hlx), atI_nat (j := 1) rfl, Nat.le_of_ble_eq_true rfl, fun t2 nt2 => ⟨Nat.le_of_ble_eq_true rfl, fun ml nml => ?_⟩⟩
      have s6 : Same H5 (upd (upd (upd H5 t1 (.tup [.str "a.x", .str z.1])) t2 (.tup [.str "a.y", .str z.2])) ml (.lst [.ref t1, .ref t2])) := (same_new nt1).trans ((same_new nt2).trans (same_new nml))
      have m6 : (upd (upd (upd H5 t1 (.tup [.str "a.x", .str z.1])) t2 (.tup [.str "a.y", .str z.2])) ml (.lst [.ref t1, .ref t2])) ml = some (.lst [.ref t1, .ref t2]) := upd_same
      have u2 : (upd (upd (upd H5 t1 (.tup [.str "a.x", .str z.1])) t2 (.tup [.str "a.y", .str z.2])) ml (.lst [.ref t1, .ref t2])) t2 = some (.tup [.str "a.y", .str z.2]) := same_new nml _ _ upd_same
      have u1 : (upd (upd (upd H5 t1 (.tup [.str "a.x", .str z.1])) t2 (.tup [.str "a.y", .str z.2])) ml (.lst [.ref t1, .ref t2])) t1 = some (.tup [.str "a.x", .str z.1]) := ((same_new nt2).trans (same_new nml)) _ _ upd_same
      have e1 : t1 ≠ b := b5.ne nt1
      have e2 : t2 ≠ b := (b5.same (same_new nt1)).ne nt2
      have e3 : ml ≠ b := (b5.same ((same_new nt1).trans (same_new nt2))).ne nml
      generalize upd (upd (upd H5 t1 (.tup [.str "a.x", .str z.1])) t2 (.tup [.str "a.y", .str z.2])) ml (.lst [.ref t1, .ref t2]) = H6 at s6 m6 u1 u2
      clear nt1 nt2 nml
      have b6 := b5.same s6
      have k6 := k5.trans (Kept.same s6)
      refine ⟨.ref b, rfl, b, 2, rfl, b6, by decide, by decide, fun c c1 c2 h0 h1 g0 g1 g2 => ⟨1, c, rfl, rfl, _, rfl, ?_⟩⟩
      have k7 : Kept b H6 (upd H6 b (.lst [.int c1, .int c2])) := Kept.at
      have b7 : Bag (upd H6 b (.lst [.int c1, .int c2])) b := Bag.at g0 g1 g2
      generalize upd H6 b (.lst [.int c1, .int c2]) = H7 at k7 b7
      refine ⟨ml, _, rfl, SqL.of (k7 _ _ e3 m6), fun pm npm => ?_⟩
      obtain ⟨ts, mv, ecut, m8, hpair⟩ := cut2 (K := K) (t1 := t1) (t2 := t2) h0 h1 hz
      rw [ecut]
      have pr7 := hpair H7 (SqT.of (k7 _ _ e1 u1)) (SqT.of (k7 _ _ e2 u2))
      have s8 : Same H7 (upd H7 pm (.lst (ts.map V.ref))) := same_new npm
      have p8 : upd H7 pm (.lst (ts.map V.ref)) pm = some (.lst (ts.map V.ref)) := upd_same
      have pmb : pm ≠ b := b7.ne npm
      generalize upd H7 pm (.lst (ts.map V.ref)) = H8 at s8 p8
      have mm8 : MvL K H8 pm ts mv := ⟨SqL.of p8, Paired.mapP pr7 fun _ _ q => sqT_same s8 q⟩
      have b8 := b7.same s8
      have k8 := k6.trans (k7.trans (Kept.same s8))
      refine ⟨.ref b, rfl, b, 2, rfl, b8, by decide, by decide, fun c c1 c2 h0' h1' g0 g1 g2 => ?_⟩
      have k9 : Kept b H8 (upd H8 b (.lst [.int c1, .int c2])) := Kept.at
      have b9 : Bag (upd H8 b (.lst [.int c1, .int c2])) b := Bag.at g0 g1 g2
      generalize upd H8 b (.lst [.int c1, .int c2]) = H9 at k9 b9
      have mm9 : MvL K H9 pm ts mv := by
        refine ⟨SqL.of (k9 _ _ pmb p8), ?_⟩
        have u1' := s8 _ _ (k7 _ _ e1 u1)
        have u2' := s8 _ _ (k7 _ _ e2 u2)
        exact hpair H9 (SqT.of (k9 _ _ e1 u1')) (SqT.of (k9 _ _ e2 u2'))
      have p9 := k9 _ _ pmb p8
      have k9 := k8.trans k9
      clear mm8 pr7 b8 k8 k7 b7 b6 k6 k5 b5 u1 u2 m6 s6 s8 p8 hlx
      refine ⟨rfl, _, rfl, ite2 (fun _ => ?_) (fun _ => ?_)⟩
      · refine ⟨.ref pm, rfl, pm, _, rfl, .inl mm9.sq, fun le nle => ?_⟩
        have sA : Same H9 (upd H9 le (.lst (ts.map V.ref))) := same_new nle
        have hle : upd H9 le (.lst (ts.map V.ref)) le = some (.lst (ts.map V.ref)) := upd_same
        have nle3 : H3 le = none := k9.free b9 nle
        generalize upd H9 le (.lst (ts.map V.ref)) = HA at sA hle
        have bA := b9.same sA
        have kA := k9.trans (Kept.same sA)
        have mmA := mm9.same sA
        have pA := sA _ _ p9
        refine fun x1 dx1 nx1 ndx1 nex1 => ⟨HA, x1, dx1, .str tx1, _, _, false, false, false, rfl, rfl, nx1, ndx1, nex1, .inl (.inr (.inr (.inr ⟨_, rfl⟩))), .inr ⟨_, _, rfl, T.sq_Release___init___renames _⟩, .inr ⟨_, _, rfl, T.sq_Release___init___returns _⟩, fun HB a1 a2 a3 sB hx1 ua ub uc => ⟨rfl, ?_⟩⟩
        have r1B := rel_plain T hx1 ua ub uc
        clear ua ub uc hx1
        refine ⟨.ref pm, rfl, pm, ts, mv, rfl, mmA.same sB, m8, fun HC sC => ?_⟩
        refine ⟨.ref le, rfl, rfl, rfl, fun x2 dx2 nx2 ndx2 nex2 => ⟨HC, x2, dx2, .str (movedT mv), .ref le, _, false, true, false, rfl, rfl, nx2, ndx2, nex2, .inl (.inr (.inr (.inr ⟨_, rfl⟩))), ?_, .inr ⟨_, _, rfl, T.sq_Release___init___returns _⟩, fun HD a1 a2 a3 sD hx2 ua ub uc => ⟨rfl, ?_⟩⟩⟩
        · exact ⟨le, _, rfl, sC _ _ (sB _ _ hle)⟩
        have sAD := sB.trans (sC.trans sD)
        have hleD := sAD _ _ hle
        obtain ⟨m2, rfl, hm2⟩ : ∃ m2, a2 = .ref m2 ∧ HD m2 = some (.tup (ts.map V.ref)) := by
          obtain ⟨l', xs', t', e1', e2', e3', _, _, e4'⟩ := ub
          cases e1'
          rw [sC _ _ (sB _ _ hle)] at e2'
          cases e2'
          exact ⟨t', e3', e4'⟩
        obtain ⟨_, rfl⟩ := ua
        obtain ⟨_, rfl⟩ := uc
        have mmD := mmA.same sAD
        have r2D : RelP K T.C_Release HD x2 (movedT mv) mv := ⟨_, m2, _, ts, hx2, ⟨SqT.of hm2, mmD.at_⟩, T.sq_Release___init___returns _⟩
        have r1D := r1B.same (sC.trans sD)
        refine ⟨.ref x1, .ref x2, rfl, ?_⟩
        refine fun x3 dx3 nx3 ndx3 nex3 => ⟨HD, x3, dx3, .str tx3, _, _, false, false, false, rfl, rfl, nx3, ndx3, nex3, .inl (.inr (.inr (.inr ⟨_, rfl⟩))), .inr ⟨_, _, rfl, T.sq_Release___init___renames _⟩, .inr ⟨_, _, rfl, T.sq_Release___init___returns _⟩, fun HE b1 b2' b3' sE hx3 ua ub uc => ⟨rfl, ?_⟩⟩
        have r3E := rel_plain T hx3 ua ub uc
        clear ua ub uc hx3
        have r1E := r1D.same sE
        have r2E := r2D.same sE
        have sAE := sAD.trans sE
        have hleE := sAE _ _ hle
        have hx2E := sE _ _ hx2
        have hm2E := sE _ _ hm2
        clear r1D r2D r1B
        refine ⟨.ref x1, rfl, .ref x2, rfl, .ref x3, rfl, fun g1 dg1 ng1 ndg1 neg1 => mk_hist T m8 r1E r2E r3E ng1 ndg1 fun HF A1 hF => ⟨rfl, ?_⟩⟩
        have sF := hF.same
        refine ⟨.ref x1, rfl, .ref x2, rfl, .ref x3, rfl, fun g2 dg2 ng2 ndg2 neg2 => mk_hist T m8 (r1E.same sF) (r2E.same sF) (r3E.same sF) ng2 ndg2 fun HG A2 hG => ⟨rfl, ?_⟩⟩
        have sG := hG.same
        refine ⟨Nat.le_of_ble_eq_true rfl, fun Ml nMl => ?_⟩
        have sM : Same HG (upd HG Ml (.lst [.ref g1, .ref g2])) := same_new nMl
        have hMl : upd HG Ml (.lst [.ref g1, .ref g2]) Ml = some (.lst [.ref g1, .ref g2]) := upd_same
        have hF' := hF.more (sG.trans sM)
        have hG' := hG.more sM
        have fM : ∀ {d : Addr} {o : HO}, HG d = some o → d ≠ Ml := fun e => ne_of_none e nMl
        obtain ⟨_, f1, f2, f3⟩ := hF.n
        obtain ⟨_, f4, f5, f6⟩ := hG.n
        have M1F : A1.F ≠ Ml ∧ A1.S ≠ Ml ∧ A1.R ≠ Ml := ⟨fM (sG _ _ hF.eF), fM (sG _ _ hF.eS), fM (sG _ _ hF.eR)⟩
        have M2F : A2.F ≠ Ml ∧ A2.S ≠ Ml ∧ A2.R ≠ Ml := ⟨fM hG.eF, fM hG.eS, fM hG.eR⟩
        have nMl3 : H3 Ml = none := kA.free bA (sAE.free (sF.free (sG.free nMl)))
        generalize upd HG Ml (.lst [.ref g1, .ref g2]) = HH at sM hMl hF' hG'
        have sEH := sF.trans (sG.trans sM)
        have hleH := sEH _ _ hleE
        have bH := bA.same (sAE.trans sEH)
        have kH := kA.trans (Kept.same (sAE.trans sEH))
        have r1H := r1E.same sEH
        have r2H := r2E.same sEH
        have r3H := r3E.same sEH
        have hx2H := sEH _ _ hx2E
        have hm2H := sEH _ _ hm2E
        have mmH := mmA.same (sAE.trans sEH)
        have pH := (sAE.trans sEH) _ _ pA
        have leb : le ≠ b := b9.ne nle
        have bM : b ≠ Ml := fun z => by
          obtain ⟨w1, w2, w3, w4⟩ := bA.same (sAE.trans (sF.trans sG))
          rw [z, nMl] at w3
          cases w3
        have leM : le ≠ Ml := fM (sG _ _ (sF _ _ hleE))
        have pmM : pm ≠ Ml := fM (sG _ _ (sF _ _ (sAE _ _ pA)))
        have lF : A1.F ≠ le ∧ A1.S ≠ le ∧ A1.R ≠ le := ⟨(ne_of_none hleE f1).symm, (ne_of_none hleE f2).symm, (ne_of_none hleE f3).symm⟩
        have lG : A2.F ≠ le ∧ A2.S ≠ le ∧ A2.R ≠ le := ⟨(ne_of_none (sF _ _ hleE) f4).symm, (ne_of_none (sF _ _ hleE) f5).symm, (ne_of_none (sF _ _ hleE) f6).symm⟩
        refine ⟨.ref le, rfl, _, _, _, _, true, rfl, ClsV.ty "list", .base (.lst hleH), kit_ty (by decide +kernel), true, rfl, iteT ?_⟩
        refine ⟨.ref le, rfl, .inl ⟨rfl, _, SqL.of hleH⟩, Nat.le_of_ble_eq_true rfl, fun tx ntx => ?_⟩
        have sI : Same HH (upd HH tx (.tup [.str "a.x", .str "a.x"])) := same_new ntx
        generalize upd HH tx (.tup [.str "a.x", .str "a.x"]) = HI at sI
        have hleI := sI _ _ hleH
        have lts : (ts.map V.ref).length ≤ 2 := by rw [mmH.len]; exact m8_len mv m8
        refine ⟨le, _, _, rfl, rfl, hleI, small1000 (by omega), ?_⟩
        refine ⟨.ref le, rfl, .inl ⟨rfl, _, SqL.of upd_same⟩, le, _, rfl, rfl, upd_same, ?_⟩
        rw [upd_upd]
        have pml : pm ≠ le := ne_of_none p9 nle
        have hFJ := ((hF'.more sI).poke (o := .lst ((ts.map V.ref ++ [V.ref tx]).reverse)) hleI lF.1 lF.2.1 lF.2.2)
        have hGJ := ((hG'.more sI).poke (o := .lst ((ts.map V.ref ++ [V.ref tx]).reverse)) hleI lG.1 lG.2.1 lG.2.2)
        have off : ∀ {d : Addr} {o : HO}, d ≠ le → HH d = some o → (upd HI le (.lst ((ts.map V.ref ++ [V.ref tx]).reverse))) d = some o := fun nd e => by rw [upd_ne nd]; exact sI _ _ e
        have hMJ := off leM.symm hMl
        have bJ : Bag (upd HI le (.lst ((ts.map V.ref ++ [V.ref tx]).reverse))) b := by
          obtain ⟨w1, w2, w3, w4⟩ := bH
          exact ⟨w1, w2, off leb.symm w3, w4⟩
        have kJ : Kept b H3 (upd HI le (.lst ((ts.map V.ref ++ [V.ref tx]).reverse))) := kept_off (kH.trans (Kept.same sI)) nle3
        have sqOff : ∀ {t : Addr} {xs : List V}, SqT K HH t xs → SqT K (upd HI le (.lst ((ts.map V.ref ++ [V.ref tx]).reverse))) t xs := fun h => by
          rcases h with (h | ⟨o, h⟩) | h
          · exact .inl (.inl (off (ne_of h hleH (fun z => nomatch z)) h))
          · exact .inl (.inr ⟨o, off (ne_of h hleH (fun z => nomatch z)) h⟩)
          · exact .inr h
        have relOff : ∀ {r : Addr} {t : Str} {mv : List (Str × Str)}, RelP K T.C_Release HH r t mv → RelP K T.C_Release (upd HI le (.lst ((ts.map V.ref ++ [V.ref tx]).reverse))) r t mv := fun h => by
          obtain ⟨dx', m', e', ts', h1', h2', h3'⟩ := h.ex
          exact ⟨dx', m', e', ts', off (ne_of h1' hleH (fun z => nomatch z)) h1', ⟨sqOff h2'.sq, Paired.mapP h2'.at_ fun _ _ q => sqOff q⟩, sqOff h3'⟩
        have r1J := relOff r1H
        have r2J := relOff r2H
        have r3J := relOff r3H
        have hx2J := off (ne_of hx2H hleH (fun z => nomatch z)) hx2H
        have hm2J := off (ne_of hm2H hleH (fun z => nomatch z)) hm2H
        have mmJ : MvL K (upd HI le (.lst ((ts.map V.ref ++ [V.ref tx]).reverse))) pm ts mv := ⟨SqL.of (off pml pH), Paired.mapP mmH.at_ fun _ _ q => sqOff q⟩
        clear off sqOff relOff
        generalize upd HI le (.lst ((ts.map V.ref ++ [V.ref tx]).reverse)) = HJ at hFJ hGJ hMJ bJ kJ r1J r2J r3J hx2J hm2J mmJ
        refine ⟨.ref Ml, rfl, .inl ⟨rfl, _, SqL.of hMJ⟩, ?_⟩
        refine ⟨.ref x1, rfl, .ref x2, rfl, .ref x3, rfl, fun g3 dg3 ng3 ndg3 neg3 => mk_hist T m8 r1J r2J r3J ng3 ndg3 fun HK A3 hK => ⟨rfl, ?_⟩⟩
        have sK := hK.same
        have hMK := sK _ _ hMJ
        refine ⟨Ml, _, _, rfl, rfl, hMK, Nat.le_of_ble_eq_true rfl, ?_⟩
        obtain ⟨_, f7, f8, f9⟩ := hK.n
        have q1 := (hFJ.more sK).poke (o := .lst ([V.ref g1, .ref g2] ++ [.ref g3])) hMK M1F.1 M1F.2.1 M1F.2.2
        have q2 := (hGJ.more sK).poke (o := .lst ([V.ref g1, .ref g2] ++ [.ref g3])) hMK M2F.1 M2F.2.1 M2F.2.2
        have q3 := hK.poke (o := .lst ([V.ref g1, .ref g2] ++ [.ref g3])) hMK (ne_of_none hMJ f7).symm (ne_of_none hMJ f8).symm (ne_of_none hMJ f9).symm
        have off : ∀ {d : Addr} {o : HO}, d ≠ Ml → HJ d = some o → (upd HK Ml (.lst ([V.ref g1, .ref g2] ++ [.ref g3]))) d = some o := fun nd e => by rw [upd_ne nd]; exact sK _ _ e
        have bL : Bag (upd HK Ml (.lst ([V.ref g1, .ref g2] ++ [.ref g3]))) b := by
          obtain ⟨w1, w2, w3, w4⟩ := bJ
          exact ⟨w1, w2, off bM w3, w4⟩
        have kL : Kept b H3 (upd HK Ml (.lst ([V.ref g1, .ref g2] ++ [.ref g3]))) := kept_off (kJ.trans (Kept.same sK)) nMl3
        have sqOff : ∀ {t : Addr} {xs : List V}, SqT K HJ t xs → SqT K (upd HK Ml (.lst ([V.ref g1, .ref g2] ++ [.ref g3]))) t xs := fun h => by
          rcases h with (h | ⟨o, h⟩) | h
          · exact .inl (.inl (off (ne_of h hMJ (fun z => nomatch z)) h))
          · exact .inl (.inr ⟨o, off (ne_of h hMJ (fun z => nomatch z)) h⟩)
          · exact .inr h
        have hx2L := off (ne_of hx2J hMJ (fun z => nomatch z)) hx2J
        have hm2L := off (ne_of hm2J hMJ (fun z => nomatch z)) hm2J
        have mmL : MvL K (upd HK Ml (.lst ([V.ref g1, .ref g2] ++ [.ref g3]))) pm ts mv := by
          refine ⟨?_, Paired.mapP mmJ.at_ fun _ _ q => sqOff q⟩
          rcases mmJ.sq with (h | ⟨o, h⟩) | h
          · exact .inl (.inl (off pmM h))
          · exact .inl (.inr ⟨o, off pmM h⟩)
          · exact .inr h
        have hML : (upd HK Ml (.lst ([V.ref g1, .ref g2] ++ [.ref g3]))) Ml = some (.lst [.ref g1, .ref g2, .ref g3]) := upd_same
        clear off sqOff
        generalize upd HK Ml (.lst ([V.ref g1, .ref g2] ++ [.ref g3])) = HL at q1 q2 q3 bL kL hx2L hm2L mmL hML
        refine ⟨.ref pm, rfl, pm, ts, mv, rfl, mmL, m8, fun HN du sN dD => ?_⟩
        obtain ⟨t0, t1', t2', etabs, edue⟩ := tabs_of m8
        have three : ∀ v ∈ [V.ref g1, .ref g2, .ref g3], ∃ x A, v = .ref x ∧ HistP T.C_History (fun _ => none) HN x (histOf mv) A :=
          List.forall_mem_cons.mpr ⟨⟨g1, A1, rfl, q1.more sN⟩, List.forall_mem_cons.mpr ⟨⟨g2, A2, rfl, q2.more sN⟩, List.forall_mem_cons.mpr ⟨⟨g3, A3, rfl, q3.more sN⟩, fun _ h => nomatch h⟩⟩⟩
        have hMN := sN _ _ hML
        refine ⟨.ref Ml, rfl, Ml, rfl, ⟨_, SqL.of hMN⟩, fun D nD => lc_it (walk_list (xs := [V.ref g1, .ref g2, .ref g3])) (fun i H4 => ∃ vs, Same HN H4 ∧ H4 D = some (.lst vs) ∧ DKs D H4 vs (List.replicate i (dueD mv))) ?_ ?_ ?_ ?_⟩
        · exact ⟨[], same_new nD, upd_same, DKs.nil⟩
        · rintro i H4 _ ⟨vs, s4, _⟩
          exact SqL.of (s4 _ _ hMN)
        · rintro i v H4' H4 hi ⟨vs, s4, d4, k4⟩ ⟨rfl, hv⟩
          obtain ⟨xx, AA, rfl, hh⟩ := three v (List.mem_of_getElem? hv)
          refine ⟨rfl, ?_⟩
          refine ⟨.ref xx, rfl, _, xx, histOf mv, AA, t0, t1', t2', rfl, hh.more s4, etabs, fun H5 p s5 np dk => ⟨vs, s5 _ _ d4, ?_, vs ++ [.ref p], upd_off nD (s4.trans s5), upd_same, ?_⟩⟩
          · rw [k4.now.len, List.length_replicate]
            exact Nat.lt_of_lt_of_le hi (Nat.le_of_ble_eq_true rfl)
          · rw [List.replicate_succ']
            have z1 := dk D _ d4
            rw [edue] at z1
            exact ((k4.keep (Kept.same s5)).app (.cons z1 .nil)).keep Kept.at
        rintro HO_ ⟨vs, sO, dO, kO⟩
        have kO' : DDs HO_ vs [dueD mv, dueD mv, dueD mv] := kO.now
        refine ⟨.ref du, rfl, .ref du, rfl, .ref du, rfl, Nat.le_of_ble_eq_true rfl, fun E3 nE3 => ?_⟩
        have sP : Same HO_ (upd HO_ E3 (.lst [.ref du, .ref du, .ref du])) := same_new nE3
        have dE := (dD.same (sO.trans sP))
        have hE3 : upd HO_ E3 (.lst [.ref du, .ref du, .ref du]) E3 = some (.lst [.ref du, .ref du, .ref du]) := upd_same
        generalize upd HO_ E3 (.lst [.ref du, .ref du, .ref du]) = HP at sP dE hE3
        refine ⟨.list [dueD mv, dueD mv, dueD mv], .list [dueD mv, dueD mv, dueD mv], (DD.lst (sP _ _ dO) (kO'.same sP)).dp, (DD.lst hE3 (.cons dE (.cons dE (.cons dE .nil)))).dp, (m8_due mv m8).1, (m8_due mv m8).1, _, rfl, ?_⟩
        rw [(m8_due mv m8).2]
        refine iteF ?_
        have sLP := sN.trans (sO.trans sP)
        refine ⟨.ref x2, rfl, x2, _, _, _, _, rfl, sLP _ _ hx2L, T.cl_Release, T.no_Release_renames, r_renames _ _ _, .ref pm, rfl, pm, _, rfl, .inl ⟨(mmL.same sLP).sq, fun tq ntq => ?_⟩⟩
        have sQ := sLP.trans (same_new (o := .tup (ts.map V.ref)) ntq)
        refine ⟨mvD mv, mvD mv, .tup (SqT.of (sQ _ _ hm2L)) (dp_mv (mmL.same sQ).at_), .tup (SqT.of upd_same) (dp_mv (mmL.same sQ).at_), (m8_mv mv m8).1, (m8_mv mv m8).1, _, rfl, ?_⟩
        rw [(m8_mv mv m8).2]
        refine iteF ?_
        exact ⟨_, _, _, _, _, _, _, _, _, _, _, rfl, bL.same sQ, k3.trans (kL.trans (Kept.same sQ))⟩
      · refine ⟨.ref pm, rfl, pm, _, rfl, .inl ⟨mm9.sq, fun le nle => ?_⟩⟩
        have sA : Same H9 (upd H9 le (.tup (ts.map V.ref))) := same_new nle
        have hle : upd H9 le (.tup (ts.map V.ref)) le = some (.tup (ts.map V.ref)) := upd_same
        have nle3 : H3 le = none := k9.free b9 nle
        generalize upd H9 le (.tup (ts.map V.ref)) = HA at sA hle
        have bA := b9.same sA
        have kA := k9.trans (Kept.same sA)
        have mmA := mm9.same sA
        have pA := sA _ _ p9
        refine fun x1 dx1 nx1 ndx1 nex1 => ⟨HA, x1, dx1, .str tx1, _, _, false, false, false, rfl, rfl, nx1, ndx1, nex1, .inl (.inr (.inr (.inr ⟨_, rfl⟩))), .inr ⟨_, _, rfl, T.sq_Release___init___renames _⟩, .inr ⟨_, _, rfl, T.sq_Release___init___returns _⟩, fun HB a1 a2 a3 sB hx1 ua ub uc => ⟨rfl, ?_⟩⟩
        have r1B := rel_plain T hx1 ua ub uc
        clear ua ub uc hx1
        refine ⟨.ref pm, rfl, pm, ts, mv, rfl, mmA.same sB, m8, fun HC sC => ?_⟩
        refine ⟨.ref le, rfl, rfl, rfl, fun x2 dx2 nx2 ndx2 nex2 => ⟨HC, x2, dx2, .str (movedT mv), .ref le, _, false, false, false, rfl, rfl, nx2, ndx2, nex2, .inl (.inr (.inr (.inr ⟨_, rfl⟩))), ?_, .inr ⟨_, _, rfl, T.sq_Release___init___returns _⟩, fun HD a1 a2 a3 sD hx2 ua ub uc => ⟨rfl, ?_⟩⟩⟩
        · exact .inr ⟨le, _, rfl, SqT.of (sC _ _ (sB _ _ hle))⟩
        have sAD := sB.trans (sC.trans sD)
        have hleD := sAD _ _ hle
        obtain ⟨m2, rfl, hm2⟩ : ∃ m2, a2 = .ref m2 ∧ HD m2 = some (.tup (ts.map V.ref)) := by
          obtain ⟨_, rfl⟩ := ub
          exact ⟨le, rfl, hleD⟩
        obtain ⟨_, rfl⟩ := ua
        obtain ⟨_, rfl⟩ := uc
        have mmD := mmA.same sAD
        have r2D : RelP K T.C_Release HD x2 (movedT mv) mv := ⟨_, m2, _, ts, hx2, ⟨SqT.of hm2, mmD.at_⟩, T.sq_Release___init___returns _⟩
        have r1D := r1B.same (sC.trans sD)
        refine ⟨.ref x1, .ref x2, rfl, ?_⟩
        refine fun x3 dx3 nx3 ndx3 nex3 => ⟨HD, x3, dx3, .str tx3, _, _, false, false, false, rfl, rfl, nx3, ndx3, nex3, .inl (.inr (.inr (.inr ⟨_, rfl⟩))), .inr ⟨_, _, rfl, T.sq_Release___init___renames _⟩, .inr ⟨_, _, rfl, T.sq_Release___init___returns _⟩, fun HE b1 b2' b3' sE hx3 ua ub uc => ⟨rfl, ?_⟩⟩
        have r3E := rel_plain T hx3 ua ub uc
        clear ua ub uc hx3
        have r1E := r1D.same sE
        have r2E := r2D.same sE
        have sAE := sAD.trans sE
        have hleE := sAE _ _ hle
        have hx2E := sE _ _ hx2
        have hm2E := sE _ _ hm2
        clear r1D r2D r1B
        refine ⟨.ref x1, rfl, .ref x2, rfl, .ref x3, rfl, fun g1 dg1 ng1 ndg1 neg1 => mk_hist T m8 r1E r2E r3E ng1 ndg1 fun HF A1 hF => ⟨rfl, ?_⟩⟩
        have sF := hF.same
        refine ⟨.ref x1, rfl, .ref x2, rfl, .ref x3, rfl, fun g2 dg2 ng2 ndg2 neg2 => mk_hist T m8 (r1E.same sF) (r2E.same sF) (r3E.same sF) ng2 ndg2 fun HG A2 hG => ⟨rfl, ?_⟩⟩
        have sG := hG.same
        refine ⟨Nat.le_of_ble_eq_true rfl, fun Ml nMl => ?_⟩
        have sM : Same HG (upd HG Ml (.lst [.ref g1, .ref g2])) := same_new nMl
        have hMl : upd HG Ml (.lst [.ref g1, .ref g2]) Ml = some (.lst [.ref g1, .ref g2]) := upd_same
        have hF' := hF.more (sG.trans sM)
        have hG' := hG.more sM
        have fM : ∀ {d : Addr} {o : HO}, HG d = some o → d ≠ Ml := fun e => ne_of_none e nMl
        obtain ⟨_, f1, f2, f3⟩ := hF.n
        obtain ⟨_, f4, f5, f6⟩ := hG.n
        have M1F : A1.F ≠ Ml ∧ A1.S ≠ Ml ∧ A1.R ≠ Ml := ⟨fM (sG _ _ hF.eF), fM (sG _ _ hF.eS), fM (sG _ _ hF.eR)⟩
        have M2F : A2.F ≠ Ml ∧ A2.S ≠ Ml ∧ A2.R ≠ Ml := ⟨fM hG.eF, fM hG.eS, fM hG.eR⟩
        have nMl3 : H3 Ml = none := kA.free bA (sAE.free (sF.free (sG.free nMl)))
        generalize upd HG Ml (.lst [.ref g1, .ref g2]) = HH at sM hMl hF' hG'
        have sEH := sF.trans (sG.trans sM)
        have hleH := sEH _ _ hleE
        have bH := bA.same (sAE.trans sEH)
        have kH := kA.trans (Kept.same (sAE.trans sEH))
        have r1H := r1E.same sEH
        have r2H := r2E.same sEH
        have r3H := r3E.same sEH
        have hx2H := sEH _ _ hx2E
        have hm2H := sEH _ _ hm2E
        have mmH := mmA.same (sAE.trans sEH)
        have pH := (sAE.trans sEH) _ _ pA
        have leb : le ≠ b := b9.ne nle
        have bM : b ≠ Ml := fun z => by
          obtain ⟨w1, w2, w3, w4⟩ := bA.same (sAE.trans (sF.trans sG))
          rw [z, nMl] at w3
          cases w3
        have leM : le ≠ Ml := fM (sG _ _ (sF _ _ hleE))
        have pmM : pm ≠ Ml := fM (sG _ _ (sF _ _ (sAE _ _ pA)))
        refine ⟨.ref le, rfl, _, _, _, _, false, rfl, ClsV.ty "list", .base (.tup hleH), kit_ty (by decide +kernel), false, rfl, iteF ?_⟩
        have hFJ : HistP T.C_History (fun _ => none) HH g1 (histOf mv) A1 := hF'.weaken (fun _ _ e => nomatch e)
        have hGJ : HistP T.C_History (fun _ => none) HH g2 (histOf mv) A2 := hG'.weaken (fun _ _ e => nomatch e)
        have hMJ := hMl
        have bJ := bH
        have kJ := kH
        have r1J := r1H
        have r2J := r2H
        have r3J := r3H
        have hx2J := hx2H
        have hm2J := hm2H
        have mmJ := mmH
        generalize HH = HJ at hFJ hGJ hMJ bJ kJ r1J r2J r3J hx2J hm2J mmJ
        refine ⟨.ref Ml, rfl, .inl ⟨rfl, _, SqL.of hMJ⟩, ?_⟩
        refine ⟨.ref x1, rfl, .ref x2, rfl, .ref x3, rfl, fun g3 dg3 ng3 ndg3 neg3 => mk_hist T m8 r1J r2J r3J ng3 ndg3 fun HK A3 hK => ⟨rfl, ?_⟩⟩
        have sK := hK.same
        have hMK := sK _ _ hMJ
        refine ⟨Ml, _, _, rfl, rfl, hMK, Nat.le_of_ble_eq_true rfl, ?_⟩
        obtain ⟨_, f7, f8, f9⟩ := hK.n
        have q1 := (hFJ.more sK).poke (o := .lst ([V.ref g1, .ref g2] ++ [.ref g3])) hMK M1F.1 M1F.2.1 M1F.2.2
        have q2 := (hGJ.more sK).poke (o := .lst ([V.ref g1, .ref g2] ++ [.ref g3])) hMK M2F.1 M2F.2.1 M2F.2.2
        have q3 := hK.poke (o := .lst ([V.ref g1, .ref g2] ++ [.ref g3])) hMK (ne_of_none hMJ f7).symm (ne_of_none hMJ f8).symm (ne_of_none hMJ f9).symm
        have off : ∀ {d : Addr} {o : HO}, d ≠ Ml → HJ d = some o → (upd HK Ml (.lst ([V.ref g1, .ref g2] ++ [.ref g3]))) d = some o := fun nd e => by rw [upd_ne nd]; exact sK _ _ e
        have bL : Bag (upd HK Ml (.lst ([V.ref g1, .ref g2] ++ [.ref g3]))) b := by
          obtain ⟨w1, w2, w3, w4⟩ := bJ
          exact ⟨w1, w2, off bM w3, w4⟩
        have kL : Kept b H3 (upd HK Ml (.lst ([V.ref g1, .ref g2] ++ [.ref g3]))) := kept_off (kJ.trans (Kept.same sK)) nMl3
        have sqOff : ∀ {t : Addr} {xs : List V}, SqT K HJ t xs → SqT K (upd HK Ml (.lst ([V.ref g1, .ref g2] ++ [.ref g3]))) t xs := fun h => by
          rcases h with (h | ⟨o, h⟩) | h
          · exact .inl (.inl (off (ne_of h hMJ (fun z => nomatch z)) h))
          · exact .inl (.inr ⟨o, off (ne_of h hMJ (fun z => nomatch z)) h⟩)
          · exact .inr h
        have hx2L := off (ne_of hx2J hMJ (fun z => nomatch z)) hx2J
        have hm2L := off (ne_of hm2J hMJ (fun z => nomatch z)) hm2J
        have mmL : MvL K (upd HK Ml (.lst ([V.ref g1, .ref g2] ++ [.ref g3]))) pm ts mv := by
          refine ⟨?_, Paired.mapP mmJ.at_ fun _ _ q => sqOff q⟩
          rcases mmJ.sq with (h | ⟨o, h⟩) | h
          · exact .inl (.inl (off pmM h))
          · exact .inl (.inr ⟨o, off pmM h⟩)
          · exact .inr h
        have hML : (upd HK Ml (.lst ([V.ref g1, .ref g2] ++ [.ref g3]))) Ml = some (.lst [.ref g1, .ref g2, .ref g3]) := upd_same
        clear off sqOff
        generalize upd HK Ml (.lst ([V.ref g1, .ref g2] ++ [.ref g3])) = HL at q1 q2 q3 bL kL hx2L hm2L mmL hML
        refine ⟨.ref pm, rfl, pm, ts, mv, rfl, mmL, m8, fun HN du sN dD => ?_⟩
        obtain ⟨t0, t1', t2', etabs, edue⟩ := tabs_of m8
        have three : ∀ v ∈ [V.ref g1, .ref g2, .ref g3], ∃ x A, v = .ref x ∧ HistP T.C_History (fun _ => none) HN x (histOf mv) A :=
          List.forall_mem_cons.mpr ⟨⟨g1, A1, rfl, q1.more sN⟩, List.forall_mem_cons.mpr ⟨⟨g2, A2, rfl, q2.more sN⟩, List.forall_mem_cons.mpr ⟨⟨g3, A3, rfl, q3.more sN⟩, fun _ h => nomatch h⟩⟩⟩
        have hMN := sN _ _ hML
        refine ⟨.ref Ml, rfl, Ml, rfl, ⟨_, SqL.of hMN⟩, fun D nD => lc_it (walk_list (xs := [V.ref g1, .ref g2, .ref g3])) (fun i H4 => ∃ vs, Same HN H4 ∧ H4 D = some (.lst vs) ∧ DKs D H4 vs (List.replicate i (dueD mv))) ?_ ?_ ?_ ?_⟩
        · exact ⟨[], same_new nD, upd_same, DKs.nil⟩
        · rintro i H4 _ ⟨vs, s4, _⟩
          exact SqL.of (s4 _ _ hMN)
        · rintro i v H4' H4 hi ⟨vs, s4, d4, k4⟩ ⟨rfl, hv⟩
          obtain ⟨xx, AA, rfl, hh⟩ := three v (List.mem_of_getElem? hv)
          refine ⟨rfl, ?_⟩
          refine ⟨.ref xx, rfl, _, xx, histOf mv, AA, t0, t1', t2', rfl, hh.more s4, etabs, fun H5 p s5 np dk => ⟨vs, s5 _ _ d4, ?_, vs ++ [.ref p], upd_off nD (s4.trans s5), upd_same, ?_⟩⟩
          · rw [k4.now.len, List.length_replicate]
            exact Nat.lt_of_lt_of_le hi (Nat.le_of_ble_eq_true rfl)
          · rw [List.replicate_succ']
            have z1 := dk D _ d4
            rw [edue] at z1
            exact ((k4.keep (Kept.same s5)).app (.cons z1 .nil)).keep Kept.at
        rintro HO_ ⟨vs, sO, dO, kO⟩
        have kO' : DDs HO_ vs [dueD mv, dueD mv, dueD mv] := kO.now
        refine ⟨.ref du, rfl, .ref du, rfl, .ref du, rfl, Nat.le_of_ble_eq_true rfl, fun E3 nE3 => ?_⟩
        have sP : Same HO_ (upd HO_ E3 (.lst [.ref du, .ref du, .ref du])) := same_new nE3
        have dE := (dD.same (sO.trans sP))
        have hE3 : upd HO_ E3 (.lst [.ref du, .ref du, .ref du]) E3 = some (.lst [.ref du, .ref du, .ref du]) := upd_same
        generalize upd HO_ E3 (.lst [.ref du, .ref du, .ref du]) = HP at sP dE hE3
        refine ⟨.list [dueD mv, dueD mv, dueD mv], .list [dueD mv, dueD mv, dueD mv], (DD.lst (sP _ _ dO) (kO'.same sP)).dp, (DD.lst hE3 (.cons dE (.cons dE (.cons dE .nil)))).dp, (m8_due mv m8).1, (m8_due mv m8).1, _, rfl, ?_⟩
        rw [(m8_due mv m8).2]
        refine iteF ?_
        have sLP := sN.trans (sO.trans sP)
        refine ⟨.ref x2, rfl, x2, _, _, _, _, rfl, sLP _ _ hx2L, T.cl_Release, T.no_Release_renames, r_renames _ _ _, .ref pm, rfl, pm, _, rfl, .inl ⟨(mmL.same sLP).sq, fun tq ntq => ?_⟩⟩
        have sQ := sLP.trans (same_new (o := .tup (ts.map V.ref)) ntq)
        refine ⟨mvD mv, mvD mv, .tup (SqT.of (sQ _ _ hm2L)) (dp_mv (mmL.same sQ).at_), .tup (SqT.of upd_same) (dp_mv (mmL.same sQ).at_), (m8_mv mv m8).1, (m8_mv mv m8).1, _, rfl, ?_⟩
        rw [(m8_mv mv m8).2]
        refine iteF ?_
        exact ⟨_, _, _, _, _, _, _, _, _, _, _, rfl, bL.same sQ, k3.trans (kL.trans (Kept.same sQ))⟩
    · rintro σ H3 ⟨y1, y2, y3, y4, y5, y6, y7, y8, y9, y10, y11, y12, rfl, hS3⟩
      exact q _
end
end K16

set_option Elab.async false
set_option linter.all false
set_option maxRecDepth 100000
set_option maxHeartbeats 2000000
namespace K16
open PySem PySem.Spec PyProof.Rows L2 My
/-! ### the end -/
def top_mk {h : Heap} {K : PySem.W.Frag} {mg : Str → Option Value} (X : K.In h) (G : h.Ns mainGlobals mg)
    {C0 : Addr} (aC0 : PySem.W.nsIn K mainGlobals "SettingsFile" = some (some (.ref C0))) (pg0 : PySem.W.plainGet K C0 Str.empty = true) (hd0 : PySem.W.hasDictIn K C0 = true) (po0 : PySem.W.plainOver K C0 = true) (sa0 : PySem.W.findIn K (.ref C0) "__setattr__" = some (some (.builtin "object.__setattr__"))) (mk0 : PySem.W.makesIn K C0 = true) (kc0 : PySem.W.keepIn K (.ref C0) = true)
    (na0_0 : PySem.W.findIn K (.ref C0) "text" = some none)
    (na0_1 : PySem.W.findIn K (.ref C0) "rows" = some none)
    (na0_2 : PySem.W.findIn K (.ref C0) "headers" = some none)
    (na0_3 : PySem.W.findIn K (.ref C0) "settings_read" = some none)
    (na0_4 : PySem.W.findIn K (.ref C0) "kept_read" = some none)
    (na0_5 : PySem.W.findIn K (.ref C0) "blocks" = some none)
    (na0_6 : PySem.W.findIn K (.ref C0) "loose" = some none)
    {C1 : Addr} (aC1 : PySem.W.nsIn K mainGlobals "Release" = some (some (.ref C1))) (pg1 : PySem.W.plainGet K C1 Str.empty = true) (hd1 : PySem.W.hasDictIn K C1 = true) (po1 : PySem.W.plainOver K C1 = true) (sa1 : PySem.W.findIn K (.ref C1) "__setattr__" = some (some (.builtin "object.__setattr__"))) (mk1 : PySem.W.makesIn K C1 = true) (kc1 : PySem.W.keepIn K (.ref C1) = true)
    (na1_0 : PySem.W.findIn K (.ref C1) "text" = some none)
    (na1_1 : PySem.W.findIn K (.ref C1) "renames" = some none)
    (na1_2 : PySem.W.findIn K (.ref C1) "returns" = some none)
    {C2 : Addr} (aC2 : PySem.W.nsIn K mainGlobals "History" = some (some (.ref C2))) (pg2 : PySem.W.plainGet K C2 Str.empty = true) (hd2 : PySem.W.hasDictIn K C2 = true) (po2 : PySem.W.plainOver K C2 = true) (sa2 : PySem.W.findIn K (.ref C2) "__setattr__" = some (some (.builtin "object.__setattr__"))) (mk2 : PySem.W.makesIn K C2 = true) (kc2 : PySem.W.keepIn K (.ref C2) = true)
    (rd2 : PySem.W.readsIn K C2 (.type "type") = true) (ga2 : PySem.W.specialIn K (.ref C2) "__getattribute__" = some (some (.builtin "type.__getattribute__")))
    {ct2_0 : Tok} (cw2_0 : PySem.W.findCls K (.ref C2) (.type "type") "MOST_RELEASES" = some (.val (.int 8 ct2_0)))
    {ct2_1 : Tok} (cw2_1 : PySem.W.findCls K (.ref C2) (.type "type") "MOST_SLOTS" = some (.val (.int 12 ct2_1)))
    (na2_0 : PySem.W.findIn K (.ref C2) "shipped_files" = some none)
    (na2_1 : PySem.W.findIn K (.ref C2) "slot_tables" = some none)
    (na2_2 : PySem.W.findIn K (.ref C2) "routes" = some none)
    (na2_3 : PySem.W.findIn K (.ref C2) "clashes" = some none)
    {f0 : Addr} {od0 an0 : Option Addr} {sl0 : Array (Option Value)} {oc0 kV0 dc0 pm0 cd0 ct0 : Value} (a0 : PySem.W.nsIn K mainGlobals "is_made_of" = some (some (.ref f0))) (l0 : K.lookup f0 = some ⟨oc0, od0, .func (PySem.W.fnOf "is_made_of" "is_made_of" (defArgs s_is_made_of) (defBody s_is_made_of) (defScope s_is_made_of) .none kV0 dc0 pm0 an0 cd0 ct0), sl0⟩) (c0 : PySem.W.codeIn K cd0 "is_made_of" = true) (k0 : PySem.W.keepIn K (.ref f0) = true)
    {f1 : Addr} {od1 an1 : Option Addr} {sl1 : Array (Option Value)} {oc1 kV1 dc1 pm1 cd1 ct1 : Value} (a1 : PySem.W.nsIn K mainGlobals "is_name" = some (some (.ref f1))) (l1 : K.lookup f1 = some ⟨oc1, od1, .func (PySem.W.fnOf "is_name" "is_name" (defArgs s_is_name) (defBody s_is_name) (defScope s_is_name) .none kV1 dc1 pm1 an1 cd1 ct1), sl1⟩) (c1 : PySem.W.codeIn K cd1 "is_name" = true) (k1 : PySem.W.keepIn K (.ref f1) = true)
    {f2 : Addr} {od2 an2 : Option Addr} {sl2 : Array (Option Value)} {oc2 kV2 dc2 pm2 cd2 ct2 : Value} (a2 : PySem.W.nsIn K mainGlobals "is_place" = some (some (.ref f2))) (l2 : K.lookup f2 = some ⟨oc2, od2, .func (PySem.W.fnOf "is_place" "is_place" (defArgs s_is_place) (defBody s_is_place) (defScope s_is_place) .none kV2 dc2 pm2 an2 cd2 ct2), sl2⟩) (c2 : PySem.W.codeIn K cd2 "is_place" = true) (k2 : PySem.W.keepIn K (.ref f2) = true)
    {f3 : Addr} {od3 an3 : Option Addr} {sl3 : Array (Option Value)} {oc3 kV3 dc3 pm3 cd3 ct3 : Value} (a3 : PySem.W.nsIn K mainGlobals "is_value" = some (some (.ref f3))) (l3 : K.lookup f3 = some ⟨oc3, od3, .func (PySem.W.fnOf "is_value" "is_value" (defArgs s_is_value) (defBody s_is_value) (defScope s_is_value) .none kV3 dc3 pm3 an3 cd3 ct3), sl3⟩) (c3 : PySem.W.codeIn K cd3 "is_value" = true) (k3 : PySem.W.keepIn K (.ref f3) = true)
    {f4 : Addr} {od4 an4 : Option Addr} {sl4 : Array (Option Value)} {oc4 kV4 dc4 pm4 cd4 ct4 : Value} (a4 : PySem.W.nsIn K mainGlobals "is_release_word" = some (some (.ref f4))) (l4 : K.lookup f4 = some ⟨oc4, od4, .func (PySem.W.fnOf "is_release_word" "is_release_word" (defArgs s_is_release_word) (defBody s_is_release_word) (defScope s_is_release_word) .none kV4 dc4 pm4 an4 cd4 ct4), sl4⟩) (c4 : PySem.W.codeIn K cd4 "is_release_word" = true) (k4 : PySem.W.keepIn K (.ref f4) = true)
    {f5 : Addr} {od5 an5 : Option Addr} {sl5 : Array (Option Value)} {oc5 kV5 dc5 pm5 cd5 ct5 : Value} (a5 : PySem.W.nsIn K mainGlobals "is_header" = some (some (.ref f5))) (l5 : K.lookup f5 = some ⟨oc5, od5, .func (PySem.W.fnOf "is_header" "is_header" (defArgs s_is_header) (defBody s_is_header) (defScope s_is_header) .none kV5 dc5 pm5 an5 cd5 ct5), sl5⟩) (c5 : PySem.W.codeIn K cd5 "is_header" = true) (k5 : PySem.W.keepIn K (.ref f5) = true)
    {f6 : Addr} {od6 an6 : Option Addr} {sl6 : Array (Option Value)} {oc6 kV6 dc6 pm6 cd6 ct6 : Value} (a6 : PySem.W.nsIn K mainGlobals "is_loose" = some (some (.ref f6))) (l6 : K.lookup f6 = some ⟨oc6, od6, .func (PySem.W.fnOf "is_loose" "is_loose" (defArgs s_is_loose) (defBody s_is_loose) (defScope s_is_loose) .none kV6 dc6 pm6 an6 cd6 ct6), sl6⟩) (c6 : PySem.W.codeIn K cd6 "is_loose" = true) (k6 : PySem.W.keepIn K (.ref f6) = true)
    {f7 : Addr} {od7 an7 : Option Addr} {sl7 : Array (Option Value)} {oc7 kV7 dc7 pm7 cd7 ct7 : Value} (a7 : PySem.W.nsIn K mainGlobals "read_setting" = some (some (.ref f7))) (l7 : K.lookup f7 = some ⟨oc7, od7, .func (PySem.W.fnOf "read_setting" "read_setting" (defArgs s_read_setting) (defBody s_read_setting) (defScope s_read_setting) .none kV7 dc7 pm7 an7 cd7 ct7), sl7⟩) (c7 : PySem.W.codeIn K cd7 "read_setting" = true) (k7 : PySem.W.keepIn K (.ref f7) = true)
    {f8 : Addr} {od8 an8 : Option Addr} {sl8 : Array (Option Value)} {oc8 kV8 dc8 pm8 cd8 ct8 : Value} (a8 : PySem.W.nsIn K mainGlobals "read_kept" = some (some (.ref f8))) (l8 : K.lookup f8 = some ⟨oc8, od8, .func (PySem.W.fnOf "read_kept" "read_kept" (defArgs s_read_kept) (defBody s_read_kept) (defScope s_read_kept) .none kV8 dc8 pm8 an8 cd8 ct8), sl8⟩) (c8 : PySem.W.codeIn K cd8 "read_kept" = true) (k8 : PySem.W.keepIn K (.ref f8) = true)
    {f9 : Addr} {od9 an9 : Option Addr} {sl9 : Array (Option Value)} {oc9 kV9 dc9 pm9 cd9 ct9 : Value} (a9 : PySem.W.nsIn K mainGlobals "is_number_below" = some (some (.ref f9))) (l9 : K.lookup f9 = some ⟨oc9, od9, .func (PySem.W.fnOf "is_number_below" "is_number_below" (defArgs s_is_number_below) (defBody s_is_number_below) (defScope s_is_number_below) .none kV9 dc9 pm9 an9 cd9 ct9), sl9⟩) (c9 : PySem.W.codeIn K cd9 "is_number_below" = true) (k9 : PySem.W.keepIn K (.ref f9) = true)
    {f10 : Addr} {od10 an10 : Option Addr} {sl10 : Array (Option Value)} {oc10 kV10 dc10 pm10 cd10 ct10 : Value} (a10 : PySem.W.nsIn K mainGlobals "is_key" = some (some (.ref f10))) (l10 : K.lookup f10 = some ⟨oc10, od10, .func (PySem.W.fnOf "is_key" "is_key" (defArgs s_is_key) (defBody s_is_key) (defScope s_is_key) .none kV10 dc10 pm10 an10 cd10 ct10), sl10⟩) (c10 : PySem.W.codeIn K cd10 "is_key" = true) (k10 : PySem.W.keepIn K (.ref f10) = true)
    {f11 : Addr} {od11 an11 : Option Addr} {sl11 : Array (Option Value)} {oc11 kV11 dc11 pm11 cd11 ct11 : Value} (a11 : PySem.W.nsIn K mainGlobals "is_tuple_of" = some (some (.ref f11))) (l11 : K.lookup f11 = some ⟨oc11, od11, .func (PySem.W.fnOf "is_tuple_of" "is_tuple_of" (defArgs s_is_tuple_of) (defBody s_is_tuple_of) (defScope s_is_tuple_of) .none kV11 dc11 pm11 an11 cd11 ct11), sl11⟩) (c11 : PySem.W.codeIn K cd11 "is_tuple_of" = true) (k11 : PySem.W.keepIn K (.ref f11) = true)
    {f12 : Addr} {od12 an12 : Option Addr} {sl12 : Array (Option Value)} {oc12 kV12 dc12 pm12 cd12 ct12 : Value} (a12 : PySem.W.nsIn K mainGlobals "are_different" = some (some (.ref f12))) (l12 : K.lookup f12 = some ⟨oc12, od12, .func (PySem.W.fnOf "are_different" "are_different" (defArgs s_are_different) (defBody s_are_different) (defScope s_are_different) .none kV12 dc12 pm12 an12 cd12 ct12), sl12⟩) (c12 : PySem.W.codeIn K cd12 "are_different" = true) (k12 : PySem.W.keepIn K (.ref f12) = true)
    {f13 : Addr} {od13 an13 : Option Addr} {sl13 : Array (Option Value)} {oc13 kV13 dc13 pm13 cd13 ct13 : Value} (a13 : PySem.W.nsIn K mainGlobals "unshared" = some (some (.ref f13))) (l13 : K.lookup f13 = some ⟨oc13, od13, .func (PySem.W.fnOf "unshared" "unshared" (defArgs s_unshared) (defBody s_unshared) (defScope s_unshared) .none kV13 dc13 pm13 an13 cd13 ct13), sl13⟩) (c13 : PySem.W.codeIn K cd13 "unshared" = true) (k13 : PySem.W.keepIn K (.ref f13) = true)
    {f14 : Addr} {od14 an14 : Option Addr} {sl14 : Array (Option Value)} {oc14 kV14 dc14 pm14 cd14 ct14 : Value} (a14 : PySem.W.nsIn K mainGlobals "shipped_file" = some (some (.ref f14))) (l14 : K.lookup f14 = some ⟨oc14, od14, .func (PySem.W.fnOf "shipped_file" "shipped_file" (defArgs s_shipped_file) (defBody s_shipped_file) (defScope s_shipped_file) .none kV14 dc14 pm14 an14 cd14 ct14), sl14⟩) (c14 : PySem.W.codeIn K cd14 "shipped_file" = true) (k14 : PySem.W.keepIn K (.ref f14) = true)
    {f15 : Addr} {od15 an15 : Option Addr} {sl15 : Array (Option Value)} {oc15 kV15 dc15 pm15 cd15 ct15 : Value} (a15 : PySem.W.nsIn K mainGlobals "is_rename" = some (some (.ref f15))) (l15 : K.lookup f15 = some ⟨oc15, od15, .func (PySem.W.fnOf "is_rename" "is_rename" (defArgs s_is_rename) (defBody s_is_rename) (defScope s_is_rename) .none kV15 dc15 pm15 an15 cd15 ct15), sl15⟩) (c15 : PySem.W.codeIn K cd15 "is_rename" = true) (k15 : PySem.W.keepIn K (.ref f15) = true)
    {f16 : Addr} {od16 an16 : Option Addr} {sl16 : Array (Option Value)} {oc16 kV16 dc16 pm16 cd16 ct16 : Value} (a16 : PySem.W.nsIn K mainGlobals "are_renames" = some (some (.ref f16))) (l16 : K.lookup f16 = some ⟨oc16, od16, .func (PySem.W.fnOf "are_renames" "are_renames" (defArgs s_are_renames) (defBody s_are_renames) (defScope s_are_renames) .none kV16 dc16 pm16 an16 cd16 ct16), sl16⟩) (c16 : PySem.W.codeIn K cd16 "are_renames" = true) (k16 : PySem.W.keepIn K (.ref f16) = true)
    {f17 : Addr} {od17 an17 : Option Addr} {sl17 : Array (Option Value)} {oc17 kV17 dc17 pm17 cd17 ct17 : Value} (a17 : PySem.W.nsIn K mainGlobals "carried_slots" = some (some (.ref f17))) (l17 : K.lookup f17 = some ⟨oc17, od17, .func (PySem.W.fnOf "carried_slots" "carried_slots" (defArgs s_carried_slots) (defBody s_carried_slots) (defScope s_carried_slots) .none kV17 dc17 pm17 an17 cd17 ct17), sl17⟩) (c17 : PySem.W.codeIn K cd17 "carried_slots" = true) (k17 : PySem.W.keepIn K (.ref f17) = true)
    {f18 : Addr} {od18 an18 : Option Addr} {sl18 : Array (Option Value)} {oc18 kV18 dc18 pm18 cd18 ct18 : Value} (a18 : PySem.W.nsIn K mainGlobals "slot_returned" = some (some (.ref f18))) (l18 : K.lookup f18 = some ⟨oc18, od18, .func (PySem.W.fnOf "slot_returned" "slot_returned" (defArgs s_slot_returned) (defBody s_slot_returned) (defScope s_slot_returned) .none kV18 dc18 pm18 an18 cd18 ct18), sl18⟩) (c18 : PySem.W.codeIn K cd18 "slot_returned" = true) (k18 : PySem.W.keepIn K (.ref f18) = true)
    {f19 : Addr} {od19 an19 : Option Addr} {sl19 : Array (Option Value)} {oc19 kV19 dc19 pm19 cd19 ct19 : Value} (a19 : PySem.W.nsIn K mainGlobals "are_returns" = some (some (.ref f19))) (l19 : K.lookup f19 = some ⟨oc19, od19, .func (PySem.W.fnOf "are_returns" "are_returns" (defArgs s_are_returns) (defBody s_are_returns) (defScope s_are_returns) .none kV19 dc19 pm19 an19 cd19 ct19), sl19⟩) (c19 : PySem.W.codeIn K cd19 "are_returns" = true) (k19 : PySem.W.keepIn K (.ref f19) = true)
    {f20 : Addr} {od20 an20 : Option Addr} {sl20 : Array (Option Value)} {oc20 kV20 dc20 pm20 cd20 ct20 : Value} (a20 : PySem.W.nsIn K mainGlobals "_law_bag" = some (some (.ref f20))) (l20 : K.lookup f20 = some ⟨oc20, od20, .func (PySem.W.fnOf "_law_bag" "_law_bag" (defArgs s_L_bag) (defBody s_L_bag) (defScope s_L_bag) .none kV20 dc20 pm20 an20 cd20 ct20), sl20⟩) (c20 : PySem.W.codeIn K cd20 "_law_bag" = true) (k20 : PySem.W.keepIn K (.ref f20) = true)
    {f21 : Addr} {od21 an21 : Option Addr} {sl21 : Array (Option Value)} {oc21 kV21 dc21 pm21 cd21 ct21 : Value} (a21 : PySem.W.nsIn K mainGlobals "_law_take" = some (some (.ref f21))) (l21 : K.lookup f21 = some ⟨oc21, od21, .func (PySem.W.fnOf "_law_take" "_law_take" (defArgs s_L_take) (defBody s_L_take) (defScope s_L_take) .none kV21 dc21 pm21 an21 cd21 ct21), sl21⟩) (c21 : PySem.W.codeIn K cd21 "_law_take" = true) (k21 : PySem.W.keepIn K (.ref f21) = true)
    {f22 : Addr} {od22 an22 : Option Addr} {sl22 : Array (Option Value)} {oc22 kV22 dc22 pm22 cd22 ct22 : Value} (a22 : PySem.W.nsIn K mainGlobals "_law_of" = some (some (.ref f22))) (l22 : K.lookup f22 = some ⟨oc22, od22, .func (PySem.W.fnOf "_law_of" "_law_of" (defArgs s_L_of) (defBody s_L_of) (defScope s_L_of) .none kV22 dc22 pm22 an22 cd22 ct22), sl22⟩) (c22 : PySem.W.codeIn K cd22 "_law_of" = true) (k22 : PySem.W.keepIn K (.ref f22) = true)
    {f23 : Addr} {od23 an23 : Option Addr} {sl23 : Array (Option Value)} {oc23 kV23 dc23 pm23 cd23 ct23 : Value} (a23 : PySem.W.nsIn K mainGlobals "_law_any" = some (some (.ref f23))) (l23 : K.lookup f23 = some ⟨oc23, od23, .func (PySem.W.fnOf "_law_any" "_law_any" (defArgs s_L_any) (defBody s_L_any) (defScope s_L_any) .none kV23 dc23 pm23 an23 cd23 ct23), sl23⟩) (c23 : PySem.W.codeIn K cd23 "_law_any" = true) (k23 : PySem.W.keepIn K (.ref f23) = true)
    {f24 : Addr} {od24 an24 : Option Addr} {sl24 : Array (Option Value)} {oc24 kV24 dc24 pm24 cd24 ct24 : Value} (a24 : PySem.W.nsIn K mainGlobals "_law_plain" = some (some (.ref f24))) (l24 : K.lookup f24 = some ⟨oc24, od24, .func (PySem.W.fnOf "_law_plain" "_law_plain" (defArgs s_L_plain) (defBody s_L_plain) (defScope s_L_plain) .none kV24 dc24 pm24 an24 cd24 ct24), sl24⟩) (c24 : PySem.W.codeIn K cd24 "_law_plain" = true) (k24 : PySem.W.keepIn K (.ref f24) = true)
    {f25 : Addr} {od25 an25 : Option Addr} {sl25 : Array (Option Value)} {oc25 kV25 dc25 pm25 cd25 ct25 : Value} (a25 : PySem.W.nsIn K mainGlobals "_law_any_right" = some (some (.ref f25))) (l25 : K.lookup f25 = some ⟨oc25, od25, .func (PySem.W.fnOf "_law_any_right" "_law_any_right" (defArgs s_L_any_right) (defBody s_L_any_right) (defScope s_L_any_right) .none kV25 dc25 pm25 an25 cd25 ct25), sl25⟩) (c25 : PySem.W.codeIn K cd25 "_law_any_right" = true) (k25 : PySem.W.keepIn K (.ref f25) = true)
    {f26 : Addr} {od26 an26 : Option Addr} {sl26 : Array (Option Value)} {oc26 kV26 dc26 pm26 cd26 ct26 : Value} (a26 : PySem.W.nsIn K mainGlobals "_law_table" = some (some (.ref f26))) (l26 : K.lookup f26 = some ⟨oc26, od26, .func (PySem.W.fnOf "_law_table" "_law_table" (defArgs s_L_table) (defBody s_L_table) (defScope s_L_table) .none kV26 dc26 pm26 an26 cd26 ct26), sl26⟩) (c26 : PySem.W.codeIn K cd26 "_law_table" = true) (k26 : PySem.W.keepIn K (.ref f26) = true)
    {f27 : Addr} {od27 an27 : Option Addr} {sl27 : Array (Option Value)} {oc27 kV27 dc27 pm27 cd27 ct27 : Value} (a27 : PySem.W.nsIn K mainGlobals "_law_due" = some (some (.ref f27))) (l27 : K.lookup f27 = some ⟨oc27, od27, .func (PySem.W.fnOf "_law_due" "_law_due" (defArgs s_L_due) (defBody s_L_due) (defScope s_L_due) .none kV27 dc27 pm27 an27 cd27 ct27), sl27⟩) (c27 : PySem.W.codeIn K cd27 "_law_due" = true) (k27 : PySem.W.keepIn K (.ref f27) = true)
    {f28 : Addr} {od28 an28 : Option Addr} {sl28 : Array (Option Value)} {oc28 kV28 dc28 pm28 cd28 ct28 : Value} (a28 : PySem.W.nsIn K mainGlobals "_law_moved" = some (some (.ref f28))) (l28 : K.lookup f28 = some ⟨oc28, od28, .func (PySem.W.fnOf "_law_moved" "_law_moved" (defArgs s_L_moved) (defBody s_L_moved) (defScope s_L_moved) .none kV28 dc28 pm28 an28 cd28 ct28), sl28⟩) (c28 : PySem.W.codeIn K cd28 "_law_moved" = true) (k28 : PySem.W.keepIn K (.ref f28) = true)
    {f29 : Addr} {od29 an29 : Option Addr} {sl29 : Array (Option Value)} {oc29 kV29 dc29 pm29 cd29 ct29 : Value} (a29 : PySem.W.nsIn K mainGlobals "law" = some (some (.ref f29))) (l29 : K.lookup f29 = some ⟨oc29, od29, .func (PySem.W.fnOf "law" "law" (defArgs s_law) (defBody s_law) (defScope s_law) .none kV29 dc29 pm29 an29 cd29 ct29), sl29⟩) (c29 : PySem.W.codeIn K cd29 "law" = true) (k29 : PySem.W.keepIn K (.ref f29) = true)
    {f30 : Addr} {od30 an30 : Option Addr} {sl30 : Array (Option Value)} {oc30 kV30 dc30 pm30 cd30 ct30 : Value} (a30 : PySem.W.findIn K (.ref C0) "__init__" = some (some (.ref f30))) (i30 : PySem.W.isFn K (.ref f30) = true) (l30 : K.lookup f30 = some ⟨oc30, od30, .func (PySem.W.fnOf "__init__" "SettingsFile.__init__" (defArgs s_SettingsFile___init__) (defBody s_SettingsFile___init__) (defScope s_SettingsFile___init__) .none kV30 dc30 pm30 an30 cd30 ct30), sl30⟩) (c30 : PySem.W.codeIn K cd30 "SettingsFile.__init__" = true) (k30 : PySem.W.keepIn K (.ref f30) = true)
    {f31 : Addr} {od31 an31 : Option Addr} {sl31 : Array (Option Value)} {oc31 kV31 dc31 pm31 cd31 ct31 : Value} (a31 : PySem.W.findIn K (.ref C0) "take" = some (some (.ref f31))) (i31 : PySem.W.isFn K (.ref f31) = true) (l31 : K.lookup f31 = some ⟨oc31, od31, .func (PySem.W.fnOf "take" "SettingsFile.take" (defArgs s_SettingsFile_take) (defBody s_SettingsFile_take) (defScope s_SettingsFile_take) .none kV31 dc31 pm31 an31 cd31 ct31), sl31⟩) (c31 : PySem.W.codeIn K cd31 "SettingsFile.take" = true) (k31 : PySem.W.keepIn K (.ref f31) = true)
    {f32 : Addr} {od32 an32 : Option Addr} {sl32 : Array (Option Value)} {oc32 kV32 dc32 pm32 cd32 ct32 : Value} (a32 : PySem.W.findIn K (.ref C0) "take_kept" = some (some (.ref f32))) (i32 : PySem.W.isFn K (.ref f32) = true) (l32 : K.lookup f32 = some ⟨oc32, od32, .func (PySem.W.fnOf "take_kept" "SettingsFile.take_kept" (defArgs s_SettingsFile_take_kept) (defBody s_SettingsFile_take_kept) (defScope s_SettingsFile_take_kept) .none kV32 dc32 pm32 an32 cd32 ct32), sl32⟩) (c32 : PySem.W.codeIn K cd32 "SettingsFile.take_kept" = true) (k32 : PySem.W.keepIn K (.ref f32) = true)
    {f33 : Addr} {od33 an33 : Option Addr} {sl33 : Array (Option Value)} {oc33 kV33 dc33 pm33 cd33 ct33 : Value} (a33 : PySem.W.findIn K (.ref C0) "take_header" = some (some (.ref f33))) (i33 : PySem.W.isFn K (.ref f33) = true) (l33 : K.lookup f33 = some ⟨oc33, od33, .func (PySem.W.fnOf "take_header" "SettingsFile.take_header" (defArgs s_SettingsFile_take_header) (defBody s_SettingsFile_take_header) (defScope s_SettingsFile_take_header) .none kV33 dc33 pm33 an33 cd33 ct33), sl33⟩) (c33 : PySem.W.codeIn K cd33 "SettingsFile.take_header" = true) (k33 : PySem.W.keepIn K (.ref f33) = true)
    {f34 : Addr} {od34 an34 : Option Addr} {sl34 : Array (Option Value)} {oc34 kV34 dc34 pm34 cd34 ct34 : Value} (a34 : PySem.W.findIn K (.ref C0) "take_setting" = some (some (.ref f34))) (i34 : PySem.W.isFn K (.ref f34) = true) (l34 : K.lookup f34 = some ⟨oc34, od34, .func (PySem.W.fnOf "take_setting" "SettingsFile.take_setting" (defArgs s_SettingsFile_take_setting) (defBody s_SettingsFile_take_setting) (defScope s_SettingsFile_take_setting) .none kV34 dc34 pm34 an34 cd34 ct34), sl34⟩) (c34 : PySem.W.codeIn K cd34 "SettingsFile.take_setting" = true) (k34 : PySem.W.keepIn K (.ref f34) = true)
    {f35 : Addr} {od35 an35 : Option Addr} {sl35 : Array (Option Value)} {oc35 kV35 dc35 pm35 cd35 ct35 : Value} (a35 : PySem.W.findIn K (.ref C0) "close_block" = some (some (.ref f35))) (i35 : PySem.W.isFn K (.ref f35) = true) (l35 : K.lookup f35 = some ⟨oc35, od35, .func (PySem.W.fnOf "close_block" "SettingsFile.close_block" (defArgs s_SettingsFile_close_block) (defBody s_SettingsFile_close_block) (defScope s_SettingsFile_close_block) .none kV35 dc35 pm35 an35 cd35 ct35), sl35⟩) (c35 : PySem.W.codeIn K cd35 "SettingsFile.close_block" = true) (k35 : PySem.W.keepIn K (.ref f35) = true)
    {f36 : Addr} {od36 an36 : Option Addr} {sl36 : Array (Option Value)} {oc36 kV36 dc36 pm36 cd36 ct36 : Value} (a36 : PySem.W.findIn K (.ref C0) "places" = some (some (.ref f36))) (i36 : PySem.W.isFn K (.ref f36) = true) (l36 : K.lookup f36 = some ⟨oc36, od36, .func (PySem.W.fnOf "places" "SettingsFile.places" (defArgs s_SettingsFile_places) (defBody s_SettingsFile_places) (defScope s_SettingsFile_places) .none kV36 dc36 pm36 an36 cd36 ct36), sl36⟩) (c36 : PySem.W.codeIn K cd36 "SettingsFile.places" = true) (k36 : PySem.W.keepIn K (.ref f36) = true)
    {f37 : Addr} {od37 an37 : Option Addr} {sl37 : Array (Option Value)} {oc37 kV37 dc37 pm37 cd37 ct37 : Value} (a37 : PySem.W.findIn K (.ref C0) "kept" = some (some (.ref f37))) (i37 : PySem.W.isFn K (.ref f37) = true) (l37 : K.lookup f37 = some ⟨oc37, od37, .func (PySem.W.fnOf "kept" "SettingsFile.kept" (defArgs s_SettingsFile_kept) (defBody s_SettingsFile_kept) (defScope s_SettingsFile_kept) .none kV37 dc37 pm37 an37 cd37 ct37), sl37⟩) (c37 : PySem.W.codeIn K cd37 "SettingsFile.kept" = true) (k37 : PySem.W.keepIn K (.ref f37) = true)
    {f38 : Addr} {od38 an38 : Option Addr} {sl38 : Array (Option Value)} {oc38 kV38 dc38 pm38 cd38 ct38 : Value} (a38 : PySem.W.findIn K (.ref C0) "__contains__" = some (some (.ref f38))) (i38 : PySem.W.isFn K (.ref f38) = true) (l38 : K.lookup f38 = some ⟨oc38, od38, .func (PySem.W.fnOf "__contains__" "SettingsFile.__contains__" (defArgs s_SettingsFile___contains__) (defBody s_SettingsFile___contains__) (defScope s_SettingsFile___contains__) .none kV38 dc38 pm38 an38 cd38 ct38), sl38⟩) (c38 : PySem.W.codeIn K cd38 "SettingsFile.__contains__" = true) (k38 : PySem.W.keepIn K (.ref f38) = true)
    {f39 : Addr} {od39 an39 : Option Addr} {sl39 : Array (Option Value)} {oc39 dc39 pm39 cd39 ct39 : Value} {kD39 : Addr} (a39 : PySem.W.findIn K (.ref C1) "__init__" = some (some (.ref f39))) (i39 : PySem.W.isFn K (.ref f39) = true) (l39 : K.lookup f39 = some ⟨oc39, od39, .func (PySem.W.fnOf "__init__" "Release.__init__" (defArgs s_Release___init__) (defBody s_Release___init__) (defScope s_Release___init__) .none (.ref kD39) dc39 pm39 an39 cd39 ct39), sl39⟩) (c39 : PySem.W.codeIn K cd39 "Release.__init__" = true) (k39 : PySem.W.keepIn K (.ref f39) = true)
    {kt39_0 : Addr} (kq39_0 : PySem.W.nsIn K kD39 "renames" = some (some (.ref kt39_0))) {ko39_0 : Option Addr} {kz39_0 : Nat} {ks39_0 : Array (Option Value)} (kl39_0 : K.lookup kt39_0 = some ⟨.type "tuple", ko39_0, .seq #[] kz39_0, ks39_0⟩)
    {kt39_1 : Addr} (kq39_1 : PySem.W.nsIn K kD39 "returns" = some (some (.ref kt39_1))) {ko39_1 : Option Addr} {kz39_1 : Nat} {ks39_1 : Array (Option Value)} (kl39_1 : K.lookup kt39_1 = some ⟨.type "tuple", ko39_1, .seq #[] kz39_1, ks39_1⟩)
    {f40 : Addr} {od40 an40 : Option Addr} {sl40 : Array (Option Value)} {oc40 dc40 pm40 cd40 ct40 : Value} {kD40 : Addr} (a40 : PySem.W.findIn K (.ref C2) "__init__" = some (some (.ref f40))) (i40 : PySem.W.isFn K (.ref f40) = true) (l40 : K.lookup f40 = some ⟨oc40, od40, .func (PySem.W.fnOf "__init__" "History.__init__" (defArgs s_History___init__) (defBody s_History___init__) (defScope s_History___init__) .none (.ref kD40) dc40 pm40 an40 cd40 ct40), sl40⟩) (c40 : PySem.W.codeIn K cd40 "History.__init__" = true) (k40 : PySem.W.keepIn K (.ref f40) = true)
    {kt40_0 : Addr} (kq40_0 : PySem.W.nsIn K kD40 "exclusions" = some (some (.ref kt40_0))) {ko40_0 : Option Addr} {kz40_0 : Nat} {ks40_0 : Array (Option Value)} (kl40_0 : K.lookup kt40_0 = some ⟨.type "tuple", ko40_0, .seq #[] kz40_0, ks40_0⟩)
    {f41 : Addr} {od41 an41 : Option Addr} {sl41 : Array (Option Value)} {oc41 kV41 dc41 pm41 cd41 ct41 : Value} (a41 : PySem.W.findIn K (.ref C2) "take_release" = some (some (.ref f41))) (i41 : PySem.W.isFn K (.ref f41) = true) (l41 : K.lookup f41 = some ⟨oc41, od41, .func (PySem.W.fnOf "take_release" "History.take_release" (defArgs s_History_take_release) (defBody s_History_take_release) (defScope s_History_take_release) .none kV41 dc41 pm41 an41 cd41 ct41), sl41⟩) (c41 : PySem.W.codeIn K cd41 "History.take_release" = true) (k41 : PySem.W.keepIn K (.ref f41) = true)
    {f42 : Addr} {od42 an42 : Option Addr} {sl42 : Array (Option Value)} {oc42 kV42 dc42 pm42 cd42 ct42 : Value} (a42 : PySem.W.findIn K (.ref C2) "take_places" = some (some (.ref f42))) (i42 : PySem.W.isFn K (.ref f42) = true) (l42 : K.lookup f42 = some ⟨oc42, od42, .func (PySem.W.fnOf "take_places" "History.take_places" (defArgs s_History_take_places) (defBody s_History_take_places) (defScope s_History_take_places) .none kV42 dc42 pm42 an42 cd42 ct42), sl42⟩) (c42 : PySem.W.codeIn K cd42 "History.take_places" = true) (k42 : PySem.W.keepIn K (.ref f42) = true)
    {f43 : Addr} {od43 an43 : Option Addr} {sl43 : Array (Option Value)} {oc43 kV43 dc43 pm43 cd43 ct43 : Value} (a43 : PySem.W.findIn K (.ref C2) "take_exclusion" = some (some (.ref f43))) (i43 : PySem.W.isFn K (.ref f43) = true) (l43 : K.lookup f43 = some ⟨oc43, od43, .func (PySem.W.fnOf "take_exclusion" "History.take_exclusion" (defArgs s_History_take_exclusion) (defBody s_History_take_exclusion) (defScope s_History_take_exclusion) .none kV43 dc43 pm43 an43 cd43 ct43), sl43⟩) (c43 : PySem.W.codeIn K cd43 "History.take_exclusion" = true) (k43 : PySem.W.keepIn K (.ref f43) = true)
    {f44 : Addr} {od44 an44 : Option Addr} {sl44 : Array (Option Value)} {oc44 kV44 dc44 pm44 cd44 ct44 : Value} (a44 : PySem.W.findIn K (.ref C2) "check_release" = some (some (.ref f44))) (i44 : PySem.W.isFn K (.ref f44) = true) (l44 : K.lookup f44 = some ⟨oc44, od44, .func (PySem.W.fnOf "check_release" "History.check_release" (defArgs s_History_check_release) (defBody s_History_check_release) (defScope s_History_check_release) .none kV44 dc44 pm44 an44 cd44 ct44), sl44⟩) (c44 : PySem.W.codeIn K cd44 "History.check_release" = true) (k44 : PySem.W.keepIn K (.ref f44) = true)
    {p45 : Addr} {rs45 : List Value} (a45 : PySem.W.findIn K (.ref C2) "slots" = some (some (.ref p45))) (pg_45 : PySem.W.specialIn K (.ref p45) "__get__" = some (some (.builtin "property.__get__"))) (pt_45 : PySem.W.takesIn K (.ref p45) = some true)
    {f45 : Addr} {od45 an45 : Option Addr} {sl45 : Array (Option Value)} {oc45 kV45 dc45 pm45 cd45 ct45 : Value} (pr_45 : PySem.W.recIn K p45 "property" = some (.ref f45 :: rs45)) (l45 : K.lookup f45 = some ⟨oc45, od45, .func (PySem.W.fnOf "slots" "History.slots" (defArgs s_History_slots) (defBody s_History_slots) (defScope s_History_slots) .none kV45 dc45 pm45 an45 cd45 ct45), sl45⟩) (c45 : PySem.W.codeIn K cd45 "History.slots" = true) (k45 : PySem.W.keepIn K (.ref f45) = true)
    {f46 : Addr} {od46 an46 : Option Addr} {sl46 : Array (Option Value)} {oc46 kV46 dc46 pm46 cd46 ct46 : Value} (a46 : PySem.W.findIn K (.ref C2) "slot_at" = some (some (.ref f46))) (i46 : PySem.W.isFn K (.ref f46) = true) (l46 : K.lookup f46 = some ⟨oc46, od46, .func (PySem.W.fnOf "slot_at" "History.slot_at" (defArgs s_History_slot_at) (defBody s_History_slot_at) (defScope s_History_slot_at) .none kV46 dc46 pm46 an46 cd46 ct46), sl46⟩) (c46 : PySem.W.codeIn K cd46 "History.slot_at" = true) (k46 : PySem.W.keepIn K (.ref f46) = true)
    {f47 : Addr} {od47 an47 : Option Addr} {sl47 : Array (Option Value)} {oc47 kV47 dc47 pm47 cd47 ct47 : Value} (a47 : PySem.W.findIn K (.ref C2) "__len__" = some (some (.ref f47))) (i47 : PySem.W.isFn K (.ref f47) = true) (l47 : K.lookup f47 = some ⟨oc47, od47, .func (PySem.W.fnOf "__len__" "History.__len__" (defArgs s_History___len__) (defBody s_History___len__) (defScope s_History___len__) .none kV47 dc47 pm47 an47 cd47 ct47), sl47⟩) (c47 : PySem.W.codeIn K cd47 "History.__len__" = true) (k47 : PySem.W.keepIn K (.ref f47) = true)
    {t0 : Tok} (q0 : PySem.W.nsIn K mainGlobals "LONGEST_NAME" = some (some (.int 8 t0)))
    {t1 : Tok} (q1 : PySem.W.nsIn K mainGlobals "LETTERS" = some (some (.str "abcdefghijklmnopqrstuvwxyz" t1)))
    {t2 : Tok} (q2 : PySem.W.nsIn K mainGlobals "LONGEST_VALUE" = some (some (.int 12 t2)))
    {t3 : Tok} (q3 : PySem.W.nsIn K mainGlobals "DIGITS" = some (some (.str "0123456789" t3)))
    {t4 : Tok} (q4 : PySem.W.nsIn K mainGlobals "LONGEST_RELEASE" = some (some (.int 2 t4)))
    {t5 : Tok} (q5 : PySem.W.nsIn K mainGlobals "KEPT_MARK" = some (some (.str "#~" t5)))
    (z0 : PySem.W.nsIn K mainGlobals "len" = some none)
    (z1 : PySem.W.nsIn K mainGlobals "isinstance" = some none)
    (z2 : PySem.W.nsIn K mainGlobals "str" = some none)
    (z3 : PySem.W.nsIn K mainGlobals "all" = some none)
    (z4 : PySem.W.nsIn K mainGlobals "int" = some none)
    (z5 : PySem.W.nsIn K mainGlobals "bool" = some none)
    (z6 : PySem.W.nsIn K mainGlobals "tuple" = some none)
    (z7 : PySem.W.nsIn K mainGlobals "set" = some none)
    (z8 : PySem.W.nsIn K mainGlobals "list" = some none)
    (z9 : PySem.W.nsIn K mainGlobals "enumerate" = some none)
    (z10 : PySem.W.nsIn K mainGlobals "abs" = some none)
    (z11 : PySem.W.nsIn K mainGlobals "repr" = some none)
    (z12 : PySem.W.nsIn K mainGlobals "dict" = some none)
    (z13 : PySem.W.nsIn K mainGlobals "range" = some none)
    (z14 : PySem.W.nsIn K mainGlobals "max" = some none)
    (z15 : PySem.W.nsIn K mainGlobals "min" = some none) : Top K mg := {
    C_SettingsFile := C0, cl_SettingsFile := ⟨pg0, hd0, po0, sa0⟩, g_SettingsFile := PySem.W.mg_of X G aC0,
    no_SettingsFile_text := na0_0,
    no_SettingsFile_rows := na0_1,
    no_SettingsFile_headers := na0_2,
    no_SettingsFile_settings_read := na0_3,
    no_SettingsFile_kept_read := na0_4,
    no_SettingsFile_blocks := na0_5,
    no_SettingsFile_loose := na0_6,
    C_Release := C1, cl_Release := ⟨pg1, hd1, po1, sa1⟩, g_Release := PySem.W.mg_of X G aC1,
    no_Release_text := na1_0,
    no_Release_renames := na1_1,
    no_Release_returns := na1_2,
    C_History := C2, cl_History := ⟨pg2, hd2, po2, sa2⟩, g_History := PySem.W.mg_of X G aC2,
    cr_History := ⟨rd2, ga2⟩,
    cu_History_MOST_RELEASES := ct2_0, cv_History_MOST_RELEASES := ⟨cw2_0, ⟨_, rfl⟩⟩,
    cu_History_MOST_SLOTS := ct2_1, cv_History_MOST_SLOTS := ⟨cw2_1, ⟨_, rfl⟩⟩,
    no_History_shipped_files := na2_0,
    no_History_slot_tables := na2_1,
    no_History_routes := na2_2,
    no_History_clashes := na2_3,
    f_is_made_of := f0, d_is_made_of := _, F_is_made_of := fun_mk (st := s_is_made_of) l0 c0 k0, b_is_made_of := (fun_mk (st := s_is_made_of) l0 c0 k0).binds (ps := ["thing", "characters", "most"]) (fun _ _ _ _ _ _ us hl => match us, hl with | [_, _, _], _ => rfl), g_is_made_of := PySem.W.mg_of X G a0,
    f_is_name := f1, d_is_name := _, F_is_name := fun_mk (st := s_is_name) l1 c1 k1, b_is_name := (fun_mk (st := s_is_name) l1 c1 k1).binds (ps := ["thing"]) (fun _ _ _ _ _ _ us hl => match us, hl with | [_], _ => rfl), g_is_name := PySem.W.mg_of X G a1,
    f_is_place := f2, d_is_place := _, F_is_place := fun_mk (st := s_is_place) l2 c2 k2, b_is_place := (fun_mk (st := s_is_place) l2 c2 k2).binds (ps := ["thing"]) (fun _ _ _ _ _ _ us hl => match us, hl with | [_], _ => rfl), g_is_place := PySem.W.mg_of X G a2,
    f_is_value := f3, d_is_value := _, F_is_value := fun_mk (st := s_is_value) l3 c3 k3, b_is_value := (fun_mk (st := s_is_value) l3 c3 k3).binds (ps := ["thing"]) (fun _ _ _ _ _ _ us hl => match us, hl with | [_], _ => rfl), g_is_value := PySem.W.mg_of X G a3,
    f_is_release_word := f4, d_is_release_word := _, F_is_release_word := fun_mk (st := s_is_release_word) l4 c4 k4, b_is_release_word := (fun_mk (st := s_is_release_word) l4 c4 k4).binds (ps := ["thing"]) (fun _ _ _ _ _ _ us hl => match us, hl with | [_], _ => rfl), g_is_release_word := PySem.W.mg_of X G a4,
    f_is_header := f5, d_is_header := _, F_is_header := fun_mk (st := s_is_header) l5 c5 k5, b_is_header := (fun_mk (st := s_is_header) l5 c5 k5).binds (ps := ["line"]) (fun _ _ _ _ _ _ us hl => match us, hl with | [_], _ => rfl), g_is_header := PySem.W.mg_of X G a5,
    f_is_loose := f6, d_is_loose := _, F_is_loose := fun_mk (st := s_is_loose) l6 c6 k6, b_is_loose := (fun_mk (st := s_is_loose) l6 c6 k6).binds (ps := ["line"]) (fun _ _ _ _ _ _ us hl => match us, hl with | [_], _ => rfl), g_is_loose := PySem.W.mg_of X G a6,
    f_read_setting := f7, d_read_setting := _, F_read_setting := fun_mk (st := s_read_setting) l7 c7 k7, b_read_setting := (fun_mk (st := s_read_setting) l7 c7 k7).binds (ps := ["line"]) (fun _ _ _ _ _ _ us hl => match us, hl with | [_], _ => rfl), g_read_setting := PySem.W.mg_of X G a7,
    f_read_kept := f8, d_read_kept := _, F_read_kept := fun_mk (st := s_read_kept) l8 c8 k8, b_read_kept := (fun_mk (st := s_read_kept) l8 c8 k8).binds (ps := ["line"]) (fun _ _ _ _ _ _ us hl => match us, hl with | [_], _ => rfl), g_read_kept := PySem.W.mg_of X G a8,
    f_is_number_below := f9, d_is_number_below := _, F_is_number_below := fun_mk (st := s_is_number_below) l9 c9 k9, b_is_number_below := (fun_mk (st := s_is_number_below) l9 c9 k9).binds (ps := ["thing", "limit"]) (fun _ _ _ _ _ _ us hl => match us, hl with | [_, _], _ => rfl), g_is_number_below := PySem.W.mg_of X G a9,
    f_is_key := f10, d_is_key := _, F_is_key := fun_mk (st := s_is_key) l10 c10 k10, b_is_key := (fun_mk (st := s_is_key) l10 c10 k10).binds (ps := ["thing", "table"]) (fun _ _ _ _ _ _ us hl => match us, hl with | [_, _], _ => rfl), g_is_key := PySem.W.mg_of X G a10,
    f_is_tuple_of := f11, d_is_tuple_of := _, F_is_tuple_of := fun_mk (st := s_is_tuple_of) l11 c11 k11, b_is_tuple_of := (fun_mk (st := s_is_tuple_of) l11 c11 k11).binds (ps := ["thing", "many"]) (fun _ _ _ _ _ _ us hl => match us, hl with | [_, _], _ => rfl), g_is_tuple_of := PySem.W.mg_of X G a11,
    f_are_different := f12, d_are_different := _, F_are_different := fun_mk (st := s_are_different) l12 c12 k12, b_are_different := (fun_mk (st := s_are_different) l12 c12 k12).binds (ps := ["things"]) (fun _ _ _ _ _ _ us hl => match us, hl with | [_], _ => rfl), g_are_different := PySem.W.mg_of X G a12,
    f_unshared := f13, d_unshared := _, F_unshared := fun_mk (st := s_unshared) l13 c13 k13, b_unshared := (fun_mk (st := s_unshared) l13 c13 k13).binds (ps := ["thing"]) (fun _ _ _ _ _ _ us hl => match us, hl with | [_], _ => rfl), g_unshared := PySem.W.mg_of X G a13,
    f_shipped_file := f14, d_shipped_file := _, F_shipped_file := fun_mk (st := s_shipped_file) l14 c14 k14, b_shipped_file := (fun_mk (st := s_shipped_file) l14 c14 k14).binds (ps := ["text"]) (fun _ _ _ _ _ _ us hl => match us, hl with | [_], _ => rfl), g_shipped_file := PySem.W.mg_of X G a14,
    f_is_rename := f15, d_is_rename := _, F_is_rename := fun_mk (st := s_is_rename) l15 c15 k15, b_is_rename := (fun_mk (st := s_is_rename) l15 c15 k15).binds (ps := ["thing", "before", "file"]) (fun _ _ _ _ _ _ us hl => match us, hl with | [_, _, _], _ => rfl), g_is_rename := PySem.W.mg_of X G a15,
    f_are_renames := f16, d_are_renames := _, F_are_renames := fun_mk (st := s_are_renames) l16 c16 k16, b_are_renames := (fun_mk (st := s_are_renames) l16 c16 k16).binds (ps := ["things", "before", "file"]) (fun _ _ _ _ _ _ us hl => match us, hl with | [_, _, _], _ => rfl), g_are_renames := PySem.W.mg_of X G a16,
    f_carried_slots := f17, d_carried_slots := _, F_carried_slots := fun_mk (st := s_carried_slots) l17 c17 k17, b_carried_slots := (fun_mk (st := s_carried_slots) l17 c17 k17).binds (ps := ["renames", "before", "file"]) (fun _ _ _ _ _ _ us hl => match us, hl with | [_, _, _], _ => rfl), g_carried_slots := PySem.W.mg_of X G a17,
    f_slot_returned := f18, d_slot_returned := _, F_slot_returned := fun_mk (st := s_slot_returned) l18 c18 k18, b_slot_returned := (fun_mk (st := s_slot_returned) l18 c18 k18).binds (ps := ["thing", "earlier", "carried", "file"]) (fun _ _ _ _ _ _ us hl => match us, hl with | [_, _, _, _], _ => rfl), g_slot_returned := PySem.W.mg_of X G a18,
    f_are_returns := f19, d_are_returns := _, F_are_returns := fun_mk (st := s_are_returns) l19 c19 k19, b_are_returns := (fun_mk (st := s_are_returns) l19 c19 k19).binds (ps := ["things", "earlier", "carried", "file"]) (fun _ _ _ _ _ _ us hl => match us, hl with | [_, _, _, _], _ => rfl), g_are_returns := PySem.W.mg_of X G a19,
    f__law_bag := f20, d__law_bag := _, F__law_bag := fun_mk (st := s_L_bag) l20 c20 k20, b__law_bag := (fun_mk (st := s_L_bag) l20 c20 k20).binds (ps := ["_law_script", "_law_at"]) (fun _ _ _ _ _ _ us hl => match us, hl with | [_, _], _ => rfl), g__law_bag := PySem.W.mg_of X G a20,
    f__law_take := f21, d__law_take := _, F__law_take := fun_mk (st := s_L_take) l21 c21 k21, b__law_take := (fun_mk (st := s_L_take) l21 c21 k21).binds (ps := ["_law_bag_here", "_law_many"]) (fun _ _ _ _ _ _ us hl => match us, hl with | [_, _], _ => rfl), g__law_take := PySem.W.mg_of X G a21,
    f__law_of := f22, d__law_of := _, F__law_of := fun_mk (st := s_L_of) l22 c22 k22, b__law_of := (fun_mk (st := s_L_of) l22 c22 k22).binds (ps := ["_law_bag_here", "_law_some"]) (fun _ _ _ _ _ _ us hl => match us, hl with | [_, _], _ => rfl), g__law_of := PySem.W.mg_of X G a22,
    f__law_any := f23, d__law_any := _, F__law_any := fun_mk (st := s_L_any) l23 c23 k23, b__law_any := (fun_mk (st := s_L_any) l23 c23 k23).binds (ps := ["_law_bag_here"]) (fun _ _ _ _ _ _ us hl => match us, hl with | [_], _ => rfl), g__law_any := PySem.W.mg_of X G a23,
    f__law_plain := f24, d__law_plain := _, F__law_plain := fun_mk (st := s_L_plain) l24 c24 k24, b__law_plain := (fun_mk (st := s_L_plain) l24 c24 k24).binds (ps := ["_law_what"]) (fun _ _ _ _ _ _ us hl => match us, hl with | [_], _ => rfl), g__law_plain := PySem.W.mg_of X G a24,
    f__law_any_right := f25, d__law_any_right := _, F__law_any_right := fun_mk (st := s_L_any_right) l25 c25 k25, b__law_any_right := (fun_mk (st := s_L_any_right) l25 c25 k25).binds (ps := ["_law_bag_here"]) (fun _ _ _ _ _ _ us hl => match us, hl with | [_], _ => rfl), g__law_any_right := PySem.W.mg_of X G a25,
    f__law_table := f26, d__law_table := _, F__law_table := fun_mk (st := s_L_table) l26 c26 k26, b__law_table := (fun_mk (st := s_L_table) l26 c26 k26).binds (ps := ["_law_history"]) (fun _ _ _ _ _ _ us hl => match us, hl with | [_], _ => rfl), g__law_table := PySem.W.mg_of X G a26,
    f__law_due := f27, d__law_due := _, F__law_due := fun_mk (st := s_L_due) l27 c27 k27, b__law_due := (fun_mk (st := s_L_due) l27 c27 k27).binds (ps := ["_law_moves"]) (fun _ _ _ _ _ _ us hl => match us, hl with | [_], _ => rfl), g__law_due := PySem.W.mg_of X G a27,
    f__law_moved := f28, d__law_moved := _, F__law_moved := fun_mk (st := s_L_moved) l28 c28 k28, b__law_moved := (fun_mk (st := s_L_moved) l28 c28 k28).binds (ps := ["_law_moves"]) (fun _ _ _ _ _ _ us hl => match us, hl with | [_], _ => rfl), g__law_moved := PySem.W.mg_of X G a28,
    f_law := f29, d_law := _, F_law := fun_mk (st := s_law) l29 c29 k29, b_law := (fun_mk (st := s_law) l29 c29 k29).binds (ps := ["_law_script"]) (fun _ _ _ _ _ _ us hl => match us, hl with | [_], _ => rfl), g_law := PySem.W.mg_of X G a29,
    f_SettingsFile___init__ := f30, d_SettingsFile___init__ := _, F_SettingsFile___init__ := fun_mk (st := s_SettingsFile___init__) l30 c30 k30, b_SettingsFile___init__ := (fun_mk (st := s_SettingsFile___init__) l30 c30 k30).binds (ps := ["self", "text"]) (fun _ _ _ _ _ _ us hl => match us, hl with | [_, _], _ => rfl), mk_SettingsFile := ⟨mk0, a30, i30, kc0⟩,
    f_SettingsFile_take := f31, d_SettingsFile_take := _, F_SettingsFile_take := fun_mk (st := s_SettingsFile_take) l31 c31 k31, b_SettingsFile_take := (fun_mk (st := s_SettingsFile_take) l31 c31 k31).binds (ps := ["self", "line"]) (fun _ _ _ _ _ _ us hl => match us, hl with | [_, _], _ => rfl), me_SettingsFile_take := ⟨a31, i31, k31⟩,
    f_SettingsFile_take_kept := f32, d_SettingsFile_take_kept := _, F_SettingsFile_take_kept := fun_mk (st := s_SettingsFile_take_kept) l32 c32 k32, b_SettingsFile_take_kept := (fun_mk (st := s_SettingsFile_take_kept) l32 c32 k32).binds (ps := ["self", "line"]) (fun _ _ _ _ _ _ us hl => match us, hl with | [_, _], _ => rfl), me_SettingsFile_take_kept := ⟨a32, i32, k32⟩,
    f_SettingsFile_take_header := f33, d_SettingsFile_take_header := _, F_SettingsFile_take_header := fun_mk (st := s_SettingsFile_take_header) l33 c33 k33, b_SettingsFile_take_header := (fun_mk (st := s_SettingsFile_take_header) l33 c33 k33).binds (ps := ["self", "name"]) (fun _ _ _ _ _ _ us hl => match us, hl with | [_, _], _ => rfl), me_SettingsFile_take_header := ⟨a33, i33, k33⟩,
    f_SettingsFile_take_setting := f34, d_SettingsFile_take_setting := _, F_SettingsFile_take_setting := fun_mk (st := s_SettingsFile_take_setting) l34 c34 k34, b_SettingsFile_take_setting := (fun_mk (st := s_SettingsFile_take_setting) l34 c34 k34).binds (ps := ["self", "key", "value"]) (fun _ _ _ _ _ _ us hl => match us, hl with | [_, _, _], _ => rfl), me_SettingsFile_take_setting := ⟨a34, i34, k34⟩,
    f_SettingsFile_close_block := f35, d_SettingsFile_close_block := _, F_SettingsFile_close_block := fun_mk (st := s_SettingsFile_close_block) l35 c35 k35, b_SettingsFile_close_block := (fun_mk (st := s_SettingsFile_close_block) l35 c35 k35).binds (ps := ["self", "thing"]) (fun _ _ _ _ _ _ us hl => match us, hl with | [_, _], _ => rfl), me_SettingsFile_close_block := ⟨a35, i35, k35⟩,
    f_SettingsFile_places := f36, d_SettingsFile_places := _, F_SettingsFile_places := fun_mk (st := s_SettingsFile_places) l36 c36 k36, b_SettingsFile_places := (fun_mk (st := s_SettingsFile_places) l36 c36 k36).binds (ps := ["self"]) (fun _ _ _ _ _ _ us hl => match us, hl with | [_], _ => rfl), me_SettingsFile_places := ⟨a36, i36, k36⟩,
    f_SettingsFile_kept := f37, d_SettingsFile_kept := _, F_SettingsFile_kept := fun_mk (st := s_SettingsFile_kept) l37 c37 k37, b_SettingsFile_kept := (fun_mk (st := s_SettingsFile_kept) l37 c37 k37).binds (ps := ["self"]) (fun _ _ _ _ _ _ us hl => match us, hl with | [_], _ => rfl), me_SettingsFile_kept := ⟨a37, i37, k37⟩,
    f_SettingsFile___contains__ := f38, d_SettingsFile___contains__ := _, F_SettingsFile___contains__ := fun_mk (st := s_SettingsFile___contains__) l38 c38 k38, b_SettingsFile___contains__ := (fun_mk (st := s_SettingsFile___contains__) l38 c38 k38).binds (ps := ["self", "x"]) (fun _ _ _ _ _ _ us hl => match us, hl with | [_, _], _ => rfl), me_SettingsFile___contains__ := ⟨a38, i38, k38⟩,
    f_Release___init__ := f39, d_Release___init__ := _, F_Release___init__ := fun_mk (st := s_Release___init__) l39 c39 k39, dv_Release___init___renames := kt39_0, sq_Release___init___renames := sqt_nil kl39_0, dv_Release___init___returns := kt39_1, sq_Release___init___returns := sqt_nil kl39_1, b_Release___init__ := binds_of (D := kD39) (l := [("renames", .ref kt39_0), ("returns", .ref kt39_1)]) 2 rfl (List.forall_mem_cons.mpr ⟨kq39_0, (List.forall_mem_cons.mpr ⟨kq39_1, (fun _ h => nomatch h)⟩)⟩) (fun us hl => match us, hl with | [_, _], _ => ⟨_, _, _, _, _, _, rfl, rfl, ⟨_, _, _, _, _, _, rfl, rfl, rfl⟩⟩), kn_Release___init___0 := kbn_of (D := kD39) (l := []) (fun _ h => nomatch h) (fun us ws h1 h2 => match us, ws, h1, h2 with | [_, _], [_, _], _, _ => rfl) (fun r1 r2 => r1.append (valsRev r2)), kn_Release___init___1 := kbn_of (D := kD39) (l := [("renames", .ref kt39_0), ("returns", .ref kt39_1)]) (List.forall_mem_cons.mpr ⟨kq39_0, (List.forall_mem_cons.mpr ⟨kq39_1, (fun _ h => nomatch h)⟩)⟩) (fun us ws h1 h2 => match us, ws, h1, h2 with | [_], [_], _, _ => ⟨_, _, _, _, _, _, rfl, rfl, ⟨_, _, _, _, _, _, rfl, rfl, rfl⟩⟩) (fun r1 r2 => r1.append (r2.append (.cons rfl (.cons rfl .nil)))), kn_Release___init___2 := kbn_of (D := kD39) (l := [("returns", .ref kt39_1)]) (List.forall_mem_cons.mpr ⟨kq39_1, (fun _ h => nomatch h)⟩) (fun us ws h1 h2 => match us, ws, h1, h2 with | [_, _], [_], _, _ => ⟨_, _, _, _, _, _, rfl, rfl, rfl⟩) (fun r1 r2 => r1.append (r2.append (.cons rfl .nil))), mk_Release := ⟨mk1, a39, i39, kc1⟩,
    f_History___init__ := f40, d_History___init__ := _, F_History___init__ := fun_mk (st := s_History___init__) l40 c40 k40, dv_History___init___exclusions := kt40_0, sq_History___init___exclusions := sqt_nil kl40_0, kd_History___init__ := kD40, nk_History___init__ := kq40_0, sb_History___init__ := (fun us rest h => match us, rest, h with | [_], [], _ => ⟨_, _, _, _, _, _, rfl, rfl, rfl⟩ | [_], _ :: _, _ => ⟨_, _, _, _, _, _, rfl, rfl, rfl⟩), mk_History := ⟨mk2, a40, i40, kc2⟩,
    f_History_take_release := f41, d_History_take_release := _, F_History_take_release := fun_mk (st := s_History_take_release) l41 c41 k41, b_History_take_release := (fun_mk (st := s_History_take_release) l41 c41 k41).binds (ps := ["self", "at", "release"]) (fun _ _ _ _ _ _ us hl => match us, hl with | [_, _, _], _ => rfl), me_History_take_release := ⟨a41, i41, k41⟩,
    f_History_take_places := f42, d_History_take_places := _, F_History_take_places := fun_mk (st := s_History_take_places) l42 c42 k42, b_History_take_places := (fun_mk (st := s_History_take_places) l42 c42 k42).binds (ps := ["self", "at", "file", "known"]) (fun _ _ _ _ _ _ us hl => match us, hl with | [_, _, _, _], _ => rfl), me_History_take_places := ⟨a42, i42, k42⟩,
    f_History_take_exclusion := f43, d_History_take_exclusion := _, F_History_take_exclusion := fun_mk (st := s_History_take_exclusion) l43 c43 k43, b_History_take_exclusion := (fun_mk (st := s_History_take_exclusion) l43 c43 k43).binds (ps := ["self", "at", "thing"]) (fun _ _ _ _ _ _ us hl => match us, hl with | [_, _, _], _ => rfl), me_History_take_exclusion := ⟨a43, i43, k43⟩,
    f_History_check_release := f44, d_History_check_release := _, F_History_check_release := fun_mk (st := s_History_check_release) l44 c44 k44, b_History_check_release := (fun_mk (st := s_History_check_release) l44 c44 k44).binds (ps := ["self", "release"]) (fun _ _ _ _ _ _ us hl => match us, hl with | [_, _], _ => rfl), me_History_check_release := ⟨a44, i44, k44⟩,
    f_History_slots := f45, d_History_slots := _, F_History_slots := fun_mk (st := s_History_slots) l45 c45 k45, b_History_slots := (fun_mk (st := s_History_slots) l45 c45 k45).binds (ps := ["self"]) (fun _ _ _ _ _ _ us hl => match us, hl with | [_], _ => rfl), p_History_slots := p45, pr_History_slots := ⟨a45, pg_45, pt_45, rs45, pr_45⟩,
    f_History_slot_at := f46, d_History_slot_at := _, F_History_slot_at := fun_mk (st := s_History_slot_at) l46 c46 k46, b_History_slot_at := (fun_mk (st := s_History_slot_at) l46 c46 k46).binds (ps := ["self", "place", "release"]) (fun _ _ _ _ _ _ us hl => match us, hl with | [_, _, _], _ => rfl), me_History_slot_at := ⟨a46, i46, k46⟩,
    f_History___len__ := f47, d_History___len__ := _, F_History___len__ := fun_mk (st := s_History___len__) l47 c47 k47, b_History___len__ := (fun_mk (st := s_History___len__) l47 c47 k47).binds (ps := ["self"]) (fun _ _ _ _ _ _ us hl => match us, hl with | [_], _ => rfl), me_History___len__ := ⟨a47, i47, k47⟩,
    t_LONGEST_NAME := t0, g_LONGEST_NAME := PySem.W.mg_of X G q0,
    t_LETTERS := t1, g_LETTERS := PySem.W.mg_of X G q1,
    t_LONGEST_VALUE := t2, g_LONGEST_VALUE := PySem.W.mg_of X G q2,
    t_DIGITS := t3, g_DIGITS := PySem.W.mg_of X G q3,
    t_LONGEST_RELEASE := t4, g_LONGEST_RELEASE := PySem.W.mg_of X G q4,
    t_KEPT_MARK := t5, g_KEPT_MARK := PySem.W.mg_of X G q5,
    m_len := PySem.W.mg_none_of X G z0,
    m_isinstance := PySem.W.mg_none_of X G z1,
    m_str := PySem.W.mg_none_of X G z2,
    m_all := PySem.W.mg_none_of X G z3,
    m_int := PySem.W.mg_none_of X G z4,
    m_bool := PySem.W.mg_none_of X G z5,
    m_tuple := PySem.W.mg_none_of X G z6,
    m_set := PySem.W.mg_none_of X G z7,
    m_list := PySem.W.mg_none_of X G z8,
    m_enumerate := PySem.W.mg_none_of X G z9,
    m_abs := PySem.W.mg_none_of X G z10,
    m_repr := PySem.W.mg_none_of X G z11,
    m_dict := PySem.W.mg_none_of X G z12,
    m_range := PySem.W.mg_none_of X G z13,
    m_max := PySem.W.mg_none_of X G z14,
    m_min := PySem.W.mg_none_of X G z15 }
theorem all_mk {l : PySem.W.OpenLaw} {w : World} {K : PySem.W.Frag} {h : Heap} {mg : Str → Option Value} {fa : Addr} (X : K.In h) (G : h.Ns mainGlobals mg) (hfa : mg "law" = some (.ref fa))
    {C0 : Addr} (aC0 : PySem.W.nsIn K mainGlobals "SettingsFile" = some (some (.ref C0))) (pg0 : PySem.W.plainGet K C0 Str.empty = true) (hd0 : PySem.W.hasDictIn K C0 = true) (po0 : PySem.W.plainOver K C0 = true) (sa0 : PySem.W.findIn K (.ref C0) "__setattr__" = some (some (.builtin "object.__setattr__"))) (mk0 : PySem.W.makesIn K C0 = true) (kc0 : PySem.W.keepIn K (.ref C0) = true)
    (na0_0 : PySem.W.findIn K (.ref C0) "text" = some none)
    (na0_1 : PySem.W.findIn K (.ref C0) "rows" = some none)
    (na0_2 : PySem.W.findIn K (.ref C0) "headers" = some none)
    (na0_3 : PySem.W.findIn K (.ref C0) "settings_read" = some none)
    (na0_4 : PySem.W.findIn K (.ref C0) "kept_read" = some none)
    (na0_5 : PySem.W.findIn K (.ref C0) "blocks" = some none)
    (na0_6 : PySem.W.findIn K (.ref C0) "loose" = some none)
    {C1 : Addr} (aC1 : PySem.W.nsIn K mainGlobals "Release" = some (some (.ref C1))) (pg1 : PySem.W.plainGet K C1 Str.empty = true) (hd1 : PySem.W.hasDictIn K C1 = true) (po1 : PySem.W.plainOver K C1 = true) (sa1 : PySem.W.findIn K (.ref C1) "__setattr__" = some (some (.builtin "object.__setattr__"))) (mk1 : PySem.W.makesIn K C1 = true) (kc1 : PySem.W.keepIn K (.ref C1) = true)
    (na1_0 : PySem.W.findIn K (.ref C1) "text" = some none)
    (na1_1 : PySem.W.findIn K (.ref C1) "renames" = some none)
    (na1_2 : PySem.W.findIn K (.ref C1) "returns" = some none)
    {C2 : Addr} (aC2 : PySem.W.nsIn K mainGlobals "History" = some (some (.ref C2))) (pg2 : PySem.W.plainGet K C2 Str.empty = true) (hd2 : PySem.W.hasDictIn K C2 = true) (po2 : PySem.W.plainOver K C2 = true) (sa2 : PySem.W.findIn K (.ref C2) "__setattr__" = some (some (.builtin "object.__setattr__"))) (mk2 : PySem.W.makesIn K C2 = true) (kc2 : PySem.W.keepIn K (.ref C2) = true)
    (rd2 : PySem.W.readsIn K C2 (.type "type") = true) (ga2 : PySem.W.specialIn K (.ref C2) "__getattribute__" = some (some (.builtin "type.__getattribute__")))
    {ct2_0 : Tok} (cw2_0 : PySem.W.findCls K (.ref C2) (.type "type") "MOST_RELEASES" = some (.val (.int 8 ct2_0)))
    {ct2_1 : Tok} (cw2_1 : PySem.W.findCls K (.ref C2) (.type "type") "MOST_SLOTS" = some (.val (.int 12 ct2_1)))
    (na2_0 : PySem.W.findIn K (.ref C2) "shipped_files" = some none)
    (na2_1 : PySem.W.findIn K (.ref C2) "slot_tables" = some none)
    (na2_2 : PySem.W.findIn K (.ref C2) "routes" = some none)
    (na2_3 : PySem.W.findIn K (.ref C2) "clashes" = some none)
    {f0 : Addr} {od0 an0 : Option Addr} {sl0 : Array (Option Value)} {oc0 kV0 dc0 pm0 cd0 ct0 : Value} (a0 : PySem.W.nsIn K mainGlobals "is_made_of" = some (some (.ref f0))) (l0 : K.lookup f0 = some ⟨oc0, od0, .func (PySem.W.fnOf "is_made_of" "is_made_of" (defArgs s_is_made_of) (defBody s_is_made_of) (defScope s_is_made_of) .none kV0 dc0 pm0 an0 cd0 ct0), sl0⟩) (c0 : PySem.W.codeIn K cd0 "is_made_of" = true) (k0 : PySem.W.keepIn K (.ref f0) = true)
    {f1 : Addr} {od1 an1 : Option Addr} {sl1 : Array (Option Value)} {oc1 kV1 dc1 pm1 cd1 ct1 : Value} (a1 : PySem.W.nsIn K mainGlobals "is_name" = some (some (.ref f1))) (l1 : K.lookup f1 = some ⟨oc1, od1, .func (PySem.W.fnOf "is_name" "is_name" (defArgs s_is_name) (defBody s_is_name) (defScope s_is_name) .none kV1 dc1 pm1 an1 cd1 ct1), sl1⟩) (c1 : PySem.W.codeIn K cd1 "is_name" = true) (k1 : PySem.W.keepIn K (.ref f1) = true)
    {f2 : Addr} {od2 an2 : Option Addr} {sl2 : Array (Option Value)} {oc2 kV2 dc2 pm2 cd2 ct2 : Value} (a2 : PySem.W.nsIn K mainGlobals "is_place" = some (some (.ref f2))) (l2 : K.lookup f2 = some ⟨oc2, od2, .func (PySem.W.fnOf "is_place" "is_place" (defArgs s_is_place) (defBody s_is_place) (defScope s_is_place) .none kV2 dc2 pm2 an2 cd2 ct2), sl2⟩) (c2 : PySem.W.codeIn K cd2 "is_place" = true) (k2 : PySem.W.keepIn K (.ref f2) = true)
    {f3 : Addr} {od3 an3 : Option Addr} {sl3 : Array (Option Value)} {oc3 kV3 dc3 pm3 cd3 ct3 : Value} (a3 : PySem.W.nsIn K mainGlobals "is_value" = some (some (.ref f3))) (l3 : K.lookup f3 = some ⟨oc3, od3, .func (PySem.W.fnOf "is_value" "is_value" (defArgs s_is_value) (defBody s_is_value) (defScope s_is_value) .none kV3 dc3 pm3 an3 cd3 ct3), sl3⟩) (c3 : PySem.W.codeIn K cd3 "is_value" = true) (k3 : PySem.W.keepIn K (.ref f3) = true)
    {f4 : Addr} {od4 an4 : Option Addr} {sl4 : Array (Option Value)} {oc4 kV4 dc4 pm4 cd4 ct4 : Value} (a4 : PySem.W.nsIn K mainGlobals "is_release_word" = some (some (.ref f4))) (l4 : K.lookup f4 = some ⟨oc4, od4, .func (PySem.W.fnOf "is_release_word" "is_release_word" (defArgs s_is_release_word) (defBody s_is_release_word) (defScope s_is_release_word) .none kV4 dc4 pm4 an4 cd4 ct4), sl4⟩) (c4 : PySem.W.codeIn K cd4 "is_release_word" = true) (k4 : PySem.W.keepIn K (.ref f4) = true)
    {f5 : Addr} {od5 an5 : Option Addr} {sl5 : Array (Option Value)} {oc5 kV5 dc5 pm5 cd5 ct5 : Value} (a5 : PySem.W.nsIn K mainGlobals "is_header" = some (some (.ref f5))) (l5 : K.lookup f5 = some ⟨oc5, od5, .func (PySem.W.fnOf "is_header" "is_header" (defArgs s_is_header) (defBody s_is_header) (defScope s_is_header) .none kV5 dc5 pm5 an5 cd5 ct5), sl5⟩) (c5 : PySem.W.codeIn K cd5 "is_header" = true) (k5 : PySem.W.keepIn K (.ref f5) = true)
    {f6 : Addr} {od6 an6 : Option Addr} {sl6 : Array (Option Value)} {oc6 kV6 dc6 pm6 cd6 ct6 : Value} (a6 : PySem.W.nsIn K mainGlobals "is_loose" = some (some (.ref f6))) (l6 : K.lookup f6 = some ⟨oc6, od6, .func (PySem.W.fnOf "is_loose" "is_loose" (defArgs s_is_loose) (defBody s_is_loose) (defScope s_is_loose) .none kV6 dc6 pm6 an6 cd6 ct6), sl6⟩) (c6 : PySem.W.codeIn K cd6 "is_loose" = true) (k6 : PySem.W.keepIn K (.ref f6) = true)
    {f7 : Addr} {od7 an7 : Option Addr} {sl7 : Array (Option Value)} {oc7 kV7 dc7 pm7 cd7 ct7 : Value} (a7 : PySem.W.nsIn K mainGlobals "read_setting" = some (some (.ref f7))) (l7 : K.lookup f7 = some ⟨oc7, od7, .func (PySem.W.fnOf "read_setting" "read_setting" (defArgs s_read_setting) (defBody s_read_setting) (defScope s_read_setting) .none kV7 dc7 pm7 an7 cd7 ct7), sl7⟩) (c7 : PySem.W.codeIn K cd7 "read_setting" = true) (k7 : PySem.W.keepIn K (.ref f7) = true)
    {f8 : Addr} {od8 an8 : Option Addr} {sl8 : Array (Option Value)} {oc8 kV8 dc8 pm8 cd8 ct8 : Value} (a8 : PySem.W.nsIn K mainGlobals "read_kept" = some (some (.ref f8))) (l8 : K.lookup f8 = some ⟨oc8, od8, .func (PySem.W.fnOf "read_kept" "read_kept" (defArgs s_read_kept) (defBody s_read_kept) (defScope s_read_kept) .none kV8 dc8 pm8 an8 cd8 ct8), sl8⟩) (c8 : PySem.W.codeIn K cd8 "read_kept" = true) (k8 : PySem.W.keepIn K (.ref f8) = true)
    {f9 : Addr} {od9 an9 : Option Addr} {sl9 : Array (Option Value)} {oc9 kV9 dc9 pm9 cd9 ct9 : Value} (a9 : PySem.W.nsIn K mainGlobals "is_number_below" = some (some (.ref f9))) (l9 : K.lookup f9 = some ⟨oc9, od9, .func (PySem.W.fnOf "is_number_below" "is_number_below" (defArgs s_is_number_below) (defBody s_is_number_below) (defScope s_is_number_below) .none kV9 dc9 pm9 an9 cd9 ct9), sl9⟩) (c9 : PySem.W.codeIn K cd9 "is_number_below" = true) (k9 : PySem.W.keepIn K (.ref f9) = true)
    {f10 : Addr} {od10 an10 : Option Addr} {sl10 : Array (Option Value)} {oc10 kV10 dc10 pm10 cd10 ct10 : Value} (a10 : PySem.W.nsIn K mainGlobals "is_key" = some (some (.ref f10))) (l10 : K.lookup f10 = some ⟨oc10, od10, .func (PySem.W.fnOf "is_key" "is_key" (defArgs s_is_key) (defBody s_is_key) (defScope s_is_key) .none kV10 dc10 pm10 an10 cd10 ct10), sl10⟩) (c10 : PySem.W.codeIn K cd10 "is_key" = true) (k10 : PySem.W.keepIn K (.ref f10) = true)
    {f11 : Addr} {od11 an11 : Option Addr} {sl11 : Array (Option Value)} {oc11 kV11 dc11 pm11 cd11 ct11 : Value} (a11 : PySem.W.nsIn K mainGlobals "is_tuple_of" = some (some (.ref f11))) (l11 : K.lookup f11 = some ⟨oc11, od11, .func (PySem.W.fnOf "is_tuple_of" "is_tuple_of" (defArgs s_is_tuple_of) (defBody s_is_tuple_of) (defScope s_is_tuple_of) .none kV11 dc11 pm11 an11 cd11 ct11), sl11⟩) (c11 : PySem.W.codeIn K cd11 "is_tuple_of" = true) (k11 : PySem.W.keepIn K (.ref f11) = true)
    {f12 : Addr} {od12 an12 : Option Addr} {sl12 : Array (Option Value)} {oc12 kV12 dc12 pm12 cd12 ct12 : Value} (a12 : PySem.W.nsIn K mainGlobals "are_different" = some (some (.ref f12))) (l12 : K.lookup f12 = some ⟨oc12, od12, .func (PySem.W.fnOf "are_different" "are_different" (defArgs s_are_different) (defBody s_are_different) (defScope s_are_different) .none kV12 dc12 pm12 an12 cd12 ct12), sl12⟩) (c12 : PySem.W.codeIn K cd12 "are_different" = true) (k12 : PySem.W.keepIn K (.ref f12) = true)
    {f13 : Addr} {od13 an13 : Option Addr} {sl13 : Array (Option Value)} {oc13 kV13 dc13 pm13 cd13 ct13 : Value} (a13 : PySem.W.nsIn K mainGlobals "unshared" = some (some (.ref f13))) (l13 : K.lookup f13 = some ⟨oc13, od13, .func (PySem.W.fnOf "unshared" "unshared" (defArgs s_unshared) (defBody s_unshared) (defScope s_unshared) .none kV13 dc13 pm13 an13 cd13 ct13), sl13⟩) (c13 : PySem.W.codeIn K cd13 "unshared" = true) (k13 : PySem.W.keepIn K (.ref f13) = true)
    {f14 : Addr} {od14 an14 : Option Addr} {sl14 : Array (Option Value)} {oc14 kV14 dc14 pm14 cd14 ct14 : Value} (a14 : PySem.W.nsIn K mainGlobals "shipped_file" = some (some (.ref f14))) (l14 : K.lookup f14 = some ⟨oc14, od14, .func (PySem.W.fnOf "shipped_file" "shipped_file" (defArgs s_shipped_file) (defBody s_shipped_file) (defScope s_shipped_file) .none kV14 dc14 pm14 an14 cd14 ct14), sl14⟩) (c14 : PySem.W.codeIn K cd14 "shipped_file" = true) (k14 : PySem.W.keepIn K (.ref f14) = true)
    {f15 : Addr} {od15 an15 : Option Addr} {sl15 : Array (Option Value)} {oc15 kV15 dc15 pm15 cd15 ct15 : Value} (a15 : PySem.W.nsIn K mainGlobals "is_rename" = some (some (.ref f15))) (l15 : K.lookup f15 = some ⟨oc15, od15, .func (PySem.W.fnOf "is_rename" "is_rename" (defArgs s_is_rename) (defBody s_is_rename) (defScope s_is_rename) .none kV15 dc15 pm15 an15 cd15 ct15), sl15⟩) (c15 : PySem.W.codeIn K cd15 "is_rename" = true) (k15 : PySem.W.keepIn K (.ref f15) = true)
    {f16 : Addr} {od16 an16 : Option Addr} {sl16 : Array (Option Value)} {oc16 kV16 dc16 pm16 cd16 ct16 : Value} (a16 : PySem.W.nsIn K mainGlobals "are_renames" = some (some (.ref f16))) (l16 : K.lookup f16 = some ⟨oc16, od16, .func (PySem.W.fnOf "are_renames" "are_renames" (defArgs s_are_renames) (defBody s_are_renames) (defScope s_are_renames) .none kV16 dc16 pm16 an16 cd16 ct16), sl16⟩) (c16 : PySem.W.codeIn K cd16 "are_renames" = true) (k16 : PySem.W.keepIn K (.ref f16) = true)
    {f17 : Addr} {od17 an17 : Option Addr} {sl17 : Array (Option Value)} {oc17 kV17 dc17 pm17 cd17 ct17 : Value} (a17 : PySem.W.nsIn K mainGlobals "carried_slots" = some (some (.ref f17))) (l17 : K.lookup f17 = some ⟨oc17, od17, .func (PySem.W.fnOf "carried_slots" "carried_slots" (defArgs s_carried_slots) (defBody s_carried_slots) (defScope s_carried_slots) .none kV17 dc17 pm17 an17 cd17 ct17), sl17⟩) (c17 : PySem.W.codeIn K cd17 "carried_slots" = true) (k17 : PySem.W.keepIn K (.ref f17) = true)
    {f18 : Addr} {od18 an18 : Option Addr} {sl18 : Array (Option Value)} {oc18 kV18 dc18 pm18 cd18 ct18 : Value} (a18 : PySem.W.nsIn K mainGlobals "slot_returned" = some (some (.ref f18))) (l18 : K.lookup f18 = some ⟨oc18, od18, .func (PySem.W.fnOf "slot_returned" "slot_returned" (defArgs s_slot_returned) (defBody s_slot_returned) (defScope s_slot_returned) .none kV18 dc18 pm18 an18 cd18 ct18), sl18⟩) (c18 : PySem.W.codeIn K cd18 "slot_returned" = true) (k18 : PySem.W.keepIn K (.ref f18) = true)
    {f19 : Addr} {od19 an19 : Option Addr} {sl19 : Array (Option Value)} {oc19 kV19 dc19 pm19 cd19 ct19 : Value} (a19 : PySem.W.nsIn K mainGlobals "are_returns" = some (some (.ref f19))) (l19 : K.lookup f19 = some ⟨oc19, od19, .func (PySem.W.fnOf "are_returns" "are_returns" (defArgs s_are_returns) (defBody s_are_returns) (defScope s_are_returns) .none kV19 dc19 pm19 an19 cd19 ct19), sl19⟩) (c19 : PySem.W.codeIn K cd19 "are_returns" = true) (k19 : PySem.W.keepIn K (.ref f19) = true)
    {f20 : Addr} {od20 an20 : Option Addr} {sl20 : Array (Option Value)} {oc20 kV20 dc20 pm20 cd20 ct20 : Value} (a20 : PySem.W.nsIn K mainGlobals "_law_bag" = some (some (.ref f20))) (l20 : K.lookup f20 = some ⟨oc20, od20, .func (PySem.W.fnOf "_law_bag" "_law_bag" (defArgs s_L_bag) (defBody s_L_bag) (defScope s_L_bag) .none kV20 dc20 pm20 an20 cd20 ct20), sl20⟩) (c20 : PySem.W.codeIn K cd20 "_law_bag" = true) (k20 : PySem.W.keepIn K (.ref f20) = true)
    {f21 : Addr} {od21 an21 : Option Addr} {sl21 : Array (Option Value)} {oc21 kV21 dc21 pm21 cd21 ct21 : Value} (a21 : PySem.W.nsIn K mainGlobals "_law_take" = some (some (.ref f21))) (l21 : K.lookup f21 = some ⟨oc21, od21, .func (PySem.W.fnOf "_law_take" "_law_take" (defArgs s_L_take) (defBody s_L_take) (defScope s_L_take) .none kV21 dc21 pm21 an21 cd21 ct21), sl21⟩) (c21 : PySem.W.codeIn K cd21 "_law_take" = true) (k21 : PySem.W.keepIn K (.ref f21) = true)
    {f22 : Addr} {od22 an22 : Option Addr} {sl22 : Array (Option Value)} {oc22 kV22 dc22 pm22 cd22 ct22 : Value} (a22 : PySem.W.nsIn K mainGlobals "_law_of" = some (some (.ref f22))) (l22 : K.lookup f22 = some ⟨oc22, od22, .func (PySem.W.fnOf "_law_of" "_law_of" (defArgs s_L_of) (defBody s_L_of) (defScope s_L_of) .none kV22 dc22 pm22 an22 cd22 ct22), sl22⟩) (c22 : PySem.W.codeIn K cd22 "_law_of" = true) (k22 : PySem.W.keepIn K (.ref f22) = true)
    {f23 : Addr} {od23 an23 : Option Addr} {sl23 : Array (Option Value)} {oc23 kV23 dc23 pm23 cd23 ct23 : Value} (a23 : PySem.W.nsIn K mainGlobals "_law_any" = some (some (.ref f23))) (l23 : K.lookup f23 = some ⟨oc23, od23, .func (PySem.W.fnOf "_law_any" "_law_any" (defArgs s_L_any) (defBody s_L_any) (defScope s_L_any) .none kV23 dc23 pm23 an23 cd23 ct23), sl23⟩) (c23 : PySem.W.codeIn K cd23 "_law_any" = true) (k23 : PySem.W.keepIn K (.ref f23) = true)
    {f24 : Addr} {od24 an24 : Option Addr} {sl24 : Array (Option Value)} {oc24 kV24 dc24 pm24 cd24 ct24 : Value} (a24 : PySem.W.nsIn K mainGlobals "_law_plain" = some (some (.ref f24))) (l24 : K.lookup f24 = some ⟨oc24, od24, .func (PySem.W.fnOf "_law_plain" "_law_plain" (defArgs s_L_plain) (defBody s_L_plain) (defScope s_L_plain) .none kV24 dc24 pm24 an24 cd24 ct24), sl24⟩) (c24 : PySem.W.codeIn K cd24 "_law_plain" = true) (k24 : PySem.W.keepIn K (.ref f24) = true)
    {f25 : Addr} {od25 an25 : Option Addr} {sl25 : Array (Option Value)} {oc25 kV25 dc25 pm25 cd25 ct25 : Value} (a25 : PySem.W.nsIn K mainGlobals "_law_any_right" = some (some (.ref f25))) (l25 : K.lookup f25 = some ⟨oc25, od25, .func (PySem.W.fnOf "_law_any_right" "_law_any_right" (defArgs s_L_any_right) (defBody s_L_any_right) (defScope s_L_any_right) .none kV25 dc25 pm25 an25 cd25 ct25), sl25⟩) (c25 : PySem.W.codeIn K cd25 "_law_any_right" = true) (k25 : PySem.W.keepIn K (.ref f25) = true)
    {f26 : Addr} {od26 an26 : Option Addr} {sl26 : Array (Option Value)} {oc26 kV26 dc26 pm26 cd26 ct26 : Value} (a26 : PySem.W.nsIn K mainGlobals "_law_table" = some (some (.ref f26))) (l26 : K.lookup f26 = some ⟨oc26, od26, .func (PySem.W.fnOf "_law_table" "_law_table" (defArgs s_L_table) (defBody s_L_table) (defScope s_L_table) .none kV26 dc26 pm26 an26 cd26 ct26), sl26⟩) (c26 : PySem.W.codeIn K cd26 "_law_table" = true) (k26 : PySem.W.keepIn K (.ref f26) = true)
    {f27 : Addr} {od27 an27 : Option Addr} {sl27 : Array (Option Value)} {oc27 kV27 dc27 pm27 cd27 ct27 : Value} (a27 : PySem.W.nsIn K mainGlobals "_law_due" = some (some (.ref f27))) (l27 : K.lookup f27 = some ⟨oc27, od27, .func (PySem.W.fnOf "_law_due" "_law_due" (defArgs s_L_due) (defBody s_L_due) (defScope s_L_due) .none kV27 dc27 pm27 an27 cd27 ct27), sl27⟩) (c27 : PySem.W.codeIn K cd27 "_law_due" = true) (k27 : PySem.W.keepIn K (.ref f27) = true)
    {f28 : Addr} {od28 an28 : Option Addr} {sl28 : Array (Option Value)} {oc28 kV28 dc28 pm28 cd28 ct28 : Value} (a28 : PySem.W.nsIn K mainGlobals "_law_moved" = some (some (.ref f28))) (l28 : K.lookup f28 = some ⟨oc28, od28, .func (PySem.W.fnOf "_law_moved" "_law_moved" (defArgs s_L_moved) (defBody s_L_moved) (defScope s_L_moved) .none kV28 dc28 pm28 an28 cd28 ct28), sl28⟩) (c28 : PySem.W.codeIn K cd28 "_law_moved" = true) (k28 : PySem.W.keepIn K (.ref f28) = true)
    {f29 : Addr} {od29 an29 : Option Addr} {sl29 : Array (Option Value)} {oc29 kV29 dc29 pm29 cd29 ct29 : Value} (a29 : PySem.W.nsIn K mainGlobals "law" = some (some (.ref f29))) (l29 : K.lookup f29 = some ⟨oc29, od29, .func (PySem.W.fnOf "law" "law" (defArgs s_law) (defBody s_law) (defScope s_law) .none kV29 dc29 pm29 an29 cd29 ct29), sl29⟩) (c29 : PySem.W.codeIn K cd29 "law" = true) (k29 : PySem.W.keepIn K (.ref f29) = true)
    {f30 : Addr} {od30 an30 : Option Addr} {sl30 : Array (Option Value)} {oc30 kV30 dc30 pm30 cd30 ct30 : Value} (a30 : PySem.W.findIn K (.ref C0) "__init__" = some (some (.ref f30))) (i30 : PySem.W.isFn K (.ref f30) = true) (l30 : K.lookup f30 = some ⟨oc30, od30, .func (PySem.W.fnOf "__init__" "SettingsFile.__init__" (defArgs s_SettingsFile___init__) (defBody s_SettingsFile___init__) (defScope s_SettingsFile___init__) .none kV30 dc30 pm30 an30 cd30 ct30), sl30⟩) (c30 : PySem.W.codeIn K cd30 "SettingsFile.__init__" = true) (k30 : PySem.W.keepIn K (.ref f30) = true)
    {f31 : Addr} {od31 an31 : Option Addr} {sl31 : Array (Option Value)} {oc31 kV31 dc31 pm31 cd31 ct31 : Value} (a31 : PySem.W.findIn K (.ref C0) "take" = some (some (.ref f31))) (i31 : PySem.W.isFn K (.ref f31) = true) (l31 : K.lookup f31 = some ⟨oc31, od31, .func (PySem.W.fnOf "take" "SettingsFile.take" (defArgs s_SettingsFile_take) (defBody s_SettingsFile_take) (defScope s_SettingsFile_take) .none kV31 dc31 pm31 an31 cd31 ct31), sl31⟩) (c31 : PySem.W.codeIn K cd31 "SettingsFile.take" = true) (k31 : PySem.W.keepIn K (.ref f31) = true)
    {f32 : Addr} {od32 an32 : Option Addr} {sl32 : Array (Option Value)} {oc32 kV32 dc32 pm32 cd32 ct32 : Value} (a32 : PySem.W.findIn K (.ref C0) "take_kept" = some (some (.ref f32))) (i32 : PySem.W.isFn K (.ref f32) = true) (l32 : K.lookup f32 = some ⟨oc32, od32, .func (PySem.W.fnOf "take_kept" "SettingsFile.take_kept" (defArgs s_SettingsFile_take_kept) (defBody s_SettingsFile_take_kept) (defScope s_SettingsFile_take_kept) .none kV32 dc32 pm32 an32 cd32 ct32), sl32⟩) (c32 : PySem.W.codeIn K cd32 "SettingsFile.take_kept" = true) (k32 : PySem.W.keepIn K (.ref f32) = true)
    {f33 : Addr} {od33 an33 : Option Addr} {sl33 : Array (Option Value)} {oc33 kV33 dc33 pm33 cd33 ct33 : Value} (a33 : PySem.W.findIn K (.ref C0) "take_header" = some (some (.ref f33))) (i33 : PySem.W.isFn K (.ref f33) = true) (l33 : K.lookup f33 = some ⟨oc33, od33, .func (PySem.W.fnOf "take_header" "SettingsFile.take_header" (defArgs s_SettingsFile_take_header) (defBody s_SettingsFile_take_header) (defScope s_SettingsFile_take_header) .none kV33 dc33 pm33 an33 cd33 ct33), sl33⟩) (c33 : PySem.W.codeIn K cd33 "SettingsFile.take_header" = true) (k33 : PySem.W.keepIn K (.ref f33) = true)
    {f34 : Addr} {od34 an34 : Option Addr} {sl34 : Array (Option Value)} {oc34 kV34 dc34 pm34 cd34 ct34 : Value} (a34 : PySem.W.findIn K (.ref C0) "take_setting" = some (some (.ref f34))) (i34 : PySem.W.isFn K (.ref f34) = true) (l34 : K.lookup f34 = some ⟨oc34, od34, .func (PySem.W.fnOf "take_setting" "SettingsFile.take_setting" (defArgs s_SettingsFile_take_setting) (defBody s_SettingsFile_take_setting) (defScope s_SettingsFile_take_setting) .none kV34 dc34 pm34 an34 cd34 ct34), sl34⟩) (c34 : PySem.W.codeIn K cd34 "SettingsFile.take_setting" = true) (k34 : PySem.W.keepIn K (.ref f34) = true)
    {f35 : Addr} {od35 an35 : Option Addr} {sl35 : Array (Option Value)} {oc35 kV35 dc35 pm35 cd35 ct35 : Value} (a35 : PySem.W.findIn K (.ref C0) "close_block" = some (some (.ref f35))) (i35 : PySem.W.isFn K (.ref f35) = true) (l35 : K.lookup f35 = some ⟨oc35, od35, .func (PySem.W.fnOf "close_block" "SettingsFile.close_block" (defArgs s_SettingsFile_close_block) (defBody s_SettingsFile_close_block) (defScope s_SettingsFile_close_block) .none kV35 dc35 pm35 an35 cd35 ct35), sl35⟩) (c35 : PySem.W.codeIn K cd35 "SettingsFile.close_block" = true) (k35 : PySem.W.keepIn K (.ref f35) = true)
    {f36 : Addr} {od36 an36 : Option Addr} {sl36 : Array (Option Value)} {oc36 kV36 dc36 pm36 cd36 ct36 : Value} (a36 : PySem.W.findIn K (.ref C0) "places" = some (some (.ref f36))) (i36 : PySem.W.isFn K (.ref f36) = true) (l36 : K.lookup f36 = some ⟨oc36, od36, .func (PySem.W.fnOf "places" "SettingsFile.places" (defArgs s_SettingsFile_places) (defBody s_SettingsFile_places) (defScope s_SettingsFile_places) .none kV36 dc36 pm36 an36 cd36 ct36), sl36⟩) (c36 : PySem.W.codeIn K cd36 "SettingsFile.places" = true) (k36 : PySem.W.keepIn K (.ref f36) = true)
    {f37 : Addr} {od37 an37 : Option Addr} {sl37 : Array (Option Value)} {oc37 kV37 dc37 pm37 cd37 ct37 : Value} (a37 : PySem.W.findIn K (.ref C0) "kept" = some (some (.ref f37))) (i37 : PySem.W.isFn K (.ref f37) = true) (l37 : K.lookup f37 = some ⟨oc37, od37, .func (PySem.W.fnOf "kept" "SettingsFile.kept" (defArgs s_SettingsFile_kept) (defBody s_SettingsFile_kept) (defScope s_SettingsFile_kept) .none kV37 dc37 pm37 an37 cd37 ct37), sl37⟩) (c37 : PySem.W.codeIn K cd37 "SettingsFile.kept" = true) (k37 : PySem.W.keepIn K (.ref f37) = true)
    {f38 : Addr} {od38 an38 : Option Addr} {sl38 : Array (Option Value)} {oc38 kV38 dc38 pm38 cd38 ct38 : Value} (a38 : PySem.W.findIn K (.ref C0) "__contains__" = some (some (.ref f38))) (i38 : PySem.W.isFn K (.ref f38) = true) (l38 : K.lookup f38 = some ⟨oc38, od38, .func (PySem.W.fnOf "__contains__" "SettingsFile.__contains__" (defArgs s_SettingsFile___contains__) (defBody s_SettingsFile___contains__) (defScope s_SettingsFile___contains__) .none kV38 dc38 pm38 an38 cd38 ct38), sl38⟩) (c38 : PySem.W.codeIn K cd38 "SettingsFile.__contains__" = true) (k38 : PySem.W.keepIn K (.ref f38) = true)
    {f39 : Addr} {od39 an39 : Option Addr} {sl39 : Array (Option Value)} {oc39 dc39 pm39 cd39 ct39 : Value} {kD39 : Addr} (a39 : PySem.W.findIn K (.ref C1) "__init__" = some (some (.ref f39))) (i39 : PySem.W.isFn K (.ref f39) = true) (l39 : K.lookup f39 = some ⟨oc39, od39, .func (PySem.W.fnOf "__init__" "Release.__init__" (defArgs s_Release___init__) (defBody s_Release___init__) (defScope s_Release___init__) .none (.ref kD39) dc39 pm39 an39 cd39 ct39), sl39⟩) (c39 : PySem.W.codeIn K cd39 "Release.__init__" = true) (k39 : PySem.W.keepIn K (.ref f39) = true)
    {kt39_0 : Addr} (kq39_0 : PySem.W.nsIn K kD39 "renames" = some (some (.ref kt39_0))) {ko39_0 : Option Addr} {kz39_0 : Nat} {ks39_0 : Array (Option Value)} (kl39_0 : K.lookup kt39_0 = some ⟨.type "tuple", ko39_0, .seq #[] kz39_0, ks39_0⟩)
    {kt39_1 : Addr} (kq39_1 : PySem.W.nsIn K kD39 "returns" = some (some (.ref kt39_1))) {ko39_1 : Option Addr} {kz39_1 : Nat} {ks39_1 : Array (Option Value)} (kl39_1 : K.lookup kt39_1 = some ⟨.type "tuple", ko39_1, .seq #[] kz39_1, ks39_1⟩)
    {f40 : Addr} {od40 an40 : Option Addr} {sl40 : Array (Option Value)} {oc40 dc40 pm40 cd40 ct40 : Value} {kD40 : Addr} (a40 : PySem.W.findIn K (.ref C2) "__init__" = some (some (.ref f40))) (i40 : PySem.W.isFn K (.ref f40) = true) (l40 : K.lookup f40 = some ⟨oc40, od40, .func (PySem.W.fnOf "__init__" "History.__init__" (defArgs s_History___init__) (defBody s_History___init__) (defScope s_History___init__) .none (.ref kD40) dc40 pm40 an40 cd40 ct40), sl40⟩) (c40 : PySem.W.codeIn K cd40 "History.__init__" = true) (k40 : PySem.W.keepIn K (.ref f40) = true)
    {kt40_0 : Addr} (kq40_0 : PySem.W.nsIn K kD40 "exclusions" = some (some (.ref kt40_0))) {ko40_0 : Option Addr} {kz40_0 : Nat} {ks40_0 : Array (Option Value)} (kl40_0 : K.lookup kt40_0 = some ⟨.type "tuple", ko40_0, .seq #[] kz40_0, ks40_0⟩)
    {f41 : Addr} {od41 an41 : Option Addr} {sl41 : Array (Option Value)} {oc41 kV41 dc41 pm41 cd41 ct41 : Value} (a41 : PySem.W.findIn K (.ref C2) "take_release" = some (some (.ref f41))) (i41 : PySem.W.isFn K (.ref f41) = true) (l41 : K.lookup f41 = some ⟨oc41, od41, .func (PySem.W.fnOf "take_release" "History.take_release" (defArgs s_History_take_release) (defBody s_History_take_release) (defScope s_History_take_release) .none kV41 dc41 pm41 an41 cd41 ct41), sl41⟩) (c41 : PySem.W.codeIn K cd41 "History.take_release" = true) (k41 : PySem.W.keepIn K (.ref f41) = true)
    {f42 : Addr} {od42 an42 : Option Addr} {sl42 : Array (Option Value)} {oc42 kV42 dc42 pm42 cd42 ct42 : Value} (a42 : PySem.W.findIn K (.ref C2) "take_places" = some (some (.ref f42))) (i42 : PySem.W.isFn K (.ref f42) = true) (l42 : K.lookup f42 = some ⟨oc42, od42, .func (PySem.W.fnOf "take_places" "History.take_places" (defArgs s_History_take_places) (defBody s_History_take_places) (defScope s_History_take_places) .none kV42 dc42 pm42 an42 cd42 ct42), sl42⟩) (c42 : PySem.W.codeIn K cd42 "History.take_places" = true) (k42 : PySem.W.keepIn K (.ref f42) = true)
    {f43 : Addr} {od43 an43 : Option Addr} {sl43 : Array (Option Value)} {oc43 kV43 dc43 pm43 cd43 ct43 : Value} (a43 : PySem.W.findIn K (.ref C2) "take_exclusion" = some (some (.ref f43))) (i43 : PySem.W.isFn K (.ref f43) = true) (l43 : K.lookup f43 = some ⟨oc43, od43, .func (PySem.W.fnOf "take_exclusion" "History.take_exclusion" (defArgs s_History_take_exclusion) (defBody s_History_take_exclusion) (defScope s_History_take_exclusion) .none kV43 dc43 pm43 an43 cd43 ct43), sl43⟩) (c43 : PySem.W.codeIn K cd43 "History.take_exclusion" = true) (k43 : PySem.W.keepIn K (.ref f43) = true)
    {f44 : Addr} {od44 an44 : Option Addr} {sl44 : Array (Option Value)} {oc44 kV44 dc44 pm44 cd44 ct44 : Value} (a44 : PySem.W.findIn K (.ref C2) "check_release" = some (some (.ref f44))) (i44 : PySem.W.isFn K (.ref f44) = true) (l44 : K.lookup f44 = some ⟨oc44, od44, .func (PySem.W.fnOf "check_release" "History.check_release" (defArgs s_History_check_release) (defBody s_History_check_release) (defScope s_History_check_release) .none kV44 dc44 pm44 an44 cd44 ct44), sl44⟩) (c44 : PySem.W.codeIn K cd44 "History.check_release" = true) (k44 : PySem.W.keepIn K (.ref f44) = true)
    {p45 : Addr} {rs45 : List Value} (a45 : PySem.W.findIn K (.ref C2) "slots" = some (some (.ref p45))) (pg_45 : PySem.W.specialIn K (.ref p45) "__get__" = some (some (.builtin "property.__get__"))) (pt_45 : PySem.W.takesIn K (.ref p45) = some true)
    {f45 : Addr} {od45 an45 : Option Addr} {sl45 : Array (Option Value)} {oc45 kV45 dc45 pm45 cd45 ct45 : Value} (pr_45 : PySem.W.recIn K p45 "property" = some (.ref f45 :: rs45)) (l45 : K.lookup f45 = some ⟨oc45, od45, .func (PySem.W.fnOf "slots" "History.slots" (defArgs s_History_slots) (defBody s_History_slots) (defScope s_History_slots) .none kV45 dc45 pm45 an45 cd45 ct45), sl45⟩) (c45 : PySem.W.codeIn K cd45 "History.slots" = true) (k45 : PySem.W.keepIn K (.ref f45) = true)
    {f46 : Addr} {od46 an46 : Option Addr} {sl46 : Array (Option Value)} {oc46 kV46 dc46 pm46 cd46 ct46 : Value} (a46 : PySem.W.findIn K (.ref C2) "slot_at" = some (some (.ref f46))) (i46 : PySem.W.isFn K (.ref f46) = true) (l46 : K.lookup f46 = some ⟨oc46, od46, .func (PySem.W.fnOf "slot_at" "History.slot_at" (defArgs s_History_slot_at) (defBody s_History_slot_at) (defScope s_History_slot_at) .none kV46 dc46 pm46 an46 cd46 ct46), sl46⟩) (c46 : PySem.W.codeIn K cd46 "History.slot_at" = true) (k46 : PySem.W.keepIn K (.ref f46) = true)
    {f47 : Addr} {od47 an47 : Option Addr} {sl47 : Array (Option Value)} {oc47 kV47 dc47 pm47 cd47 ct47 : Value} (a47 : PySem.W.findIn K (.ref C2) "__len__" = some (some (.ref f47))) (i47 : PySem.W.isFn K (.ref f47) = true) (l47 : K.lookup f47 = some ⟨oc47, od47, .func (PySem.W.fnOf "__len__" "History.__len__" (defArgs s_History___len__) (defBody s_History___len__) (defScope s_History___len__) .none kV47 dc47 pm47 an47 cd47 ct47), sl47⟩) (c47 : PySem.W.codeIn K cd47 "History.__len__" = true) (k47 : PySem.W.keepIn K (.ref f47) = true)
    {t0 : Tok} (q0 : PySem.W.nsIn K mainGlobals "LONGEST_NAME" = some (some (.int 8 t0)))
    {t1 : Tok} (q1 : PySem.W.nsIn K mainGlobals "LETTERS" = some (some (.str "abcdefghijklmnopqrstuvwxyz" t1)))
    {t2 : Tok} (q2 : PySem.W.nsIn K mainGlobals "LONGEST_VALUE" = some (some (.int 12 t2)))
    {t3 : Tok} (q3 : PySem.W.nsIn K mainGlobals "DIGITS" = some (some (.str "0123456789" t3)))
    {t4 : Tok} (q4 : PySem.W.nsIn K mainGlobals "LONGEST_RELEASE" = some (some (.int 2 t4)))
    {t5 : Tok} (q5 : PySem.W.nsIn K mainGlobals "KEPT_MARK" = some (some (.str "#~" t5)))
    (z0 : PySem.W.nsIn K mainGlobals "len" = some none)
    (z1 : PySem.W.nsIn K mainGlobals "isinstance" = some none)
    (z2 : PySem.W.nsIn K mainGlobals "str" = some none)
    (z3 : PySem.W.nsIn K mainGlobals "all" = some none)
    (z4 : PySem.W.nsIn K mainGlobals "int" = some none)
    (z5 : PySem.W.nsIn K mainGlobals "bool" = some none)
    (z6 : PySem.W.nsIn K mainGlobals "tuple" = some none)
    (z7 : PySem.W.nsIn K mainGlobals "set" = some none)
    (z8 : PySem.W.nsIn K mainGlobals "list" = some none)
    (z9 : PySem.W.nsIn K mainGlobals "enumerate" = some none)
    (z10 : PySem.W.nsIn K mainGlobals "abs" = some none)
    (z11 : PySem.W.nsIn K mainGlobals "repr" = some none)
    (z12 : PySem.W.nsIn K mainGlobals "dict" = some none)
    (z13 : PySem.W.nsIn K mainGlobals "range" = some none)
    (z14 : PySem.W.nsIn K mainGlobals "max" = some none)
    (z15 : PySem.W.nsIn K mainGlobals "min" = some none) :
    ∃ fd : FuncData, (∀ (s : Shared) (v : Value), BindsTo s fd ⟨[v], []⟩ [("_law_script", v)]) ∧ ∀ base : Heap, K.In base → base.Ns mainGlobals mg → FnG l.prog w K mg base 13 fa fd ["_law_script"] (sp_law K) := by
  have e := hfa.symm.trans (PySem.W.mg_of X G a29)
  cases e
  exact ⟨_, fun s v => .of_eq rfl, fun base _ _ => ok_law (top_mk X G aC0 pg0 hd0 po0 sa0 mk0 kc0 na0_0 na0_1 na0_2 na0_3 na0_4 na0_5 na0_6 aC1 pg1 hd1 po1 sa1 mk1 kc1 na1_0 na1_1 na1_2 aC2 pg2 hd2 po2 sa2 mk2 kc2 rd2 ga2 cw2_0 cw2_1 na2_0 na2_1 na2_2 na2_3 a0 l0 c0 k0 a1 l1 c1 k1 a2 l2 c2 k2 a3 l3 c3 k3 a4 l4 c4 k4 a5 l5 c5 k5 a6 l6 c6 k6 a7 l7 c7 k7 a8 l8 c8 k8 a9 l9 c9 k9 a10 l10 c10 k10 a11 l11 c11 k11 a12 l12 c12 k12 a13 l13 c13 k13 a14 l14 c14 k14 a15 l15 c15 k15 a16 l16 c16 k16 a17 l17 c17 k17 a18 l18 c18 k18 a19 l19 c19 k19 a20 l20 c20 k20 a21 l21 c21 k21 a22 l22 c22 k22 a23 l23 c23 k23 a24 l24 c24 k24 a25 l25 c25 k25 a26 l26 c26 k26 a27 l27 c27 k27 a28 l28 c28 k28 a29 l29 c29 k29 a30 i30 l30 c30 k30 a31 i31 l31 c31 k31 a32 i32 l32 c32 k32 a33 i33 l33 c33 k33 a34 i34 l34 c34 k34 a35 i35 l35 c35 k35 a36 i36 l36 c36 k36 a37 i37 l37 c37 k37 a38 i38 l38 c38 k38 a39 i39 l39 c39 k39 kq39_0 kl39_0 kq39_1 kl39_1 a40 i40 l40 c40 k40 kq40_0 kl40_0 a41 i41 l41 c41 k41 a42 i42 l42 c42 k42 a43 i43 l43 c43 k43 a44 i44 l44 c44 k44 a45 pg_45 pt_45 pr_45 l45 c45 k45 a46 i46 l46 c46 k46 a47 i47 l47 c47 k47 q0 q1 q2 q3 q4 q5 z0 z1 z2 z3 z4 z5 z6 z7 z8 z9 z10 z11 z12 z13 z14 z15)⟩
end K16
open PySem PySem.W PyProof.Rows
set_option maxHeartbeats 0 in
theorem PySem.Challenge.cw_settingsmerge_k16_releases_kept_apart_holds : PySem.Challenge.rw_settingsmerge_k16_releases_kept_apart.Holds := by
  w_on; o_law; k_head; (case hw => w_witness2)
  k_fill
  refine My.walk_ofG (l := PySem.Challenge.rw_settingsmerge_k16_releases_kept_apart) (n := 63) (k := 13) (x := "_law_script") (sp := fun w => K16.sp_law _) rfl (by decide) rfl ⟨rfl, by decide, by decide⟩ (fun w h Y => PySem.W.kIn_of Y) ?F (fun _ _ a ns hl _ hS => ⟨a, ns, rfl, hS, hl, fun _ => rfl⟩)
  case F =>
    intro w mg fa h KX G hmg
    refine' K16.all_mk KX G hmg ?aC0 ?pg0 ?hd0 ?po0 ?sa0 ?mk0 ?kc0 ?na0_0 ?na0_1 ?na0_2 ?na0_3 ?na0_4 ?na0_5 ?na0_6 ?aC1 ?pg1 ?hd1 ?po1 ?sa1 ?mk1 ?kc1 ?na1_0 ?na1_1 ?na1_2 ?aC2 ?pg2 ?hd2 ?po2 ?sa2 ?mk2 ?kc2 ?rd2 ?ga2 ?cw2_0 ?cw2_1 ?na2_0 ?na2_1 ?na2_2 ?na2_3 ?a0 ?l0 ?c0 ?k0 ?a1 ?l1 ?c1 ?k1 ?a2 ?l2 ?c2 ?k2 ?a3 ?l3 ?c3 ?k3 ?a4 ?l4 ?c4 ?k4 ?a5 ?l5 ?c5 ?k5 ?a6 ?l6 ?c6 ?k6 ?a7 ?l7 ?c7 ?k7 ?a8 ?l8 ?c8 ?k8 ?a9 ?l9 ?c9 ?k9 ?a10 ?l10 ?c10 ?k10 ?a11 ?l11 ?c11 ?k11 ?a12 ?l12 ?c12 ?k12 ?a13 ?l13 ?c13 ?k13 ?a14 ?l14 ?c14 ?k14 ?a15 ?l15 ?c15 ?k15 ?a16 ?l16 ?c16 ?k16 ?a17 ?l17 ?c17 ?k17 ?a18 ?l18 ?c18 ?k18 ?a19 ?l19 ?c19 ?k19 ?a20 ?l20 ?c20 ?k20 ?a21 ?l21 ?c21 ?k21 ?a22 ?l22 ?c22 ?k22 ?a23 ?l23 ?c23 ?k23 ?a24 ?l24 ?c24 ?k24 ?a25 ?l25 ?c25 ?k25 ?a26 ?l26 ?c26 ?k26 ?a27 ?l27 ?c27 ?k27 ?a28 ?l28 ?c28 ?k28 ?a29 ?l29 ?c29 ?k29 ?a30 ?i30 ?l30 ?c30 ?k30 ?a31 ?i31 ?l31 ?c31 ?k31 ?a32 ?i32 ?l32 ?c32 ?k32 ?a33 ?i33 ?l33 ?c33 ?k33 ?a34 ?i34 ?l34 ?c34 ?k34 ?a35 ?i35 ?l35 ?c35 ?k35 ?a36 ?i36 ?l36 ?c36 ?k36 ?a37 ?i37 ?l37 ?c37 ?k37 ?a38 ?i38 ?l38 ?c38 ?k38 ?a39 ?i39 ?l39 ?c39 ?k39 ?kq39_0 ?kl39_0 ?kq39_1 ?kl39_1 ?a40 ?i40 ?l40 ?c40 ?k40 ?kq40_0 ?kl40_0 ?a41 ?i41 ?l41 ?c41 ?k41 ?a42 ?i42 ?l42 ?c42 ?k42 ?a43 ?i43 ?l43 ?c43 ?k43 ?a44 ?i44 ?l44 ?c44 ?k44 ?a45 ?pg_45 ?pt_45 ?pr_45 ?l45 ?c45 ?k45 ?a46 ?i46 ?l46 ?c46 ?k46 ?a47 ?i47 ?l47 ?c47 ?k47 ?q0 ?q1 ?q2 ?q3 ?q4 ?q5 ?z0 ?z1 ?z2 ?z3 ?z4 ?z5 ?z6 ?z7 ?z8 ?z9 ?z10 ?z11 ?z12 ?z13 ?z14 ?z15
    (case aC0 => k_is); (case pg0 => k_is); (case hd0 => k_is); (case po0 => k_is); (case sa0 => k_is); (case mk0 => k_is); (case kc0 => k_is); (case na0_0 => k_is); (case na0_1 => k_is); (case na0_2 => k_is); (case na0_3 => k_is); (case na0_4 => k_is); (case na0_5 => k_is); (case na0_6 => k_is); (case aC1 => k_is); (case pg1 => k_is); (case hd1 => k_is); (case po1 => k_is); (case sa1 => k_is); (case mk1 => k_is); (case kc1 => k_is); (case na1_0 => k_is); (case na1_1 => k_is); (case na1_2 => k_is); (case aC2 => k_is); (case pg2 => k_is); (case hd2 => k_is); (case po2 => k_is); (case sa2 => k_is); (case mk2 => k_is); (case kc2 => k_is); (case rd2 => k_is); (case ga2 => k_is); (case cw2_0 => k_is); (case cw2_1 => k_is); (case na2_0 => k_is); (case na2_1 => k_is); (case na2_2 => k_is); (case na2_3 => k_is); (case a0 => k_is); (case l0 => k_is); (case c0 => k_is); (case k0 => k_is); (case a1 => k_is); (case l1 => k_is); (case c1 => k_is); (case k1 => k_is); (case a2 => k_is); (case l2 => k_is); (case c2 => k_is); (case k2 => k_is); (case a3 => k_is); (case l3 => k_is); (case c3 => k_is); (case k3 => k_is); (case a4 => k_is); (case l4 => k_is); (case c4 => k_is); (case k4 => k_is); (case a5 => k_is); (case l5 => k_is); (case c5 => k_is); (case k5 => k_is); (case a6 => k_is); (case l6 => k_is); (case c6 => k_is); (case k6 => k_is); (case a7 => k_is); (case l7 => k_is); (case c7 => k_is); (case k7 => k_is); (case a8 => k_is); (case l8 => k_is); (case c8 => k_is); (case k8 => k_is); (case a9 => k_is); (case l9 => k_is); (case c9 => k_is); (case k9 => k_is); (case a10 => k_is); (case l10 => k_is); (case c10 => k_is); (case k10 => k_is); (case a11 => k_is); (case l11 => k_is); (case c11 => k_is); (case k11 => k_is); (case a12 => k_is); (case l12 => k_is); (case c12 => k_is); (case k12 => k_is); (case a13 => k_is); (case l13 => k_is); (case c13 => k_is); (case k13 => k_is); (case a14 => k_is); (case l14 => k_is); (case c14 => k_is); (case k14 => k_is); (case a15 => k_is); (case l15 => k_is); (case c15 => k_is); (case k15 => k_is); (case a16 => k_is); (case l16 => k_is); (case c16 => k_is); (case k16 => k_is); (case a17 => k_is); (case l17 => k_is); (case c17 => k_is); (case k17 => k_is); (case a18 => k_is); (case l18 => k_is); (case c18 => k_is); (case k18 => k_is); (case a19 => k_is); (case l19 => k_is); (case c19 => k_is); (case k19 => k_is); (case a20 => k_is); (case l20 => k_is); (case c20 => k_is); (case k20 => k_is); (case a21 => k_is); (case l21 => k_is); (case c21 => k_is); (case k21 => k_is); (case a22 => k_is); (case l22 => k_is); (case c22 => k_is); (case k22 => k_is); (case a23 => k_is); (case l23 => k_is); (case c23 => k_is); (case k23 => k_is); (case a24 => k_is); (case l24 => k_is); (case c24 => k_is); (case k24 => k_is); (case a25 => k_is); (case l25 => k_is); (case c25 => k_is); (case k25 => k_is); (case a26 => k_is); (case l26 => k_is); (case c26 => k_is); (case k26 => k_is); (case a27 => k_is); (case l27 => k_is); (case c27 => k_is); (case k27 => k_is); (case a28 => k_is); (case l28 => k_is); (case c28 => k_is); (case k28 => k_is); (case a29 => k_is); (case l29 => k_is); (case c29 => k_is); (case k29 => k_is); (case a30 => k_is); (case i30 => k_is); (case l30 => k_is); (case c30 => k_is); (case k30 => k_is); (case a31 => k_is); (case i31 => k_is); (case l31 => k_is); (case c31 => k_is); (case k31 => k_is); (case a32 => k_is); (case i32 => k_is); (case l32 => k_is); (case c32 => k_is); (case k32 => k_is); (case a33 => k_is); (case i33 => k_is); (case l33 => k_is); (case c33 => k_is); (case k33 => k_is); (case a34 => k_is); (case i34 => k_is); (case l34 => k_is); (case c34 => k_is); (case k34 => k_is); (case a35 => k_is); (case i35 => k_is); (case l35 => k_is); (case c35 => k_is); (case k35 => k_is); (case a36 => k_is); (case i36 => k_is); (case l36 => k_is); (case c36 => k_is); (case k36 => k_is); (case a37 => k_is); (case i37 => k_is); (case l37 => k_is); (case c37 => k_is); (case k37 => k_is); (case a38 => k_is); (case i38 => k_is); (case l38 => k_is); (case c38 => k_is); (case k38 => k_is); (case a39 => k_is); (case i39 => k_is); (case l39 => k_is); (case c39 => k_is); (case k39 => k_is); (case kq39_0 => k_is); (case kl39_0 => k_is); (case kq39_1 => k_is); (case kl39_1 => k_is); (case a40 => k_is); (case i40 => k_is); (case l40 => k_is); (case c40 => k_is); (case k40 => k_is); (case kq40_0 => k_is); (case kl40_0 => k_is); (case a41 => k_is); (case i41 => k_is); (case l41 => k_is); (case c41 => k_is); (case k41 => k_is); (case a42 => k_is); (case i42 => k_is); (case l42 => k_is); (case c42 => k_is); (case k42 => k_is); (case a43 => k_is); (case i43 => k_is); (case l43 => k_is); (case c43 => k_is); (case k43 => k_is); (case a44 => k_is); (case i44 => k_is); (case l44 => k_is); (case c44 => k_is); (case k44 => k_is); (case a45 => k_is); (case pg_45 => k_is); (case pt_45 => k_is); (case pr_45 => k_is); (case l45 => k_is); (case c45 => k_is); (case k45 => k_is); (case a46 => k_is); (case i46 => k_is); (case l46 => k_is); (case c46 => k_is); (case k46 => k_is); (case a47 => k_is); (case i47 => k_is); (case l47 => k_is); (case c47 => k_is); (case k47 => k_is); (case q0 => k_is); (case q1 => k_is); (case q2 => k_is); (case q3 => k_is); (case q4 => k_is); (case q5 => k_is); (case z0 => k_is); (case z1 => k_is); (case z2 => k_is); (case z3 => k_is); (case z4 => k_is); (case z5 => k_is); (case z6 => k_is); (case z7 => k_is); (case z8 => k_is); (case z9 => k_is); (case z10 => k_is); (case z11 => k_is); (case z12 => k_is); (case z13 => k_is); (case z14 => k_is); (case z15 => k_is)


