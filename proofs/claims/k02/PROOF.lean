import PyProof.Rows.All
import Wide.All
import OpenK.AllK
import Wide.FinOn
import HandS.ForMost
import HandS.Walk
import HandS.IsInst
import HandS.Style
import KE.KCallOwn
import HandS.GenBody
import HandS.GenYield
import HandS.GenList
import PyProof.GenComp
import HandS.DictSub
import HandS.Small
import HandS.Property
import HandS.More
import HandS.WordsDict
import HandS.MakeKwOnly
import HandS.RaiseMore
import PySem.Challenge.RW_settingsmerge_k02_files_read
set_option Elab.async false
set_option linter.all false
set_option maxRecDepth 100000
/-! words of my own over the hand layer: repr of data, a text times a number, calls by keywords alone, defs that may ask for a repr -/
namespace My
open PySem PySem.Spec PyProof.Rows L2
section
variable {X : Cx}
/-- repr(x), x any data, where no other repr is under way -/
theorem call_repr (hg : X.A.guards = some []) (hu : X.A.units + 64 < cLine) : CallR X (.builtin "repr") (fun xs H Q => ∃ x d, xs = [x] ∧ Dp X.K H x d ∧ d.showable = true ∧ d.hasDict = false ∧ d.depth ≤ 8 ∧ d.shown.length ≤ sizeLine ∧ Q (.str d.shown) H) := by
  intro pins s σ H xs us Q I rr h
  obtain ⟨x, d, rfl, hd, hs, hn, hp, hz, q⟩ := h
  obtain ⟨u, rfl, ru⟩ := vals1 rr
  obtain ⟨as, rd⟩ := Dp.reads I d x u hd ru
  cases hd with
  | non =>
    cases (show u = Value.none from ru)
    exact PySem.P.repr_of_none ⟨.str _, H, I.tok _, ⟨_, rfl⟩, q⟩
  | bl b =>
    cases (show u = Value.bool b from ru)
    refine PySem.P.repr_of_bool ⟨.str _, H, I.tok _, ⟨_, rfl⟩, ?_⟩
    have e : (PyData.bool b).shown = (if b then ("True" : Str) else "False") := by cases b <;> rfl
    rw [e] at q
    cases b <;> exact q
  | int i =>
    obtain ⟨t, rfl⟩ := (show ∃ t, u = Value.int i t from ru)
    exact PySem.P.repr_of_int (of_decide_eq_true (by simpa [PyData.showable] using hs)) ⟨.str _, H, I.tok _, ⟨_, rfl⟩, q⟩
  | str z =>
    obtain ⟨t, rfl⟩ := (show ∃ t, u = Value.str z t from ru)
    exact PySem.P.repr_of_str ⟨.str _, H, I.tok _, ⟨_, rfl⟩, q⟩ hz
  | @lst a xs ds hS hA =>
    cases (show u = Value.ref a from ru)
    exact repr_of_reads' rd hs (PyData.noDict_hsm hn) hg (by omega) (fun _ _ e => e) (fun h' u tk hk => ⟨.str _, H, I.kept hk, ⟨_, rfl⟩, q⟩) hz
  | @tup a xs ds hS hA =>
    cases (show u = Value.ref a from ru)
    exact repr_of_reads' rd hs (PyData.noDict_hsm hn) hg (by omega) (fun _ _ e => e) (fun h' u tk hk => ⟨.str _, H, I.kept hk, ⟨_, rfl⟩, q⟩) hz
/-- a text n times, n from 2 to 1000 -/
theorem op_mulS : OpR X (binaryOp .Mult) (fun x y H Q => ∃ (z : Str) (n : Int), x = .str z ∧ y = .int n ∧ 2 ≤ n ∧ n ≤ 1000 ∧ 1 ≤ z.length ∧ z.length ≤ 1000 ∧ PySem.Builtin.Str.tooLong (z.length * n.toNat) = false ∧
    (⟨(List.replicate n.toNat z.cps).foldl (· ++ ·) #[]⟩ : Str).length ≤ sizeLine ∧ Q (.str ⟨(List.replicate n.toNat z.cps).foldl (· ++ ·) #[]⟩) H) := by
  intro pins s σ H x y v u Q I rx ry h
  obtain ⟨z, n, rfl, rfl, h1, h2, h3, h4, h5, h6, q⟩ := h
  obtain ⟨t, rfl⟩ := (show ∃ t, v = Value.str z t from rx)
  obtain ⟨t', rfl⟩ := (show ∃ t, u = Value.int n t from ry)
  have e0 : ¬ n < 1 := by omega
  have e1 : (n == 1 || z.length == 0) = false := by
    rw [Bool.or_eq_false_iff]
    exact ⟨beq_eq_false_iff_ne.mpr (by omega), beq_eq_false_iff_ne.mpr (by omega)⟩
  refine PySem.P.mul_str (by
      rw [decide_eq_false (show ¬ n < -(2 ^ 63 : Int) by omega), decide_eq_false (show ¬ n ≥ 2 ^ 63 by omega)]; rfl) (fun _ _ => ?_) (fun _ _ => h5) ?_
  · have : (1000 : Int) ≤ (2 ^ 63 - 1) / n := by
      rw [Int.le_ediv_iff_mul_le (by omega)]
      omega
    omega
  · rw [if_neg e0, if_neg (by rw [e1]; exact Bool.false_ne_true)]
    exact ⟨h6, ⟨.str _, H, I.tok _, ⟨_, rfl⟩, q⟩⟩
end

/-! ### a list against the empty list -/
section
variable {X : Cx}
theorem isL {pins : List (Addr × Obj)} {σ : L2.St} {H : Hp} {s : Shared} {a : Addr} {xs : List V} (I : Inv X pins σ H s) (h : SqL X.K H a xs) : ∃ its : Array Value, its.size = xs.length ∧ s.heap.IsList a its := by
  obtain ⟨its, r, ⟨o, n, h1, h2, _, h4⟩, _⟩ := I.list h
  exact ⟨its.toArray, r.length.symm, o, h1, h2, n, h4⟩
theorem op_eqNil (hu : X.A.units < cLine) : OpR X (compareOp .Eq) (fun x y H Q => ∃ (a b : Addr) (xs : List V), x = .ref a ∧ y = .ref b ∧ SqL X.K H a xs ∧ SqL X.K H b [] ∧ Q (.bl xs.isEmpty) H) := by
  intro pins s σ H x y v u Q I rx ry h
  obtain ⟨a, b, xs, rfl, rfl, h1, h2, q⟩ := h
  cases (show v = Value.ref a from rx)
  cases (show u = Value.ref b from ry)
  obtain ⟨i1, z1, l1⟩ := isL I h1
  obtain ⟨i2, z2, l2⟩ := isL I h2
  cases xs with
  | nil =>
    have zz : i1.size = i2.size := by rw [z1, z2]
    refine PySem.SeqAt.eq_listAt (e := fun _ => true) l1 l2 zz hu (fun j h3 _ => ?_) ?_
    · rw [z1] at h3
      cases h3
    · rw [z1]
      exact ⟨.bl true, H, I, rfl, q⟩
  | cons y ys =>
    refine PySem.SeqAt.eq_list_lengthsAt l1 l2 ?_ hu ⟨.bl false, H, I, rfl, q⟩
    rw [z1, z2]
    rfl
end

/-! ### a call by keywords alone -/
/-- all parameters are given by name -/
def KB0 (K : PySem.W.Frag) (fd : FuncData) (ps : List Str) : Prop := ∀ (s : Shared) (ws : List Value), K.In s.heap → ws.length = ps.length → BindsTo s fd ⟨[], ps.zip ws⟩ (ps.zip ws)
def tCallK0 (sp : Sp) (tk : TA) : TE := fun σ H Q => tk σ H fun zs H1 => sp zs H1 Q E0
section
variable {X : Cx} {k : Nat} {f : Addr} {fd : FuncData} {ps : List Str} {sp : Sp} {x : Str} {p pos : Pos} {kws : List Keyword} {tk : TA}
theorem pe_callK0 (F : FnOk X.prog X.w X.K X.mg X.base CX0 k f fd ps sp) (hr : Room k X.A) (hg : Gl X x) (hm : X.mg x = some (.ref f)) (hk : PySem.W.keepIn X.K (.ref f) = true) (hb : KB0 X.K fd ps) (hkw : PK X kws tk)
    (hall : (backToKw pos (keywordEach kws X.env)).all (·.1.isSome) = true := by rfl) (hks : (backToKw pos (keywordEach kws X.env)).filterMap (·.1) = ps := by rfl) (hdb : (x == ("__debug__" : Str)) = false := by decide)
    (hpl : ((backTo pos (starEach [] X.env)).any (·.1) || (backToKw pos (keywordEach kws X.env)).any (·.1.isNone)) = false := by rfl) :
    PE X (.Call (.Name x p) [] kws pos) (tCallK0 sp tk) := by
  constructor
  intro pins s σ H Q I h
  apply wpAny_Call_Name_kw
  apply ld_glob I hg hm _ hdb
  apply PySem.W.callWith_KW0 (h₀ := X.base) I.ok.mod.kin hk hall _ hpl
  apply thn (hkw.run pos pins s σ H _ I h)
  rintro ws s2 ⟨zs, H2, I2, rz, q2⟩
  refine ⟨I2.kIn, ?_⟩
  have hl : ws.length = ps.length := rz.length.symm.trans (F.len _ _ _ _ q2)
  have go := F.run X.A X.stack s2 H2 ⟨[], ps.zip ws⟩ ws zs Q E0 hr I2.env0 (hb s2 ws I2.kIn hl) rz q2
  rw [hks]
  refine wpAny_call (codeAny_mono go fun r s' hq => ?_)
  match r, hq with
  | .error _, hq => exact False.elim hq
  | .ok (.ret _), hq => exact I2.after hq
  | .ok .next, hq => exact False.elim hq
  | .ok .brk, hq => exact False.elim hq
  | .ok .cont, hq => exact False.elim hq
end

/-! ### defs that may ask for a repr: no repr is under way -/
structure FnG (P : Program) (w : World) (K : PySem.W.Frag) (mg : Str → Option Value) (base : Heap) (k : Nat) (f : Addr) (fd : FuncData) (ps : List Str) (sp : Sp) : Prop where
  len : ∀ vs H Q E, sp vs H Q E → vs.length = ps.length
  run : ∀ (A : Around) (outer : List Env) (s : Shared) (H : Hp) (args : Args) (us : List Value) (vs : List V) (Q : VK) (E : XK), Room k A → A.guards = some [] → Env0 P w K mg base A outer s H →
    BindsTo s fd args (ps.zip us) → Vals vs us → sp vs H Q E → codeAny (model P w) A (.call (.ref f) args) (CR CX0 outer P w H s Q E) s
section
variable {P : Program} {w : World} {K : PySem.W.Frag} {mg : Str → Option Value} {base : Heap}
theorem Fun.okG {x qual : Str} {st : Stmt} {f : Addr} {fd : FuncData} {N ps : List Str} {k : Nat} {sp : Sp} (F : Fun K x qual st f fd) (S : FnScope N ps (defScope st)) (len : ∀ vs H Q E, sp vs H Q E → vs.length = ps.length)
    (hbody : ∀ (cdv : Value) (A : Around) (outer : List Env) (s : Shared) (H : Hp) (vs : List V) (Q : VK) (E : XK), Room k (A.deeper (envOfC qual (defScope st) s.heap.objs.size f cdv)) → A.guards = some [] → sp vs H Q E →
      ∃ t, PSs (cxOf CX0 P w K mg base N qual (defScope st) f cdv A outer s H E).nox (defBody st) t ∧ t { nx := fun _ H' => Q .non H', rt := Q } (start N vs) H) : FnG P w K mg base (k + 1) f fd ps sp := by
  obtain ⟨c0, d0, v0, e0, p0, n0, cv, t0, l0, rfl, hl0, hc0⟩ := F.ex
  constructor
  · exact len
  intro A outer s H args us vs Q E hr hgd en hb rv hsp
  have hlen := len _ _ _ _ hsp
  have hkept : ∀ b o, base.get? b = some o → s.heap.get? b = some o := fun b o e => (en.bs b o e).1
  have hK : K.In s.heap := en.mod.kin.keeps hkept
  have hlim : s.heap.NoLimit := en.mod.nolimit.keeps hkept
  have hpar : ∀ y ∈ ps.zip us, (defScope st).names.lookup y.1 = some .local ∨ ((defScope st).names.lookup y.1 = some .cell ∧ ((cellsFrom (s.heap.objs.size + 1) (defScope st).names []).lookup y.1).isSome = true) := by
    rintro ⟨n, v⟩ hy
    rcases S.par n (List.of_mem_zip hy).1 with q | q
    · exact Or.inl q
    · exact Or.inr ⟨q, PySem.W.cellsFrom_some _ _ _ (Or.inl q)⟩
  apply codeAny_call_function hr.depth (hK _ _ hl0) rfl S.co S.gen rfl (PySem.W.codeRec_of hK hc0)
  apply hb
  apply wpAny_newFunctionEnv_cells S.kind hpar
  rintro env he s1 inC
  subst he
  refine ⟨hlim.keeps inC.toInCall.keep, codeAny_func ?_⟩
  obtain ⟨t, ht, hq⟩ := hbody cv A outer s H vs Q E (hr.deeper _) hgd hsp
  have I := inv_start (CX := CX0) (E := E) S hr.hd en hlen rv inC
  refine wpAny_mono (ht.nox.run [] s1 (start N vs) H _ I hq) ?_ (fun _ _ z => z)
  intro fl s' hs
  match fl, hs with
  | .ret u, ⟨v, σ', H', J, r2, q⟩ => exact ⟨v, H', J.os, J.bare, J.base, J.hok, r2, q⟩
  | .next, ⟨σ', H', J, q⟩ => exact ⟨V.non, H', J.os, J.bare, J.base, J.hok, rfl, q⟩
  | .brk, ⟨_, _, _, q⟩ => exact False.elim q
  | .cont, ⟨_, _, _, q⟩ => exact False.elim q
end
section
variable {X : Cx} {k : Nat} {f : Addr} {fd : FuncData} {ps : List Str} {sp : Sp} {x : Str} {p pos : Pos} {e : Expr} {es : List Expr} {t : TA}
/-- f(e, ..) of such a def -/
theorem pe_callG (F : FnG X.prog X.w X.K X.mg X.base k f fd ps sp) (hgd : X.A.guards = some []) (hr : Room k X.A) (hg : Gl X x) (hm : X.mg x = some (.ref f)) (hk : PySem.W.keepIn X.K (.ref f) = true) (hb : Binds X.K fd ps []) (ha : PA X (e :: es) t)
    (hdb : (x == ("__debug__" : Str)) = false := by decide) (he : starEach (e :: es) X.env = (false, eval e X.env) :: starEach es X.env := by rfl) (hpl : (backTo pos (starEach es X.env)).any (·.1) = false := by rfl) :
    PE X (.Call (.Name x p) (e :: es) [] pos) (tCall sp [] E0 t) := by
  constructor
  intro pins s σ H Q I h
  apply wpAny_Call_Name_kw
  apply ld_glob I hg hm _ hdb
  refine PySem.W.callWith_K (h₀ := X.base) I.ok.mod.kin hk ?_ he hpl
  apply thn (ha.run pos pins s σ H _ I h)
  rintro us s1 ⟨vs, H1, I1, r, q⟩
  refine ⟨I1.kIn, ?_⟩
  have r2 : Vals (vs ++ []) (us ++ []) := r.append .nil
  have hl : (us ++ []).length = ps.length := by rw [← r2.length]; exact F.len _ _ _ _ q
  have go := F.run X.A X.stack s1 H1 ⟨us, []⟩ (us ++ []) (vs ++ []) Q E0 hr hgd I1.env0 (hb s1 us I1.kIn hl) r2 q
  refine wpAny_call (codeAny_mono go fun r s' hq => ?_)
  match r, hq with
  | .error _, hq => exact False.elim hq
  | .ok (.ret _), hq => exact I1.after hq
  | .ok .next, hq => exact False.elim hq
  | .ok .brk, hq => exact False.elim hq
  | .ok .cont, hq => exact False.elim hq
end

/-! ### a method called by keywords alone -/
def KM0 (K : PySem.W.Frag) (fd : FuncData) (ps : List Str) : Prop := ∀ (s : Shared) (u : Value) (ws : List Value), K.In s.heap → ws.length + 1 = ps.length → BindsTo s fd ⟨[u], (ps.drop 1).zip ws⟩ (ps.zip (u :: ws))
def tMethK0 (C : Addr) (m : Str) (sp : Sp) (ta : TE) (tk : TA) : TE := fun σ H Q => ta σ H fun x H1 => ∃ a dx fs, x = .ref a ∧ H1 a = some (.ins C dx fs) ∧ fs.lookup m = none ∧ tk σ H1 fun zs H2 => sp (x :: zs) H2 Q E0
section
variable {X : Cx} {k : Nat} {f C : Addr} {fd : FuncData} {ps : List Str} {sp : Sp} {m : Str} {apos pos : Pos} {o : Expr} {kws : List Keyword} {ta : TE} {tk : TA}
theorem pe_methK0 {pl : Sem Bool} (he : PE X o ta) (c : Cls X.K C) (hm : Meth X.K C m f) (F : FnOk X.prog X.w X.K X.mg X.base CX0 k f fd ps sp) (hr : Room k X.A) (hb : KM0 X.K fd ps) (hkw : PK X kws tk)
    (hall : (backToKw pos (keywordEach kws X.env)).all (·.1.isSome) = true := by rfl) (hks : (backToKw pos (keywordEach kws X.env)).filterMap (·.1) = ps.drop 1 := by rfl)
    (hpl : ((backTo pos (starEach [] X.env)).any (·.1) || (backToKw pos (keywordEach kws X.env)).any (·.1.isNone)) = false := by rfl)
    (ht : eval (.Call (.Attribute o m apos) [] kws pos) X.env = (do
      let ov ← eval o X.env
      standAt apos.atName
      let (f, first) ← holding [ov] (getMethod ov m pl)
      callWith pos f first (backTo pos (starEach [] X.env)) (backToKw pos (keywordEach kws X.env))) := by rfl) :
    PE X (.Call (.Attribute o m apos) [] kws pos) (tMethK0 C m sp ta tk) := by
  constructor
  intro pins s σ H Q I h
  apply PySem.W.methodCall_KW (pl := pl) _ ht
  apply thn (he.run pins s σ H _ I h)
  rintro u s1 ⟨x, H1, I1, rx, a, dx, fs, rfl, ea, l, q⟩
  have eu : u = Value.ref a := rx
  subst eu
  apply getmeth_ok I1 ea c hm l
  apply PySem.W.callWith_KW0 (h₀ := X.base) (first := [.ref a]) I1.ok.mod.kin hm.kp hall _ hpl
  apply thn (hkw.run pos pins s1 σ H1 _ I1 q)
  rintro ws s2 ⟨zs, H2, I2, rz, q2⟩
  refine ⟨I2.kIn, ?_⟩
  have hl : ws.length + 1 = ps.length := by
    rw [← rz.length]
    exact F.len _ _ _ _ q2
  have rz2 : Vals (V.ref a :: zs) (Value.ref a :: ws) := .cons rfl rz
  have go := F.run X.A X.stack s2 H2 ⟨[.ref a], (ps.drop 1).zip ws⟩ (.ref a :: ws) (.ref a :: zs) Q E0 hr I2.env0 (hb s2 (.ref a) ws I2.kIn hl) rz2 q2
  rw [hks]
  refine wpAny_call (codeAny_mono go fun r s' hq => ?_)
  match r, hq with
  | .error _, hq => exact False.elim hq
  | .ok (.ret _), hq => exact I2.after hq
  | .ok .next, hq => exact False.elim hq
  | .ok .brk, hq => exact False.elim hq
  | .ok .cont, hq => exact False.elim hq
end

/-! ### the end of a law whose def may ask for a repr -/
section
variable {P : Program} {w : World} {K : PySem.W.Frag} {mg mb : Str → Option Value} {k : Nat} {fa a : Addr} {fd : FuncData} {x : Str} {sp : Sp} {s₁ : Shared} {vs : List Value} {ns : List Int} {H : Hp}
/-- what is tracked is the script at most: the state at the law's call -/
theorem env_law (KX : K.In s₁.heap) (hns : s₁.heap.Ns mainGlobals mg) (hb : s₁.heap.Ns builtinsNs mb) (hbb : ∀ x : Str, x ≠ "__name__" → mb x = bootBuiltins x) (hlim : s₁.heap.NoLimit) (hg : s₁.gens = #[])
    (ha : s₁.heap.get? a = some { cls := .type "list", data := .seq vs.toArray }) (hA : ∀ b, H b ≠ none → b = a) (hK : H a ≠ none → K.lookup a = none) (hok : HOk P w H s₁.heap) :
    K.In (hidT s₁.heap H) ∧ (hidT s₁.heap H).Ns mainGlobals mg ∧ Env0 P w K mg (hidT s₁.heap H) callerA [] s₁ H := by
  have free : ∀ {b : Addr} {o : Obj}, s₁.heap.get? b = some o → (∀ es ep, o.data = .dict es ep → False) ∨ H b = none := by
    intro b o e
    by_cases hb : H b = none
    · exact Or.inr hb
    · left
      intro es ep hd
      have := hA b hb
      subst this
      rw [ha] at e
      cases e
      cases hd
  have nsOf : ∀ {b : Addr} {m : Str → Option Value}, s₁.heap.Ns b m → (hidT s₁.heap H).Ns b m := by
    rintro b m ⟨o, es, ep, e, hd, rest⟩
    rcases free e with z | z
    · exact (z es ep hd).elim
    · exact ⟨o, es, ep, hidT_get e z, hd, rest⟩
  have kIn : K.In (hidT s₁.heap H) := by
    intro b o e
    refine hidT_get (KX b o e) ?_
    by_cases hb : H b = none
    · exact hb
    · have := hA b hb
      subst this
      rw [hK hb] at e
      cases e
  have md : Mod K mg (hidT s₁.heap H) := by
    obtain ⟨mc, h1, h2⟩ := hlim
    exact ⟨kIn, nsOf hns, ⟨mb, nsOf hb, hbb⟩, ⟨mc, nsOf h1, h2⟩⟩
  refine ⟨kIn, nsOf hns, ⟨rfl, md, fun b o e => of_hidT e, Nat.le_of_eq (hidT_size _ _), trivial, ?_, hok, .of_eq hg⟩⟩
  intro b z
  cases (show b ∈ ([] : List Addr) from z)
/-- the law's own call -/
theorem law_callG (KX : K.In s₁.heap) (hns : s₁.heap.Ns mainGlobals mg) (hb : s₁.heap.Ns builtinsNs mb) (hbb : ∀ x : Str, x ≠ "__name__" → mb x = bootBuiltins x) (hlim : s₁.heap.NoLimit) (hg : s₁.gens = #[])
    (ha : s₁.heap.get? a = some { cls := .type "list", data := .seq vs.toArray }) (hi : IntsAre vs ns) (hl : ns.length ≤ sizeLine) (hr : Room k callerA)
    (F : ∀ base : Heap, K.In base → base.Ns mainGlobals mg → FnG P w K mg base k fa fd [x] sp) (hbind : ∀ (s : Shared) (u : Value), BindsTo s fd ⟨[u], []⟩ [(x, u)])
    (hsp : ∀ H : Hp, Only H → SqL K H a (ns.map V.int) → sp [.ref a] H (fun v _ => v = .bl true) fun _ _ _ => False) :
    codeAny (model P w) callerA (.call (.ref fa) ⟨[.ref a], []⟩) (fun r s' => r = .ok (.ret (.bool true)) ∧ OldK s₁.heap s'.heap ∧ s'.os = s₁.os ∧ AllBare s'.gens) s₁ := by
  have main : ∀ H : Hp, Only H → SqL K H a (ns.map V.int) → HOk P w H s₁.heap → (∀ b, H b ≠ none → b = a) → (H a ≠ none → K.lookup a = none) →
      codeAny (model P w) callerA (.call (.ref fa) ⟨[.ref a], []⟩) (fun r s' => r = .ok (.ret (.bool true)) ∧ OldK s₁.heap s'.heap ∧ s'.os = s₁.os ∧ AllBare s'.gens) s₁ := by
    intro H only seq hok hA hK
    obtain ⟨k1, k2, en⟩ := env_law KX hns hb hbb hlim hg ha hA hK hok
    have go := (F _ k1 k2).run callerA [] s₁ H ⟨[.ref a], []⟩ [.ref a] [.ref a] (fun v _ => v = .bl true) (fun _ _ _ => False) hr rfl en (hbind s₁ (.ref a)) (.cons rfl .nil) (hsp H only seq)
    refine codeAny_mono go fun r s' hq => ?_
    match r, hq with
    | .error _, hq => exact False.elim hq
    | .ok .next, hq => exact False.elim hq
    | .ok .brk, hq => exact False.elim hq
    | .ok .cont, hq => exact False.elim hq
    | .ok (.ret u), ⟨v, H', os, bare, un, hok', ru, ev⟩ =>
      have ev' : v = .bl true := ev
      subst ev'
      have eu : u = Value.bool true := ru
      subst eu
      refine ⟨rfl, OldK.of_keep ?_, os, bare⟩
      intro b o e
      rcases only b with z | ⟨ob, xs, z⟩
      · exact un.keep b o e z (by intro z2; cases (show b ∈ ([] : List Addr) from z2)) (by intro z2; cases z2)
      · have after := (hok' b _ (un.frzs b ob _ z)).1
        have ahead := (hok b _ z).1
        rw [e] at ahead
        cases ahead
        exact after
  have rv := vals_ints hi
  cases hk : K.lookup a with
  | some o =>
    have e := KX a o hk
    rw [ha] at e
    cases e
    refine main (fun _ => none) (fun _ => Or.inl rfl) (Or.inr ⟨_, vs.toArray, _, hk, rfl, rfl, rfl, ?_, ?_⟩) ?_ (fun b z => absurd rfl z) (fun z => absurd rfl z)
    · rw [List.size_toArray, hi.length]
      exact hl
    · simpa using rv
    · intro b u z
      cases (show (none : Option HO) = some u from z)
  | none =>
    let H0 : Hp := fun b => if b = a then some (.frz { cls := .type "list", data := .seq vs.toArray } (.lst (ns.map V.int))) else none
    have at0 : H0 a = some (.frz { cls := .type "list", data := .seq vs.toArray } (.lst (ns.map V.int))) := if_pos rfl
    have off : ∀ b, b ≠ a → H0 b = none := fun b h => if_neg h
    refine main H0 ?_ (Or.inl (Or.inr ⟨_, at0⟩)) ?_ ?_ (fun _ => hk)
    · intro b
      by_cases h : b = a
      · subst h
        exact Or.inr ⟨_, _, at0⟩
      · exact Or.inl (off b h)
    · intro b u z
      by_cases h : b = a
      · subst h
        rw [at0] at z
        cases z
        refine ⟨ha, ?_, vs, _, rv, ha⟩
        rw [List.length_map]
        exact hl
      · rw [off b h] at z
        cases z
    · intro b z
      by_cases h : b = a
      · exact h
      · exact absurd (off b h) z
end
/-- the goal that the head leaves, by the law's promise -/
theorem walk_ofG {l : PySem.W.OpenLaw} {n k : Nat} {q : Program} {loose : List Str} {XP : (Str → Option Value) → Heap → Prop} {YP : World → Heap → Prop} {d : DefRec} {K : Params → PySem.W.Frag} {sp : World → Sp} {x : Str}
    (hn : l.most = some n) (hn2 : n ≤ sizeLine) (hdf : d.params.defaults = []) (hr : Room k callerA) (hY : ∀ (w : World) (h : Heap), YP w h → (K w.params).In h)
    (F : ∀ (w : World) (mg : Str → Option Value) (fa : Addr) (h : Heap), (K w.params).In h → h.Ns mainGlobals mg → mg d.name = some (.ref fa) →
      ∃ fd : FuncData, (∀ (s : Shared) (u : Value), BindsTo s fd ⟨[u], []⟩ [(x, u)]) ∧ ∀ base : Heap, (K w.params).In base → base.Ns mainGlobals mg → FnG l.prog w (K w.params) mg base k fa fd [x] (sp w))
    (hsp : ∀ (w : World) (H : Hp) (a : Addr) (ns : List Int), ns.length ≤ n → Only H → SqL (K w.params) H a (ns.map V.int) → sp w [.ref a] H (fun v _ => v = .bl true) fun _ _ _ => False) :
    PySem.W.WalkO q loose XP YP l.row.toRowW d [] (fun f vs => PySem.call f vs) := by
  apply Att.attach_call hn hdf
  intro w s₀ s₁ mg mb fa o pm cd doc a vs ns G Y ho hd hcd hmg hobj hints hlen hgens
  obtain ⟨fd, hb, hF⟩ := F w mg fa _ (hY w _ Y) G.T.g hmg
  exact law_callG (hY w _ Y) G.T.g G.T.b G.T.builtins G.T.nolimit hgens hobj hints (Nat.le_trans hlen hn2) hr hF hb (fun H h1 h2 => hsp w H a ns hlen h1 h2)
end My
set_option Elab.async false
set_option linter.all false
set_option maxRecDepth 100000
/-! what does not hang on the text of a law: bags of numbers, plain texts, names, places, values, data that repr shows -/
namespace My
open PySem PySem.Spec PyProof.Rows L2
/-- the law's bag of numbers -/
def Bag (H : Hp) (b : Addr) : Prop := ∃ n m : Int, H b = some (.lst [.int n, .int m]) ∧ 0 ≤ n ∧ 0 ≤ m ∧ m < 2147483648
/-- only the bag may have changed -/
def Kept (b : Addr) (H H' : Hp) : Prop := ∀ x o, x ≠ b → H x = some o → H' x = some o
/-- two ways that go on alike -/
theorem ite_via {c A B C : Prop} [Decidable c] (ha : c → C → A) (hb : ¬ c → C → B) (h : C) : if c then A else B := by
  by_cases e : c
  · rw [if_pos e]; exact ha e h
  · rw [if_neg e]; exact hb e h
theorem same_new {H : Hp} {p : Addr} {o : HO} (h : H p = none) : Same H (upd H p o) := fun b x e => by
  rw [upd_ne (ne_of_none e h)]
  exact e
theorem Bag.same {H H' : Hp} {b : Addr} (h : Bag H b) (s : Same H H') : Bag H' b := by
  obtain ⟨n, m, e, r⟩ := h
  exact ⟨n, m, s _ _ e, r⟩
theorem cut_ints (ns : List Int) (lo hi : Option Int) : ∃ ms : List Int, cutV (ns.map V.int) lo hi = ms.map V.int ∧ ms.length ≤ ns.length := by
  refine ⟨(ns.drop (HT.sIx ns.length 0 lo)).take (HT.sIx ns.length ns.length hi - HT.sIx ns.length 0 lo), ?_, ?_⟩
  · unfold cutV
    rw [List.length_map, List.map_take, List.map_drop]
  · rw [List.length_take, List.length_drop]
    omega
/-! ### names, places, values -/
abbrev letters : Str := "abcdefghijklmnopqrstuvwxyz"
/-- a text of 1 to most of these signs -/
def madeOf (cs : Str) (most : Int) (z : Str) : Bool := decide (1 ≤ z.length) && (decide ((z.length : Int) ≤ most) && z.cps.toList.all fun c => decide (c ∈ cs.cps.toList))
def ofText (f : Str → Bool) : V → Bool
  | .str z => f z
  | _ => false
/-- what is asked about: a text of no great length, or no text at all -/
def Ask (K : PySem.W.Frag) (H : Hp) (v : V) : Prop := (∃ z, v = .str z ∧ z.length ≤ 1000) ∨ ((∀ f, ofText f v = false) ∧ ∃ t, TyX K H v (.type t) ∧ kitB t "str" = some false)
theorem Ask.text {K : PySem.W.Frag} {H : Hp} {z : Str} (h : z.length ≤ 1000) : Ask K H (.str z) := .inl ⟨z, rfl, h⟩
theorem len1000 {n : Nat} (h : n ≤ 1000) : n ≤ sizeLine := Nat.le_of_lt (small1000 h)
theorem take_all_map {α β : Type} (f : α → β) (l : List α) (i : Nat) (x : α) (h : l[i]? = some x) : (l.take (i + 1)).map f = (l.take i).map f ++ [f x] := by
  rw [List.take_add_one, h, List.map_append]
  rfl
def nameS : Str → Bool := madeOf letters 8
/-- the text up to the first dot and behind it -/
def dot : Str := "."
def placeS (z : Str) : Bool := nameS (Txt.partition z dot).1 && nameS (Txt.partition z dot).2.2
abbrev valueSigns : Str := letters ++ "0123456789" ++ "-"
def valueS (z : Str) : Bool := madeOf valueSigns 12 z && !Txt.startswith z "-"
theorem part_len (z : Str) : (Txt.partition z dot).1.length ≤ z.length ∧ (Txt.partition z dot).2.2.length ≤ z.length := ⟨(fact_partition z dot).1, (fact_partition z dot).2.2⟩
def oddL (cs : Str) (l : List Nat) : List Nat := l.filter fun c => !decide (c ∈ cs.cps.toList)
theorem oddL_len (cs : Str) (l : List Nat) : (oddL cs l).length ≤ l.length := List.length_filter_le _ _
theorem oddL_nil (cs : Str) (l : List Nat) : (oddL cs l).isEmpty = l.all fun c => decide (c ∈ cs.cps.toList) := by
  unfold oddL
  induction l with
  | nil => rfl
  | cons c r ih =>
    rw [List.filter_cons, List.all_cons]
    cases h : decide (c ∈ cs.cps.toList) with
    | false => rfl
    | true => rw [Bool.true_and, ← ih]; rfl
theorem oddL_take {cs : Str} {l : List Nat} {i c : Nat} (h : l[i]? = some c) : oddL cs (l.take (i + 1)) = oddL cs (l.take i) ++ (if (!decide (c ∈ cs.cps.toList)) = true then [c] else []) := by
  unfold oddL
  rw [List.take_add_one, h, List.filter_append]
  congr 1
  show List.filter _ [c] = _
  rw [List.filter_cons, List.filter_nil]
/-! ### a place by its first dot, and by all its dots -/
theorem name_free {a : Str} (h : nameS a = true) : 46 ∉ TL.tl a := by
  unfold nameS madeOf at h
  rw [Bool.and_eq_true, Bool.and_eq_true] at h
  intro hm
  have h2 := List.all_eq_true.mp h.2.2 46 hm
  exact absurd (of_decide_eq_true h2) (by decide)
theorem name_empty : nameS Str.empty = false := by decide
theorem tl_dot : TL.tl dot = 46 :: [] := by decide
/-- by all its dots -/
def placeL : List Str → Bool
  | [a, b] => nameS a && nameS b
  | _ => false
theorem place_of (z : Str) : placeS z = placeL (Txt.split z dot) := by
  have hd : dot = (⟨#[46]⟩ : Str) := by decide
  have two : ∀ p q : Str, Str.join dot [p, q] = p ++ dot ++ q := fun p q => rfl
  by_cases hp : placeS z = true
  · have h1 := hp
    unfold placeS at h1
    rw [Bool.and_eq_true] at h1
    rcases partition_whole z dot with ⟨e, _⟩ | ⟨i, e, _⟩
    · rw [e] at h1
      exact absurd h1.2 (by rw [name_empty]; exact Bool.false_ne_true)
    · have sum := PySem.StrLaws.partition_sum z dot
      have mid : (Txt.partition z dot).2.1 = dot := by rw [e]
      rw [mid] at sum
      have back := TL.split_join (y := dot) tl_dot (by decide +kernel) (parts := [(Txt.partition z dot).1, (Txt.partition z dot).2.2]) (by simp) (fun p hm => by
        rcases List.mem_cons.mp hm with rfl | hm
        · exact name_free h1.1
        · cases List.mem_singleton.mp hm
          exact name_free h1.2)
      rw [TL.join_eq, two, sum] at back
      rw [back, hp]
      show true = (nameS _ && nameS _)
      rw [h1.1, h1.2]
      rfl
  · have hf : placeS z = false := eq_false_of_ne_true hp
    rw [hf]
    cases hs : Txt.split z dot with
    | nil => rfl
    | cons p r =>
      cases r with
      | nil => rfl
      | cons q r2 =>
        cases r2 with
        | cons _ _ => rfl
        | nil =>
          have sum := PySem.StrLaws.join_split z dot
          rw [hs, two] at sum
          have fr := PySem.StrLaws.split_free z 46
          rw [← hd, hs] at fr
          have e := TL.partition_app (y := dot) tl_dot (a := p) (b := q) (fr p (List.mem_cons_self ..))
          rw [sum] at e
          unfold placeS at hf
          rw [e] at hf
          exact hf.symm
theorem split_short (z : Str) : ∀ a ∈ Txt.split z dot, a.length ≤ z.length := fun a h => part_short h
/-! ### values: the same signs in another order -/
abbrev lawSigns : Str := "0123456789-abcdefghijklmnopqrstuvwxyz"
theorem signs_iff (c : Nat) : c ∈ lawSigns.cps.toList ↔ c ∈ valueSigns.cps.toList := by
  have h1 : ∀ x ∈ lawSigns.cps.toList, x ∈ valueSigns.cps.toList := by decide
  have h2 : ∀ x ∈ valueSigns.cps.toList, x ∈ lawSigns.cps.toList := by decide
  exact ⟨h1 c, h2 c⟩
theorem value_of (z : Str) : valueS z = ((oddL lawSigns z.cps.toList).isEmpty && ((decide ((1 : Int) ≤ (z.length : Int)) && decide ((z.length : Int) ≤ 12)) && !Txt.startswith z "-")) := by
  rw [oddL_nil]
  unfold valueS madeOf
  have e : (z.cps.toList.all fun c => decide (c ∈ lawSigns.cps.toList)) = z.cps.toList.all fun c => decide (c ∈ valueSigns.cps.toList) := by
    congr 1
    funext c
    exact decide_eq_decide.mpr (signs_iff c)
  rw [e, show decide ((1 : Int) ≤ (z.length : Int)) = decide (1 ≤ z.length) from decide_eq_decide.mpr (by omega)]
  cases decide (1 ≤ z.length) <;> cases decide ((z.length : Int) ≤ 12) <;> cases (z.cps.toList.all fun c => decide (c ∈ valueSigns.cps.toList)) <;> cases Txt.startswith z "-" <;> rfl
def dueOf (v : V) : List V := [.bl (ofText nameS v), .bl (ofText placeS v), .bl (ofText valueS v)]
/-! ### texts of at most n plain signs -/
structure Plain (n : Nat) (z : Str) : Prop where
  len : z.length ≤ n
  small : ∀ c ∈ TL.tl z, c < 128
theorem Plain.mono {n m : Nat} {z : Str} (h : Plain n z) (l : n ≤ m) : Plain m z := ⟨Nat.le_trans h.len l, h.small⟩
theorem len_tl (z : Str) : z.length = (TL.tl z).length := rfl
theorem Plain.app {n m : Nat} {a b : Str} (h : Plain n a) (g : Plain m b) : Plain (n + m) (a ++ b) := by
  have h1 := h.len
  have h2 := g.len
  refine ⟨?_, ?_⟩
  · rw [len_tl] at h1 h2 ⊢
    rw [TL.tl_append, List.length_append]
    omega
  · intro c hc
    rw [TL.tl_append] at hc
    rcases List.mem_append.mp hc with x | x
    · exact h.small c x
    · exact g.small c x
theorem Plain.cut {n : Nat} {z : Str} (h : Plain n z) (lo hi : Option Int) : Plain n (cutS z lo hi) := by
  have h1 := h.len
  constructor
  · rw [len_tl] at h1 ⊢
    show ((List.take _ (List.drop _ z.cps.toList)).toArray.toList).length ≤ n
    rw [List.length_take, List.length_drop]
    have : z.cps.toList.length = (TL.tl z).length := rfl
    omega
  · intro c hc
    have hc : c ∈ List.take (HT.sIx z.length z.length hi - HT.sIx z.length 0 lo) (List.drop (HT.sIx z.length 0 lo) z.cps.toList) := hc
    exact h.small c (List.mem_of_mem_drop (List.mem_of_mem_take hc))
theorem plain_joinL : ∀ {l : List Str}, (∀ y ∈ l, Plain 1 y) → (TL.joinL [] (l.map TL.tl)).length ≤ l.length ∧ ∀ c ∈ TL.joinL [] (l.map TL.tl), c < 128
  | [], _ => ⟨Nat.le_refl _, fun _ h => by cases h⟩
  | [y], h => ⟨(h y (by simp)).len, (h y (by simp)).small⟩
  | y :: y2 :: r, h => by
    have ih := plain_joinL (l := y2 :: r) fun z hz => h z (List.mem_cons_of_mem _ hz)
    have h1 := (h y (by simp)).len
    have h2 := (h y (by simp)).small
    show (TL.tl y ++ ([] ++ TL.joinL [] ((y2 :: r).map TL.tl))).length ≤ _ ∧ ∀ c ∈ TL.tl y ++ ([] ++ TL.joinL [] ((y2 :: r).map TL.tl)), c < 128
    rw [List.nil_append]
    constructor
    · rw [List.length_append, List.length_cons]
      have := ih.1
      rw [len_tl] at h1
      omega
    · intro c hc
      rcases List.mem_append.mp hc with x | x
      · exact h2 c x
      · exact ih.2 c x
theorem plain_join {l : List Str} (h : ∀ y ∈ l, Plain 1 y) : Plain l.length (Txt.join "" l) := by
  have e : TL.tl (Txt.join "" l) = TL.joinL [] (l.map TL.tl) := by rw [TL.join_eq, TL.tl_join]; rfl
  have q := plain_joinL h
  rw [← e] at q
  exact ⟨q.1, q.2⟩
theorem mem_joinL {S : List Nat} {c : Nat} {p : List Nat} : ∀ {ps : List (List Nat)}, p ∈ ps → c ∈ p → c ∈ TL.joinL S ps
  | [q], h, hc => by
    cases List.mem_singleton.mp h
    exact hc
  | q :: q2 :: r, h, hc => by
    show c ∈ q ++ (S ++ TL.joinL S (q2 :: r))
    rcases List.mem_cons.mp h with rfl | h
    · exact List.mem_append_left _ hc
    · exact List.mem_append_right _ (List.mem_append_right _ (mem_joinL h hc))
theorem Plain.part {n : Nat} {z a : Str} (h : Plain n z) (ha : a ∈ Txt.split z dot) : Plain n a := by
  refine ⟨Nat.le_trans (split_short z a ha) h.len, fun c hc => h.small c ?_⟩
  have e := PySem.StrLaws.join_split z dot
  rw [← e, TL.tl_join]
  exact mem_joinL (List.mem_map_of_mem ha) hc
theorem sum_len {l : List Str} (h : ∀ y ∈ l, Plain 1 y) : (l.map (·.length)).sum ≤ l.length := by
  induction l with
  | nil => exact Nat.le_refl _
  | cons y r ih =>
    have h1 := (h y (by simp)).len
    have h2 := ih fun z hz => h z (List.mem_cons_of_mem _ hz)
    rw [List.map_cons, List.sum_cons, List.length_cons]
    omega
/-! ### heaps of which the bag may have changed -/
theorem Kept.refl (b : Addr) (H : Hp) : Kept b H H := fun _ _ _ h => h
theorem Kept.trans {b : Addr} {H H1 H2 : Hp} (a : Kept b H H1) (c : Kept b H1 H2) : Kept b H H2 := fun x o h e => c x o h (a x o h e)
theorem Kept.same {b : Addr} {H H' : Hp} (h : Same H H') : Kept b H H' := fun x o _ e => h x o e
theorem Kept.new {b : Addr} {H : Hp} {p : Addr} {o : HO} (h : H p = none) : Kept b H (upd H p o) := Kept.same (same_new h)
theorem Kept.at {b : Addr} {H : Hp} {o : HO} : Kept b H (upd H b o) := fun x o h e => by
  rw [upd_ne h]
  exact e
theorem Bag.at {H : Hp} {b : Addr} {n m : Int} (n0 : 0 ≤ n) (m0 : 0 ≤ m) (m1 : m < 2147483648) : Bag (upd H b (.lst [.int n, .int m])) b := ⟨n, m, upd_same, n0, m0, m1⟩
theorem Bag.ne {H : Hp} {b p : Addr} (h : Bag H b) (hp : H p = none) : p ≠ b := by
  obtain ⟨n, m, e, _⟩ := h
  exact (ne_of_none e hp).symm
theorem Bag.new {H : Hp} {b p : Addr} {o : HO} (h : Bag H b) (hp : H p = none) : Bag (upd H p o) b := h.same (same_new hp)
theorem Kept.free {b p : Addr} {H H' : Hp} (k : Kept b H H') (hb : Bag H' b) (h : H' p = none) : H p = none := by
  have ne := hb.ne h
  cases e : H p with
  | none => rfl
  | some o =>
    rw [k p o ne e] at h
    cases h
/-- a comprehension of drawn texts of one sign -/
theorem lc_draw {n i : Nat} {te : TE} {vs : List Nat} {σ : L2.St} {H1 : Hp} {D b : Addr} {Qd : Hp → Prop} (hb : Bag H1 b) (nD : H1 D = none) (hn : n ≤ 1000) (hσ : ∀ x, wipe ((wipe σ vs).set i (some x)) vs = wipe σ vs)
    (hte : ∀ (x : V) (H3 : Hp) (Q' : V → Hp → Prop), Bag H3 b → (∀ y H4, Plain 1 y → Kept b H3 H4 → Bag H4 b → Q' (.str y) H4) → te ((wipe σ vs).set i (some x)) H3 Q')
    (hd : ∀ (ys : List Str) (H3 : Hp), ys.length = n → (∀ y ∈ ys, Plain 1 y) → Kept b H1 H3 → Bag H3 b → H3 D = some (.lst (ys.map V.str)) → Qd H3) :
    ∃ W : Nat → Nat → Hp → Prop, (∃ m, W 0 m (upd H1 D (.lst []))) ∧ ∀ j m H, W j m H →
      ((Itr 0 n).stop j H ∧ Qd H) ∨ ((Itr 0 n).go j H ∧ ∃ Nx : Hp → Prop, (∀ H', Nx H' → ∃ m', m' < m ∧ W (j + 1) m' H') ∧ ∀ x H', (Itr 0 n).yld j H x H' → gName i x (wipe σ vs) H' fun σ2 H2 => wipe σ2 vs = wipe σ vs ∧ tYes σ2 H2 fun c H3 =>
        if c = true then te σ2 H3 fun y H4 => ∃ acc, H4 D = some (.lst acc) ∧ acc.length < sizeLine ∧ Nx (upd H4 D (.lst (acc ++ [y]))) else Nx H3) := by
  refine lc_it walk_range (fun j H3 => ∃ ys : List Str, ys.length = j ∧ (∀ y ∈ ys, Plain 1 y) ∧ Kept b H1 H3 ∧ Bag H3 b ∧ H3 D = some (.lst (ys.map V.str))) ?_ (fun _ _ _ _ => trivial) ?_ ?_
  · exact ⟨[], rfl, (fun _ h => by cases h), Kept.new nD, hb.new nD, upd_same⟩
  · rintro j x H3 H4 hj ⟨ys, l, hp, k, hb3, d3⟩ ⟨rfl, rfl⟩
    refine ⟨hσ _, ?_⟩
    simp only [tYes, if_true]
    refine hte _ _ _ hb3 fun y H5 hy k5 b5 => ?_
    have nDb : D ≠ b := hb.ne nD
    have d5 := k5 D _ nDb d3
    refine ⟨_, d5, ?_, ys ++ [y], ?_, ?_, ?_, ?_, ?_⟩
    · rw [List.length_map]
      exact small1000 (by omega)
    · rw [List.length_append, l]
      rfl
    · intro z hz
      rcases List.mem_append.mp hz with x | x
      · exact hp z x
      · cases List.mem_singleton.mp x
        exact hy
    · intro x o hx e
      rw [upd_ne (ne_of_none e nD)]
      exact (k.trans k5) x o hx e
    · obtain ⟨n5, m5, e5, r5⟩ := b5
      exact ⟨n5, m5, by rw [upd_ne nDb.symm]; exact e5, r5⟩
    · rw [upd_same, List.map_append]
      rfl
  · rintro H3 ⟨ys, l, hp, k, hb3, d3⟩
    exact hd ys H3 l hp k hb3 d3
theorem plain_all {n : Nat} {cs : List Str} (h : (cs.all fun y => decide (y.length ≤ n) && y.cps.toList.all fun c => decide (c < 128)) = true) : ∀ y ∈ cs, Plain n y := fun y hy => by
  have h1 := List.all_eq_true.mp h y hy
  rw [Bool.and_eq_true] at h1
  exact ⟨of_decide_eq_true h1.1, fun c hc => of_decide_eq_true (List.all_eq_true.mp h1.2 c hc)⟩
/-! ### things that are asked about -/
/-- data that repr can show -/
structure Shows (d : PyData) : Prop where
  s : d.showable = true
  n : d.hasDict = false
  p : d.depth ≤ 8
  z : d.shown.length ≤ sizeLine
def Thing (K : PySem.W.Frag) (H : Hp) (v : V) : Prop := Ask K H v ∧ ∃ d, Dp K H v d ∧ Shows d
theorem shows_str {n : Nat} {z : Str} (h : Plain n z) (hn : n ≤ 1000) : Shows (.str z) := by
  refine ⟨rfl, rfl, Nat.zero_le _, ?_⟩
  have h1 := PySem.StrLaws.reprText_len z fun c hc => Nat.lt_trans (h.small c hc) (by decide)
  have h2 := h.len
  have h3 : (100000 : Nat) ≤ sizeLine := by decide
  show (reprText z).length ≤ sizeLine
  omega
theorem texts_show {l : List Str} (h : ∀ y ∈ l, Plain 50 y) : PyData.showableAll (l.map .str) = true ∧ PyData.hasDictAll (l.map .str) = false ∧ PyData.depthAll (l.map .str) = 0 ∧ PyData.leavesShortAll 8 (l.map .str) = true ∧ PyData.bulkAll (l.map .str) ≤ 51 * l.length := by
  induction l with
  | nil => exact ⟨rfl, rfl, rfl, rfl, Nat.le_refl _⟩
  | cons y r ih =>
    obtain ⟨h1, h2, h3, h4, h5⟩ := ih fun z hz => h z (List.mem_cons_of_mem _ hz)
    have hy := h y (by simp)
    have hl := hy.len
    refine ⟨?_, ?_, ?_, ?_, ?_⟩
    · show (true && PyData.showableAll (r.map .str)) = true
      rw [h1]; rfl
    · show (false || PyData.hasDictAll (r.map .str)) = false
      rw [h2]; rfl
    · show max 0 (PyData.depthAll (r.map .str)) = 0
      rw [h3]; rfl
    · show ((PyData.str y).leavesShort 8 && PyData.leavesShortAll 8 (r.map .str)) = true
      rw [h4, Bool.and_true]
      have : ∀ c ∈ y.cps.toList, c < 16 ^ 8 := fun c hc => Nat.lt_trans (hy.small c hc) (by decide)
      simpa only [PyData.leavesShort, List.all_eq_true, decide_eq_true_eq] using this
    · show y.cps.size + 1 + PyData.bulkAll (r.map .str) ≤ 51 * (r.length + 1)
      have : y.length = y.cps.size := rfl
      omega
theorem shows_list {l : List Str} (h : ∀ y ∈ l, Plain 50 y) (hl : l.length ≤ 1000) : Shows (.list (l.map .str)) := by
  obtain ⟨h1, h2, h3, h4, h5⟩ := texts_show h
  refine ⟨h1, h2, by show PyData.depthAll (l.map .str) + 1 ≤ 8; omega, ?_⟩
  have b := PyData.shown_le_bulk 8 (by decide) (.list (l.map .str)) h4
  have e : (PyData.list (l.map .str)).bulk = PyData.bulkAll (l.map .str) := rfl
  have h6 : (1000000 : Nat) ≤ sizeLine := by decide
  rw [e] at b
  omega
theorem shows_tuple {l : List Str} (h : ∀ y ∈ l, Plain 50 y) (hl : l.length ≤ 1000) : Shows (.tuple (l.map .str)) := by
  obtain ⟨h1, h2, h3, h4, h5⟩ := texts_show h
  refine ⟨h1, h2, by show PyData.depthAll (l.map .str) + 1 ≤ 8; omega, ?_⟩
  have b := PyData.shown_le_bulk 8 (by decide) (.tuple (l.map .str)) h4
  have e : (PyData.tuple (l.map .str)).bulk = PyData.bulkAll (l.map .str) := rfl
  have h6 : (1000000 : Nat) ≤ sizeLine := by decide
  rw [e] at b
  omega
theorem dp_strs {K : PySem.W.Frag} {H : Hp} : ∀ l : List Str, DpAll K H (l.map V.str) (l.map .str)
  | [] => .nil
  | y :: r => .cons (.str y) (dp_strs r)
section
variable {K : PySem.W.Frag} {H H' : Hp} {v : V}
mutual
theorem Dp.same (s : Same H H') : ∀ {v : V} {d : PyData}, Dp K H v d → Dp K H' v d
  | _, _, .non => .non
  | _, _, .bl b => .bl b
  | _, _, .int i => .int i
  | _, _, .str x => .str x
  | _, _, .lst h a => .lst (s.seq h) (DpAll.same s a)
  | _, _, .tup h a => .tup (by
      rcases h with (h | ⟨o, h⟩) | h
      · exact .inl (.inl (s _ _ h))
      · exact .inl (.inr ⟨o, s _ _ h⟩)
      · exact .inr h) (DpAll.same s a)
theorem DpAll.same (s : Same H H') : ∀ {vs : List V} {ds : List PyData}, DpAll K H vs ds → DpAll K H' vs ds
  | _, _, .nil => .nil
  | _, _, .cons h a => .cons (Dp.same s h) (DpAll.same s a)
end
end
/-- a kind that is told by values that stand in the heap, or by the value alone -/
inductive Kind (H : Hp) : V → String → Prop where
  | non : Kind H .non "NoneType"
  | bl (b : Bool) : Kind H (.bl b) "bool"
  | int (i : Int) : Kind H (.int i) "int"
  | lst {a : Addr} {xs : List V} (e : H a = some (.lst xs)) : Kind H (.ref a) "list"
  | tup {a : Addr} {xs : List V} (e : H a = some (.tup xs)) : Kind H (.ref a) "tuple"
theorem Kind.ask {K : PySem.W.Frag} {H : Hp} {v : V} {t : String} (k : Kind H v t) : Ask K H v := by
  cases k with
  | non => exact .inr ⟨fun _ => rfl, _, .base .non, by decide +kernel⟩
  | bl b => exact .inr ⟨fun _ => rfl, _, .base (.bl b), by decide +kernel⟩
  | int i => exact .inr ⟨fun _ => rfl, _, .base (.int i), by decide +kernel⟩
  | lst e => exact .inr ⟨fun _ => rfl, _, .base (.lst e), by decide +kernel⟩
  | tup e => exact .inr ⟨fun _ => rfl, _, .base (.tup e), by decide +kernel⟩
/-- asked about again, behind more -/
def Ask' (K : PySem.W.Frag) (H : Hp) (v : V) : Prop := (∃ z, v = .str z ∧ z.length ≤ 1000) ∨ ∃ t, Kind H v t
theorem Ask'.ask {K : PySem.W.Frag} {H : Hp} {v : V} (h : Ask' K H v) : Ask K H v := by
  rcases h with h | ⟨t, h⟩
  · exact .inl h
  · exact h.ask
theorem Ask'.same {K : PySem.W.Frag} {H H' : Hp} {v : V} (h : Ask' K H v) (s : Same H H') : Ask' K H' v := by
  rcases h with h | ⟨t, h⟩
  · exact .inl h
  · cases h with
    | non => exact .inr ⟨_, .non⟩
    | bl b => exact .inr ⟨_, .bl b⟩
    | int i => exact .inr ⟨_, .int i⟩
    | lst e => exact .inr ⟨_, .lst (s _ _ e)⟩
    | tup e => exact .inr ⟨_, .tup (s _ _ e)⟩
theorem step_new {H : Hp} {b p : Addr} {o : HO} (hb : Bag H b) (np : H p = none) : ∃ H2, upd H p o = H2 ∧ H2 p = some o ∧ Kept b H H2 ∧ Bag H2 b ∧ p ≠ b :=
  ⟨_, rfl, upd_same, Kept.new np, hb.new np, hb.ne np⟩
def Held (K : PySem.W.Frag) (p a : Addr) (xs : List V) (H : Hp) : Prop := SqL K H a xs ∧ ∀ H', Kept p H H' → SqL K H' a xs
theorem held_of {K : PySem.W.Frag} {H H1 : Hp} {p a : Addr} {xs : List V} (h : SqL K H a xs) (s : Same H H1) (np : H p = none) : ∀ H', Kept p H1 H' → SqL K H' a xs := by
  intro H' k
  rcases h with (h | ⟨o, h⟩) | h
  · exact .inl (.inl (k _ _ (ne_of_none h np) (s _ _ h)))
  · exact .inl (.inr ⟨o, k _ _ (ne_of_none h np) (s _ _ h)⟩)
  · exact .inr h
end My
set_option Elab.async false
set_option linter.all false
set_option maxRecDepth 100000
/-! files of settings: what their lines are worth, and how such a file stands in the heap -/
namespace My
open PySem PySem.Spec PyProof.Rows L2
abbrev digits : Str := "0123456789"
abbrev markS : Str := "#~"
abbrev eqS : Str := " = "
abbrev spaceS : Str := " "
def relW (z : Str) : Bool := madeOf digits 2 z && (decide (z = "0") || !Txt.startswith z "0")
def looseS (z : Str) : Bool := decide (z = "") || (Txt.startswith z "#" && !Txt.startswith z markS)
def headOf (z : Str) : Str := cutS z (some 1) (some (-1))
def headS (z : Str) : Bool := Txt.startswith z "[" && (Txt.endswith z "]" && nameS (headOf z))
def setS (z : Str) : Option (Str × Str) := if (nameS (Txt.partition z eqS).1 && valueS (Txt.partition z eqS).2.2) = true then some ((Txt.partition z eqS).1, (Txt.partition z eqS).2.2) else none
def intOf (z : Str) : Int := (PySem.intText? z).getD 0
abbrev kp1 (z : Str) := Txt.partition z spaceS
abbrev kp2 (z : Str) := Txt.partition (kp1 z).2.2 spaceS
abbrev kp3 (z : Str) := Txt.partition (kp2 z).2.2 eqS
def keptS (z : Str) : Option (Int × Str × Option Str) :=
  if (decide ((kp1 z).1 = markS) && (relW (kp2 z).1 && placeS (kp3 z).1)) = true then
    (if (kp3 z).2.1 = "" then some (intOf (kp2 z).1, (kp3 z).1, none) else if valueS (kp3 z).2.2 = true then some (intOf (kp2 z).1, (kp3 z).1, some (kp3 z).2.2) else none)
  else none
theorem int_of_rel {z : Str} (h : relW z = true) : PySem.intText? z = some (intOf z) ∧ z.length ≤ 640 := by
  unfold relW madeOf at h
  simp only [Bool.and_eq_true, decide_eq_true_eq] at h
  obtain ⟨⟨h1, h2, h3⟩, _⟩ := h
  have hall : ∀ c ∈ z.cps.toList, c ∈ digits.cps.toList := fun c hc => of_decide_eq_true (List.all_eq_true.mp h3 c hc)
  refine ⟨?_, by omega⟩
  have key : (PySem.intText? z).isSome = true := by
    obtain ⟨cps⟩ := z
    have hl : cps.toList.length = (⟨cps⟩ : Str).length := rfl
    have e : cps = cps.toList.toArray := by simp
    rw [e]
    have hall' : ∀ c ∈ cps.toList, c ∈ digits.cps.toList := hall
    generalize cps.toList = l at *
    match l, hl, hall' with
    | [], hl, _ => simp at hl; omega
    | [a], _, ha =>
      have all1 : ∀ a ∈ digits.cps.toList, (PySem.intText? ⟨[a].toArray⟩).isSome = true := by decide +kernel
      exact all1 a (ha a (by simp))
    | [a, b], _, ha =>
      have all2 : ∀ a ∈ digits.cps.toList, ∀ b ∈ digits.cps.toList, (PySem.intText? ⟨[a, b].toArray⟩).isSome = true := by decide +kernel
      exact all2 a (ha a (by simp)) b (ha b (by simp))
    | _ :: _ :: _ :: r, hl, _ => simp at hl; omega
  unfold intOf
  obtain ⟨n, hn⟩ := Option.isSome_iff_exists.mp key
  rw [hn]
  rfl
/-- what is known of the lines that were read -/
structure FS where
  headers : List Str
  settings : List (Str × Str)
  kept : List ((Int × Str) × Option Str)
  blocks : List (Str × List Str)
  loose : List Str
  deriving DecidableEq
def fs0 : FS := ⟨[], [], [], [], []⟩
/-- one line; none where the text is no file -/
def stepF (fs : FS) (z : Str) : Option FS :=
  if looseS z = true then some { fs with loose := fs.loose ++ [z] }
  else if Txt.startswith z markS = true then
    (match keptS z with
    | none => none
    | some (r, p, v) => if (r, p) ∈ fs.kept.map (·.1) then none else some { fs with kept := fs.kept ++ [((r, p), v)] })
  else if headS z = true then
    (if headOf z ∈ fs.headers then none else some { fs with headers := fs.headers ++ [headOf z], blocks := fs.blocks ++ [(headOf z, fs.loose)], loose := [] })
  else (match setS z with
    | none => none
    | some (k, v) => (match fs.headers.getLast? with
      | none => none
      | some h => if h ++ "." ++ k ∈ fs.settings.map (·.1) then none else some { fs with settings := fs.settings ++ [(h ++ "." ++ k, v)], blocks := fs.blocks ++ [(h ++ "." ++ k, fs.loose)], loose := [] }))
def runF : FS → List Str → Option FS
  | fs, [] => some fs
  | fs, z :: r => (stepF fs z).bind fun fs' => runF fs' r
theorem runF_app (fs : FS) (a b : List Str) : runF fs (a ++ b) = (runF fs a).bind fun fs' => runF fs' b := by
  induction a generalizing fs with
  | nil => rfl
  | cons z r ih =>
    show (stepF fs z).bind (fun fs' => runF fs' (r ++ b)) = ((stepF fs z).bind fun fs' => runF fs' r).bind fun fs' => runF fs' b
    cases stepF fs z with
    | none => rfl
    | some fs' => exact ih fs'
/-- names, places: no block's name is met twice -/
structure FsOk (fs : FS) : Prop where
  hn : ∀ h ∈ fs.headers, nameS h = true
  sd : ∀ p ∈ fs.settings.map (·.1), 46 ∈ TL.tl p
  bk : ∀ p ∈ fs.blocks.map (·.1), p ∈ fs.headers ∨ p ∈ fs.settings.map (·.1)
theorem fs0_ok : FsOk fs0 := ⟨by simp [fs0], by simp [fs0], by simp [fs0]⟩
theorem dot_in (h k : Str) : 46 ∈ TL.tl (h ++ "." ++ k) := by
  rw [TL.tl_append, TL.tl_append]
  exact List.mem_append_left _ (List.mem_append_right _ (by decide))
theorem FsOk.newHead {fs : FS} (o : FsOk fs) {n : Str} (hn : nameS n = true) (h : n ∉ fs.headers) : n ∉ fs.blocks.map (·.1) := fun hb => by
  rcases o.bk n hb with x | x
  · exact h x
  · exact name_free hn (o.sd n x)
theorem FsOk.newPlace {fs : FS} (o : FsOk fs) {p : Str} (hd : 46 ∈ TL.tl p) (h : p ∉ fs.settings.map (·.1)) : p ∉ fs.blocks.map (·.1) := fun hb => by
  rcases o.bk p hb with x | x
  · exact name_free (o.hn p x) hd
  · exact h x
theorem FsOk.step {fs fs' : FS} {z : Str} (o : FsOk fs) (h : stepF fs z = some fs') : FsOk fs' := by
  unfold stepF at h
  split at h
  · cases h
    exact ⟨o.hn, o.sd, o.bk⟩
  split at h
  · split at h
    · cases h
    · split at h
      · cases h
      · cases h
        exact ⟨o.hn, o.sd, o.bk⟩
  split at h
  · rename_i hh
    split at h
    · cases h
    · cases h
      have hn : nameS (headOf z) = true := by
        unfold headS at hh
        simp only [Bool.and_eq_true] at hh
        exact hh.2.2
      refine ⟨?_, o.sd, ?_⟩
      · intro x hx
        rcases List.mem_append.mp hx with x2 | x2
        · exact o.hn x x2
        · cases List.mem_singleton.mp x2
          exact hn
      · intro p hp
        rw [List.map_append] at hp
        rcases List.mem_append.mp hp with x2 | x2
        · rcases o.bk p x2 with y | y
          · exact .inl (List.mem_append_left _ y)
          · exact .inr y
        · cases List.mem_singleton.mp x2
          exact .inl (List.mem_append_right _ (List.mem_singleton.mpr rfl))
  split at h
  · cases h
  split at h
  · cases h
  split at h
  · cases h
  · cases h
    refine ⟨o.hn, ?_, ?_⟩
    · intro p hp
      rw [List.map_append] at hp
      rcases List.mem_append.mp hp with x2 | x2
      · exact o.sd p x2
      · cases List.mem_singleton.mp x2
        exact dot_in _ _
    · intro p hp
      rw [List.map_append] at hp
      rcases List.mem_append.mp hp with x2 | x2
      · rcases o.bk p x2 with y | y
        · exact .inl y
        · exact .inr (by rw [List.map_append]; exact List.mem_append_left _ y)
      · cases List.mem_singleton.mp x2
        refine .inr ?_
        rw [List.map_append]
        exact List.mem_append_right _ (List.mem_singleton.mpr rfl)
/-! ### the heap -/
def optV : Option Str → V
  | none => .non
  | some v => .str v
def flds1 (t : Str) : List (Str × V) := putF "text" (.str t) []
def flds2 (t : Str) (r : Addr) : List (Str × V) := putF "rows" (.ref r) (flds1 t)
def flds3 (t : Str) (r h : Addr) : List (Str × V) := putF "headers" (.ref h) (flds2 t r)
def flds4 (t : Str) (r h s : Addr) : List (Str × V) := putF "settings_read" (.ref s) (flds3 t r h)
def flds5 (t : Str) (r h s k : Addr) : List (Str × V) := putF "kept_read" (.ref k) (flds4 t r h s)
def flds6 (t : Str) (r h s k b : Addr) : List (Str × V) := putF "blocks" (.ref b) (flds5 t r h s k)
def flds (t : Str) (r h s k b l : Addr) : List (Str × V) := putF "loose" (.ref l) (flds6 t r h s k b)
theorem putF_same (f : Str) (u v : V) : ∀ fs : List (Str × V), putF f v (putF f u fs) = putF f v fs
  | [] => by
    show (if f = f then [(f, v)] else _) = [(f, v)]
    rw [if_pos rfl]
  | (g, x) :: r => by
    show putF f v (if g = f then (g, u) :: r else (g, x) :: putF f u r) = if g = f then (g, v) :: r else (g, x) :: putF f v r
    by_cases e : g = f
    · rw [if_pos e, if_pos e]
      show (if g = f then (g, v) :: r else _) = _
      rw [if_pos e]
    · rw [if_neg e, if_neg e]
      show (if g = f then _ else (g, x) :: putF f v (putF f u r)) = _
      rw [if_neg e, putF_same f u v r]
theorem flds_reloose (t : Str) (r h s k b l l' : Addr) : putF "loose" (.ref l') (flds t r h s k b l) = flds t r h s k b l' := putF_same _ _ _ _
theorem putF_len (f : Str) (v : V) : ∀ fs : List (Str × V), (putF f v fs).length ≤ fs.length + 1
  | [] => Nat.le_refl _
  | (g, x) :: r => by
    show (if g = f then (g, v) :: r else (g, x) :: putF f v r).length ≤ _
    split
    · simp
    · have := putF_len f v r
      simp only [List.length_cons]
      omega
theorem flds_len (t : Str) (r h s k b l : Addr) : (flds t r h s k b l).length < 1000 := by
  have h1 := putF_len "text" (.str t) []
  have h2 := putF_len "rows" (.ref r) (flds1 t)
  have h3 := putF_len "headers" (.ref h) (flds2 t r)
  have h4 := putF_len "settings_read" (.ref s) (flds3 t r h)
  have h5 := putF_len "kept_read" (.ref k) (flds4 t r h s)
  have h6 := putF_len "blocks" (.ref b) (flds5 t r h s k)
  have h7 := putF_len "loose" (.ref l) (flds6 t r h s k b)
  unfold flds
  unfold flds6 at h7 ⊢
  unfold flds5 at h6 h7 ⊢
  unfold flds4 at h5 h6 h7 ⊢
  unfold flds3 at h4 h5 h6 h7 ⊢
  unfold flds2 at h3 h4 h5 h6 h7 ⊢
  unfold flds1 at h2 h3 h4 h5 h6 h7 ⊢
  simp only [List.length_nil] at h1
  omega
section
variable (t : Str) (r h s k b l : Addr)
theorem f_loose : (flds t r h s k b l).lookup ("loose" : Str) = some (V.ref l) := by unfold flds; rw [lookup_putF, if_pos rfl]
theorem f_blocks : (flds t r h s k b l).lookup ("blocks" : Str) = some (V.ref b) := by
  unfold flds flds6
  rw [lookup_putF, if_neg (by decide +kernel), lookup_putF, if_pos rfl]
theorem f_kept : (flds t r h s k b l).lookup ("kept_read" : Str) = some (V.ref k) := by
  unfold flds flds6 flds5
  rw [lookup_putF, if_neg (by decide +kernel), lookup_putF, if_neg (by decide +kernel), lookup_putF, if_pos rfl]
theorem f_settings : (flds t r h s k b l).lookup ("settings_read" : Str) = some (V.ref s) := by
  unfold flds flds6 flds5 flds4
  rw [lookup_putF, if_neg (by decide +kernel), lookup_putF, if_neg (by decide +kernel), lookup_putF, if_neg (by decide +kernel), lookup_putF, if_pos rfl]
theorem f_headers : (flds t r h s k b l).lookup ("headers" : Str) = some (V.ref h) := by
  unfold flds flds6 flds5 flds4 flds3
  rw [lookup_putF, if_neg (by decide +kernel), lookup_putF, if_neg (by decide +kernel), lookup_putF, if_neg (by decide +kernel), lookup_putF, if_neg (by decide +kernel), lookup_putF, if_pos rfl]
theorem f_rows : (flds t r h s k b l).lookup ("rows" : Str) = some (V.ref r) := by
  unfold flds flds6 flds5 flds4 flds3 flds2
  rw [lookup_putF, if_neg (by decide +kernel), lookup_putF, if_neg (by decide +kernel), lookup_putF, if_neg (by decide +kernel), lookup_putF, if_neg (by decide +kernel), lookup_putF, if_neg (by decide +kernel), lookup_putF, if_pos rfl]
theorem f_text : (flds t r h s k b l).lookup ("text" : Str) = some (V.str t) := by
  unfold flds flds6 flds5 flds4 flds3 flds2 flds1
  rw [lookup_putF, if_neg (by decide +kernel), lookup_putF, if_neg (by decide +kernel), lookup_putF, if_neg (by decide +kernel), lookup_putF, if_neg (by decide +kernel), lookup_putF, if_neg (by decide +kernel), lookup_putF, if_neg (by decide +kernel), lookup_putF, if_pos rfl]
/-- no attribute of that name -/
theorem f_no {m : Str} (h1 : ¬ m = "loose") (h2 : ¬ m = "blocks") (h3 : ¬ m = "kept_read") (h4 : ¬ m = "settings_read") (h5 : ¬ m = "headers") (h6 : ¬ m = "rows") (h7 : ¬ m = "text") : (flds t r h s k b l).lookup m = none := by
  unfold flds flds6 flds5 flds4 flds3 flds2 flds1
  rw [lookup_putF, if_neg h1, lookup_putF, if_neg h2, lookup_putF, if_neg h3, lookup_putF, if_neg h4, lookup_putF, if_neg h5, lookup_putF, if_neg h6, lookup_putF, if_neg h7]
  rfl
end
def setKV (l : List (Str × Str)) : List (Key × V) := l.map fun p => (.inr p.1, .str p.2)
def keptKV (l : List ((Int × Str) × Option Str)) : List (List Key × V) := l.map fun p => ([.inl p.1.1, .inr p.1.2], optV p.2)
def blkKV (l : List (Str × Addr)) : List (Key × V) := l.map fun p => (.inr p.1, .ref p.2)
/-- where the parts of a file stand -/
structure Parts where
  dx : Addr
  r : Addr
  h : Addr
  s : Addr
  k : Addr
  b : Addr
  l : Addr
  bl : List (Str × Addr)
/-- a file at x, its parts at A; H0: the heap ahead of it, in which all of them are free -/
structure FileP (C : Addr) (H0 H : Hp) (x : Addr) (t : Str) (rows : List Str) (fs : FS) (A : Parts) : Prop where
  same : Same H0 H
  ob : H x = some (.ins C A.dx (flds t A.r A.h A.s A.k A.b A.l))
  er : H A.r = some (.lst (rows.map V.str))
  eh : H A.h = some (.lst (fs.headers.map V.str))
  es : H A.s = some (.dK (setKV fs.settings))
  ek : H A.k = some (.dT (keptKV fs.kept))
  eb : H A.b = some (.dK (blkKV A.bl))
  el : H A.l = some (.lst (fs.loose.map V.str))
  bs : Paired (fun (p : Str × Addr) (q : Str × List Str) => p.1 = q.1 ∧ H p.2 = some (.lst (q.2.map V.str)) ∧ p.2 ≠ A.l ∧ p.2 ≠ A.h ∧ H0 p.2 = none) A.bl fs.blocks
  rh : A.r ≠ A.h
  rl : A.r ≠ A.l
  hl : A.h ≠ A.l
  sb : A.s ≠ A.b
  n : H0 x = none ∧ H0 A.r = none ∧ H0 A.h = none ∧ H0 A.s = none ∧ H0 A.k = none ∧ H0 A.b = none ∧ H0 A.l = none
  ok : FsOk fs
def FileAt (C : Addr) (H0 H : Hp) (x : Addr) (t : Str) (rows : List Str) (fs : FS) : Prop := ∃ A, FileP C H0 H x t rows fs A
/-- what is free in H0 stands as it stood -/
def Kept0 (H0 H H' : Hp) : Prop := ∀ c o, H0 c = none → H c = some o → H' c = some o
theorem FileP.keep {C : Addr} {H0 H H' : Hp} {x : Addr} {t : Str} {rows : List Str} {fs : FS} {A : Parts} (f : FileP C H0 H x t rows fs A) (s : Same H0 H') (k : Kept0 H0 H H') : FileP C H0 H' x t rows fs A := by
  obtain ⟨n1, n2, n3, n4, n5, n6, n7⟩ := f.n
  exact ⟨s, k _ _ n1 f.ob, k _ _ n2 f.er, k _ _ n3 f.eh, k _ _ n4 f.es, k _ _ n5 f.ek, k _ _ n6 f.eb, k _ _ n7 f.el, Paired.mapP f.bs fun p q z => ⟨z.1, k _ _ z.2.2.2.2 z.2.1, z.2.2⟩, f.rh, f.rl, f.hl, f.sb, f.n, f.ok⟩
theorem FileP.more {C : Addr} {H0 H H' : Hp} {x : Addr} {t : Str} {rows : List Str} {fs : FS} {A : Parts} (f : FileP C H0 H x t rows fs A) (s : Same H H') : FileP C H0 H' x t rows fs A :=
  f.keep (f.same.trans s) fun c o _ e => s c o e
end My
set_option Elab.async false
set_option linter.all false
set_option maxRecDepth 100000
/-! how a file that stands in the heap changes, line by line -/
namespace My
open PySem PySem.Spec PyProof.Rows L2
section
variable {C : Addr} {H0 H : Hp} {x : Addr} {t : Str} {rows : List Str} {fs : FS} {A : Parts}
theorem FileP.weaken {H1 : Hp} (f : FileP C H0 H x t rows fs A) (s : Same H1 H0) : FileP C H1 H x t rows fs A := by
  obtain ⟨n1, n2, n3, n4, n5, n6, n7⟩ := f.n
  exact ⟨s.trans f.same, f.ob, f.er, f.eh, f.es, f.ek, f.eb, f.el, Paired.mapP f.bs fun p q z => ⟨z.1, z.2.1, z.2.2.1, z.2.2.2.1, s.free z.2.2.2.2⟩, f.rh, f.rl, f.hl, f.sb, ⟨s.free n1, s.free n2, s.free n3, s.free n4, s.free n5, s.free n6, s.free n7⟩, f.ok⟩
theorem upd_off {c : Addr} {o : HO} (n : H0 c = none) (s : Same H0 H) : Same H0 (upd H c o) := fun b u e => by
  rw [upd_ne (ne_of_none e n)]
  exact s b u e
theorem FileP.bAddr (f : FileP C H0 H x t rows fs A) : ∀ p ∈ A.bl, ∃ u, H p.2 = some (.lst u) ∧ p.2 ≠ A.l ∧ p.2 ≠ A.h := by
  have key : ∀ {l : List (Str × Addr)} {m : List (Str × List Str)}, Paired (fun (p : Str × Addr) (q : Str × List Str) => p.1 = q.1 ∧ H p.2 = some (.lst (q.2.map V.str)) ∧ p.2 ≠ A.l ∧ p.2 ≠ A.h ∧ H0 p.2 = none) l m → ∀ p ∈ l, ∃ u, H p.2 = some (.lst u) ∧ p.2 ≠ A.l ∧ p.2 ≠ A.h := by
    intro l m q
    induction q with
    | nil => intro p hp; cases hp
    | cons h _ ih =>
      intro p hp
      rcases List.mem_cons.mp hp with rfl | hp
      · exact ⟨_, h.2.1, h.2.2.1, h.2.2.2.1⟩
      · exact ih p hp
  exact key f.bs
/-- a change at c, which is none of the other parts -/
theorem FileP.at {c : Addr} {o : HO} (f : FileP C H0 H x t rows fs A) (nc : H0 c = none) (hx : x ≠ c) (hr : A.r ≠ c) (hh : A.h ≠ c) (hs : A.s ≠ c) (hk : A.k ≠ c) (hb : A.b ≠ c) (hl : A.l ≠ c) (hB : ∀ p ∈ A.bl, p.2 ≠ c) : FileP C H0 (upd H c o) x t rows fs A := by
  refine ⟨upd_off nc f.same, by rw [upd_ne hx]; exact f.ob, by rw [upd_ne hr]; exact f.er, by rw [upd_ne hh]; exact f.eh, by rw [upd_ne hs]; exact f.es, by rw [upd_ne hk]; exact f.ek, by rw [upd_ne hb]; exact f.eb, by rw [upd_ne hl]; exact f.el, ?_, f.rh, f.rl, f.hl, f.sb, f.n, f.ok⟩
  have key : ∀ {l : List (Str × Addr)} {m : List (Str × List Str)}, (∀ p ∈ l, p.2 ≠ c) → Paired (fun (p : Str × Addr) (q : Str × List Str) => p.1 = q.1 ∧ H p.2 = some (.lst (q.2.map V.str)) ∧ p.2 ≠ A.l ∧ p.2 ≠ A.h ∧ H0 p.2 = none) l m →
      Paired (fun (p : Str × Addr) (q : Str × List Str) => p.1 = q.1 ∧ (upd H c o) p.2 = some (.lst (q.2.map V.str)) ∧ p.2 ≠ A.l ∧ p.2 ≠ A.h ∧ H0 p.2 = none) l m := by
    intro l m hn q
    induction q with
    | nil => exact .nil
    | cons h _ ih =>
      refine .cons ⟨h.1, ?_, h.2.2⟩ (ih fun p hp => hn p (List.mem_cons_of_mem _ hp))
      rw [upd_ne (hn _ (List.mem_cons_self ..))]
      exact h.2.1
  exact key hB f.bs
/-- the same blocks, seen at a changed heap -/
theorem FileP.bsAt {c : Addr} {o : HO} (f : FileP C H0 H x t rows fs A) (hB : ∀ p ∈ A.bl, p.2 ≠ c) : Paired (fun (p : Str × Addr) (q : Str × List Str) => p.1 = q.1 ∧ (upd H c o) p.2 = some (.lst (q.2.map V.str)) ∧ p.2 ≠ A.l ∧ p.2 ≠ A.h ∧ H0 p.2 = none) A.bl fs.blocks := by
  have key : ∀ {l : List (Str × Addr)} {m : List (Str × List Str)}, (∀ p ∈ l, p.2 ≠ c) → Paired (fun (p : Str × Addr) (q : Str × List Str) => p.1 = q.1 ∧ H p.2 = some (.lst (q.2.map V.str)) ∧ p.2 ≠ A.l ∧ p.2 ≠ A.h ∧ H0 p.2 = none) l m →
      Paired (fun (p : Str × Addr) (q : Str × List Str) => p.1 = q.1 ∧ (upd H c o) p.2 = some (.lst (q.2.map V.str)) ∧ p.2 ≠ A.l ∧ p.2 ≠ A.h ∧ H0 p.2 = none) l m := by
    intro l m hn q
    induction q with
    | nil => exact .nil
    | cons h _ ih =>
      refine .cons ⟨h.1, ?_, h.2.2⟩ (ih fun p hp => hn p (List.mem_cons_of_mem _ hp))
      rw [upd_ne (hn _ (List.mem_cons_self ..))]
      exact h.2.1
  exact key hB f.bs
theorem lstNe {a b : Addr} {u : List V} {o : HO} (ha : H a = some (.lst u)) (hb : H b = some o) (h : ∀ v, o ≠ .lst v) : a ≠ b := fun e => by
  subst e
  rw [ha] at hb
  cases hb
  exact h u rfl
theorem FileP.addLoose (f : FileP C H0 H x t rows fs A) (z : Str) : FileP C H0 (upd H A.l (.lst ((fs.loose ++ [z]).map V.str))) x t rows { fs with loose := fs.loose ++ [z] } A := by
  obtain ⟨n1, n2, n3, n4, n5, n6, n7⟩ := f.n
  have hx : x ≠ A.l := (lstNe f.el f.ob (fun _ h => nomatch h)).symm
  have hs : A.s ≠ A.l := (lstNe f.el f.es (fun _ h => nomatch h)).symm
  have hk : A.k ≠ A.l := (lstNe f.el f.ek (fun _ h => nomatch h)).symm
  have hb : A.b ≠ A.l := (lstNe f.el f.eb (fun _ h => nomatch h)).symm
  have hB : ∀ p ∈ A.bl, p.2 ≠ A.l := fun p hp => let ⟨_, _, h, _⟩ := f.bAddr p hp; h
  exact ⟨upd_off n7 f.same, by rw [upd_ne hx]; exact f.ob, by rw [upd_ne f.rl]; exact f.er, by rw [upd_ne f.hl]; exact f.eh, by rw [upd_ne hs]; exact f.es, by rw [upd_ne hk]; exact f.ek, by rw [upd_ne hb]; exact f.eb, upd_same, f.bsAt hB, f.rh, f.rl, f.hl, f.sb, f.n, ⟨f.ok.hn, f.ok.sd, f.ok.bk⟩⟩
theorem FileP.addHead (f : FileP C H0 H x t rows fs A) {n : Str} (hn : nameS n = true) : FileP C H0 (upd H A.h (.lst ((fs.headers ++ [n]).map V.str))) x t rows { fs with headers := fs.headers ++ [n] } A := by
  obtain ⟨n1, n2, n3, n4, n5, n6, n7⟩ := f.n
  have hx : x ≠ A.h := (lstNe f.eh f.ob (fun _ h => nomatch h)).symm
  have hs : A.s ≠ A.h := (lstNe f.eh f.es (fun _ h => nomatch h)).symm
  have hk : A.k ≠ A.h := (lstNe f.eh f.ek (fun _ h => nomatch h)).symm
  have hb : A.b ≠ A.h := (lstNe f.eh f.eb (fun _ h => nomatch h)).symm
  have hB : ∀ p ∈ A.bl, p.2 ≠ A.h := fun p hp => let ⟨_, _, _, h⟩ := f.bAddr p hp; h
  refine ⟨upd_off n3 f.same, by rw [upd_ne hx]; exact f.ob, by rw [upd_ne f.rh]; exact f.er, upd_same, by rw [upd_ne hs]; exact f.es, by rw [upd_ne hk]; exact f.ek, by rw [upd_ne hb]; exact f.eb, by rw [upd_ne f.hl.symm]; exact f.el, f.bsAt hB, f.rh, f.rl, f.hl, f.sb, f.n, ⟨?_, f.ok.sd, ?_⟩⟩
  · intro y hy
    rcases List.mem_append.mp hy with q | q
    · exact f.ok.hn y q
    · cases List.mem_singleton.mp q
      exact hn
  · intro p hp
    rcases f.ok.bk p hp with q | q
    · exact .inl (List.mem_append_left _ q)
    · exact .inr q
theorem FileP.addSet (f : FileP C H0 H x t rows fs A) {p v : Str} (hd : 46 ∈ TL.tl p) : FileP C H0 (upd H A.s (.dK (setKV (fs.settings ++ [(p, v)])))) x t rows { fs with settings := fs.settings ++ [(p, v)] } A := by
  obtain ⟨n1, n2, n3, n4, n5, n6, n7⟩ := f.n
  have hx : x ≠ A.s := ne_of f.ob f.es (fun h => nomatch h)
  have hr : A.r ≠ A.s := lstNe f.er f.es (fun _ h => nomatch h)
  have hh : A.h ≠ A.s := lstNe f.eh f.es (fun _ h => nomatch h)
  have hk : A.k ≠ A.s := ne_of f.ek f.es (fun h => nomatch h)
  have hl : A.l ≠ A.s := lstNe f.el f.es (fun _ h => nomatch h)
  have hB : ∀ p ∈ A.bl, p.2 ≠ A.s := fun p hp => let ⟨_, h, _⟩ := f.bAddr p hp; lstNe h f.es (fun _ h => nomatch h)
  refine ⟨upd_off n4 f.same, by rw [upd_ne hx]; exact f.ob, by rw [upd_ne hr]; exact f.er, by rw [upd_ne hh]; exact f.eh, upd_same, by rw [upd_ne hk]; exact f.ek, by rw [upd_ne f.sb.symm]; exact f.eb, by rw [upd_ne hl]; exact f.el, f.bsAt hB, f.rh, f.rl, f.hl, f.sb, f.n, ⟨f.ok.hn, ?_, ?_⟩⟩
  · intro y hy
    rw [List.map_append] at hy
    rcases List.mem_append.mp hy with q | q
    · exact f.ok.sd y q
    · cases List.mem_singleton.mp q
      exact hd
  · intro y hy
    rcases f.ok.bk y hy with q | q
    · exact .inl q
    · exact .inr (by rw [List.map_append]; exact List.mem_append_left _ q)
theorem FileP.addKept (f : FileP C H0 H x t rows fs A) (e : (Int × Str) × Option Str) : FileP C H0 (upd H A.k (.dT (keptKV (fs.kept ++ [e])))) x t rows { fs with kept := fs.kept ++ [e] } A := by
  obtain ⟨n1, n2, n3, n4, n5, n6, n7⟩ := f.n
  have hx : x ≠ A.k := ne_of f.ob f.ek (fun h => nomatch h)
  have hr : A.r ≠ A.k := lstNe f.er f.ek (fun _ h => nomatch h)
  have hh : A.h ≠ A.k := lstNe f.eh f.ek (fun _ h => nomatch h)
  have hs : A.s ≠ A.k := ne_of f.es f.ek (fun h => nomatch h)
  have hb : A.b ≠ A.k := ne_of f.eb f.ek (fun h => nomatch h)
  have hl : A.l ≠ A.k := lstNe f.el f.ek (fun _ h => nomatch h)
  have hB : ∀ p ∈ A.bl, p.2 ≠ A.k := fun p hp => let ⟨_, h, _⟩ := f.bAddr p hp; lstNe h f.ek (fun _ h => nomatch h)
  exact ⟨upd_off n5 f.same, by rw [upd_ne hx]; exact f.ob, by rw [upd_ne hr]; exact f.er, by rw [upd_ne hh]; exact f.eh, by rw [upd_ne hs]; exact f.es, upd_same, by rw [upd_ne hb]; exact f.eb, by rw [upd_ne hl]; exact f.el, f.bsAt hB, f.rh, f.rl, f.hl, f.sb, f.n, ⟨f.ok.hn, f.ok.sd, f.ok.bk⟩⟩
theorem paired_snoc {α β : Type} {F : α → β → Prop} : ∀ {l : List α} {m : List β} {a : α} {b : β}, Paired F l m → F a b → Paired F (l ++ [a]) (m ++ [b])
  | _, _, _, _, .nil, h => .cons h .nil
  | _, _, _, _, .cons h r, g => .cons h (paired_snoc r g)
/-- the block is closed: the dict takes the loose list, a new one stands in its place -/
theorem FileP.close (f : FileP C H0 H x t rows fs A) {y : Str} {l' : Addr} (nl : (upd H A.b (.dK (blkKV (A.bl ++ [(y, A.l)])))) l' = none) (hy : y ∈ fs.headers ∨ y ∈ fs.settings.map (·.1)) :
    FileP C H0 (upd (upd (upd H A.b (.dK (blkKV (A.bl ++ [(y, A.l)])))) l' (.lst [])) x (.ins C A.dx (flds t A.r A.h A.s A.k A.b l'))) x t rows { fs with blocks := fs.blocks ++ [(y, fs.loose)], loose := [] } { A with l := l', bl := A.bl ++ [(y, A.l)] } := by
  obtain ⟨n1, n2, n3, n4, n5, n6, n7⟩ := f.n
  have bx : x ≠ A.b := ne_of f.ob f.eb (fun h => nomatch h)
  have br : A.r ≠ A.b := lstNe f.er f.eb (fun _ h => nomatch h)
  have bh : A.h ≠ A.b := lstNe f.eh f.eb (fun _ h => nomatch h)
  have bk : A.k ≠ A.b := ne_of f.ek f.eb (fun h => nomatch h)
  have bl : A.l ≠ A.b := lstNe f.el f.eb (fun _ h => nomatch h)
  have at1 : ∀ {c : Addr} {o : HO}, H c = some o → c ≠ A.b → (upd H A.b (.dK (blkKV (A.bl ++ [(y, A.l)])))) c = some o := fun e h => by rw [upd_ne h]; exact e
  have off : ∀ {c : Addr} {o : HO}, H c = some o → c ≠ A.b → c ≠ l' := fun e h => ne_of_none (at1 e h) nl
  have lb : A.b ≠ l' := ne_of_none upd_same nl
  have xl : x ≠ l' := off f.ob bx
  have all : ∀ {c : Addr} {o : HO}, H c = some o → c ≠ A.b → c ≠ x → (upd (upd (upd H A.b (.dK (blkKV (A.bl ++ [(y, A.l)])))) l' (.lst [])) x (.ins C A.dx (flds t A.r A.h A.s A.k A.b l'))) c = some o := fun e h hx => by
    rw [upd_ne hx, upd_ne (off e h)]
    exact at1 e h
  have xr : A.r ≠ x := lstNe f.er f.ob (fun _ h => nomatch h)
  have xh : A.h ≠ x := lstNe f.eh f.ob (fun _ h => nomatch h)
  have xs : A.s ≠ x := ne_of f.es f.ob (fun h => nomatch h)
  have xk : A.k ≠ x := ne_of f.ek f.ob (fun h => nomatch h)
  have xA : A.l ≠ x := lstNe f.el f.ob (fun _ h => nomatch h)
  have fl : H0 l' = none := by
    have s2 : Same H0 (upd H A.b (.dK (blkKV (A.bl ++ [(y, A.l)])))) := upd_off n6 f.same
    exact s2.free nl
  refine ⟨upd_off n1 (upd_off fl (upd_off n6 f.same)), upd_same, all f.er br xr, all f.eh bh xh, all f.es f.sb xs, all f.ek bk xk, ?_, ?_, ?_, f.rh, off f.er br, off f.eh bh, f.sb, ⟨n1, n2, n3, n4, n5, n6, fl⟩, ⟨f.ok.hn, f.ok.sd, ?_⟩⟩
  · show (upd (upd (upd H A.b _) l' _) x _) A.b = _
    rw [upd_ne bx.symm, upd_ne lb]
    exact upd_same
  · show (upd (upd (upd H A.b _) l' _) x _) l' = _
    rw [upd_ne xl.symm]
    exact upd_same
  · refine paired_snoc ?_ ⟨rfl, all f.el bl xA, off f.el bl, f.hl.symm, n7⟩
    have key : ∀ {l : List (Str × Addr)} {m : List (Str × List Str)}, Paired (fun (p : Str × Addr) (q : Str × List Str) => p.1 = q.1 ∧ H p.2 = some (.lst (q.2.map V.str)) ∧ p.2 ≠ A.l ∧ p.2 ≠ A.h ∧ H0 p.2 = none) l m →
        Paired (fun (p : Str × Addr) (q : Str × List Str) => p.1 = q.1 ∧ (upd (upd (upd H A.b (.dK (blkKV (A.bl ++ [(y, A.l)])))) l' (.lst [])) x (.ins C A.dx (flds t A.r A.h A.s A.k A.b l'))) p.2 = some (.lst (q.2.map V.str)) ∧ p.2 ≠ l' ∧ p.2 ≠ A.h ∧ H0 p.2 = none) l m := by
      intro l m q
      induction q with
      | nil => exact .nil
      | cons h _ ih =>
        have hb := lstNe h.2.1 f.eb (fun _ h => nomatch h)
        exact .cons ⟨h.1, all h.2.1 hb (lstNe h.2.1 f.ob (fun _ h => nomatch h)), off h.2.1 hb, h.2.2.2.1, h.2.2.2.2⟩ ih
    exact key f.bs
  · intro p hp
    rw [List.map_append] at hp
    rcases List.mem_append.mp hp with q | q
    · exact f.ok.bk p q
    · cases List.mem_singleton.mp q
      exact hy
end
/-! ### keys that are not there -/
theorem val_blk {l : List (Str × Addr)} {y : Str} (h : y ∉ l.map (·.1)) : valV (blkKV l) (Sum.inr y : Key) = none := by
  induction l with
  | nil => rfl
  | cons p r ih =>
    have h1 : ¬ p.1 = y := fun e => h (by simp [e])
    have h2 : y ∉ r.map (·.1) := fun e => h (List.mem_cons_of_mem _ e)
    show valV ((Sum.inr p.1, V.ref p.2) :: blkKV r) (Sum.inr y : Key) = none
    rw [valV_neg (fun e => h1 (Sum.inr.inj e))]
    exact ih h2
theorem val_set {l : List (Str × Str)} {y : Str} (h : y ∉ l.map (·.1)) : valV (setKV l) (Sum.inr y : Key) = none := by
  induction l with
  | nil => rfl
  | cons p r ih =>
    have h1 : ¬ p.1 = y := fun e => h (by simp [e])
    have h2 : y ∉ r.map (·.1) := fun e => h (List.mem_cons_of_mem _ e)
    show valV ((Sum.inr p.1, V.str p.2) :: setKV r) (Sum.inr y : Key) = none
    rw [valV_neg (fun e => h1 (Sum.inr.inj e))]
    exact ih h2
theorem val_kept {l : List ((Int × Str) × Option Str)} {e : Int × Str} (h : e ∉ l.map (·.1)) : valV (keptKV l) ([Sum.inl e.1, Sum.inr e.2] : List Key) = none := by
  induction l with
  | nil => rfl
  | cons p r ih =>
    have h1 : ¬ p.1 = e := fun z => h (by simp [z])
    have h2 : e ∉ r.map (·.1) := fun z => h (List.mem_cons_of_mem _ z)
    show valV (([Sum.inl p.1.1, Sum.inr p.1.2], optV p.2) :: keptKV r) ([Sum.inl e.1, Sum.inr e.2] : List Key) = none
    rw [valV_neg ?_]
    · exact ih h2
    · intro z
      injection z with z1 z2
      injection z2 with z2 _
      exact h1 (Prod.ext (Sum.inl.inj z1) (Sum.inr.inj z2))
/-- the names of the blocks, as they stand in the dict -/
theorem blk_names {P : Str × Addr → Str × List Str → Prop} (hP : ∀ p q, P p q → p.1 = q.1) : ∀ {l : List (Str × Addr)} {m : List (Str × List Str)}, Paired P l m → l.map (·.1) = m.map (·.1)
  | _, _, .nil => rfl
  | _, _, .cons h r => by
    rw [List.map_cons, List.map_cons, hP _ _ h, blk_names hP r]
theorem in_strs (x : Str) (l : List Str) : inV (.str x) (l.map V.str) = decide (x ∈ l) := by
  unfold inV
  induction l with
  | nil => rfl
  | cons y r ih =>
    rw [List.map_cons, List.any_cons, ih]
    by_cases e : y = x
    · subst e
      rw [show eqV (.str y) (.str y) = true by simp [eqV]]
      simp
    · rw [show eqV (.str y) (.str x) = false by simp [eqV, e]]
      simp [Ne.symm e]
end My
set_option Elab.async false
set_option linter.all false
set_option maxRecDepth 100000
/-! own __contains__, __len__, __str__ read by in, not in, len, str -/
namespace My
open PySem PySem.Spec PyProof.Rows L2
section
variable {X : Cx} {k : Nat} {f C : Addr} {fd : FuncData} {ps : List Str} {sp : Sp}
/-- the def at f is called with these values, one C call deeper or not -/
theorem run_own {pins : List (Addr × Obj)} {σ : L2.St} {H : Hp} {s : Shared} {us : List Value} {vs : List V} {Q : VK} {A : Around} (F : FnOk X.prog X.w X.K X.mg X.base CX0 k f fd ps sp) (hr : Room k A) (en : Env0 X.prog X.w X.K X.mg X.base A X.stack s H) (hb : Binds X.K fd ps [])
    (I : Inv X pins σ H s) (r : Vals vs us) (h : sp vs H Q E0) {R : Value → Shared → Prop} (hR : ∀ u s', EP X pins σ Q u s' → R u s') : wpAny (model X.prog X.w) A (call (.ref f) us) R X.xe s := by
  have r2 : Vals (vs ++ []) (us ++ []) := r.append .nil
  have h2 : sp (vs ++ []) H Q E0 := by rw [List.append_nil]; exact h
  have hl : (us ++ []).length = ps.length := by rw [← r2.length]; exact F.len _ _ _ _ h2
  have go := F.run A X.stack s H ⟨us, []⟩ (us ++ []) (vs ++ []) Q E0 hr en (hb s us I.kIn hl) r2 h2
  refine wpAny_call (codeAny_mono go fun r s' hq => ?_)
  match r, hq with
  | .error _, hq => exact False.elim hq
  | .ok (.ret u), hq => exact hR u s' (I.after hq)
  | .ok .next, hq => exact False.elim hq
  | .ok .brk, hq => exact False.elim hq
  | .ok .cont, hq => exact False.elim hq
theorem inst_of {pins : List (Addr × Obj)} {σ : L2.St} {H : Hp} {s : Shared} {a dx : Addr} {fs : List (Str × V)} (I : Inv X pins σ H s) (e : H a = some (.ins C dx fs)) : ∃ od, PySem.W.InstAt s.heap a (PySem.W.instObj C dx) C (some od) := by
  obtain ⟨mA, O, _⟩ := ins_get I.hok e
  obtain ⟨od, J, _⟩ := O.look
  exact ⟨od, J⟩
/-- x in o, o an instance whose class tells it -/
def rInOwn (C : Addr) (sp : Sp) (neg : Bool) : R2 := fun x y H Q => ∃ a dx fs, y = .ref a ∧ H a = some (.ins C dx fs) ∧ sp [.ref a, x] H (fun v H' => ∃ b, v = .bl b ∧ Q (.bl (if neg then !b else b)) H') E0
theorem op_inOwn (m : Meth X.K C "__contains__" f) (F : FnOk X.prog X.w X.K X.mg X.base CX0 k f fd ps sp) (hr : Room k X.A) (hb : Binds X.K fd ps []) : OpR X (compareOp .In) (rInOwn C sp false) := by
  intro pins s σ H x y v u Q I rx ry h
  obtain ⟨a, dx, fs, rfl, ea, hsp⟩ := h
  cases (show u = Value.ref a from ry)
  obtain ⟨od, J⟩ := inst_of I ea
  obtain ⟨mm, Fm⟩ := I.fr
  refine PySem.W.in_K Fm I.mod.kin J m.at_ m.fn (run_own F hr I.env0 hb I (vs := [.ref a, x]) (.cons rfl (.cons rx .nil)) hsp fun u s' hu => ?_)
  obtain ⟨z, H', I', rz, b, rfl, q⟩ := hu
  cases (show u = Value.bool b from rz)
  exact wpAny_truthy_bool ⟨.bl b, H', I', rfl, q⟩
theorem op_notInOwn (m : Meth X.K C "__contains__" f) (F : FnOk X.prog X.w X.K X.mg X.base CX0 k f fd ps sp) (hr : Room k X.A) (hb : Binds X.K fd ps []) : OpR X (compareOp .NotIn) (rInOwn C sp true) := by
  intro pins s σ H x y v u Q I rx ry h
  obtain ⟨a, dx, fs, rfl, ea, hsp⟩ := h
  cases (show u = Value.ref a from ry)
  obtain ⟨od, J⟩ := inst_of I ea
  obtain ⟨mm, Fm⟩ := I.fr
  refine PySem.W.notIn_K Fm I.mod.kin J m.at_ m.fn (run_own F hr I.env0 hb I (vs := [.ref a, x]) (.cons rfl (.cons rx .nil)) hsp fun u s' hu => ?_)
  obtain ⟨z, H', I', rz, b, rfl, q⟩ := hu
  cases (show u = Value.bool b from rz)
  exact wpAny_truthy_bool ⟨.bl (!b), H', I', rfl, q⟩
/-- len(o) -/
theorem call_lenOwn (m : Meth X.K C "__len__" f) (F : FnOk X.prog X.w X.K X.mg X.base CX0 k f fd ps sp) (hr : Room (k + 1) X.A) (hb : Binds X.K fd ps []) :
    CallR X (.builtin "len") (fun xs H Q => ∃ a dx fs, xs = [.ref a] ∧ H a = some (.ins C dx fs) ∧ sp [.ref a] H (fun v H' => ∃ n : Int, v = .int n ∧ 0 ≤ n ∧ n ≤ 1000000 ∧ Q (.int n) H') E0) := by
  intro pins s σ H xs us Q I r h
  obtain ⟨a, dx, fs, rfl, ea, hsp⟩ := h
  obtain ⟨u, rfl, ru⟩ := vals1 r
  cases (show u = Value.ref a from ru)
  obtain ⟨od, J⟩ := inst_of I ea
  obtain ⟨mm, Fm⟩ := I.fr
  refine PySem.W.len_K Fm I.mod.kin J m.at_ m.fn (run_own F hr.in1 I.env0.in1 hb I (vs := [.ref a]) (.cons rfl .nil) hsp fun u s' hu => ?_)
  obtain ⟨z, H', I', rz, n, rfl, n0, n1, q⟩ := hu
  obtain ⟨t, rfl⟩ := (show ∃ t, u = Value.int n t from rz)
  exact ⟨⟨by omega, by omega⟩, ⟨.int n, H', I'.tok _, ⟨_, rfl⟩, q⟩⟩
/-- str(o) -/
theorem call_strOwn (m : Meth X.K C "__str__" f) (F : FnOk X.prog X.w X.K X.mg X.base CX0 k f fd ps sp) (hr : Room (k + 2) X.A) (hb : Binds X.K fd ps []) :
    CallR X (.type "str") (fun xs H Q => ∃ a dx fs, xs = [.ref a] ∧ H a = some (.ins C dx fs) ∧ sp [.ref a] H (fun v H' => ∃ z : Str, v = .str z ∧ Q (.str z) H') E0) := by
  intro pins s σ H xs us Q I r h
  obtain ⟨a, dx, fs, rfl, ea, hsp⟩ := h
  obtain ⟨u, rfl, ru⟩ := vals1 r
  cases (show u = Value.ref a from ru)
  obtain ⟨od, J⟩ := inst_of I ea
  refine PySem.W.kso_call (by have := hr.un; show X.A.units + 1 + 1 < cLine; omega) I.kIn J m.at_ m.fn (run_own F hr.in1.in1 I.env0.in1.in1 hb I (vs := [.ref a]) (.cons rfl .nil) hsp fun u s' hu => ?_)
  obtain ⟨z, H', I', rz, y, rfl, q⟩ := hu
  obtain ⟨t, rfl⟩ := (show ∃ t, u = Value.str y t from rz)
  exact ⟨.str y, H', I', ⟨_, rfl⟩, q⟩
end
end My
set_option Elab.async false
set_option linter.all false
set_option maxRecDepth 100000
set_option maxHeartbeats 1000000
/-! for inside a generator -/
namespace My
open PySem PySem.Spec PyProof.Rows L2 GenW
section
variable {M : Model} {A : Around} {R : GenEnd} {Y : Protocol} {n : Nat} {s₀ : Shared} {c : Code} {fs : List Frame} {s : Shared} {env : Env}
  {K : Flow → Sem PySem.Fin} {J : Value → Sem PySem.Fin} {gd : Bool → Bool} {lv : List Value → List Value}
theorem seg_For {target iter : Expr} {body orelse : List Stmt} {pos : Pos} (hs : ∀ x, foldedSetIterable iter env x = pure x)
    (h : wpAny M (A.over c fs) (eval iter env) (fun x s1 => wpAny M (A.over c fs) (pyIter x) (fun it s2 => ∀ p, Seg M A R Y n s₀ (.forLoop target it body orelse env) (M.den (.forLoop target it body orelse env))
      (.ret (fun r => ((match r with | .ok f => (.pure f : Sem Flow) | .error e => .raise e).onRaise (cameBack env)).wrap K J gd lv) none (gd false) (lv []) c p [] :: fs) s2)
      (fun x s' => Seg M A R Y n s₀ c (J x) fs s') s1) (fun x s' => Seg M A R Y n s₀ c (J x) fs s') s) :
    Seg M A R Y n s₀ c ((exec (.For target iter body orelse pos) env).wrap K J gd lv) fs s := by
  rw [exec_For]
  refine seg_bind_wrap (wpAny_standAt ?_)
  refine seg_bind_wrap (wpAny_mono h (fun x s1 h1 => ?_) fun _ _ h' => h')
  refine seg_bind_wrap (wpAny_of_eq (hs x) ?_)
  refine seg_bind_wrap (wpAny_standAt ?_)
  refine seg_bind_wrap (wpAny_holding (wpAny_mono h1 (fun it s2 h2 => ?_) fun _ _ h' => h'))
  exact seg_call h2
end
section
variable {prog : Program} {w : World} {A : Around} {R : GenEnd} {Y : Protocol} {n : Nat} {s₀ : Shared} {fs : List Frame} {s : Shared} {env : Env}
/-- what a loop's code does with an exception -/
abbrev noted (env : Env) (x : Value) : Sem PySem.Fin := (do noteFrame x env; theTreesLotGoes x : Sem Unit).wrap (fun _ => .raise x) .raise id id
theorem noted_eq (x : Value) : ((do noteFrame x env; theTreesLotGoes x : Sem Unit).bind fun _ => (.raise x : Sem PySem.Fin)) = noted env x := by
  first | exact Sem.bind_eq_wrap _ _ | rw [Sem.bind_eq_wrap]
theorem seg_forLoop {target : Expr} {it : Value} {body orelse : List Stmt}
    (h : wpAny (model prog w) (A.over (.forLoop target it body orelse env) fs) (pyNext it) (fun r s1 => match r with
      | none => Seg (model prog w) A R Y n s₀ (.forLoop target it body orelse env) (.pure (.again (.block orelse env))) fs s1
      | some v => wpAny (model prog w) (A.over (.forLoop target it body orelse env) fs) (letOwnedTupleGo target it v) (fun _ s2 =>
          wpAny (model prog w) (A.over (.forLoop target it body orelse env) fs) (assign target env v) (fun _ s3 =>
            Seg (model prog w) A R Y n s₀ (.forLoop target it body orelse env) ((execs body env).wrap (fun f => match f with
              | .next | .cont => .pure (.again (.forLoop target it body orelse env))
              | .brk => .pure (.done .next)
              | .ret v => .pure (.done (.ret v))) (noted env) id id) fs s3)
            (fun x s' => Seg (model prog w) A R Y n s₀ (.forLoop target it body orelse env) (noted env x) fs s') s2)
          (fun x s' => Seg (model prog w) A R Y n s₀ (.forLoop target it body orelse env) (noted env x) fs s') s1)
      (fun x s' => Seg (model prog w) A R Y n s₀ (.forLoop target it body orelse env) (noted env x) fs s') s) :
    Seg (model prog w) A R Y n s₀ (.forLoop target it body orelse env) ((model prog w).den (.forLoop target it body orelse env)) fs s := by
  show Seg _ A R Y n s₀ _ ((forTurn target it body orelse env).onRaise (fun x => do noteFrame x env; theTreesLotGoes x)) fs s
  unfold forTurn
  rw [Sem.onRaise_eq_wrap]
  refine seg_bind_wrap (wpAny_standAt ?_)
  refine seg_bind_wrap (wpAny_onRaise (wpAny_mono h (fun r s1 h1 => ?_) fun x s' hx => wpAny_standAt ?_))
  · cases r with
    | none => exact h1
    | some v =>
      refine seg_bind_wrap (wpAny_mono h1 (fun _ s2 h2 => ?_) fun x s' hx => ?_)
      · refine seg_bind_wrap (wpAny_mono h2 (fun _ s3 h3 => ?_) fun x s' hx => ?_)
        · rw [Sem.bind_eq_wrap', Sem.wrap_wrap]
          rw [Sem.wrap_congr (execs body env) _ _ (K' := fun f => match f with
              | .next | .cont => .pure (.again (.forLoop target it body orelse env))
              | .brk => .pure (.done .next)
              | .ret v => .pure (.done (.ret v))) (H' := noted env)
            (fun f => by cases f <;> rfl) (fun e => by exact noted_eq e)]
          exact h3
        · rw [noted_eq]; exact hx
      · rw [noted_eq]; exact hx
  · rw [noted_eq]; exact hx
theorem seg_blockNil {env' : Env} {k : Result → Sem PySem.Fin} {hh g l c₁ p₁ kp} (h : Seg (model prog w) A R Y n s₀ c₁ (k (.ok .next)) fs s) :
    Seg (model prog w) A R Y n s₀ (.block [] env') ((model prog w).den (.block [] env')) (.ret k hh g l c₁ p₁ kp :: fs) s := by
  show Seg _ A R Y n s₀ _ (do return PySem.Fin.done (← (execs [] env').onRaise (fun x => do noteFrame x env'; theTreesLotGoes x))) _ s
  exact seg_leaf (.ok .next) h
end
section
variable {X : Cx} {tg : Expr}
/-- for in a generator: W: the invariant by the turn, a measure, and what is out -/
def tGFor (wi : TI) (g : TG) (tb : TGn) : TGn := fun D ys σ H => wi σ H fun J H1 => ∃ W : Nat → Nat → List V → L2.St → Hp → Prop, (∃ m, W 0 m ys σ H1) ∧ ∀ i m ys σ H, W i m ys σ H →
  (J.stop i H ∧ D.nx ys σ H) ∨ (J.go i H ∧ ∃ N : List V → L2.St → Hp → Prop, (∀ ys' σ' H', N ys' σ' H' → ∃ m', m' < m ∧ W (i + 1) m' ys' σ' H') ∧ ∀ x H', J.yld i H x H' → g x σ H' fun σ2 H2 => tb { D with nx := N, ct := N, bk := D.nx } ys σ2 H2)
theorem gs_for {iter : Expr} {body : List Stmt} {wi : TI} {g : TG} {tb : TGn} {pos : Pos} (hp : PassesOwn (model X.prog X.w) X.A X.env X.xe) (hc : X.calm = true) (hi : PI X tg iter wi) (hg : PG X tg g) (hb : GSs X body tb)
    (hs : ∀ x, foldedSetIterable iter X.env x = pure x := by intro _; rfl) : GS X (.For tg iter body [] pos) (tGFor wi g tb) := by
  refine ⟨fun A S ip R n ys s₀ c fs K J gd lv s σ H D gg hn k hI ht => ?_⟩
  obtain ⟨acc, cc, rr, I⟩ := hI
  refine seg_For hs ?_
  rw [gg.over]
  refine wpAny_mono (hi.run _ s σ H _ I ht) (fun v s1 h1 => wpAny_mono h1 (fun itv s2 h2 p => ?_) fun x s' hx => k.exc n s₀ x s' hx) fun x s' hx => k.exc n s₀ x s' hx
  obtain ⟨it, fp, tn, Jt, H2, e, I2, T, st2, f2, W, ⟨m0, w0⟩, turn⟩ := h2
  subst e
  have gl := fun (kk : Result → Sem PySem.Fin) => gc_loop (k := kk) (c' := .forLoop tg (.ref it) body [] X.env) (l := lv []) (kp := []) (p := p) gg rfl rfl
  have nS : ∀ b ∈ fp, b ≠ S := fun b hb e => (f2 b hb).2.2.2.2.2 (S, lstObj acc cc) (List.mem_append_right _ List.mem_cons_self) e.symm
  have stat : ∀ {H' : Hp} {acc' : Array Value} {cc' : Nat}, (∀ b ∈ fp, H' b = none) → ∀ b ∈ fp, FpOk X ((S, lstObj acc' cc') :: ip) H' b := fun {H' acc' cc'} hn b hb => by
    obtain ⟨z1, z2, z3, z4, z5, z6⟩ := f2 b hb
    refine ⟨hn b hb, z2, z3, z4, z5, fun q hq => ?_⟩
    rcases List.mem_append.mp hq with hq | hq
    · exact z6 q (List.mem_append_left _ hq)
    · rcases List.mem_cons.mp hq with rfl | hq
      · exact z6 (S, lstObj acc cc) (List.mem_append_right _ List.mem_cons_self)
      · exact z6 q (List.mem_append_right _ (List.mem_cons_of_mem _ hq))
  have loop : ∀ (m i n : Nat) (ys : List V) (s₀ s : Shared) (σ : L2.St) (H : Hp), n + ys.length = sizeLine → W i m ys σ H → GI X S ip ys σ H s → tn i s.heap → (∀ b ∈ fp, H b = none) →
      Seg (model X.prog X.w) A R (GY X S) n s₀ (.forLoop tg (.ref it) body [] X.env) ((model X.prog X.w).den (.forLoop tg (.ref it) body [] X.env))
        (.ret (fun r => ((match r with | .ok f => (.pure f : Sem Flow) | .error e => .raise e).onRaise (cameBack X.env)).wrap K J gd lv) none (gd false) (lv []) c p [] :: fs) s := by
    intro m
    induction m using Nat.strongRecOn with
    | ind m ih =>
      intro i n ys s₀ s3 σ3 H3 hn w3 hI3 st3 fr3
      have ee : ∀ (n : Nat) (s₀ : Shared) (x : Value) (s' : Shared), X.xe x s' → Seg (model X.prog X.w) A R (GY X S) n s₀ (.forLoop tg (.ref it) body [] X.env) (noted X.env x)
          (.ret (fun r => ((match r with | .ok f => (.pure f : Sem Flow) | .error e => .raise e).onRaise (cameBack X.env)).wrap K J gd lv) none (gd false) (lv []) c p [] :: fs) s' := fun n s₀ x s' hx => by
        refine seg_wrap ?_
        rw [(gl _).over]
        refine wpAny_bind (wpAny_mono (hp x s' hx) (fun _ s'' hcb => wpAny_theTreesLotGoes ?_) fun y s'' hcb => ?_)
        · exact seg_leaf (.error x) (seg_cameBack gg k hcb)
        · exact seg_leaf (.error y) (seg_cameBack gg k hcb)
      obtain ⟨acc3, c3, r3, I3⟩ := hI3
      refine seg_forLoop ?_
      rw [(gl _).over]
      rcases turn i m ys σ3 H3 w3 with ⟨stop, qn⟩ | ⟨go, N, hN, step⟩
      · refine wpAny_mono (T.done X rfl rfl rfl hc i _ s3 σ3 H3 X.xe I3 (stat fr3) st3 stop) (fun r s4 ⟨hr, I4⟩ => ?_) fun x s' hx => ee n s₀ x s' hx
        subst hr
        exact seg_again rfl (seg_blockNil (k.ok n ys s₀ s4 .next hn ⟨σ3, H3, ⟨acc3, c3, r3, I4⟩, qn⟩))
      · refine wpAny_mono (T.item X rfl rfl rfl hc i _ s3 σ3 H3 X.xe I3 (stat fr3) st3 go) (fun r s4 ⟨u, hr, h4⟩ => ?_) fun x s' hx => ee n s₀ x s' hx
        subst hr
        refine wpAny_mono h4 (fun _ s5 ⟨x, H5, I5, r5, y5, st5, fr5⟩ => ?_) fun x s' hx => ee n s₀ x s' hx
        have I5' := I5.pinned (stat fr5) (T.obj _ _ st5)
        refine wpAny_mono (hg.run _ s5 σ3 H5 x u _ I5' r5 (step x H5 y5)) (fun _ s6 ⟨σ6, H6, I6, q6⟩ => ?_) fun x s' hx => ee n s₀ x s' hx
        have g2 : GC X S (ip ++ pinsAt fp s5.heap) A (.forLoop tg (.ref it) body [] X.env) (.ret (fun r => ((match r with | .ok f => (.pure f : Sem Flow) | .error e => .raise e).onRaise (cameBack X.env)).wrap K J gd lv) none (gd false) (lv []) c p [] :: fs) id :=
          let z := gl _
          { pn := z.pn, apart := z.apart, over := z.over, split := z.split, guard := z.guard, gd := z.gd, ip := fun q hq => (List.mem_append.mp hq).elim (fun h => z.ip q h) fun h => nS _ (of_pinsAt h).1 }
        refine hb.run A S (ip ++ pinsAt fp s5.heap) R n ys s₀ _ _ _ _ id id s6 σ6 H6 { D with nx := N, ct := N, bk := D.nx } g2 hn ⟨fun n' ys' s₀' s7 f hn' hs => ?_, fun n' s₀' x s7 hx => ee n' s₀' x s7 hx⟩ ⟨acc3, c3, r3, I6⟩ q6
        have un : ∀ {ys' : List V} {σ7 : L2.St} {H7 : Hp}, GI X S (ip ++ pinsAt fp s5.heap) ys' σ7 H7 s7 → GI X S ip ys' σ7 H7 s7 := fun ⟨a7, c7, r7, I7⟩ => ⟨a7, c7, r7, Inv.unpinned (pins := (S, lstObj a7 c7) :: ip) I7⟩
        have again : ∀ {σ7 : L2.St} {H7 : Hp}, GI X S (ip ++ pinsAt fp s5.heap) ys' σ7 H7 s7 → N ys' σ7 H7 → Seg (model X.prog X.w) A R (GY X S) n' s₀' (.forLoop tg (.ref it) body [] X.env) (.pure (.again (.forLoop tg (.ref it) body [] X.env)))
            (.ret (fun r => ((match r with | .ok f => (.pure f : Sem Flow) | .error e => .raise e).onRaise (cameBack X.env)).wrap K J gd lv) none (gd false) (lv []) c p [] :: fs) s7 := fun {σ7 H7} G7 n7 => by
          obtain ⟨m', hm, w7⟩ := hN ys' σ7 H7 n7
          obtain ⟨a7, c7, r7, I7⟩ := id G7
          have at7 : ∀ b ∈ fp, ∀ o, s5.heap.get? b = some o → (b, o) ∈ X.pn ++ ((S, lstObj a7 c7) :: (ip ++ pinsAt fp s5.heap)) := fun b hb o e => List.mem_append_right _ (List.mem_cons_of_mem _ (List.mem_append_right _ (mem_pinsAt hb e)))
          refine seg_again rfl (ih m' hm (i + 1) n' ys' s₀' s7 σ7 H7 hn' w7 (un G7) (T.keep _ _ _ st5 fun b hb o e => (I7.pin (b, o) (at7 b hb o e)).1) fun b hb => ?_)
          obtain ⟨o, e, d⟩ := T.obj _ _ st5 b hb
          exact (I7.pin (b, o) (at7 b hb o e)).2.1
        cases f with
        | next => obtain ⟨σ7, H7, G7, n7⟩ := hs; exact again G7 n7
        | cont => obtain ⟨σ7, H7, G7, n7⟩ := hs; exact again G7 n7
        | brk => obtain ⟨σ7, H7, G7, n7⟩ := hs; exact seg_leaf (.ok .next) (k.ok n' ys' s₀' s7 .next hn' ⟨σ7, H7, un G7, n7⟩)
        | ret v => obtain ⟨x7, σ7, H7, G7, r7, q7⟩ := hs; exact seg_leaf (.ok (.ret v)) (k.ok n' ys' s₀' s7 (.ret v) hn' ⟨x7, σ7, H7, un G7, r7, q7⟩)
  exact loop m0 0 n ys s₀ s2 σ H2 hn w0 ⟨acc, cc, rr, I2⟩ st2 fun b hb => (f2 b hb).1
end
end My
set_option Elab.async false
set_option linter.all false
set_option maxRecDepth 100000
set_option maxHeartbeats 1000000
/-! the truth of an object with its own __len__; a lock in a generator; a generator def by its body -/
namespace My
open PySem PySem.Spec PyProof.Rows L2 GenW
section
variable {X : Cx} {k : Nat} {f C : Addr} {fd : FuncData} {ps : List Str} {sp : Sp} {ta : TE} {a : Expr} {pos : Pos}
theorem special_noX {M : Model} {A : Around} {E : Value → Shared → Prop} {s : Shared} {K : PySem.W.Frag} {a : Addr} {ox : Obj} {C : Addr} {name : Str} {args : List Value} {Q : Option Value → Shared → Prop} (X : K.In s.heap) (I : PySem.W.InstAt s.heap a ox C dd) (hf : PySem.W.findIn K (.ref C) name = some none) (h : Q none s) : wpAny M A (callSpecial? (.ref a) name args) Q E s := by
  unfold callSpecial? specialOf
  exact wpAny_bind (wpAny_bind (I.type.here ((PySem.W.looks_findIn X hf).here (wpAny_pure h))))
/-- what the truth of o wants: no __bool__, __len__ by the def at f -/
abbrev LenSp (C : Addr) (sp : Sp) (x : V) (H : Hp) (Q : Bool → Hp → Prop) : Prop := ∃ a dx fs, x = .ref a ∧ H a = some (.ins C dx fs) ∧ sp [.ref a] H (fun v H' => ∃ n : Int, v = .int n ∧ 0 ≤ n ∧ n ≤ 1000000 ∧ Q (n != 0) H') E0
theorem truthy_own (hno : PySem.W.findIn X.K (.ref C) "__bool__" = some none) (m : Meth X.K C "__len__" f) (F : FnOk X.prog X.w X.K X.mg X.base CX0 k f fd ps sp) (hb : Binds X.K fd ps [])
    {A : Around} (hr : Room (k + 1) A) {pins : List (Addr × Obj)} {σ : L2.St} {H : Hp} {s : Shared} {x : V} {u : Value} {Q : Bool → Hp → Prop} {R : Bool → Shared → Prop} (hen : Env0 X.prog X.w X.K X.mg X.base A X.stack s H)
    (I : Inv X pins σ H s) (rx : RelV x u) (h : LenSp C sp x H Q) (hR : ∀ b H' s', Inv X pins σ H' s' → Q b H' → R b s') : wpAny (model X.prog X.w) A (truthy u) R X.xe s := by
  obtain ⟨a, dx, fs, rfl, ea, hsp⟩ := h
  cases (show u = Value.ref a from rx)
  obtain ⟨od, J⟩ := inst_of I ea
  obtain ⟨mm, Fm⟩ := I.fr
  have key : wpAny (model X.prog X.w) A (runValue (.builtin "len" ⟨[.ref a], []⟩)) (fun r s' => ∃ n t H', r = .int n t ∧ Inv X pins σ H' s' ∧ Q (n != 0) H') X.xe s := by
    refine wpAny_runValue (codeAny_builtin entry_len ?_)
    rw [Around.under_plainId plain_len _]
    unfold Builtin.«len»
    refine wpAny_bind (m := oneArg "len" _) (wpAny_pure ?_)
    refine wpAny_bind (m := callSpecial? (.ref a) (Str.ofString "__len__")) (PySem.W.special_fn (I.mod.kin.keeps Fm.keep) J m.at_ (beq_iff_eq.mp m.fn) (run_own F hr.in1 hen.in1 hb I (vs := [.ref a]) (.cons rfl .nil) hsp fun u s' hu => ?_))
    obtain ⟨z, H', I', rz, n, rfl, n0, n1, q⟩ := hu
    obtain ⟨t, rfl⟩ := (show ∃ t, u = Value.int n t from rz)
    refine wpAny_bind (wpAny_holding (wpAny_pure ?_))
    refine wpAny_bind (wpAny_letGo ?_)
    show wpAny _ _ (if n < 0 then _ else _) _ _ _
    rw [if_neg (by omega)]
    show wpAny _ _ (if n ≥ 2 ^ 63 then _ else _) _ _ _
    rw [if_neg (by omega)]
    exact wpAny_bind (wpAny_mkInt (wpAny_pure ⟨n, _, H', rfl, I'.tok _, q⟩))
  have hspe : ∀ {Q' : Option Value → Shared → Prop}, Q' (some (.ref f)) s → wpAny (model X.prog X.w) A (specialOf (.ref a) "__len__") Q' X.xe s := fun q => by
    unfold specialOf
    exact wpAny_bind (J.type.here ((PySem.W.looks_findIn I.kIn m.at_).here q))
  unfold truthy
  first
    | refine wpAny_bind (special_noX (name := Str.ofString "__bool__") I.kIn J hno ?_)
    | refine wpAny_bind (wpAny_pure (wpAny_bind (special_noX (name := Str.ofString "__bool__") I.kIn J hno ?_)))
  first
    | refine wpAny_bind (hspe ?_)
    | refine wpAny_bind (wpAny_pure (wpAny_bind (hspe ?_)))
  first
    | exact wpAny_bind (wpAny_mono key (fun r s' h' => by obtain ⟨n, t, H', rfl, I', q⟩ := h'; exact wpAny_pure (hR _ H' s' I' q)) fun _ _ e => e)
    | exact wpAny_bind (wpAny_pure (wpAny_bind (wpAny_mono key (fun r s' h' => by obtain ⟨n, t, H', rfl, I', q⟩ := h'; exact wpAny_pure (hR _ H' s' I' q)) fun _ _ e => e)))
/-- not o -/
def tNotOwn (C : Addr) (sp : Sp) (ta : TE) : TE := fun σ H Q => ta σ H fun x H1 => LenSp C sp x H1 fun b H2 => Q (.bl (!b)) H2
theorem pe_notOwn (hno : PySem.W.findIn X.K (.ref C) "__bool__" = some none) (m : Meth X.K C "__len__" f) (F : FnOk X.prog X.w X.K X.mg X.base CX0 k f fd ps sp) (hr : Room (k + 1) X.A) (hb : Binds X.K fd ps []) (ha : PE X a ta) : PE X (.UnaryOp .Not a pos) (tNotOwn C sp ta) := by
  refine ⟨fun pins s σ H Q I h => ?_⟩
  refine UnaryOp_ (thn (ha.run pins s σ H _ I h) fun v s1 ⟨x, H1, I1, r1, q1⟩ => ?_)
  exact not_of (truthy_own hno m F hb hr I1.env0 I1 r1 q1 fun b H' s' I' q => ⟨.bl (!b), H', I', rfl, q⟩)
/-- bool(o) -/
theorem call_boolOwn (hno : PySem.W.findIn X.K (.ref C) "__bool__" = some none) (m : Meth X.K C "__len__" f) (F : FnOk X.prog X.w X.K X.mg X.base CX0 k f fd ps sp) (hr : Room (k + 3) X.A) (hb : Binds X.K fd ps []) :
    CallR X (.type "bool") (fun xs H Q => ∃ x, xs = [x] ∧ LenSp C sp x H fun b H' => Q (.bl b) H') := by
  intro pins s σ H xs us Q I r h
  obtain ⟨x, rfl, h⟩ := h
  obtain ⟨u, rfl, ru⟩ := vals1 r
  refine callType_codes (T := "bool") (Bi := Builtin.«object.__init__») (Q₁ := fun r s₁ => ∃ b, r = .bool b ∧ EP X pins σ Q (.bool b) s₁) PySem.F.called_bool (PySem.F.typeCall_bool_1 _) PySem.F.entry_object_init ?_ ?_
  · refine codeAny_of_tree ?_
    show wpAny _ X.A.in1.in1 (do checkBuiltinCall "bool.__new__" ⟨[.type "bool", u], []⟩; again (.builtin "bool.__new__" ⟨[.type "bool", u], []⟩)) _ _ s
    refine wpAny_bind (wpAny_of_eq (PySem.F.newCall_bool_1 _) (wpAny_pure ⟨plainId_quiet (by decide +kernel) _, codeAny_builtin PySem.F.entry_bool_new ?_⟩))
    rw [Around.under_plainId (by decide +kernel) _]
    have f1 := PySem.F.conv_sub_bool
    have tr : wpAny (model X.prog X.w) X.A.in1.in1 (truthy u) (fun b s' => EP X pins σ Q (.bool b) s') X.xe s := truthy_own hno m F hb hr.in1.in1 I.env0.in1.in1 I ru h fun b H' s' I' q => ⟨.bl b, H', I', rfl, q⟩
    unfold Builtin.«bool.__new__»
    repeat (any_goals (first | assumption | (with_reducible refine wpAny_mono tr (fun b s' hb' => ?_) fun _ _ e => e) | wp_step))
    all_goals first | exact ⟨_, rfl, _, rfl, hb'⟩ | exact ⟨_, rfl, hb'⟩ | skip
  · rintro obj s₁ ⟨b, rfl, hq⟩
    exact ⟨PySem.typeIs_bool _ _, PySem.F.args_object_init_2 _ _, object_init_meets PySem.F.called_bool.init.lookup PySem.F.called_bool.made (by decide) X.prog X.w X.A.in1 _ s₁ ⟨PySem.typeIs_bool _ _, rfl, hq⟩⟩
end
section
variable {X : Cx}
def tGLock (t : TGn) : TGn := fun D ys σ H => ∃ d u, H d = some u ∧ Mut (some u) ∧ ∀ od, t ⟨fun ys' σ' H' => H' d = some (.frz od u) ∧ D.nx ys' σ' (upd H' d u), fun ys' v H' => H' d = some (.frz od u) ∧ D.rt ys' v (upd H' d u), fun ys' σ' H' => H' d = some (.frz od u) ∧ D.bk ys' σ' (upd H' d u), fun ys' σ' H' => H' d = some (.frz od u) ∧ D.ct ys' σ' (upd H' d u)⟩ ys σ (upd H d (.frz od u))
theorem gs_lock {st : Stmt} {t : TGn} (h : GS X st t) : GS X st (tGLock t) := by
  refine ⟨fun A S ip R n ys s₀ c fs K J gd lv s σ H D g hn k hI ht => ?_⟩
  obtain ⟨d, u, hd, mu, ht⟩ := ht
  obtain ⟨acc, cc, r, I⟩ := hI
  have nf := I.nofrz hd mu
  obtain ⟨od, I1⟩ := I.lock hd mu
  refine h.run A S ip R n ys s₀ c fs K J gd lv s σ _ _ g hn ⟨fun n' ys' s₀' s' f hn' hs => ?_, k.exc⟩ ⟨acc, cc, r, I1⟩ (ht od)
  have un : ∀ {ys' : List V} {σ' : L2.St} {H' : Hp}, GI X S ip ys' σ' H' s' → H' d = some (.frz od u) → GI X S ip ys' σ' (upd H' d u) s' := fun ⟨a7, c7, r7, I7⟩ e => ⟨a7, c7, r7, I7.unlock e nf⟩
  cases f with
  | next => obtain ⟨σ', H', G, e, q⟩ := hs; exact k.ok n' ys' s₀' s' .next hn' ⟨σ', _, un G e, q⟩
  | brk => obtain ⟨σ', H', G, e, q⟩ := hs; exact k.ok n' ys' s₀' s' .brk hn' ⟨σ', _, un G e, q⟩
  | cont => obtain ⟨σ', H', G, e, q⟩ := hs; exact k.ok n' ys' s₀' s' .cont hn' ⟨σ', _, un G e, q⟩
  | ret v => obtain ⟨x, σ', H', G, rr, e, q⟩ := hs; exact k.ok n' ys' s₀' s' (.ret v) hn' ⟨x, σ', _, un G e, rr, q⟩
theorem gss_one {st : Stmt} {t : TGn} (h : GS X st t) : GSs X [st] (tGThen t tG0) := gss_cons h gss_nil
end
section
variable {P : Program} {w : World} {K : PySem.W.Frag} {mg : Str → Option Value} {base : Heap}
/-- a generator def by its body -/
theorem Fun.okY {x qual : Str} {st : Stmt} {f : Addr} {fd : FuncData} {N ps : List Str} {k : Nat} {sp : SpG} (F : Fun K x qual st f fd) (S : GScope N ps (defScope st)) (len : ∀ vs H Q E, sp vs H Q E → vs.length = ps.length)
    (hbody : ∀ (cdv : Value) (A : Around) (outer : List Env) (s : Shared) (H : Hp) (vs : List V) (Q : List V → Hp → Prop) (E : XK) (pn : List (Addr × Obj)), Room k (A.deeper (envOfC qual (defScope st) s.heap.objs.size f cdv)) → sp vs H Q E →
      ∃ t, GSs (gcxOf P w K mg base N qual (defScope st) f cdv A outer s H E pn) (defBody st) t ∧ t { nx := fun ys _ H' => Q ys H', rt := fun ys v H' => v = .non ∧ Q ys H' } [] (start N vs) H) : GFn P w K mg base (k + 1) f fd ps sp := by
  obtain ⟨oc, od, kV, doc, pm, an, cdv, ct, osl, rfl, lk, hcd⟩ := F.ex
  exact gfn_of lk hcd S len fun A outer s H vs Q E pn hr hsp => hbody cdv A outer s H vs Q E pn hr hsp
end
/-- no exception at all -/
theorem noStop0 {K : PySem.W.Frag} : NoStop K E0 := fun _ _ _ h => h.elim
theorem passE0 {X : Cx} : Passes (CX X.prog X.w) X E0 := fun _ _ _ _ _ _ _ h => by
  obtain ⟨_, _, _, _, _, _, _, _, _, _, _, _, w⟩ := h
  exact w.elim
end My
set_option Elab.async false
set_option linter.all false
set_option maxRecDepth 100000
namespace My
open PySem PySem.Spec PyProof.Rows L2
/-- a for in a generator over a walk -/
theorem gfor_it {J : It} {n : Nat} {G : Hp → Prop} {Y : Nat → Hp → V → Hp → Prop} (w : Walk J n G Y) {g : TG} {tb : TGn} {D : GEnds} {ys : List V} {σ : L2.St} {H : Hp} (Pv : Nat → List V → L2.St → Hp → Prop) (h0 : Pv 0 ys σ H) (hG : ∀ i ys σ H, i ≤ n → Pv i ys σ H → G H)
    (hs : ∀ i x ys σ H H', i < n → Pv i ys σ H → Y i H x H' → g x σ H' fun σ2 H2 => tb { D with nx := Pv (i + 1), ct := Pv (i + 1), bk := D.nx } ys σ2 H2) (hd : ∀ ys σ H, Pv n ys σ H → D.nx ys σ H) :
    ∃ W : Nat → Nat → List V → L2.St → Hp → Prop, (∃ m, W 0 m ys σ H) ∧ ∀ i m ys σ H, W i m ys σ H →
      (J.stop i H ∧ D.nx ys σ H) ∨ (J.go i H ∧ ∃ N : List V → L2.St → Hp → Prop, (∀ ys' σ' H', N ys' σ' H' → ∃ m', m' < m ∧ W (i + 1) m' ys' σ' H') ∧ ∀ x H', J.yld i H x H' → g x σ H' fun σ2 H2 => tb { D with nx := N, ct := N, bk := D.nx } ys σ2 H2) := by
  refine ⟨fun i m ys σ H => m = n - i ∧ i ≤ n ∧ Pv i ys σ H, ⟨n, by simp, Nat.zero_le _, h0⟩, ?_⟩
  rintro i m ys σ H ⟨rfl, hi, p⟩
  have q := hG i ys σ H hi p
  by_cases hlt : i < n
  · exact .inr ⟨w.goes i H hlt q, Pv (i + 1), fun ys' σ' H' p' => ⟨n - (i + 1), by omega, rfl, hlt, p'⟩, fun x H' y => hs i x ys σ H H' hlt p (w.yields i H x H' hlt q y)⟩
  · have e : i = n := by omega
    subst e
    exact .inl ⟨w.stops H q, hd ys σ H p⟩
/-- the value at a place -/
def valS (l : List (Str × Str)) (y : Str) : Option Str := (l.find? fun p => decide (p.1 = y)).map (·.2)
theorem val_get : ∀ (l : List (Str × Str)) (y : Str), valV (setKV l) (Sum.inr y : Key) = (valS l y).map V.str
  | [], _ => rfl
  | p :: r, y => by
    by_cases h : p.1 = y
    · have e : valS (p :: r) y = some p.2 := by
        unfold valS
        rw [List.find?_cons, show decide (p.1 = y) = true from decide_eq_true h]
        rfl
      rw [e]
      exact valV_pos (p := (Sum.inr p.1, V.str p.2)) (by show (Sum.inr p.1 : Key) = Sum.inr y; rw [h])
    · have e : valS (p :: r) y = valS r y := by
        unfold valS
        rw [List.find?_cons, show decide (p.1 = y) = false from decide_eq_false h]
      rw [e, ← val_get r y]
      exact valV_neg (p := (Sum.inr p.1, V.str p.2)) (by show ¬ (Sum.inr p.1 : Key) = Sum.inr y; exact fun z => h (Sum.inr.inj z))
theorem valS_some : ∀ (l : List (Str × Str)) (y : Str), (valS l y).isSome = decide (y ∈ l.map (·.1))
  | [], _ => rfl
  | p :: r, y => by
    by_cases h : p.1 = y
    · unfold valS
      rw [List.find?_cons, show decide (p.1 = y) = true from decide_eq_true h]
      exact (decide_eq_true (by rw [List.map_cons, h]; exact List.mem_cons_self ..)).symm
    · have e : valS (p :: r) y = valS r y := by
        unfold valS
        rw [List.find?_cons, show decide (p.1 = y) = false from decide_eq_false h]
      rw [e, valS_some r y]
      refine decide_eq_decide.mpr ⟨fun m => ?_, fun m => ?_⟩
      · rw [List.map_cons]; exact List.mem_cons_of_mem _ m
      · rw [List.map_cons] at m
        rcases List.mem_cons.mp m with z | z
        · exact absurd z.symm h
        · exact z
theorem valS_at : ∀ {l : List (Str × Str)} {i : Nat} {p : Str × Str}, (l.map (·.1)).Nodup → l[i]? = some p → valS l p.1 = some p.2
  | [], i, p, _, e => by simp at e
  | a :: r, 0, p, _, e => by
    cases (Option.some.inj e : a = p)
    unfold valS
    rw [List.find?_cons, show decide (a.1 = a.1) = true from decide_eq_true rfl]
    rfl
  | a :: r, i + 1, p, h, e => by
    have e2 : r[i]? = some p := e
    have hr := List.nodup_cons.mp (show (a.1 :: r.map (·.1)).Nodup from h)
    have ne : ¬ a.1 = p.1 := fun z => hr.1 (by rw [z]; exact List.mem_map.mpr ⟨p, List.mem_of_getElem? e2, rfl⟩)
    have : valS (a :: r) p.1 = valS r p.1 := by
      unfold valS
      rw [List.find?_cons, show decide (a.1 = p.1) = false from decide_eq_false ne]
    rw [this]
    exact valS_at hr.2 e2
theorem keys_map (l : List (Str × Str)) : ((setKV l).map fun kv => kV kv.1) = (l.map (·.1)).map V.str := by
  unfold setKV
  rw [List.map_map, List.map_map]
  rfl
theorem setKV_len (l : List (Str × Str)) : (setKV l).length = l.length := by unfold setKV; rw [List.length_map]
theorem setKV_at {l : List (Str × Str)} {i : Nat} {k : Key} {v : V} (h : (setKV l)[i]? = some (k, v)) : ∃ p, l[i]? = some p ∧ k = .inr p.1 ∧ v = .str p.2 := by
  unfold setKV at h
  rw [List.getElem?_map] at h
  cases e : l[i]? with
  | none => rw [e] at h; cases h
  | some p => rw [e] at h; cases h; exact ⟨p, rfl, rfl, rfl⟩
/-- the pairs (place, value) as they stand -/
def PairsAt (H : Hp) : List V → List (Str × Str) → Prop := Paired fun v p => ∃ a, v = .ref a ∧ H a = some (.tup [.str p.1, .str p.2])
theorem PairsAt.same {H H' : Hp} (s : Same H H') : ∀ {vs : List V} {l : List (Str × Str)}, PairsAt H vs l → PairsAt H' vs l
  | _, _, .nil => .nil
  | _, _, .cons ⟨a, e, h⟩ t => .cons ⟨a, e, s _ _ h⟩ (PairsAt.same s t)
end My
set_option Elab.async false
set_option linter.all false
set_option maxRecDepth 100000
namespace K02
open PySem PySem.Spec PyProof.Rows L2 My
/-! ### the text -/
def topS (i : Nat) : Stmt := PySem.Challenge.pw_settingsmerge_k02_files_read.main.body.getD i (.Pass ⟨0, 0, 0, 0⟩)
abbrev s_is_made_of : Stmt := topS 11
abbrev N_is_made_of : List Str := ["thing", "characters", "most", "character"]
theorem scis_made_of : FnScope N_is_made_of ["thing", "characters", "most"] (defScope s_is_made_of) := ⟨rfl, rfl, rfl, by decide +kernel, rfl, by decide +kernel, by decide +kernel⟩
abbrev s_is_name : Stmt := topS 12
abbrev N_is_name : List Str := ["thing"]
theorem scis_name : FnScope N_is_name ["thing"] (defScope s_is_name) := ⟨rfl, rfl, rfl, by decide +kernel, rfl, by decide +kernel, by decide +kernel⟩
abbrev s_is_place : Stmt := topS 13
abbrev N_is_place : List Str := ["thing", "section", "dot", "key"]
theorem scis_place : FnScope N_is_place ["thing"] (defScope s_is_place) := ⟨rfl, rfl, rfl, by decide +kernel, rfl, by decide +kernel, by decide +kernel⟩
abbrev s_is_value : Stmt := topS 14
abbrev N_is_value : List Str := ["thing"]
theorem scis_value : FnScope N_is_value ["thing"] (defScope s_is_value) := ⟨rfl, rfl, rfl, by decide +kernel, rfl, by decide +kernel, by decide +kernel⟩
abbrev s_is_release_word : Stmt := topS 15
abbrev N_is_release_word : List Str := ["thing"]
theorem scis_release_word : FnScope N_is_release_word ["thing"] (defScope s_is_release_word) := ⟨rfl, rfl, rfl, by decide +kernel, rfl, by decide +kernel, by decide +kernel⟩
abbrev s_is_header : Stmt := topS 16
abbrev N_is_header : List Str := ["line"]
theorem scis_header : FnScope N_is_header ["line"] (defScope s_is_header) := ⟨rfl, rfl, rfl, by decide +kernel, rfl, by decide +kernel, by decide +kernel⟩
abbrev s_is_loose : Stmt := topS 17
abbrev N_is_loose : List Str := ["line"]
theorem scis_loose : FnScope N_is_loose ["line"] (defScope s_is_loose) := ⟨rfl, rfl, rfl, by decide +kernel, rfl, by decide +kernel, by decide +kernel⟩
abbrev s_read_setting : Stmt := topS 18
abbrev N_read_setting : List Str := ["line", "key", "equals", "value"]
theorem scread_setting : FnScope N_read_setting ["line"] (defScope s_read_setting) := ⟨rfl, rfl, rfl, by decide +kernel, rfl, by decide +kernel, by decide +kernel⟩
abbrev s_read_kept : Stmt := topS 19
abbrev N_read_kept : List Str := ["line", "mark", "gap", "rest", "word", "named", "place", "equals", "value"]
theorem scread_kept : FnScope N_read_kept ["line"] (defScope s_read_kept) := ⟨rfl, rfl, rfl, by decide +kernel, rfl, by decide +kernel, by decide +kernel⟩
abbrev s_L_bag : Stmt := topS 22
abbrev N_L_bag : List Str := ["_law_script", "_law_at", "_law_cell", "_law_blend", "_law_k", "_law_each"]
theorem scL_bag : FnScope N_L_bag ["_law_script", "_law_at"] (defScope s_L_bag) := ⟨rfl, rfl, rfl, by decide +kernel, rfl, by decide +kernel, by decide +kernel⟩
abbrev s_L_take : Stmt := topS 23
abbrev N_L_take : List Str := ["_law_bag_here", "_law_many", "_law_digit"]
theorem scL_take : FnScope N_L_take ["_law_bag_here", "_law_many"] (defScope s_L_take) := ⟨rfl, rfl, rfl, by decide +kernel, rfl, by decide +kernel, by decide +kernel⟩
abbrev s_L_of : Stmt := topS 24
abbrev N_L_of : List Str := ["_law_bag_here", "_law_some"]
theorem scL_of : FnScope N_L_of ["_law_bag_here", "_law_some"] (defScope s_L_of) := ⟨rfl, rfl, rfl, by decide +kernel, rfl, by decide +kernel, by decide +kernel⟩
abbrev s_L_mixed : Stmt := topS 25
abbrev N_L_mixed : List Str := ["_law_bag_here", "_law_things", "_law_left", "_law_found"]
theorem scL_mixed : FnScope N_L_mixed ["_law_bag_here", "_law_things"] (defScope s_L_mixed) := ⟨rfl, rfl, rfl, by decide +kernel, rfl, by decide +kernel, by decide +kernel⟩
abbrev s_L_amid : Stmt := topS 26
abbrev N_L_amid : List Str := ["_law_bag_here", "_law_some", "_law_turn"]
theorem scL_amid : FnScope N_L_amid ["_law_bag_here"] (defScope s_L_amid) := ⟨rfl, rfl, rfl, by decide +kernel, rfl, by decide +kernel, by decide +kernel⟩
abbrev s_L_drawn : Stmt := topS 27
abbrev N_L_drawn : List Str := ["_law_bag_here", "_law_lines", "_law_heads", "_law_found", "_law_head", "_law_key", "_law_worth", "_law_count", "_law_kept"]
theorem scL_drawn : FnScope N_L_drawn ["_law_bag_here"] (defScope s_L_drawn) := ⟨rfl, rfl, rfl, by decide +kernel, rfl, by decide +kernel, by decide +kernel⟩
abbrev s_L_shows : Stmt := topS 28
abbrev N_L_shows : List Str := ["_law_file", "_law_lines", "_law_heads", "_law_found", "_law_others", "_law_one", "_law_worth"]
theorem scL_shows : FnScope N_L_shows ["_law_file", "_law_lines", "_law_heads", "_law_found"] (defScope s_L_shows) := ⟨rfl, rfl, rfl, by decide +kernel, rfl, by decide +kernel, by decide +kernel⟩
abbrev s_L_changed : Stmt := topS 29
abbrev N_L_changed : List Str := ["_law_file", "_law_some"]
theorem scL_changed : FnScope N_L_changed ["_law_file"] (defScope s_L_changed) := ⟨rfl, rfl, rfl, by decide +kernel, rfl, by decide +kernel, by decide +kernel⟩
abbrev s_law : Stmt := topS 30
abbrev N_law : List Str := ["_law_script", "_law_at", "_law_bag_here", "_law_turn", "_law_lines", "_law_heads", "_law_found", "_law_whole", "_law_file", "_law_blank"]
theorem sclaw : FnScope N_law ["_law_script"] (defScope s_law) := ⟨rfl, rfl, rfl, by decide +kernel, rfl, by decide +kernel, by decide +kernel⟩
abbrev s_SettingsFile___init__ : Stmt := inClass (topS 20) 0
abbrev N_SettingsFile___init__ : List Str := ["self", "text", "at", "line", "kind"]
theorem scSettingsFile___init__ : FnScope N_SettingsFile___init__ ["self", "text"] (defScope s_SettingsFile___init__) := ⟨rfl, rfl, rfl, by decide +kernel, rfl, by decide +kernel, by decide +kernel⟩
abbrev s_SettingsFile_take : Stmt := inClass (topS 20) 1
abbrev N_SettingsFile_take : List Str := ["self", "line", "setting", "key", "value"]
theorem scSettingsFile_take : FnScope N_SettingsFile_take ["self", "line"] (defScope s_SettingsFile_take) := ⟨rfl, rfl, rfl, by decide +kernel, rfl, by decide +kernel, by decide +kernel⟩
abbrev s_SettingsFile_take_kept : Stmt := inClass (topS 20) 2
abbrev N_SettingsFile_take_kept : List Str := ["self", "line", "kept", "release", "place", "value"]
theorem scSettingsFile_take_kept : FnScope N_SettingsFile_take_kept ["self", "line"] (defScope s_SettingsFile_take_kept) := ⟨rfl, rfl, rfl, by decide +kernel, rfl, by decide +kernel, by decide +kernel⟩
abbrev s_SettingsFile_take_header : Stmt := inClass (topS 20) 3
abbrev N_SettingsFile_take_header : List Str := ["self", "name"]
theorem scSettingsFile_take_header : FnScope N_SettingsFile_take_header ["self", "name"] (defScope s_SettingsFile_take_header) := ⟨rfl, rfl, rfl, by decide +kernel, rfl, by decide +kernel, by decide +kernel⟩
abbrev s_SettingsFile_take_setting : Stmt := inClass (topS 20) 4
abbrev N_SettingsFile_take_setting : List Str := ["self", "key", "value", "place"]
theorem scSettingsFile_take_setting : FnScope N_SettingsFile_take_setting ["self", "key", "value"] (defScope s_SettingsFile_take_setting) := ⟨rfl, rfl, rfl, by decide +kernel, rfl, by decide +kernel, by decide +kernel⟩
abbrev s_SettingsFile_close_block : Stmt := inClass (topS 20) 5
abbrev N_SettingsFile_close_block : List Str := ["self", "thing"]
theorem scSettingsFile_close_block : FnScope N_SettingsFile_close_block ["self", "thing"] (defScope s_SettingsFile_close_block) := ⟨rfl, rfl, rfl, by decide +kernel, rfl, by decide +kernel, by decide +kernel⟩
abbrev s_SettingsFile_lines : Stmt := inClass (topS 20) 6
abbrev N_SettingsFile_lines : List Str := ["self"]
theorem scSettingsFile_lines : FnScope N_SettingsFile_lines ["self"] (defScope s_SettingsFile_lines) := ⟨rfl, rfl, rfl, by decide +kernel, rfl, by decide +kernel, by decide +kernel⟩
abbrev s_SettingsFile_sections : Stmt := inClass (topS 20) 7
abbrev N_SettingsFile_sections : List Str := ["self"]
theorem scSettingsFile_sections : FnScope N_SettingsFile_sections ["self"] (defScope s_SettingsFile_sections) := ⟨rfl, rfl, rfl, by decide +kernel, rfl, by decide +kernel, by decide +kernel⟩
abbrev s_SettingsFile_places : Stmt := inClass (topS 20) 8
abbrev N_SettingsFile_places : List Str := ["self"]
theorem scSettingsFile_places : FnScope N_SettingsFile_places ["self"] (defScope s_SettingsFile_places) := ⟨rfl, rfl, rfl, by decide +kernel, rfl, by decide +kernel, by decide +kernel⟩
abbrev s_SettingsFile_value : Stmt := inClass (topS 20) 9
abbrev N_SettingsFile_value : List Str := ["self", "place"]
theorem scSettingsFile_value : FnScope N_SettingsFile_value ["self", "place"] (defScope s_SettingsFile_value) := ⟨rfl, rfl, rfl, by decide +kernel, rfl, by decide +kernel, by decide +kernel⟩
abbrev s_SettingsFile_pairs : Stmt := inClass (topS 20) 13
abbrev N_SettingsFile_pairs : List Str := ["self", "place"]
theorem scSettingsFile_pairs : GScope N_SettingsFile_pairs ["self"] (defScope s_SettingsFile_pairs) := ⟨rfl, rfl, rfl, by decide +kernel, rfl, by decide +kernel, by decide +kernel⟩
abbrev s_SettingsFile___len__ : Stmt := inClass (topS 20) 14
abbrev N_SettingsFile___len__ : List Str := ["self"]
theorem scSettingsFile___len__ : FnScope N_SettingsFile___len__ ["self"] (defScope s_SettingsFile___len__) := ⟨rfl, rfl, rfl, by decide +kernel, rfl, by decide +kernel, by decide +kernel⟩
abbrev s_SettingsFile___contains__ : Stmt := inClass (topS 20) 15
abbrev N_SettingsFile___contains__ : List Str := ["self", "x"]
theorem scSettingsFile___contains__ : FnScope N_SettingsFile___contains__ ["self", "x"] (defScope s_SettingsFile___contains__) := ⟨rfl, rfl, rfl, by decide +kernel, rfl, by decide +kernel, by decide +kernel⟩
abbrev s_SettingsFile___str__ : Stmt := inClass (topS 20) 17
abbrev N_SettingsFile___str__ : List Str := ["self"]
theorem scSettingsFile___str__ : FnScope N_SettingsFile___str__ ["self"] (defScope s_SettingsFile___str__) := ⟨rfl, rfl, rfl, by decide +kernel, rfl, by decide +kernel, by decide +kernel⟩
/-! ### what the top has written -/
structure Top (K : PySem.W.Frag) (mg : Str → Option Value) where
  C_SettingsFile : Addr
  cl_SettingsFile : Cls K C_SettingsFile
  g_SettingsFile : mg "SettingsFile" = some (.ref C_SettingsFile)
  nb_SettingsFile : PySem.W.findIn K (.ref C_SettingsFile) "__bool__" = some none
  no_SettingsFile_text : NoAttr K C_SettingsFile "text"
  no_SettingsFile_rows : NoAttr K C_SettingsFile "rows"
  no_SettingsFile_headers : NoAttr K C_SettingsFile "headers"
  no_SettingsFile_settings_read : NoAttr K C_SettingsFile "settings_read"
  no_SettingsFile_kept_read : NoAttr K C_SettingsFile "kept_read"
  no_SettingsFile_blocks : NoAttr K C_SettingsFile "blocks"
  no_SettingsFile_loose : NoAttr K C_SettingsFile "loose"
  f_is_made_of : Addr
  d_is_made_of : FuncData
  F_is_made_of : Fun K "is_made_of" "is_made_of" s_is_made_of f_is_made_of d_is_made_of
  b_is_made_of : Binds K d_is_made_of ["thing", "characters", "most"] []
  g_is_made_of : mg "is_made_of" = some (.ref f_is_made_of)
  f_is_name : Addr
  d_is_name : FuncData
  F_is_name : Fun K "is_name" "is_name" s_is_name f_is_name d_is_name
  b_is_name : Binds K d_is_name ["thing"] []
  g_is_name : mg "is_name" = some (.ref f_is_name)
  f_is_place : Addr
  d_is_place : FuncData
  F_is_place : Fun K "is_place" "is_place" s_is_place f_is_place d_is_place
  b_is_place : Binds K d_is_place ["thing"] []
  g_is_place : mg "is_place" = some (.ref f_is_place)
  f_is_value : Addr
  d_is_value : FuncData
  F_is_value : Fun K "is_value" "is_value" s_is_value f_is_value d_is_value
  b_is_value : Binds K d_is_value ["thing"] []
  g_is_value : mg "is_value" = some (.ref f_is_value)
  f_is_release_word : Addr
  d_is_release_word : FuncData
  F_is_release_word : Fun K "is_release_word" "is_release_word" s_is_release_word f_is_release_word d_is_release_word
  b_is_release_word : Binds K d_is_release_word ["thing"] []
  g_is_release_word : mg "is_release_word" = some (.ref f_is_release_word)
  f_is_header : Addr
  d_is_header : FuncData
  F_is_header : Fun K "is_header" "is_header" s_is_header f_is_header d_is_header
  b_is_header : Binds K d_is_header ["line"] []
  g_is_header : mg "is_header" = some (.ref f_is_header)
  f_is_loose : Addr
  d_is_loose : FuncData
  F_is_loose : Fun K "is_loose" "is_loose" s_is_loose f_is_loose d_is_loose
  b_is_loose : Binds K d_is_loose ["line"] []
  g_is_loose : mg "is_loose" = some (.ref f_is_loose)
  f_read_setting : Addr
  d_read_setting : FuncData
  F_read_setting : Fun K "read_setting" "read_setting" s_read_setting f_read_setting d_read_setting
  b_read_setting : Binds K d_read_setting ["line"] []
  g_read_setting : mg "read_setting" = some (.ref f_read_setting)
  f_read_kept : Addr
  d_read_kept : FuncData
  F_read_kept : Fun K "read_kept" "read_kept" s_read_kept f_read_kept d_read_kept
  b_read_kept : Binds K d_read_kept ["line"] []
  g_read_kept : mg "read_kept" = some (.ref f_read_kept)
  f__law_bag : Addr
  d__law_bag : FuncData
  F__law_bag : Fun K "_law_bag" "_law_bag" s_L_bag f__law_bag d__law_bag
  b__law_bag : Binds K d__law_bag ["_law_script", "_law_at"] []
  g__law_bag : mg "_law_bag" = some (.ref f__law_bag)
  f__law_take : Addr
  d__law_take : FuncData
  F__law_take : Fun K "_law_take" "_law_take" s_L_take f__law_take d__law_take
  b__law_take : Binds K d__law_take ["_law_bag_here", "_law_many"] []
  g__law_take : mg "_law_take" = some (.ref f__law_take)
  f__law_of : Addr
  d__law_of : FuncData
  F__law_of : Fun K "_law_of" "_law_of" s_L_of f__law_of d__law_of
  b__law_of : Binds K d__law_of ["_law_bag_here", "_law_some"] []
  g__law_of : mg "_law_of" = some (.ref f__law_of)
  f__law_mixed : Addr
  d__law_mixed : FuncData
  F__law_mixed : Fun K "_law_mixed" "_law_mixed" s_L_mixed f__law_mixed d__law_mixed
  b__law_mixed : Binds K d__law_mixed ["_law_bag_here", "_law_things"] []
  g__law_mixed : mg "_law_mixed" = some (.ref f__law_mixed)
  f__law_amid : Addr
  d__law_amid : FuncData
  F__law_amid : Fun K "_law_amid" "_law_amid" s_L_amid f__law_amid d__law_amid
  b__law_amid : Binds K d__law_amid ["_law_bag_here"] []
  g__law_amid : mg "_law_amid" = some (.ref f__law_amid)
  f__law_drawn : Addr
  d__law_drawn : FuncData
  F__law_drawn : Fun K "_law_drawn" "_law_drawn" s_L_drawn f__law_drawn d__law_drawn
  b__law_drawn : Binds K d__law_drawn ["_law_bag_here"] []
  g__law_drawn : mg "_law_drawn" = some (.ref f__law_drawn)
  f__law_shows : Addr
  d__law_shows : FuncData
  F__law_shows : Fun K "_law_shows" "_law_shows" s_L_shows f__law_shows d__law_shows
  b__law_shows : Binds K d__law_shows ["_law_file", "_law_lines", "_law_heads", "_law_found"] []
  g__law_shows : mg "_law_shows" = some (.ref f__law_shows)
  f__law_changed : Addr
  d__law_changed : FuncData
  F__law_changed : Fun K "_law_changed" "_law_changed" s_L_changed f__law_changed d__law_changed
  b__law_changed : Binds K d__law_changed ["_law_file"] []
  g__law_changed : mg "_law_changed" = some (.ref f__law_changed)
  f_law : Addr
  d_law : FuncData
  F_law : Fun K "law" "law" s_law f_law d_law
  b_law : Binds K d_law ["_law_script"] []
  g_law : mg "law" = some (.ref f_law)
  f_SettingsFile___init__ : Addr
  d_SettingsFile___init__ : FuncData
  F_SettingsFile___init__ : Fun K "__init__" "SettingsFile.__init__" s_SettingsFile___init__ f_SettingsFile___init__ d_SettingsFile___init__
  b_SettingsFile___init__ : Binds K d_SettingsFile___init__ ["self", "text"] []
  mk_SettingsFile : Mk K C_SettingsFile f_SettingsFile___init__
  kn_SettingsFile___init__ : KBn K d_SettingsFile___init__ ["self", "text"] 1 ["text"] (fun us ws => us ++ ws) (fun us ws => us ++ ws)
  f_SettingsFile_take : Addr
  d_SettingsFile_take : FuncData
  F_SettingsFile_take : Fun K "take" "SettingsFile.take" s_SettingsFile_take f_SettingsFile_take d_SettingsFile_take
  b_SettingsFile_take : Binds K d_SettingsFile_take ["self", "line"] []
  me_SettingsFile_take : Meth K C_SettingsFile "take" f_SettingsFile_take
  f_SettingsFile_take_kept : Addr
  d_SettingsFile_take_kept : FuncData
  F_SettingsFile_take_kept : Fun K "take_kept" "SettingsFile.take_kept" s_SettingsFile_take_kept f_SettingsFile_take_kept d_SettingsFile_take_kept
  b_SettingsFile_take_kept : Binds K d_SettingsFile_take_kept ["self", "line"] []
  me_SettingsFile_take_kept : Meth K C_SettingsFile "take_kept" f_SettingsFile_take_kept
  f_SettingsFile_take_header : Addr
  d_SettingsFile_take_header : FuncData
  F_SettingsFile_take_header : Fun K "take_header" "SettingsFile.take_header" s_SettingsFile_take_header f_SettingsFile_take_header d_SettingsFile_take_header
  b_SettingsFile_take_header : Binds K d_SettingsFile_take_header ["self", "name"] []
  me_SettingsFile_take_header : Meth K C_SettingsFile "take_header" f_SettingsFile_take_header
  f_SettingsFile_take_setting : Addr
  d_SettingsFile_take_setting : FuncData
  F_SettingsFile_take_setting : Fun K "take_setting" "SettingsFile.take_setting" s_SettingsFile_take_setting f_SettingsFile_take_setting d_SettingsFile_take_setting
  b_SettingsFile_take_setting : Binds K d_SettingsFile_take_setting ["self", "key", "value"] []
  me_SettingsFile_take_setting : Meth K C_SettingsFile "take_setting" f_SettingsFile_take_setting
  f_SettingsFile_close_block : Addr
  d_SettingsFile_close_block : FuncData
  F_SettingsFile_close_block : Fun K "close_block" "SettingsFile.close_block" s_SettingsFile_close_block f_SettingsFile_close_block d_SettingsFile_close_block
  b_SettingsFile_close_block : Binds K d_SettingsFile_close_block ["self", "thing"] []
  me_SettingsFile_close_block : Meth K C_SettingsFile "close_block" f_SettingsFile_close_block
  f_SettingsFile_lines : Addr
  d_SettingsFile_lines : FuncData
  F_SettingsFile_lines : Fun K "lines" "SettingsFile.lines" s_SettingsFile_lines f_SettingsFile_lines d_SettingsFile_lines
  b_SettingsFile_lines : Binds K d_SettingsFile_lines ["self"] []
  p_SettingsFile_lines : Addr
  pr_SettingsFile_lines : PropOf K C_SettingsFile "lines" p_SettingsFile_lines f_SettingsFile_lines
  f_SettingsFile_sections : Addr
  d_SettingsFile_sections : FuncData
  F_SettingsFile_sections : Fun K "sections" "SettingsFile.sections" s_SettingsFile_sections f_SettingsFile_sections d_SettingsFile_sections
  b_SettingsFile_sections : Binds K d_SettingsFile_sections ["self"] []
  me_SettingsFile_sections : Meth K C_SettingsFile "sections" f_SettingsFile_sections
  f_SettingsFile_places : Addr
  d_SettingsFile_places : FuncData
  F_SettingsFile_places : Fun K "places" "SettingsFile.places" s_SettingsFile_places f_SettingsFile_places d_SettingsFile_places
  b_SettingsFile_places : Binds K d_SettingsFile_places ["self"] []
  me_SettingsFile_places : Meth K C_SettingsFile "places" f_SettingsFile_places
  f_SettingsFile_value : Addr
  d_SettingsFile_value : FuncData
  F_SettingsFile_value : Fun K "value" "SettingsFile.value" s_SettingsFile_value f_SettingsFile_value d_SettingsFile_value
  b_SettingsFile_value : Binds K d_SettingsFile_value ["self", "place"] []
  me_SettingsFile_value : Meth K C_SettingsFile "value" f_SettingsFile_value
  f_SettingsFile_pairs : Addr
  d_SettingsFile_pairs : FuncData
  F_SettingsFile_pairs : Fun K "pairs" "SettingsFile.pairs" s_SettingsFile_pairs f_SettingsFile_pairs d_SettingsFile_pairs
  b_SettingsFile_pairs : Binds K d_SettingsFile_pairs ["self"] []
  me_SettingsFile_pairs : Meth K C_SettingsFile "pairs" f_SettingsFile_pairs
  f_SettingsFile___len__ : Addr
  d_SettingsFile___len__ : FuncData
  F_SettingsFile___len__ : Fun K "__len__" "SettingsFile.__len__" s_SettingsFile___len__ f_SettingsFile___len__ d_SettingsFile___len__
  b_SettingsFile___len__ : Binds K d_SettingsFile___len__ ["self"] []
  me_SettingsFile___len__ : Meth K C_SettingsFile "__len__" f_SettingsFile___len__
  f_SettingsFile___contains__ : Addr
  d_SettingsFile___contains__ : FuncData
  F_SettingsFile___contains__ : Fun K "__contains__" "SettingsFile.__contains__" s_SettingsFile___contains__ f_SettingsFile___contains__ d_SettingsFile___contains__
  b_SettingsFile___contains__ : Binds K d_SettingsFile___contains__ ["self", "x"] []
  me_SettingsFile___contains__ : Meth K C_SettingsFile "__contains__" f_SettingsFile___contains__
  f_SettingsFile___str__ : Addr
  d_SettingsFile___str__ : FuncData
  F_SettingsFile___str__ : Fun K "__str__" "SettingsFile.__str__" s_SettingsFile___str__ f_SettingsFile___str__ d_SettingsFile___str__
  b_SettingsFile___str__ : Binds K d_SettingsFile___str__ ["self"] []
  me_SettingsFile___str__ : Meth K C_SettingsFile "__str__" f_SettingsFile___str__
  t_LONGEST_NAME : Tok
  g_LONGEST_NAME : mg "LONGEST_NAME" = some (.int 8 t_LONGEST_NAME)
  t_LETTERS : Tok
  g_LETTERS : mg "LETTERS" = some (.str "abcdefghijklmnopqrstuvwxyz" t_LETTERS)
  t_LONGEST_VALUE : Tok
  g_LONGEST_VALUE : mg "LONGEST_VALUE" = some (.int 12 t_LONGEST_VALUE)
  t_DIGITS : Tok
  g_DIGITS : mg "DIGITS" = some (.str "0123456789" t_DIGITS)
  t_LONGEST_RELEASE : Tok
  g_LONGEST_RELEASE : mg "LONGEST_RELEASE" = some (.int 2 t_LONGEST_RELEASE)
  t_KEPT_MARK : Tok
  g_KEPT_MARK : mg "KEPT_MARK" = some (.str "#~" t_KEPT_MARK)
  m_len : mg "len" = none
  m_isinstance : mg "isinstance" = none
  m_str : mg "str" = none
  m_all : mg "all" = none
  m_int : mg "int" = none
  m_enumerate : mg "enumerate" = none
  m_abs : mg "abs" = none
  m_list : mg "list" = none
  m_range : mg "range" = none
  m_bool : mg "bool" = none
  m_max : mg "max" = none
  m_min : mg "min" = none
end K02

set_option Elab.async false
set_option linter.all false
set_option maxRecDepth 100000
namespace K02
open PySem PySem.Spec PyProof.Rows L2 My
section
variable {P : Program} {w : World} {K : PySem.W.Frag} {mg : Str → Option Value} {base : Heap}
def sp_L_take (K : PySem.W.Frag) : Sp := fun vs H Q _ => ∃ (b : Addr) (many : Int), vs = [.ref b, .int many] ∧ Bag H b ∧ 0 < many ∧ many ≤ 1000 ∧
  ∀ (d n m : Int), 0 ≤ d → d < many → 0 ≤ n → 0 ≤ m → m < 2147483648 → Q (.int d) (upd H b (.lst [.int n, .int m]))
theorem ok_L_take (T : Top K mg) : FnOk P w K mg base CX0 1 T.f__law_take T.d__law_take ["_law_bag_here", "_law_many"] (sp_L_take K) := by
  refine T.F__law_take.ok scL_take (fun vs H Q E h => ?_) (fun cdv A outer s H vs Q E hr h => ?_)
  · obtain ⟨b, many, rfl, _⟩ := h
    rfl
  · obtain ⟨b, many, rfl, ⟨n, m, hb, n0, m0, m1⟩, p0, p1, q⟩ := h
    refine ⟨_, (pss_cons (ps_if (pt_cmpR op_gt (pe_ix ix_list (pv 0) pe_int (fun _ _ => rfl)) pe_int (nomark _)) (pss_cons (ps_set (i := 2) scL_take.nd rfl (.inl rfl) (pe_op op_mod (pe_callTy call_int1 (by rfl) T.m_int (by decide +kernel) (pa_cons (pe_ix ix_list (pv 0) pe_int (fun _ _ => rfl)) pa_nil)) (pv 1)))
      (pss_cons (ps_asg (pe_op op_fdiv (pe_ix ix_list (pv 0) pe_int (fun _ _ => rfl)) (pv 1)) (pg_sub (pv 0) pe_int set_list))
      (pss_one (ps_ret (pv 2))))) pss_nil)
      (pss_cons (ps_asg (pe_op op_mod (pe_callTy call_int1 (by rfl) T.m_int (by decide +kernel) (pa_cons (pe_op op_add (pe_op op_mul (pe_ix ix_list (pv 0) pe_int (fun _ _ => rfl)) pe_int) pe_int) pa_nil)) pe_int) (pg_sub (pv 0) pe_int set_list))
      (pss_one (ps_ret (pe_op op_mod (pe_op op_fdiv (pe_op op_mod (pe_callTy call_int1 (by rfl) T.m_int (by decide +kernel) (pa_cons (pe_op op_mul (pe_op op_fdiv (pe_ix ix_list (pv 0) pe_int (fun _ _ => rfl)) pe_int) pe_int) pa_nil)) pe_int) pe_int) (pv 1)))))), ?_⟩
    refine ⟨.ref b, rfl, b, _, 0, .int n, rfl, rfl, SqL.of hb, atI_nat (j := 0) rfl, n, 0, rfl, rfl, _, rfl, ite2 (fun e => ?_) (fun e => ?_)⟩
    · refine ⟨.ref b, rfl, b, _, 0, .int n, rfl, rfl, SqL.of hb, atI_nat (j := 0) rfl, .inl ⟨n, rfl, .int many, rfl, n, many, rfl, rfl, p0, ?_⟩⟩
      refine ⟨.ref b, rfl, b, _, 0, .int n, rfl, rfl, SqL.of hb, atI_nat (j := 0) rfl, .int many, rfl, n, many, rfl, rfl, ⟨p0, by omega⟩, ?_⟩
      refine ⟨.ref b, rfl, b, _, 0, 0, rfl, rfl, hb, rfl, ?_⟩
      refine ⟨.int (n % many), rfl, ?_⟩
      exact q _ _ _ (Int.emod_nonneg _ (by omega)) (Int.emod_lt_of_pos _ p0) (Int.ediv_nonneg n0 (by omega)) m0 m1
    · refine ⟨.ref b, rfl, b, _, 1, .int m, rfl, rfl, SqL.of hb, atI_nat (j := 1) rfl, m, 40692, rfl, rfl, .inl ⟨by omega, by omega⟩, _, 2909, rfl, rfl, .inl ⟨_, rfl, _, 2147483399, rfl, rfl, (show (0 : Int) < 2147483399 by decide), ?_⟩⟩
      refine ⟨.ref b, rfl, b, _, 1, 1, rfl, rfl, hb, rfl, ?_⟩
      obtain ⟨m2, hm⟩ : ∃ m2, m2 = (m * 40692 + 2909) % 2147483399 := ⟨_, rfl⟩
      have a0 : 0 ≤ m2 := by rw [hm]; exact Int.emod_nonneg _ (by decide)
      have a1 : m2 < 2147483399 := by rw [hm]; exact Int.emod_lt_of_pos _ (by decide)
      refine ⟨.ref b, rfl, b, _, 1, .int m2, rfl, rfl, SqL.of upd_same, atI_nat (j := 1) (by rw [hm]; rfl), m2, 7, rfl, rfl, ⟨by decide, by decide⟩, _, 69621, rfl, rfl, .inl ⟨by omega, by omega⟩,
        .inl ⟨_, rfl, _, 2147483587, rfl, rfl, (show (0 : Int) < 2147483587 by decide), _, 64, rfl, rfl, ⟨by decide, by decide⟩, .int many, rfl, _, many, rfl, rfl, p0, ?_⟩⟩
      have z := q (m2 / 7 * 69621 % 2147483587 / 64 % many) n m2 (Int.emod_nonneg _ (by omega)) (Int.emod_lt_of_pos _ p0) n0 a0 (by omega)
      rw [hm] at z ⊢
      exact z
def sp_L_of (K : PySem.W.Frag) : Sp := fun vs H Q _ => ∃ (b l : Addr) (xs : List V), vs = [.ref b, .ref l] ∧ Bag H b ∧ H l = some (.lst xs) ∧ l ≠ b ∧ xs ≠ [] ∧ xs.length ≤ 1000 ∧
  ∀ (v : V) (n m : Int), v ∈ xs → 0 ≤ n → 0 ≤ m → m < 2147483648 → Q v (upd H b (.lst [.int n, .int m]))
theorem ok_L_of (T : Top K mg) : FnOk P w K mg base CX0 2 T.f__law_of T.d__law_of ["_law_bag_here", "_law_some"] (sp_L_of K) := by
  have G__law_take : FnOk P w K mg base CX0 1 T.f__law_take T.d__law_take ["_law_bag_here", "_law_many"] (sp_L_take K) := ok_L_take T
  refine T.F__law_of.ok scL_of (fun vs H Q E h => ?_) (fun cdv A outer s H vs Q E hr h => ?_)
  · obtain ⟨b, l, xs, rfl, _⟩ := h
    rfl
  · obtain ⟨b, l, xs, rfl, hb, hl, ne, h0, h1, q⟩ := h
    refine ⟨_, (pss_one (ps_ret (pe_ix ix_list (pv 1) (pe_call G__law_take (hr.mono (by decide)) (by rfl) T.g__law_take T.F__law_take.kp T.b__law_take .nil pass0 (pa_cons (pv 0) (pa_cons (pe_callB call_len_seq (by rfl) T.m_len (by decide +kernel) (pa_cons (pv 1) pa_nil)) pa_nil))) (fun _ _ => rfl)))), ?_⟩
    have hp : 0 < xs.length := List.length_pos_iff.mpr h0
    refine ⟨.ref l, rfl, .ref b, rfl, .ref l, rfl, l, xs, rfl, .inl (SqL.of hl), b, (xs.length : Int), rfl, hb, by omega, by omega, fun d n m d0 d1 n0 m0 m1 => ?_⟩
    have hd : d.toNat < xs.length := by omega
    refine ⟨l, xs, d, xs[d.toNat], rfl, rfl, SqL.of (by rw [upd_ne ne]; exact hl), at_of (j := d.toNat) (by omega) (List.getElem?_eq_getElem hd), ?_⟩
    exact q _ _ _ (List.getElem_mem hd) n0 m0 m1
/-! ### the bag -/
def sp_L_bag (K : PySem.W.Frag) : Sp := fun vs H Q _ => ∃ (a : Addr) (i : Int) (ns : List Int), vs = [.ref a, .int i] ∧ SqL K H a (ns.map V.int) ∧ ns.length ≤ 63 ∧ 0 ≤ i ∧ i ≤ 1000 ∧
  ∀ H' p, Same H H' → H p = none → Bag H' p → Q (.ref p) H'
theorem ok_L_bag (T : Top K mg) : FnOk P w K mg base CX0 1 T.f__law_bag T.d__law_bag ["_law_script", "_law_at"] (sp_L_bag K) := by
  refine T.F__law_bag.ok scL_bag (fun vs H Q E h => ?_) (fun cdv A outer s H vs Q E hr h => ?_)
  · obtain ⟨b, l, xs, rfl, _⟩ := h
    rfl
  · obtain ⟨a, i, ns, rfl, hS, hl, i0, i1, q⟩ := h
    refine ⟨_, (pss_cons (ps_set (i := 2) scL_bag.nd rfl (.inl rfl) (pe_ifExp (pt_cmpR op_lt (pv 1) (pe_callB call_len_seq (by rfl) T.m_len (by decide +kernel) (pa_cons (pv 0) pa_nil)) (nomark _)) (pe_ix ix_list (pv 0) (pv 1) (fun _ _ => rfl)) pe_int))
      (pss_cons (ps_set (i := 3) scL_bag.nd rfl (.inl rfl) (pe_op op_add (pe_op op_mul pe_int (pv 1)) pe_int))
      (pss_cons (ps_for PassesOwn.never rfl (pi_enum (by rfl) T.m_enumerate (pa_cons (pe_slice sl_list (pv 0) po_none (po_some pe_int)) pa_nil)) (pg_tup rfl (pgs_cons (pg_name (i := 4) scL_bag.nd rfl (.inl rfl)) (pgs_cons (pg_name (i := 5) scL_bag.nd rfl (.inl rfl)) pgs_nil))) (pss_one (ps_set (i := 3) scL_bag.nd rfl (.inl rfl) (pe_op op_mod (pe_callTy call_int1 (by rfl) T.m_int (by decide +kernel) (pa_cons (pe_op op_add (pe_op op_add (pe_op op_add (pe_op op_mul (pv 3) pe_int) (pe_op op_mod (pe_callTy call_int1 (by rfl) T.m_int (by decide +kernel) (pa_cons (pv 5) pa_nil)) pe_int)) (pe_op op_mul pe_int (pv 4))) pe_int) pa_nil)) pe_int))))
      (pss_one (ps_ret (pe_lst (pa_cons (pe_ifExp (pt_cmpR op_ge (pe_callB call_abs (by rfl) T.m_abs (by decide +kernel) (pa_cons (pv 2) pa_nil)) (pe_op op_pow pe_int pe_int) (nomark _)) (pe_callB call_abs (by rfl) T.m_abs (by decide +kernel) (pa_cons (pv 2) pa_nil)) pe_int) (pa_cons (pv 3) pa_nil)))))))), ?_⟩
    obtain ⟨z, hz1, hz2⟩ : ∃ z : Int, (i < (((ns.map V.int).length : Nat) : Int) → atI (ns.map V.int) i = some (.int z)) ∧ (¬ i < (((ns.map V.int).length : Nat) : Int) → z = 0) := by
      by_cases h : i < (((ns.map V.int).length : Nat) : Int)
      · have hn : i.toNat < ns.length := by rw [List.length_map] at h; omega
        refine ⟨ns[i.toNat], fun _ => at_of (j := i.toNat) (by omega) ?_, fun h2 => absurd h h2⟩
        rw [List.getElem?_map, List.getElem?_eq_getElem hn]
        rfl
      · exact ⟨0, fun h2 => absurd h2 h, fun _ => rfl⟩
    refine ⟨.int i, rfl, .ref a, rfl, a, _, rfl, .inl hS, i, _, rfl, rfl, _, rfl, ite_via (fun e r => ⟨.ref a, rfl, .int i, rfl, a, _, i, .int z, rfl, rfl, hS, hz1 (of_decide_eq_true e), r⟩) (fun e r => by
      have e2 := hz2 (fun x => e (decide_eq_true x))
      rw [e2] at r
      exact r) ?_⟩
    refine ⟨.int i, rfl, 4027, i, rfl, rfl, .inl ⟨by decide, by decide⟩, _, 29, rfl, rfl, ?_⟩
    refine ⟨.ref a, rfl, 40, rfl, a, _, rfl, hS, fun c nc => ?_⟩
    obtain ⟨ms, ems, lms⟩ := cut_ints ns none (some 40)
    have sc0 : Same H (upd H c (.lst (cutV (ns.map V.int) none (some 40)))) := same_new nc
    refine ⟨c, _, rfl, SqL.of upd_same, for_it (walk_enum (xs := cutV (ns.map V.int) none (some 40))) (fun _ σ H3 => ∃ (bl : Int) (y4 y5 : Option V), σ = [some (.ref a), some (.int i), some (.int z), some (.int bl), y4, y5] ∧ 0 ≤ bl ∧ bl < 2147483648 ∧ Same H H3 ∧ H3 c = some (.lst (cutV (ns.map V.int) none (some 40)))) ?_ ?_ ?_ ?_⟩
    · exact ⟨4027 * i + 29, none, none, rfl, by omega, by omega, sc0, upd_same⟩
    · rintro j σ H3 _ ⟨bl, y4, y5, _, _, _, _, h5⟩
      exact SqL.of h5
    · rintro j x σ H3 H4 hj ⟨bl, y4, y5, rfl, b0, b1, hs, hc⟩ ⟨t, x1, x2, rfl, nt, rfl, e1, e2⟩
      cases e1
      obtain ⟨v, rfl⟩ : ∃ v : Int, x2 = .int v := by
        have e2 : (ms.map V.int)[j]? = some x2 := by rw [← ems]; exact e2
        rw [List.getElem?_map] at e2
        cases e3 : ms[j]? with
        | none => rw [e3] at e2; cases e2
        | some v => rw [e3] at e2; cases e2; exact ⟨v, rfl⟩
      refine ⟨t, _, rfl, SqT.of upd_same, rfl, .int (j : Nat), [.int v], rfl, .int v, [], rfl, rfl, ?_⟩
      refine ⟨.int bl, rfl, bl, 40014, rfl, rfl, .inl ⟨by omega, by omega⟩, .int v, rfl, .inl ⟨v, rfl, v, 2147483563, rfl, rfl, (show (0 : Int) < 2147483563 by decide), _, _, rfl, rfl, .int (j : Nat), rfl, 83, _, rfl, rfl, .inl ⟨by decide, by decide⟩, _, _, rfl, rfl, _, 7, rfl, rfl, .inl ⟨_, rfl, _, 2147483563, rfl, rfl, (show (0 : Int) < 2147483563 by decide), ?_⟩⟩⟩
      refine ⟨_, _, _, rfl, Int.emod_nonneg _ (by decide), Int.lt_trans (Int.emod_lt_of_pos _ (by decide)) (by decide), hs.trans (same_new nt), ?_⟩
      rw [upd_ne (ne_of_none hc nt)]
      exact hc
    · rintro σ H3 ⟨bl, y4, y5, rfl, b0, b1, hs, hc⟩
      have rest : ∀ n : Int, 0 ≤ n → ∀ p, H3 p = none → Q (.ref p) (upd H3 p (.lst [.int n, .int bl])) := fun n n0 p np => q _ p (hs.trans (same_new np)) (hs.free np) ⟨n, bl, upd_same, n0, b0, b1⟩
      refine ⟨.int z, rfl, z, rfl, 10, 18, rfl, rfl, ⟨by decide, by decide, by decide⟩, _, _, rfl, rfl, _, rfl, ite2 (fun e => ?_) (fun e => ?_)⟩
      · refine ⟨.int z, rfl, z, rfl, .int bl, rfl, (by show 2 ≤ sizeLine; decide), fun p np => rest _ ?_ p np⟩
        split <;> omega
      · exact ⟨.int bl, rfl, (by show 2 ≤ sizeLine; decide), fun p np => rest 0 (by decide) p np⟩
def sp_is_made_of (K : PySem.W.Frag) : Sp := fun vs H Q _ => ∃ (v : V) (cs : Str) (most : Int), vs = [v, .str cs, .int most] ∧ Ask K H v ∧ ∀ H', Same H H' → Q (.bl (ofText (madeOf cs most) v)) H'
theorem ok_is_made_of (T : Top K mg) : FnOk P w K mg base CX0 1 T.f_is_made_of T.d_is_made_of ["thing", "characters", "most"] (sp_is_made_of K) := by
  refine T.F_is_made_of.ok scis_made_of (fun vs H Q E h => ?_) (fun cdv A outer s H vs Q E hr h => ?_)
  · obtain ⟨v, cs, most, rfl, _⟩ := h
    rfl
  · obtain ⟨v, cs, most, rfl, hv, q⟩ := h
    refine ⟨_, (pss_cons (ps_if (PW.pt (pw_or (pt_not (pt_val (pe_callB call_isi (by rfl) T.m_isinstance (by decide +kernel) (pa_cons (pv 0) (pa_cons (pe_bltn (v := .ty "str") (by rfl) T.m_str (by decide +kernel) rfl) pa_nil))))) (pw_or (pt_cmpR op_eq (pv 0) pe_str (nomark _)) (pw_or1 (pt_cmpR op_gt (pe_callB call_len_str (by rfl) T.m_len (by decide +kernel) (pa_cons (pv 0) pa_nil)) (pv 2) (nomark _)))))) (pss_one (ps_ret pe_bl)) pss_nil)
      (pss_one (ps_ret (pe_callB (cr_all rfl) (by rfl) T.m_all (by decide +kernel) (pa_cons (pe_lc (own := [("character", 3)]) rfl scis_made_of.nd (pi_str (pv 0)) (blkOk_by (N := N_is_made_of) (sc := defScope s_is_made_of) (by decide +kernel)) (fun _ _ _ _ _ => (pg_name (i := 3) scis_made_of.nd rfl (.inl rfl))) (fun _ _ _ _ _ => pts_nil) (fun _ _ _ _ _ => (pe_cmpR op_in_sign (pv 3) (pv 1) (by rfl)))) pa_nil))))), ?_⟩
    rcases hv with ⟨z, rfl, hz⟩ | ⟨hno, t, ht, hk⟩
    · refine ⟨.str z, rfl, _, _, _, _, true, rfl, ClsV.ty "str", .base (.str z), kit_ty (by decide +kernel), true, rfl, iteF ?_⟩
      refine ⟨.str z, rfl, rfl, _, rfl, ite2 (fun e => iteT ?_) (fun e => ?_)⟩
      · have e1 : z = "" := V.str.inj (of_decide_eq_true e)
        subst e1
        exact q H (Same.refl H)
      · have z0 : 1 ≤ z.length := by
          cases hl : z.length with
          | zero =>
            refine absurd (decide_eq_true ?_) e
            have : z = "" := by
              cases z with
              | mk cps => 
                have : cps = #[] := Array.eq_empty_of_size_eq_zero hl
                rw [this]; rfl
            rw [this]
          | succ n => omega
        refine ⟨.str z, rfl, z, rfl, len1000 hz, .int most, rfl, _, _, rfl, rfl, _, rfl, ite2 (fun e2 => ?_) (fun e2 => ?_)⟩
        · have e3 : (z.length : Int) > most := of_decide_eq_true e2
          have := q H (Same.refl H)
          have hm : ofText (madeOf cs most) (.str z) = false := by
            show (decide (1 ≤ z.length) && (decide ((z.length : Int) ≤ most) && _)) = false
            rw [decide_eq_false (show ¬ (z.length : Int) ≤ most by omega), Bool.false_and, Bool.and_false]
          rw [hm] at this
          exact this
        · have e3 : ¬ (z.length : Int) > most := fun x => e2 (decide_eq_true x)
          refine ⟨.str z, rfl, z, rfl, fun D nD => lc_it walk_str (fun i H3 => Same H H3 ∧ H3 D = some (.lst ((z.cps.toList.take i).map fun c => V.bl (decide (c ∈ cs.cps.toList))))) ?_ (fun _ _ _ _ => trivial) ?_ ?_⟩
          · exact ⟨same_new nD, upd_same⟩
          · rintro i x H3 H4 hi ⟨s3, d3⟩ ⟨rfl, c, hc, rfl⟩
            refine ⟨rfl, ?_⟩
            simp only [tYes, if_true]
            refine ⟨.str ⟨#[c]⟩, rfl, .str cs, rfl, c, cs, rfl, rfl, _, d3, ?_, ?_, ?_⟩
            · rw [List.length_map, List.length_take]
              refine small1000 ?_
              have : z.cps.toList.length = z.length := rfl
              omega
            · intro b o e4
              rw [upd_ne (ne_of_none e4 nD)]
              exact s3 _ _ e4
            · have hc2 : z.cps.toList[i]? = some c := by rw [Array.getElem?_toList]; exact hc
              rw [upd_same, take_all_map _ _ _ _ hc2]
          · rintro H3 ⟨s3, d3⟩
            have e4 : z.cps.toList.take z.cps.size = z.cps.toList := List.take_of_length_le (Nat.le_of_eq rfl)
            rw [e4] at d3
            refine ⟨D, z.cps.toList.map fun c => decide (c ∈ cs.cps.toList), rfl, SqL.of (by rw [d3, List.map_map]; rfl), ?_⟩
            have := q H3 s3
            have hm : ofText (madeOf cs most) (.str z) = (z.cps.toList.map fun c => decide (c ∈ cs.cps.toList)).all id := by
              show (decide (1 ≤ z.length) && (decide ((z.length : Int) ≤ most) && _)) = _
              rw [decide_eq_true z0, decide_eq_true (show (z.length : Int) ≤ most by omega), Bool.true_and, Bool.true_and, List.all_map]
              rfl
            rw [hm] at this
            exact this
    · refine ⟨v, rfl, _, _, _, _, false, rfl, ClsV.ty "str", ht, kit_ty hk, false, rfl, iteT ?_⟩
      have := q H (Same.refl H)
      rw [hno] at this
      exact this
def sp_ask (K : PySem.W.Frag) (f : Str → Bool) : Sp := fun vs H Q _ => ∃ v : V, vs = [v] ∧ Ask K H v ∧ ∀ H', Same H H' → Q (.bl (ofText f v)) H'
def sp_is_name (K : PySem.W.Frag) : Sp := sp_ask K nameS
def sp_is_place (K : PySem.W.Frag) : Sp := sp_ask K placeS
def sp_is_value (K : PySem.W.Frag) : Sp := sp_ask K valueS
theorem ok_is_name (T : Top K mg) : FnOk P w K mg base CX0 2 T.f_is_name T.d_is_name ["thing"] (sp_is_name K) := by
  have G_is_made_of : FnOk P w K mg base CX0 1 T.f_is_made_of T.d_is_made_of ["thing", "characters", "most"] (sp_is_made_of K) := ok_is_made_of T
  refine T.F_is_name.ok scis_name (fun vs H Q E h => ?_) (fun cdv A outer s H vs Q E hr h => ?_)
  · obtain ⟨v, rfl, _⟩ := h
    rfl
  · obtain ⟨v, rfl, hv, q⟩ := h
    refine ⟨_, (pss_one (ps_ret (pe_call G_is_made_of (hr.mono (by decide)) (by rfl) T.g_is_made_of T.F_is_made_of.kp T.b_is_made_of .nil pass0 (pa_cons (pv 0) (pa_cons (pe_glob (v := .str "abcdefghijklmnopqrstuvwxyz") (by rfl) T.g_LETTERS ⟨_, rfl⟩) (pa_cons (pe_glob (v := .int 8) (by rfl) T.g_LONGEST_NAME ⟨_, rfl⟩) pa_nil)))))), ?_⟩
    exact ⟨v, rfl, v, _, _, rfl, hv, q⟩
theorem ok_is_place (T : Top K mg) : FnOk P w K mg base CX0 3 T.f_is_place T.d_is_place ["thing"] (sp_is_place K) := by
  have G_is_name : FnOk P w K mg base CX0 2 T.f_is_name T.d_is_name ["thing"] (sp_is_name K) := ok_is_name T
  refine T.F_is_place.ok scis_place (fun vs H Q E h => ?_) (fun cdv A outer s H vs Q E hr h => ?_)
  · obtain ⟨v, rfl, _⟩ := h
    rfl
  · obtain ⟨v, rfl, hv, q⟩ := h
    refine ⟨_, (pss_cons (ps_if (pt_not (pt_val (pe_callB call_isi (by rfl) T.m_isinstance (by decide +kernel) (pa_cons (pv 0) (pa_cons (pe_bltn (v := .ty "str") (by rfl) T.m_str (by decide +kernel) rfl) pa_nil))))) (pss_one (ps_ret pe_bl)) pss_nil)
      (pss_cons (ps_asg (pe_m1 F.slot_str_partition F.type_str_partition mt_partition (pv 0) pe_str) (pg_tup rfl (pgs_cons (pg_name (i := 1) scis_place.nd rfl (.inl rfl)) (pgs_cons (pg_name (i := 2) scis_place.nd rfl (.inl rfl)) (pgs_cons (pg_name (i := 3) scis_place.nd rfl (.inl rfl)) pgs_nil)))))
      (pss_one (ps_ret (pe_and (pe_call G_is_name (hr.mono (by decide)) (by rfl) T.g_is_name T.F_is_name.kp T.b_is_name .nil pass0 (pa_cons (pv 1) pa_nil)) (pe_one (pe_call G_is_name (hr.mono (by decide)) (by rfl) T.g_is_name T.F_is_name.kp T.b_is_name .nil pass0 (pa_cons (pv 3) pa_nil)))))))), ?_⟩
    rcases hv with ⟨z, rfl, hz⟩ | ⟨hno, t, ht, hk⟩
    · refine ⟨.str z, rfl, _, _, _, _, true, rfl, ClsV.ty "str", .base (.str z), kit_ty (by decide +kernel), true, rfl, iteF ?_⟩
      refine ⟨.str z, rfl, ⟨z, rfl⟩, z, dot, rfl, rfl, rfl, len1000 hz, fun p np => ?_⟩
      refine ⟨p, _, rfl, SqT.of upd_same, rfl, _, _, rfl, _, _, rfl, _, _, rfl, rfl, ?_⟩
      have hp := part_len z
      refine ⟨.str (Txt.partition z dot).1, rfl, _, rfl, Ask.text (by omega), fun H2 s2 => ⟨nameS (Txt.partition z dot).1, rfl, ite2 (fun e => ?_) (fun e => ?_)⟩⟩
      · refine ⟨.str (Txt.partition z dot).2.2, rfl, _, rfl, Ask.text (by omega), fun H3 s3 => ?_⟩
        have := q H3 (((same_new np).trans s2).trans s3)
        have hm : ofText placeS (.str z) = ofText nameS (.str (Txt.partition z dot).2.2) := by
          show (nameS _ && nameS _) = nameS _
          rw [e, Bool.true_and]
        rw [hm] at this
        exact this
      · have := q H2 ((same_new np).trans s2)
        have hm : ofText placeS (.str z) = false := by
          show (nameS _ && nameS _) = false
          rw [eq_false_of_ne_true e, Bool.false_and]
        rw [hm] at this
        exact this
    · refine ⟨v, rfl, _, _, _, _, false, rfl, ClsV.ty "str", ht, kit_ty hk, false, rfl, iteT ?_⟩
      have := q H (Same.refl H)
      rw [hno] at this
      exact this
theorem ok_is_value (T : Top K mg) : FnOk P w K mg base CX0 2 T.f_is_value T.d_is_value ["thing"] (sp_is_value K) := by
  have G_is_made_of : FnOk P w K mg base CX0 1 T.f_is_made_of T.d_is_made_of ["thing", "characters", "most"] (sp_is_made_of K) := ok_is_made_of T
  refine T.F_is_value.ok scis_value (fun vs H Q E h => ?_) (fun cdv A outer s H vs Q E hr h => ?_)
  · obtain ⟨v, rfl, _⟩ := h
    rfl
  · obtain ⟨v, rfl, hv, q⟩ := h
    refine ⟨_, (pss_one (ps_ret (pe_and (pe_call G_is_made_of (hr.mono (by decide)) (by rfl) T.g_is_made_of T.F_is_made_of.kp T.b_is_made_of .nil pass0 (pa_cons (pv 0) (pa_cons (pe_op op_add_str (pe_op op_add_str (pe_glob (v := .str "abcdefghijklmnopqrstuvwxyz") (by rfl) T.g_LETTERS ⟨_, rfl⟩) (pe_glob (v := .str "0123456789") (by rfl) T.g_DIGITS ⟨_, rfl⟩)) pe_str) (pa_cons (pe_glob (v := .int 12) (by rfl) T.g_LONGEST_VALUE ⟨_, rfl⟩) pa_nil)))) (pe_one (pe_not (pe_m1 F.slot_str_startswith F.type_str_startswith mt_startswith (pv 0) pe_str)))))), ?_⟩
    refine ⟨v, rfl, _, _, rfl, rfl, by decide, _, _, rfl, rfl, by decide, v, _, _, rfl, hv, fun H2 s2 => ⟨_, rfl, ite2 (fun e => ?_) (fun e => ?_)⟩⟩
    · rcases hv with ⟨z, rfl, hz⟩ | ⟨hno, t, ht, hk⟩
      · refine ⟨.str z, rfl, ⟨z, rfl⟩, z, _, rfl, rfl, _, rfl, ?_⟩
        have := q H2 s2
        have hm : ofText valueS (.str z) = !Txt.startswith z "-" := by
          show (madeOf valueSigns 12 z && _) = _
          rw [show madeOf valueSigns 12 z = true from e, Bool.true_and]
        rw [hm] at this
        exact this
      · rw [hno] at e
        cases e
    · have := q H2 s2
      have hm : ofText valueS v = false := by
        rcases hv with ⟨z, rfl, hz⟩ | ⟨hno, t, ht, hk⟩
        · show (madeOf valueSigns 12 z && _) = false
          rw [show madeOf valueSigns 12 z = false from eq_false_of_ne_true e, Bool.false_and]
        · exact hno _
      rw [hm] at this
      exact this
end
end K02

set_option Elab.async false
set_option linter.all false
set_option maxRecDepth 100000
namespace K02
open PySem PySem.Spec PyProof.Rows L2 My
section
variable {P : Program} {w : World} {K : PySem.W.Frag} {mg : Str → Option Value} {base : Heap}
/-! ### lines -/
def sp_line (f : Str → Bool) : Sp := fun vs H Q _ => ∃ z : Str, vs = [.str z] ∧ z.length ≤ 1000 ∧ ∀ H', Same H H' → Q (.bl (f z)) H'
def sp_is_release_word (K : PySem.W.Frag) : Sp := sp_line relW
def sp_is_header (K : PySem.W.Frag) : Sp := sp_line headS
def sp_is_loose (K : PySem.W.Frag) : Sp := sp_line looseS
theorem eq_str (a b : Str) : decide (V.str a = V.str b) = decide (a = b) := decide_eq_decide.mpr ⟨fun e => V.str.inj e, fun e => by rw [e]⟩
theorem ok_is_release_word (T : Top K mg) : FnOk P w K mg base CX0 2 T.f_is_release_word T.d_is_release_word ["thing"] (sp_is_release_word K) := by
  have G_is_made_of : FnOk P w K mg base CX0 1 T.f_is_made_of T.d_is_made_of ["thing", "characters", "most"] (sp_is_made_of K) := ok_is_made_of T
  refine T.F_is_release_word.ok scis_release_word (fun vs H Q E h => ?_) (fun cdv A outer s H vs Q E hr h => ?_)
  · obtain ⟨z, rfl, _⟩ := h
    rfl
  · obtain ⟨z, rfl, hz, q⟩ := h
    refine ⟨_, (pss_one (ps_ret (pe_and (pe_call G_is_made_of (hr.mono (by decide)) (by rfl) T.g_is_made_of T.F_is_made_of.kp T.b_is_made_of .nil pass0 (pa_cons (pv 0) (pa_cons (pe_glob (v := .str "0123456789") (by rfl) T.g_DIGITS ⟨_, rfl⟩) (pa_cons (pe_glob (v := .int 2) (by rfl) T.g_LONGEST_RELEASE ⟨_, rfl⟩) pa_nil)))) (pe_one (pe_or (pe_cmpR op_eq (pv 0) pe_str (nomark _)) (pe_one (pe_not (pe_m1 F.slot_str_startswith F.type_str_startswith mt_startswith (pv 0) pe_str)))))))), ?_⟩
    refine ⟨.str z, rfl, _, _, _, rfl, Ask.text hz, fun H2 s2 => ⟨_, rfl, ite2 (fun e => ?_) (fun e => ?_)⟩⟩
    · have e1 : madeOf digits 2 z = true := e
      refine ⟨.str z, rfl, rfl, _, rfl, ite2 (fun e2 => ?_) (fun e2 => ?_)⟩
      · have := q H2 s2
        rw [eq_str] at e2
        rw [show relW z = true by unfold relW; rw [e1, show decide (z = "0") = true from e2]; rfl] at this
        exact this
      · refine ⟨.str z, rfl, ⟨z, rfl⟩, z, _, rfl, rfl, _, rfl, ?_⟩
        have := q H2 s2
        rw [eq_str] at e2
        rw [show relW z = !Txt.startswith z "0" by unfold relW; rw [e1, show decide (z = "0") = false from eq_false_of_ne_true e2]; rfl] at this
        exact this
    · have e1 : madeOf digits 2 z = false := eq_false_of_ne_true e
      have := q H2 s2
      rw [show relW z = false by unfold relW; rw [e1]; rfl] at this
      exact this
theorem ok_is_header (T : Top K mg) : FnOk P w K mg base CX0 3 T.f_is_header T.d_is_header ["line"] (sp_is_header K) := by
  have G_is_name : FnOk P w K mg base CX0 2 T.f_is_name T.d_is_name ["thing"] (sp_is_name K) := ok_is_name T
  refine T.F_is_header.ok scis_header (fun vs H Q E h => ?_) (fun cdv A outer s H vs Q E hr h => ?_)
  · obtain ⟨z, rfl, _⟩ := h
    rfl
  · obtain ⟨z, rfl, hz, q⟩ := h
    refine ⟨_, (pss_one (ps_ret (pe_and (pe_m1 F.slot_str_startswith F.type_str_startswith mt_startswith (pv 0) pe_str) (pe_and (pe_m1 F.slot_str_endswith F.type_str_endswith mt_endswith (pv 0) pe_str) (pe_one (pe_call G_is_name (hr.mono (by decide)) (by rfl) T.g_is_name T.F_is_name.kp T.b_is_name .nil pass0 (pa_cons (pe_slice sl_str (pv 0) (po_some pe_int) (po_some (pe_un un_neg pe_int))) pa_nil))))))), ?_⟩
    refine ⟨.str z, rfl, ⟨z, rfl⟩, z, _, rfl, rfl, _, rfl, ite2 (fun e => ?_) (fun e => ?_)⟩
    · refine ⟨.str z, rfl, ⟨z, rfl⟩, z, _, rfl, rfl, _, rfl, ite2 (fun e2 => ?_) (fun e2 => ?_)⟩
      · refine ⟨.str z, rfl, 1, rfl, 1, rfl, -1, rfl, z, rfl, len1000 hz, _, rfl, Ask.text (Nat.le_trans (cutS_length z _ _) hz), fun H2 s2 => ?_⟩
        have := q H2 s2
        rw [show headS z = nameS (headOf z) by unfold headS; rw [show Txt.startswith z "[" = true from e, show Txt.endswith z "]" = true from e2]; rfl] at this
        exact this
      · have := q H (Same.refl H)
        rw [show headS z = false by unfold headS; rw [show Txt.startswith z "[" = true from e, show Txt.endswith z "]" = false from eq_false_of_ne_true e2]; rfl] at this
        exact this
    · have := q H (Same.refl H)
      rw [show headS z = false by unfold headS; rw [show Txt.startswith z "[" = false from eq_false_of_ne_true e]; rfl] at this
      exact this
theorem ok_is_loose (T : Top K mg) : FnOk P w K mg base CX0 1 T.f_is_loose T.d_is_loose ["line"] (sp_is_loose K) := by
  refine T.F_is_loose.ok scis_loose (fun vs H Q E h => ?_) (fun cdv A outer s H vs Q E hr h => ?_)
  · obtain ⟨z, rfl, _⟩ := h
    rfl
  · obtain ⟨z, rfl, hz, q⟩ := h
    have := q H (Same.refl H)
    refine ⟨_, (pss_one (ps_ret (pe_or (pe_cmpR op_eq (pv 0) pe_str (nomark _)) (pe_one (pe_and (pe_m1 F.slot_str_startswith F.type_str_startswith mt_startswith (pv 0) pe_str) (pe_one (pe_not (pe_m1 F.slot_str_startswith F.type_str_startswith mt_startswith (pv 0) (pe_glob (v := .str "#~") (by rfl) T.g_KEPT_MARK ⟨_, rfl⟩))))))))), ?_⟩
    refine ⟨.str z, rfl, rfl, _, rfl, ite2 (fun e => ?_) (fun e => ?_)⟩
    · rw [eq_str] at e
      rw [show looseS z = true by unfold looseS; rw [show decide (z = "") = true from e]; rfl] at this
      exact this
    · rw [eq_str] at e
      have e1 : decide (z = "") = false := eq_false_of_ne_true e
      refine ⟨.str z, rfl, ⟨z, rfl⟩, z, _, rfl, rfl, _, rfl, ite2 (fun e2 => ?_) (fun e2 => ?_)⟩
      · refine ⟨.str z, rfl, ⟨z, rfl⟩, z, _, rfl, rfl, _, rfl, ?_⟩
        rw [show looseS z = !Txt.startswith z markS by unfold looseS; rw [e1, show Txt.startswith z "#" = true from e2]; rfl] at this
        exact this
      · rw [show looseS z = false by unfold looseS; rw [e1, show Txt.startswith z "#" = false from eq_false_of_ne_true e2]; rfl] at this
        exact this
def sp_read_setting (K : PySem.W.Frag) : Sp := fun vs H Q _ => ∃ z : Str, vs = [.str z] ∧ z.length ≤ 1000 ∧ (setS z = none → ∀ H', Same H H' → Q .non H') ∧
  ∀ k v, setS z = some (k, v) → ∀ H' p, Same H H' → H' p = some (.tup [.str k, .str v]) → Q (.ref p) H'
theorem part3 (z y : Str) : (Txt.partition z y).1.length ≤ z.length ∧ (Txt.partition z y).2.1.length ≤ z.length ∧ (Txt.partition z y).2.2.length ≤ z.length := fact_partition z y
theorem ok_read_setting (T : Top K mg) : FnOk P w K mg base CX0 3 T.f_read_setting T.d_read_setting ["line"] (sp_read_setting K) := by
  have G_is_value : FnOk P w K mg base CX0 2 T.f_is_value T.d_is_value ["thing"] (sp_is_value K) := ok_is_value T
  have G_is_name : FnOk P w K mg base CX0 2 T.f_is_name T.d_is_name ["thing"] (sp_is_name K) := ok_is_name T
  refine T.F_read_setting.ok scread_setting (fun vs H Q E h => ?_) (fun cdv A outer s H vs Q E hr h => ?_)
  · obtain ⟨z, rfl, _⟩ := h
    rfl
  · obtain ⟨z, rfl, hz, q1, q2⟩ := h
    have hp := part3 z eqS
    refine ⟨_, (pss_cons (ps_asg (pe_m1 F.slot_str_partition F.type_str_partition mt_partition (pv 0) pe_str) (pg_tup rfl (pgs_cons (pg_name (i := 1) scread_setting.nd rfl (.inl rfl)) (pgs_cons (pg_name (i := 2) scread_setting.nd rfl (.inl rfl)) (pgs_cons (pg_name (i := 3) scread_setting.nd rfl (.inl rfl)) pgs_nil)))))
      (pss_one (ps_ret (pe_ifExp (PW.pt (pw_and (pt_val (pe_call G_is_name (hr.mono (by decide)) (by rfl) T.g_is_name T.F_is_name.kp T.b_is_name .nil pass0 (pa_cons (pv 1) pa_nil))) (pw_and1 (pt_val (pe_call G_is_value (hr.mono (by decide)) (by rfl) T.g_is_value T.F_is_value.kp T.b_is_value .nil pass0 (pa_cons (pv 3) pa_nil)))))) (pe_tup (pa_cons (pv 1) (pa_cons (pv 3) pa_nil))) pe_non)))), ?_⟩
    refine ⟨.str z, rfl, ⟨z, rfl⟩, z, eqS, rfl, rfl, rfl, len1000 hz, fun p np => ?_⟩
    refine ⟨p, _, rfl, SqT.of upd_same, rfl, _, _, rfl, _, _, rfl, _, _, rfl, rfl, ?_⟩
    have s1 : Same H (upd H p (.tup [.str (Txt.partition z eqS).1, .str (Txt.partition z eqS).2.1, .str (Txt.partition z eqS).2.2])) := same_new np
    refine ⟨.str (Txt.partition z eqS).1, rfl, _, rfl, Ask.text (by omega), fun H2 s2 => ⟨_, rfl, ite2 (fun e => ?_) (fun e => ?_)⟩⟩
    · refine ⟨.str (Txt.partition z eqS).2.2, rfl, _, rfl, Ask.text (by omega), fun H3 s3 => ⟨_, rfl, ite2 (fun e2 => ?_) (fun e2 => ?_)⟩⟩
      · refine ⟨.str (Txt.partition z eqS).1, rfl, .str (Txt.partition z eqS).2.2, rfl, (by show 2 ≤ sizeLine; decide), fun p2 np2 => ?_⟩
        refine q2 _ _ ?_ _ p2 ((s1.trans s2).trans (s3.trans (same_new np2))) upd_same
        unfold setS
        rw [show nameS (Txt.partition z eqS).1 = true from e, show valueS (Txt.partition z eqS).2.2 = true from e2]
        rfl
      · refine q1 ?_ _ ((s1.trans s2).trans s3)
        unfold setS
        rw [show nameS (Txt.partition z eqS).1 = true from e, show valueS (Txt.partition z eqS).2.2 = false from eq_false_of_ne_true e2]
        rfl
    · refine iteF (q1 ?_ _ (s1.trans s2))
      unfold setS
      rw [show nameS (Txt.partition z eqS).1 = false from eq_false_of_ne_true e]
      rfl
def sp_read_kept (K : PySem.W.Frag) : Sp := fun vs H Q _ => ∃ z : Str, vs = [.str z] ∧ z.length ≤ 1000 ∧ (keptS z = none → ∀ H', Same H H' → Q .non H') ∧
  ∀ r p v, keptS z = some (r, p, v) → ∀ H' a, Same H H' → H' a = some (.tup [.int r, .str p, optV v]) → Q (.ref a) H'
theorem ok_read_kept (T : Top K mg) : FnOk P w K mg base CX0 4 T.f_read_kept T.d_read_kept ["line"] (sp_read_kept K) := by
  have G_is_place : FnOk P w K mg base CX0 3 T.f_is_place T.d_is_place ["thing"] (sp_is_place K) := ok_is_place T
  have G_is_release_word : FnOk P w K mg base CX0 2 T.f_is_release_word T.d_is_release_word ["thing"] (sp_is_release_word K) := ok_is_release_word T
  have G_is_value : FnOk P w K mg base CX0 2 T.f_is_value T.d_is_value ["thing"] (sp_is_value K) := ok_is_value T
  refine T.F_read_kept.ok scread_kept (fun vs H Q E h => ?_) (fun cdv A outer s H vs Q E hr h => ?_)
  · obtain ⟨z, rfl, _⟩ := h
    rfl
  · obtain ⟨z, rfl, hz, q1, q2⟩ := h
    have hp1 : (kp1 z).1.length ≤ z.length ∧ (kp1 z).2.1.length ≤ z.length ∧ (kp1 z).2.2.length ≤ z.length := part3 z spaceS
    have hp2 : (kp2 z).1.length ≤ (kp1 z).2.2.length ∧ (kp2 z).2.1.length ≤ (kp1 z).2.2.length ∧ (kp2 z).2.2.length ≤ (kp1 z).2.2.length := part3 (kp1 z).2.2 spaceS
    have hp3 : (kp3 z).1.length ≤ (kp2 z).2.2.length ∧ (kp3 z).2.1.length ≤ (kp2 z).2.2.length ∧ (kp3 z).2.2.length ≤ (kp2 z).2.2.length := part3 (kp2 z).2.2 eqS
    refine ⟨_, (pss_cons (ps_asg (pe_m1 F.slot_str_partition F.type_str_partition mt_partition (pv 0) pe_str) (pg_tup rfl (pgs_cons (pg_name (i := 1) scread_kept.nd rfl (.inl rfl)) (pgs_cons (pg_name (i := 2) scread_kept.nd rfl (.inl rfl)) (pgs_cons (pg_name (i := 3) scread_kept.nd rfl (.inl rfl)) pgs_nil)))))
      (pss_cons (ps_asg (pe_m1 F.slot_str_partition F.type_str_partition mt_partition (pv 3) pe_str) (pg_tup rfl (pgs_cons (pg_name (i := 4) scread_kept.nd rfl (.inl rfl)) (pgs_cons (pg_name (i := 2) scread_kept.nd rfl (.inl rfl)) (pgs_cons (pg_name (i := 5) scread_kept.nd rfl (.inl rfl)) pgs_nil)))))
      (pss_cons (ps_asg (pe_m1 F.slot_str_partition F.type_str_partition mt_partition (pv 5) pe_str) (pg_tup rfl (pgs_cons (pg_name (i := 6) scread_kept.nd rfl (.inl rfl)) (pgs_cons (pg_name (i := 7) scread_kept.nd rfl (.inl rfl)) (pgs_cons (pg_name (i := 8) scread_kept.nd rfl (.inl rfl)) pgs_nil)))))
      (pss_cons (ps_if (PW.pt (pw_or (pt_cmpR op_ne (pv 1) (pe_glob (v := .str "#~") (by rfl) T.g_KEPT_MARK ⟨_, rfl⟩) (nomark _)) (pw_or (pt_not (pt_val (pe_call G_is_release_word (hr.mono (by decide)) (by rfl) T.g_is_release_word T.F_is_release_word.kp T.b_is_release_word .nil pass0 (pa_cons (pv 4) pa_nil)))) (pw_or1 (pt_not (pt_val (pe_call G_is_place (hr.mono (by decide)) (by rfl) T.g_is_place T.F_is_place.kp T.b_is_place .nil pass0 (pa_cons (pv 6) pa_nil)))))))) (pss_one (ps_ret pe_non)) pss_nil)
      (pss_cons (ps_if (pt_cmpR op_eq (pv 7) pe_str (nomark _)) (pss_one (ps_ret (pe_tup (pa_cons (pe_callTy call_int_str (by rfl) T.m_int (by decide +kernel) (pa_cons (pv 4) pa_nil)) (pa_cons (pv 6) (pa_cons pe_non pa_nil)))))) pss_nil)
      (pss_one (ps_ret (pe_ifExp (pt_val (pe_call G_is_value (hr.mono (by decide)) (by rfl) T.g_is_value T.F_is_value.kp T.b_is_value .nil pass0 (pa_cons (pv 8) pa_nil))) (pe_tup (pa_cons (pe_callTy call_int_str (by rfl) T.m_int (by decide +kernel) (pa_cons (pv 4) pa_nil)) (pa_cons (pv 6) (pa_cons (pv 8) pa_nil)))) pe_non)))))))), ?_⟩
    refine ⟨.str z, rfl, ⟨z, rfl⟩, z, spaceS, rfl, rfl, rfl, len1000 hz, fun p np => ?_⟩
    refine ⟨p, _, rfl, SqT.of upd_same, rfl, _, _, rfl, _, _, rfl, _, _, rfl, rfl, ?_⟩
    have s1 : Same H (upd H p (.tup [.str (kp1 z).1, .str (kp1 z).2.1, .str (kp1 z).2.2])) := same_new np
    refine ⟨.str (kp1 z).2.2, rfl, ⟨_, rfl⟩, _, spaceS, rfl, rfl, rfl, len1000 (by omega), fun p2 np2 => ?_⟩
    refine ⟨p2, _, rfl, SqT.of upd_same, rfl, _, _, rfl, _, _, rfl, _, _, rfl, rfl, ?_⟩
    have s2 := s1.trans (same_new (o := .tup [.str (kp2 z).1, .str (kp2 z).2.1, .str (kp2 z).2.2]) np2)
    refine ⟨.str (kp2 z).2.2, rfl, ⟨_, rfl⟩, _, eqS, rfl, rfl, rfl, len1000 (by omega), fun p3 np3 => ?_⟩
    refine ⟨p3, _, rfl, SqT.of upd_same, rfl, _, _, rfl, _, _, rfl, _, _, rfl, rfl, ?_⟩
    have s3 := s2.trans (same_new (o := .tup [.str (kp3 z).1, .str (kp3 z).2.1, .str (kp3 z).2.2]) np3)
    have none1 : (decide ((kp1 z).1 = markS) && (relW (kp2 z).1 && placeS (kp3 z).1)) = false → keptS z = none := fun h => by
      unfold keptS
      rw [h]
      rfl
    refine ⟨.str (kp1 z).1, rfl, rfl, _, rfl, ite2 (fun e => ?_) (fun e => ?_)⟩
    · rw [eq_str] at e
      refine iteT (q1 (none1 ?_) _ s3)
      have : decide ((kp1 z).1 = markS) = false := by
        cases h : decide ((kp1 z).1 = markS) with
        | false => rfl
        | true => rw [h] at e; cases e
      rw [this]
      rfl
    · rw [eq_str] at e
      have e1 : decide ((kp1 z).1 = markS) = true := by
        cases h : decide ((kp1 z).1 = markS) with
        | false => rw [h] at e; exact absurd rfl e
        | true => rfl
      refine ⟨.str (kp2 z).1, rfl, _, rfl, by omega, fun H4 s4 => ⟨_, rfl, ite2 (fun e2 => ?_) (fun e2 => ?_)⟩⟩
      · have e2' : relW (kp2 z).1 = false := by
          cases h : relW (kp2 z).1 with
          | false => rfl
          | true => rw [h] at e2; cases e2
        refine iteT (q1 (none1 ?_) _ (s3.trans s4))
        rw [e1, e2']
        rfl
      · have e2' : relW (kp2 z).1 = true := by
          cases h : relW (kp2 z).1 with
          | false => rw [h] at e2; exact absurd rfl e2
          | true => rfl
        refine ⟨.str (kp3 z).1, rfl, _, rfl, Ask.text (by omega), fun H5 s5 => ⟨_, rfl, ite2 (fun e3 => ?_) (fun e3 => ?_)⟩⟩
        · have e3' : placeS (kp3 z).1 = false := by
            cases h : placeS (kp3 z).1 with
            | false => rfl
            | true => rw [show ofText placeS (.str (kp3 z).1) = true from h] at e3; cases e3
          refine q1 (none1 ?_) _ ((s3.trans s4).trans s5)
          rw [e1, e2', e3']
          rfl
        · have e3' : placeS (kp3 z).1 = true := by
            cases h : placeS (kp3 z).1 with
            | false => rw [show ofText placeS (.str (kp3 z).1) = false from h] at e3; exact absurd rfl e3
            | true => rfl
          have hi := int_of_rel e2'
          have t5 := (s3.trans s4).trans s5
          refine ⟨.str (kp3 z).2.1, rfl, rfl, _, rfl, ite2 (fun e4 => ?_) (fun e4 => ?_)⟩
          · rw [eq_str] at e4
            refine ⟨.str (kp2 z).1, rfl, _, _, rfl, hi.1, hi.2, .str (kp3 z).1, rfl, (by show 3 ≤ sizeLine; decide), fun a na => ?_⟩
            refine q2 _ _ none ?_ _ a (t5.trans (same_new na)) upd_same
            unfold keptS
            rw [e1, e2', e3', if_pos (show (true && (true && true)) = true from rfl), if_pos (of_decide_eq_true e4)]
          · rw [eq_str] at e4
            have e4' : ¬ (kp3 z).2.1 = "" := fun h => e4 (decide_eq_true h)
            refine ⟨.str (kp3 z).2.2, rfl, _, rfl, Ask.text (by omega), fun H6 s6 => ⟨_, rfl, ite2 (fun e5 => ?_) (fun e5 => ?_)⟩⟩
            · refine ⟨.str (kp2 z).1, rfl, _, _, rfl, hi.1, hi.2, .str (kp3 z).1, rfl, .str (kp3 z).2.2, rfl, (by show 3 ≤ sizeLine; decide), fun a na => ?_⟩
              refine q2 _ _ (some (kp3 z).2.2) ?_ _ a ((t5.trans s6).trans (same_new na)) upd_same
              unfold keptS
              rw [e1, e2', e3', if_pos (show (true && (true && true)) = true from rfl), if_neg e4', if_pos (show valueS (kp3 z).2.2 = true from e5)]
            · refine q1 ?_ _ (t5.trans s6)
              unfold keptS
              rw [e1, e2', e3', if_pos (show (true && (true && true)) = true from rfl), if_neg e4', if_neg (show ¬ valueS (kp3 z).2.2 = true from e5)]
end
end K02

set_option Elab.async false
set_option linter.all false
set_option maxRecDepth 100000
namespace K02
open PySem PySem.Spec PyProof.Rows L2 My
/-- none of its lists is longer than n -/
structure Sm (n : Nat) (fs : FS) : Prop where
  a : fs.headers.length ≤ n
  b : fs.settings.length ≤ n
  c : fs.kept.length ≤ n
  d : fs.blocks.length ≤ n
  e : fs.loose.length ≤ n
theorem Sm.step {n : Nat} {fs fs' : FS} {z : Str} (h : Sm n fs) (e : stepF fs z = some fs') : Sm (n + 1) fs' := by
  obtain ⟨h1, h2, h3, h4, h5⟩ := h
  unfold stepF at e
  split at e
  · cases e
    constructor <;> (try simp) <;> omega
  split at e
  · split at e
    · cases e
    · split at e
      · cases e
      · cases e
        constructor <;> (try simp) <;> omega
  split at e
  · split at e
    · cases e
    · cases e
      constructor <;> (try simp) <;> omega
  split at e
  · cases e
  split at e
  · cases e
  split at e
  · cases e
  · cases e
    constructor <;> (try simp) <;> omega
theorem big {n : Nat} (h : n ≤ 100000) : n < sizeLine := Nat.lt_of_le_of_lt h (by decide)
theorem paired_len {α β : Type} {F : α → β → Prop} : ∀ {l : List α} {m : List β}, Paired F l m → l.length = m.length
  | _, _, .nil => rfl
  | _, _, .cons _ r => by rw [List.length_cons, List.length_cons, paired_len r]
section
variable {P : Program} {w : World} {K : PySem.W.Frag} {mg : Str → Option Value} {base : Heap}
/-! ### the methods of a file that is read -/
def sp_SettingsFile_close_block (K : PySem.W.Frag) (T : Top K mg) : Sp := fun vs H Q _ => ∃ (H0 : Hp) (x : Addr) (t : Str) (rows : List Str) (fs : FS) (A : Parts) (y : Str), vs = [.ref x, .str y] ∧ FileP T.C_SettingsFile H0 H x t rows fs A ∧ Sm 99999 fs ∧
  y ∉ fs.blocks.map (·.1) ∧ (y ∈ fs.headers ∨ y ∈ fs.settings.map (·.1)) ∧ ∀ H' A', FileP T.C_SettingsFile H0 H' x t rows { fs with blocks := fs.blocks ++ [(y, fs.loose)], loose := [] } A' → Q .non H'
theorem ok_SettingsFile_close_block (T : Top K mg) : FnOk P w K mg base CX0 1 T.f_SettingsFile_close_block T.d_SettingsFile_close_block ["self", "thing"] (sp_SettingsFile_close_block K T) := by
  refine T.F_SettingsFile_close_block.ok scSettingsFile_close_block (fun vs H Q E h => ?_) (fun cdv A outer s H vs Q E hr h => ?_)
  · obtain ⟨H0, x, t, rows, fs, A, y, rfl, _⟩ := h
    rfl
  · obtain ⟨H0, x, t, rows, fs, A, y, rfl, f, sm, hy, hy2, q⟩ := h
    refine ⟨_, (pss_cons (ps_dput (hu_of hr) (pe_fld (pv 0) rfl) (pv 1) (pe_fld (pv 0) rfl) rfl)
      (pss_one (ps_fld (pv 0) (pe_lst pa_nil) rfl))), ?_⟩
    have names : A.bl.map (·.1) = fs.blocks.map (·.1) := blk_names (fun _ _ h => h.1) f.bs
    have new : valV (blkKV A.bl) (Sum.inr y : Key) = none := val_blk (by rw [names]; exact hy)
    have len : (blkKV A.bl).length ≤ 100000 := by
      unfold blkKV
      rw [List.length_map, paired_len f.bs]
      have := sm.d
      omega
    refine ⟨.ref x, rfl, x, _, _, _, _, rfl, f.ob, T.cl_SettingsFile, T.no_SettingsFile_loose, f_loose _ _ _ _ _ _ _, .ref x, rfl, x, _, _, _, _, rfl, f.ob, T.cl_SettingsFile, T.no_SettingsFile_blocks, f_blocks _ _ _ _ _ _ _, .str y, rfl, A.b, _, rfl, DPut.k (k := Sum.inr y) f.eb (big len), ?_⟩
    rw [putK_new _ new]
    have e : blkKV A.bl ++ [(Sum.inr y, V.ref A.l)] = blkKV (A.bl ++ [(y, A.l)]) := by
      unfold blkKV
      rw [List.map_append]
      rfl
    rw [e]
    refine ⟨Nat.zero_le _, fun l' nl => ?_⟩
    have bx : x ≠ A.b := ne_of f.ob f.eb (fun h => nomatch h)
    have xl : x ≠ l' := ne_of_none (show (upd H A.b _) x = _ by rw [upd_ne bx]; exact f.ob) nl
    refine ⟨.ref x, rfl, x, _, _, _, rfl, (by rw [upd_ne xl, upd_ne bx]; exact f.ob), T.cl_SettingsFile, T.no_SettingsFile_loose, flds_len _ _ _ _ _ _ _, ?_⟩
    rw [flds_reloose]
    exact q _ _ (f.close nl hy2)
def sp_SettingsFile_take_header (K : PySem.W.Frag) (T : Top K mg) : Sp := fun vs H Q _ => ∃ (H0 : Hp) (x : Addr) (t : Str) (rows : List Str) (fs : FS) (A : Parts) (y : Str), vs = [.ref x, .str y] ∧ FileP T.C_SettingsFile H0 H x t rows fs A ∧ Sm 99998 fs ∧
  nameS y = true ∧ y ∉ fs.headers ∧ ∀ H' A', FileP T.C_SettingsFile H0 H' x t rows { fs with headers := fs.headers ++ [y], blocks := fs.blocks ++ [(y, fs.loose)], loose := [] } A' → Q .non H'
theorem ok_SettingsFile_take_header (T : Top K mg) : FnOk P w K mg base CX0 2 T.f_SettingsFile_take_header T.d_SettingsFile_take_header ["self", "name"] (sp_SettingsFile_take_header K T) := by
  have G_SettingsFile_close_block : FnOk P w K mg base CX0 1 T.f_SettingsFile_close_block T.d_SettingsFile_close_block ["self", "thing"] (sp_SettingsFile_close_block K T) := ok_SettingsFile_close_block T
  refine T.F_SettingsFile_take_header.ok scSettingsFile_take_header (fun vs H Q E h => ?_) (fun cdv A outer s H vs Q E hr h => ?_)
  · obtain ⟨H0, x, t, rows, fs, A, y, rfl, _⟩ := h
    rfl
  · obtain ⟨H0, x, t, rows, fs, A, y, rfl, f, sm, hn, hy, q⟩ := h
    refine ⟨_, (pss_cons (ps_if (pt_cmpR op_in_seq (pv 1) (pe_fld (pv 0) rfl) (by rfl)) (pss_one (ps_ret pe_str)) pss_nil)
      (pss_cons (ps_expr (pe_bm PySem.F.plainAttrs_list PySem.F.slot_list_append PySem.F.type_list_append mt_append (pe_fld (pv 0) rfl) (pa_cons (pv 1) pa_nil)))
      (pss_cons (ps_expr (pe_meth (pv 0) T.cl_SettingsFile T.me_SettingsFile_close_block G_SettingsFile_close_block (hr.mono (by decide)) T.b_SettingsFile_close_block .nil pass0 (pa_cons (pv 1) pa_nil)))
      (pss_one (ps_ret pe_non))))), ?_⟩
    have s1 := sm.a
    refine ⟨.str y, rfl, .ref x, rfl, x, _, _, _, _, rfl, f.ob, T.cl_SettingsFile, T.no_SettingsFile_headers, f_headers _ _ _ _ _ _ _, A.h, _, rfl, .inl (SqL.of f.eh), rfl, (by rw [List.all_map]; exact List.all_eq_true.mpr fun _ _ => rfl), _, rfl, ?_⟩
    rw [in_strs, decide_eq_false hy]
    refine iteF ?_
    refine ⟨.ref x, rfl, x, _, _, _, _, rfl, f.ob, T.cl_SettingsFile, T.no_SettingsFile_headers, f_headers _ _ _ _ _ _ _, .inl ⟨rfl, _, SqL.of f.eh⟩, .str y, rfl, A.h, _, _, rfl, rfl, f.eh, (by rw [List.length_map]; exact big (by omega)), ?_⟩
    have e : fs.headers.map V.str ++ [V.str y] = (fs.headers ++ [y]).map V.str := by rw [List.map_append]; rfl
    rw [e]
    have f2 := f.addHead hn
    refine ⟨.ref x, rfl, x, _, _, rfl, f2.ob, f_no _ _ _ _ _ _ _ (by decide +kernel) (by decide +kernel) (by decide +kernel) (by decide +kernel) (by decide +kernel) (by decide +kernel) (by decide +kernel), .str y, rfl, H0, x, t, rows, _, A, y, rfl, f2, ?_, f.ok.newHead hn hy, .inl (List.mem_append_right _ (List.mem_singleton.mpr rfl)), fun H' A' f3 => q H' A' f3⟩
    have h2 := sm.b
    have h3 := sm.c
    have h4 := sm.d
    have h5 := sm.e
    constructor <;> (try simp) <;> omega
def sp_SettingsFile_take_setting (K : PySem.W.Frag) (T : Top K mg) : Sp := fun vs H Q _ => ∃ (H0 : Hp) (x : Addr) (t : Str) (rows : List Str) (fs : FS) (A : Parts) (k v h : Str), vs = [.ref x, .str k, .str v] ∧ FileP T.C_SettingsFile H0 H x t rows fs A ∧ Sm 99998 fs ∧
  k.length ≤ 1000 ∧ fs.headers.getLast? = some h ∧ h ++ "." ++ k ∉ fs.settings.map (·.1) ∧ ∀ H' A', FileP T.C_SettingsFile H0 H' x t rows { fs with settings := fs.settings ++ [(h ++ "." ++ k, v)], blocks := fs.blocks ++ [(h ++ "." ++ k, fs.loose)], loose := [] } A' → Q .non H'
theorem ok_SettingsFile_take_setting (T : Top K mg) : FnOk P w K mg base CX0 2 T.f_SettingsFile_take_setting T.d_SettingsFile_take_setting ["self", "key", "value"] (sp_SettingsFile_take_setting K T) := by
  have G_SettingsFile_close_block : FnOk P w K mg base CX0 1 T.f_SettingsFile_close_block T.d_SettingsFile_close_block ["self", "thing"] (sp_SettingsFile_close_block K T) := ok_SettingsFile_close_block T
  refine T.F_SettingsFile_take_setting.ok scSettingsFile_take_setting (fun vs H Q E h => ?_) (fun cdv A outer s H vs Q E hr h => ?_)
  · obtain ⟨H0, x, t, rows, fs, A, k, v, h, rfl, _⟩ := h
    rfl
  · obtain ⟨H0, x, t, rows, fs, A, k, v, h, rfl, f, sm, hk, hl, hy, q⟩ := h
    refine ⟨_, (pss_cons (ps_if (pt_cmpR (op_eqNil hr.units0) (pe_fld (pv 0) rfl) (pe_lst pa_nil) (nomark _)) (pss_one (ps_ret pe_str)) pss_nil)
      (pss_cons (ps_set (i := 3) scSettingsFile_take_setting.nd rfl (.inl rfl) (pe_op op_add_str (pe_op op_add_str (pe_ix ix_list (pe_fld (pv 0) rfl) (pe_un un_neg pe_int) (fun _ _ => rfl)) pe_str) (pv 1)))
      (pss_cons (ps_if (pt_cmp (pc_din (hu_of hr) (pv 3) (pe_fld (pv 0) rfl))) (pss_one (ps_ret pe_str)) pss_nil)
      (pss_cons (ps_dput (hu_of hr) (pe_fld (pv 0) rfl) (pv 3) (pv 2) rfl)
      (pss_cons (ps_expr (pe_meth (pv 0) T.cl_SettingsFile T.me_SettingsFile_close_block G_SettingsFile_close_block (hr.mono (by decide)) T.b_SettingsFile_close_block .nil pass0 (pa_cons (pv 3) pa_nil)))
      (pss_one (ps_ret pe_non))))))), ?_⟩
    have h1 := sm.a
    have h2 := sm.b
    have h3 := sm.c
    have h4 := sm.d
    have h5 := sm.e
    have eh : fs.headers = fs.headers.dropLast ++ [h] := by
      obtain ⟨ne, e⟩ : ∃ ne, fs.headers.getLast ne = h := by
        cases hh : fs.headers with
        | nil => rw [hh] at hl; cases hl
        | cons a r => rw [hh] at hl; exact ⟨by simp, by rw [List.getLast?_eq_some_getLast (by simp)] at hl; exact Option.some.inj hl⟩
      rw [← e, List.dropLast_concat_getLast]
    have hin : h ∈ fs.headers := by rw [eh]; exact List.mem_append_right _ (List.mem_singleton.mpr rfl)
    have hlen : h.length ≤ 8 := by
      have := f.ok.hn h hin
      unfold nameS madeOf at this
      simp only [Bool.and_eq_true, decide_eq_true_eq] at this
      omega
    have hgt : atI (fs.headers.map V.str) (-1) = some (.str h) := by
      rw [eh, List.map_append]
      exact atI_last _ _
    refine ⟨.ref x, rfl, x, _, _, _, _, rfl, f.ob, T.cl_SettingsFile, T.no_SettingsFile_headers, f_headers _ _ _ _ _ _ _, Nat.zero_le _, fun p np => ⟨A.h, p, _, rfl, rfl, SqL.of (same_new np _ _ f.eh), SqL.of upd_same, _, rfl, ?_⟩⟩
    have emp : (fs.headers.map V.str).isEmpty = false := by rw [eh, List.map_append]; simp
    rw [emp]
    refine iteF ?_
    have f1 := f.more (same_new (o := .lst []) np)
    generalize upd H p (.lst []) = H1 at f1
    have l1 : (h ++ "." : Str).length ≤ 9 := by
      rw [len_tl, TL.tl_append, List.length_append]
      show h.length + 1 ≤ 9
      omega
    have sb : 100000 ≤ sizeLine := by decide
    refine ⟨.ref x, rfl, x, _, _, _, _, rfl, f1.ob, T.cl_SettingsFile, T.no_SettingsFile_headers, f_headers _ _ _ _ _ _ _, 1, rfl, A.h, _, -1, .str h, rfl, rfl, SqL.of f1.eh, hgt, _, _, rfl, rfl, (by show h.length + 1 ≤ sizeLine; omega), .str k, rfl, _, _, rfl, rfl, (by omega), ?_⟩
    refine ⟨.str (h ++ "." ++ k), rfl, .ref x, rfl, x, _, _, _, _, rfl, f1.ob, T.cl_SettingsFile, T.no_SettingsFile_settings_read, f_settings _ _ _ _ _ _ _, A.s, _, rfl, DGet.k (k := Sum.inr (h ++ "." ++ k)) f1.es, _, rfl, ?_⟩
    have new := val_set hy
    rw [new]
    refine iteF ?_
    have len : (setKV fs.settings).length ≤ 100000 := by
      unfold setKV
      rw [List.length_map]
      omega
    refine ⟨.str v, rfl, .ref x, rfl, x, _, _, _, _, rfl, f1.ob, T.cl_SettingsFile, T.no_SettingsFile_settings_read, f_settings _ _ _ _ _ _ _, .str (h ++ "." ++ k), rfl, A.s, _, rfl, DPut.k (k := Sum.inr (h ++ "." ++ k)) f1.es (big len), ?_⟩
    rw [putK_new _ new]
    have e : setKV fs.settings ++ [(Sum.inr (h ++ "." ++ k), V.str v)] = setKV (fs.settings ++ [(h ++ "." ++ k, v)]) := by
      unfold setKV
      rw [List.map_append]
      rfl
    rw [e]
    have f2 := f1.addSet (p := h ++ "." ++ k) (v := v) (dot_in h k)
    refine ⟨.ref x, rfl, x, _, _, rfl, f2.ob, f_no _ _ _ _ _ _ _ (by decide +kernel) (by decide +kernel) (by decide +kernel) (by decide +kernel) (by decide +kernel) (by decide +kernel) (by decide +kernel), .str (h ++ "." ++ k), rfl, H0, x, t, rows, _, A, _, rfl, f2, ?_, f.ok.newPlace (dot_in h k) hy, .inr ?_, fun H' A' f3 => q H' A' f3⟩
    · constructor <;> (try simp) <;> omega
    · rw [List.map_append]
      exact List.mem_append_right _ (List.mem_singleton.mpr rfl)
end
end K02

set_option Elab.async false
set_option linter.all false
set_option maxRecDepth 100000
namespace K02
open PySem PySem.Spec PyProof.Rows L2 My
/-- the lines of a text -/
def rowsOf (t : Str) : List Str := if t = "" then [] else Txt.split t "\n"
/-- the block of that name -/
def valB (l : List (Str × List Str)) (y : Str) : Option (List Str) := (l.find? fun p => decide (p.1 = y)).map (·.2)
theorem val_block {H H0 : Hp} {lA hA : Addr} {y : Str} {ls : List Str} : ∀ {l : List (Str × Addr)} {m : List (Str × List Str)}, Paired (fun (p : Str × Addr) (q : Str × List Str) => p.1 = q.1 ∧ H p.2 = some (.lst (q.2.map V.str)) ∧ p.2 ≠ lA ∧ p.2 ≠ hA ∧ H0 p.2 = none) l m →
    valB m y = some ls → ∃ a, valV (blkKV l) (Sum.inr y : Key) = some (.ref a) ∧ H a = some (.lst (ls.map V.str))
  | _, _, .nil, e => by cases e
  | p :: l, q :: m, .cons h r, e => by
    by_cases hy : q.1 = y
    · have e2 : q.2 = ls := by
        unfold valB at e
        rw [List.find?_cons, show decide (q.1 = y) = true from decide_eq_true hy] at e
        exact Option.some.inj e
      refine ⟨p.2, ?_, by rw [← e2]; exact h.2.1⟩
      show valV ((Sum.inr p.1, V.ref p.2) :: blkKV l) (Sum.inr y : Key) = _
      exact valV_pos (p := (Sum.inr p.1, V.ref p.2)) (by show (Sum.inr p.1 : Key) = Sum.inr y; rw [h.1, hy])
    · have e2 : valB m y = some ls := by
        unfold valB at e ⊢
        rw [List.find?_cons, show decide (q.1 = y) = false from decide_eq_false hy] at e
        exact e
      obtain ⟨a, h1, h2⟩ := val_block r e2
      refine ⟨a, ?_, h2⟩
      show valV ((Sum.inr p.1, V.ref p.2) :: blkKV l) (Sum.inr y : Key) = _
      rw [valV_neg (p := (Sum.inr p.1, V.ref p.2)) (by show ¬ (Sum.inr p.1 : Key) = Sum.inr y; rw [h.1]; exact fun z => hy (Sum.inr.inj z))]
      exact h1
theorem run_at {fs fsE : FS} {rows : List Str} {i : Nat} {z : Str} (hE : runF fs0 rows = some fsE) (hi : rows[i]? = some z) (h : runF fs0 (rows.take i) = some fs) : ∃ fs', stepF fs z = some fs' ∧ runF fs0 (rows.take (i + 1)) = some fs' := by
  have e : rows = rows.take i ++ z :: rows.drop (i + 1) := by
    have := List.take_append_drop i rows
    rw [List.drop_eq_getElem?_toList_append, hi] at this
    exact this.symm
  rw [e, runF_app, h] at hE
  have hE2 : ((stepF fs z).bind fun fs' => runF fs' (rows.drop (i + 1))) = some fsE := hE
  cases hs : stepF fs z with
  | none => rw [hs] at hE2; cases hE2
  | some fs' =>
    refine ⟨fs', rfl, ?_⟩
    rw [List.take_add_one, hi, runF_app, h]
    show ((stepF fs z).bind fun f => runF f []) = _
    rw [hs]
    rfl
section
variable {P : Program} {w : World} {K : PySem.W.Frag} {mg : Str → Option Value} {base : Heap}
def sp_SettingsFile_take_kept (K : PySem.W.Frag) (T : Top K mg) : Sp := fun vs H Q _ => ∃ (H0 : Hp) (x : Addr) (t : Str) (rows : List Str) (fs : FS) (A : Parts) (z : Str) (r : Int) (p : Str) (v : Option Str), vs = [.ref x, .str z] ∧ FileP T.C_SettingsFile H0 H x t rows fs A ∧ Sm 99998 fs ∧
  z.length ≤ 1000 ∧ keptS z = some (r, p, v) ∧ (r, p) ∉ fs.kept.map (·.1) ∧ ∀ H' A', FileP T.C_SettingsFile H0 H' x t rows { fs with kept := fs.kept ++ [((r, p), v)] } A' → Q .non H'
theorem ok_SettingsFile_take_kept (T : Top K mg) : FnOk P w K mg base CX0 5 T.f_SettingsFile_take_kept T.d_SettingsFile_take_kept ["self", "line"] (sp_SettingsFile_take_kept K T) := by
  have G_read_kept : FnOk P w K mg base CX0 4 T.f_read_kept T.d_read_kept ["line"] (sp_read_kept K) := ok_read_kept T
  refine T.F_SettingsFile_take_kept.ok scSettingsFile_take_kept (fun vs H Q E h => ?_) (fun cdv A outer s H vs Q E hr h => ?_)
  · obtain ⟨H0, x, t, rows, fs, A, z, r, p, v, rfl, _⟩ := h
    rfl
  · obtain ⟨H0, x, t, rows, fs, A, z, r, p, v, rfl, f, sm, hz, hk, hn, q⟩ := h
    refine ⟨_, (pss_cons (ps_set (i := 2) scSettingsFile_take_kept.nd rfl (.inl rfl) (pe_call G_read_kept (hr.mono (by decide)) (by rfl) T.g_read_kept T.F_read_kept.kp T.b_read_kept .nil pass0 (pa_cons (pv 1) pa_nil)))
      (pss_cons (ps_if (pt_cmpR op_isN (pv 2) pe_non (nomark _)) (pss_one (ps_ret pe_str)) pss_nil)
      (pss_cons (ps_asg (pv 2) (pg_tup rfl (pgs_cons (pg_name (i := 3) scSettingsFile_take_kept.nd rfl (.inl rfl)) (pgs_cons (pg_name (i := 4) scSettingsFile_take_kept.nd rfl (.inl rfl)) (pgs_cons (pg_name (i := 5) scSettingsFile_take_kept.nd rfl (.inl rfl)) pgs_nil)))))
      (pss_cons (ps_if (pt_cmp (pc_din (hu_of hr) (pe_tup (pa_cons (pv 3) (pa_cons (pv 4) pa_nil))) (pe_fld (pv 0) rfl))) (pss_one (ps_ret pe_str)) pss_nil)
      (pss_cons (ps_dput (hu_of hr) (pe_fld (pv 0) rfl) (pe_tup (pa_cons (pv 3) (pa_cons (pv 4) pa_nil))) (pv 5) rfl)
      (pss_one (ps_ret pe_non))))))), ?_⟩
    refine ⟨.str z, rfl, z, rfl, hz, (fun e => by rw [hk] at e; cases e), fun r' p' v' e H1 a s1 ha => ?_⟩
    rw [hk] at e
    cases e
    have f1 := f.more s1
    refine ⟨.ref a, rfl, rfl, _, rfl, ?_⟩
    rw [decide_eq_false (show ¬ V.ref a = V.non from fun h => nomatch h)]
    refine iteF ?_
    refine ⟨.ref a, rfl, a, _, rfl, SqT.of ha, rfl, _, _, rfl, _, _, rfl, _, _, rfl, rfl, ?_⟩
    refine ⟨.int r, rfl, .str p, rfl, (by show 2 ≤ sizeLine; decide), fun kt nkt => ?_⟩
    have f2 := f1.more (same_new (o := .tup [.int r, .str p]) nkt)
    have hkt : (upd H1 kt (.tup [.int r, .str p])) kt = some (.tup (([Sum.inl r, Sum.inr p] : List Key).map kV)) := upd_same
    generalize upd H1 kt (.tup [.int r, .str p]) = H2 at f2 hkt
    refine ⟨.ref x, rfl, x, _, _, _, _, rfl, f2.ob, T.cl_SettingsFile, T.no_SettingsFile_kept_read, f_kept _ _ _ _ _ _ _, A.k, _, rfl, DGet.t (k := [Sum.inl r, Sum.inr p]) f2.ek hkt, _, rfl, ?_⟩
    have new := val_kept hn
    rw [new]
    refine iteF ?_
    have len : (keptKV fs.kept).length ≤ 100000 := by
      unfold keptKV
      rw [List.length_map]
      have := sm.c
      omega
    refine ⟨optV v, rfl, .ref x, rfl, x, _, _, _, _, rfl, f2.ob, T.cl_SettingsFile, T.no_SettingsFile_kept_read, f_kept _ _ _ _ _ _ _, .int r, rfl, .str p, rfl, (by show 2 ≤ sizeLine; decide), fun kt2 nkt2 => ?_⟩
    have f3 := f2.more (same_new (o := .tup [.int r, .str p]) nkt2)
    have hkt2 : (upd H2 kt2 (.tup [.int r, .str p])) kt2 = some (.tup (([Sum.inl r, Sum.inr p] : List Key).map kV)) := upd_same
    generalize upd H2 kt2 (.tup [.int r, .str p]) = H3 at f3 hkt2
    refine ⟨A.k, _, rfl, DPut.t (k := [Sum.inl r, Sum.inr p]) f3.ek hkt2 (big len), ?_⟩
    rw [putK_new _ new]
    have e : keptKV fs.kept ++ [(([Sum.inl r, Sum.inr p] : List Key), optV v)] = keptKV (fs.kept ++ [((r, p), v)]) := by
      unfold keptKV
      rw [List.map_append]
      rfl
    rw [e]
    exact q _ _ (f3.addKept ((r, p), v))
def sp_SettingsFile_take (K : PySem.W.Frag) (T : Top K mg) : Sp := fun vs H Q _ => ∃ (H0 : Hp) (x : Addr) (t : Str) (rows : List Str) (fs fs' : FS) (A : Parts) (z : Str), vs = [.ref x, .str z] ∧ FileP T.C_SettingsFile H0 H x t rows fs A ∧ Sm 99998 fs ∧
  z.length ≤ 1000 ∧ stepF fs z = some fs' ∧ ∀ H' A', FileP T.C_SettingsFile H0 H' x t rows fs' A' → Q .non H'
theorem ok_SettingsFile_take (T : Top K mg) : FnOk P w K mg base CX0 6 T.f_SettingsFile_take T.d_SettingsFile_take ["self", "line"] (sp_SettingsFile_take K T) := by
  have G_is_loose : FnOk P w K mg base CX0 1 T.f_is_loose T.d_is_loose ["line"] (sp_is_loose K) := ok_is_loose T
  have G_SettingsFile_take_kept : FnOk P w K mg base CX0 5 T.f_SettingsFile_take_kept T.d_SettingsFile_take_kept ["self", "line"] (sp_SettingsFile_take_kept K T) := ok_SettingsFile_take_kept T
  have G_is_header : FnOk P w K mg base CX0 3 T.f_is_header T.d_is_header ["line"] (sp_is_header K) := ok_is_header T
  have G_SettingsFile_take_header : FnOk P w K mg base CX0 2 T.f_SettingsFile_take_header T.d_SettingsFile_take_header ["self", "name"] (sp_SettingsFile_take_header K T) := ok_SettingsFile_take_header T
  have G_read_setting : FnOk P w K mg base CX0 3 T.f_read_setting T.d_read_setting ["line"] (sp_read_setting K) := ok_read_setting T
  have G_SettingsFile_take_setting : FnOk P w K mg base CX0 2 T.f_SettingsFile_take_setting T.d_SettingsFile_take_setting ["self", "key", "value"] (sp_SettingsFile_take_setting K T) := ok_SettingsFile_take_setting T
  refine T.F_SettingsFile_take.ok scSettingsFile_take (fun vs H Q E h => ?_) (fun cdv A outer s H vs Q E hr h => ?_)
  · obtain ⟨H0, x, t, rows, fs, fs', A, z, rfl, _⟩ := h
    rfl
  · obtain ⟨H0, x, t, rows, fs, fs', A, z, rfl, f, sm, hz, hs, q⟩ := h
    refine ⟨_, (pss_cons (ps_if (pt_val (pe_call G_is_loose (hr.mono (by decide)) (by rfl) T.g_is_loose T.F_is_loose.kp T.b_is_loose .nil pass0 (pa_cons (pv 1) pa_nil))) (pss_cons (ps_expr (pe_bm PySem.F.plainAttrs_list PySem.F.slot_list_append PySem.F.type_list_append mt_append (pe_fld (pv 0) rfl) (pa_cons (pv 1) pa_nil)))
      (pss_one (ps_ret pe_non))) pss_nil)
      (pss_cons (ps_if (pt_val (pe_m1 F.slot_str_startswith F.type_str_startswith mt_startswith (pv 1) (pe_glob (v := .str "#~") (by rfl) T.g_KEPT_MARK ⟨_, rfl⟩))) (pss_one (ps_ret (pe_meth (pv 0) T.cl_SettingsFile T.me_SettingsFile_take_kept G_SettingsFile_take_kept (hr.mono (by decide)) T.b_SettingsFile_take_kept .nil pass0 (pa_cons (pv 1) pa_nil)))) pss_nil)
      (pss_cons (ps_if (pt_val (pe_call G_is_header (hr.mono (by decide)) (by rfl) T.g_is_header T.F_is_header.kp T.b_is_header .nil pass0 (pa_cons (pv 1) pa_nil))) (pss_one (ps_ret (pe_meth (pv 0) T.cl_SettingsFile T.me_SettingsFile_take_header G_SettingsFile_take_header (hr.mono (by decide)) T.b_SettingsFile_take_header .nil pass0 (pa_cons (pe_slice sl_str (pv 1) (po_some pe_int) (po_some (pe_un un_neg pe_int))) pa_nil)))) pss_nil)
      (pss_cons (ps_set (i := 2) scSettingsFile_take.nd rfl (.inl rfl) (pe_call G_read_setting (hr.mono (by decide)) (by rfl) T.g_read_setting T.F_read_setting.kp T.b_read_setting .nil pass0 (pa_cons (pv 1) pa_nil)))
      (pss_cons (ps_if (pt_cmpR op_isN (pv 2) pe_non (nomark _)) (pss_one (ps_ret pe_str)) pss_nil)
      (pss_cons (ps_asg (pv 2) (pg_tup rfl (pgs_cons (pg_name (i := 3) scSettingsFile_take.nd rfl (.inl rfl)) (pgs_cons (pg_name (i := 4) scSettingsFile_take.nd rfl (.inl rfl)) pgs_nil))))
      (pss_one (ps_ret (pe_meth (pv 0) T.cl_SettingsFile T.me_SettingsFile_take_setting G_SettingsFile_take_setting (hr.mono (by decide)) T.b_SettingsFile_take_setting .nil pass0 (pa_cons (pv 3) (pa_cons (pv 4) pa_nil))))))))))), ?_⟩
    unfold stepF at hs
    have noM : ∀ {m : Str}, ¬ m = "loose" → ¬ m = "blocks" → ¬ m = "kept_read" → ¬ m = "settings_read" → ¬ m = "headers" → ¬ m = "rows" → ¬ m = "text" → (flds t A.r A.h A.s A.k A.b A.l).lookup m = none := fun h1 h2 h3 h4 h5 h6 h7 => f_no _ _ _ _ _ _ _ h1 h2 h3 h4 h5 h6 h7
    refine ⟨.str z, rfl, z, rfl, hz, fun H1 s1 => ⟨_, rfl, ite2 (fun e => ?_) (fun e => ?_)⟩⟩
    · rw [if_pos e] at hs
      cases hs
      have f1 := f.more s1
      have s5 := sm.e
      refine ⟨.ref x, rfl, x, _, _, _, _, rfl, f1.ob, T.cl_SettingsFile, T.no_SettingsFile_loose, f_loose _ _ _ _ _ _ _, .inl ⟨rfl, _, SqL.of f1.el⟩, .str z, rfl, A.l, _, _, rfl, rfl, f1.el, (by rw [List.length_map]; exact big (by omega)), ?_⟩
      have e2 : fs.loose.map V.str ++ [V.str z] = (fs.loose ++ [z]).map V.str := by rw [List.map_append]; rfl
      rw [e2]
      exact q _ _ (f1.addLoose z)
    · rw [if_neg e] at hs
      have f1 := f.more s1
      refine ⟨.str z, rfl, ⟨z, rfl⟩, z, _, rfl, rfl, _, rfl, ite2 (fun e2 => ?_) (fun e2 => ?_)⟩
      · rw [if_pos (show Txt.startswith z markS = true from e2)] at hs
        cases hk : keptS z with
        | none => rw [hk] at hs; cases hs
        | some w3 =>
          obtain ⟨r, p, v⟩ := w3
          rw [hk] at hs
          have hs : (if (r, p) ∈ fs.kept.map (·.1) then none else some { fs with kept := fs.kept ++ [((r, p), v)] }) = some fs' := hs
          by_cases hm : (r, p) ∈ fs.kept.map (·.1)
          · rw [if_pos hm] at hs; cases hs
          · rw [if_neg hm] at hs
            cases hs
            exact ⟨.ref x, rfl, x, _, _, rfl, f1.ob, noM (by decide +kernel) (by decide +kernel) (by decide +kernel) (by decide +kernel) (by decide +kernel) (by decide +kernel) (by decide +kernel), .str z, rfl, H0, x, t, rows, fs, A, z, r, p, v, rfl, f1, sm, hz, hk, hm, q⟩
      · rw [if_neg (show ¬ Txt.startswith z markS = true from e2)] at hs
        refine ⟨.str z, rfl, z, rfl, hz, fun H2 s2 => ⟨_, rfl, ite2 (fun e3 => ?_) (fun e3 => ?_)⟩⟩
        · rw [if_pos e3] at hs
          have f2 := f1.more s2
          have hn : nameS (headOf z) = true := by
            unfold headS at e3
            simp only [Bool.and_eq_true] at e3
            exact e3.2.2
          by_cases hm : headOf z ∈ fs.headers
          · rw [if_pos hm] at hs; cases hs
          · rw [if_neg hm] at hs
            cases hs
            exact ⟨.ref x, rfl, x, _, _, rfl, f2.ob, noM (by decide +kernel) (by decide +kernel) (by decide +kernel) (by decide +kernel) (by decide +kernel) (by decide +kernel) (by decide +kernel), .str z, rfl, 1, rfl, 1, rfl, -1, rfl, z, rfl, len1000 hz, H0, x, t, rows, fs, A, headOf z, rfl, f2, sm, hn, hm, q⟩
        · rw [if_neg e3] at hs
          have f2 := f1.more s2
          refine ⟨.str z, rfl, z, rfl, hz, (fun en => by rw [en] at hs; cases hs), fun k v ek H3 a s3 ha => ?_⟩
          rw [ek] at hs
          have hk1000 : k.length ≤ 1000 := by
            unfold setS at ek
            split at ek
            · cases ek
              exact Nat.le_trans (part3 z eqS).1 hz
            · cases ek
          have f3 := f2.more s3
          refine ⟨.ref a, rfl, rfl, _, rfl, ?_⟩
          rw [decide_eq_false (show ¬ V.ref a = V.non from fun h => nomatch h)]
          refine iteF ?_
          refine ⟨.ref a, rfl, a, _, rfl, SqT.of ha, rfl, _, _, rfl, _, _, rfl, rfl, ?_⟩
          cases hl : fs.headers.getLast? with
          | none =>
            rw [hl] at hs
            cases hs
          | some h =>
            rw [hl] at hs
            have hs : (if h ++ "." ++ k ∈ fs.settings.map (·.1) then none else some { fs with settings := fs.settings ++ [(h ++ "." ++ k, v)], blocks := fs.blocks ++ [(h ++ "." ++ k, fs.loose)], loose := [] }) = some fs' := hs
            by_cases hm : h ++ "." ++ k ∈ fs.settings.map (·.1)
            · rw [if_pos hm] at hs; cases hs
            · rw [if_neg hm] at hs
              cases hs
              exact ⟨.ref x, rfl, x, _, _, rfl, f3.ob, noM (by decide +kernel) (by decide +kernel) (by decide +kernel) (by decide +kernel) (by decide +kernel) (by decide +kernel) (by decide +kernel), .str k, rfl, .str v, rfl, H0, x, t, rows, fs, A, k, v, h, rfl, f3, sm, hk1000, hl, hm, q⟩
end
end K02

set_option Elab.async false
set_option linter.all false
set_option maxRecDepth 100000
namespace K02
open PySem PySem.Spec PyProof.Rows L2 My
/-- self.f = a new object -/
theorem fldNew {H0 H : Hp} {x C dx p : Addr} {fs fs' : List (Str × V)} {o : HO} (hx : H x = some (.ins C dx fs)) (np : H p = none) (s : Same H0 H) (nx : H0 x = none) :
    ∃ H', upd (upd H p o) x (.ins C dx fs') = H' ∧ H' x = some (.ins C dx fs') ∧ H' p = some o ∧ (∀ c u, H c = some u → c ≠ x → H' c = some u) ∧ Same H0 H' ∧ H0 p = none ∧ p ≠ x := by
  have px : p ≠ x := (ne_of_none hx np).symm
  refine ⟨_, rfl, upd_same, by rw [upd_ne px]; exact upd_same, fun c u e h => ?_, ?_, s.free np, px⟩
  · rw [upd_ne h, upd_ne (ne_of_none e np)]
    exact e
  · intro b u e
    rw [upd_ne (ne_of_none e nx), upd_ne (ne_of_none e (s.free np))]
    exact s b u e
section
variable {P : Program} {w : World} {K : PySem.W.Frag} {mg : Str → Option Value} {base : Heap}
def sp_SettingsFile___init__ (K : PySem.W.Frag) (T : Top K mg) : Sp := fun vs H Q _ => ∃ (H0 : Hp) (x dx : Addr) (t : Str) (fs : FS), vs = [.ref x, .str t] ∧ H = upd (upd H0 dx (.own x)) x (.ins T.C_SettingsFile dx []) ∧ H0 x = none ∧ H0 dx = none ∧ dx ≠ x ∧
  t.length ≤ 1000000 ∧ (rowsOf t).length ≤ 90000 ∧ (∀ z ∈ rowsOf t, z.length ≤ 1000) ∧ runF fs0 (rowsOf t) = some fs ∧ ∀ H' A, FileP T.C_SettingsFile H0 H' x t (rowsOf t) fs A → Q .non H'
theorem ok_SettingsFile___init__ (T : Top K mg) : FnOk P w K mg base CX0 7 T.f_SettingsFile___init__ T.d_SettingsFile___init__ ["self", "text"] (sp_SettingsFile___init__ K T) := by
  have G_SettingsFile_take : FnOk P w K mg base CX0 6 T.f_SettingsFile_take T.d_SettingsFile_take ["self", "line"] (sp_SettingsFile_take K T) := ok_SettingsFile_take T
  refine T.F_SettingsFile___init__.ok scSettingsFile___init__ (fun vs H Q E h => ?_) (fun cdv A outer s H vs Q E hr h => ?_)
  · obtain ⟨H0, x, dx, t, fs, rfl, _⟩ := h
    rfl
  · obtain ⟨H0, x, dx, t, fsE, rfl, eH, nx, ndx, nex, ht, hr1, hr2, hrun, q⟩ := h
    have s0 : Same H0 H := by
      rw [eH]
      intro b o e
      rw [upd_ne (ne_of_none e nx), upd_ne (ne_of_none e ndx)]
      exact e
    have hx0 : H x = some (.ins T.C_SettingsFile dx []) := by rw [eH]; exact upd_same
    obtain ⟨t2, p2, q2⟩ : ∃ t', PSs (cxOf CX0 P w K mg base N_SettingsFile___init__ "SettingsFile.__init__" (defScope s_SettingsFile___init__) T.f_SettingsFile___init__ cdv A outer s H E).nox ((defBody s_SettingsFile___init__).drop 3) t' ∧ ∀ (r : Addr) (H2 : Hp), H2 x = some (.ins T.C_SettingsFile dx (flds2 t r)) → H2 r = some (.lst ((rowsOf t).map V.str)) → Same H0 H2 → H0 r = none →
        t' { nx := fun _ H' => Q .non H', rt := Q } [some (.ref x), some (.str t), none, none, none] H2 := by
      refine ⟨_, (pss_cons (ps_fld (pv 0) (pe_lst pa_nil) rfl)
      (pss_cons (ps_fld (pv 0) pe_dnewK rfl)
      (pss_cons (ps_fld (pv 0) pe_dnewT rfl)
      (pss_cons (ps_fld (pv 0) pe_dnewK rfl)
      (pss_cons (ps_fld (pv 0) (pe_lst pa_nil) rfl)
      (pss_one (ps_for PassesOwn.never rfl (pi_enum (by rfl) T.m_enumerate (pa_cons (pe_callTy call_list_of (by rfl) T.m_list (by decide +kernel) (pa_cons (pe_fld (pv 0) rfl) pa_nil)) pa_nil)) (pg_tup rfl (pgs_cons (pg_name (i := 2) scSettingsFile___init__.nd rfl (.inl rfl)) (pgs_cons (pg_name (i := 3) scSettingsFile___init__.nd rfl (.inl rfl)) pgs_nil))) (pss_cons (ps_set (i := 4) scSettingsFile___init__.nd rfl (.inl rfl) (pe_meth (pv 0) T.cl_SettingsFile T.me_SettingsFile_take G_SettingsFile_take (hr.mono (by decide)) T.b_SettingsFile_take .nil pass0 (pa_cons (pv 3) pa_nil)))
      (pss_one (ps_if (pt_cmpR op_notN (pv 4) pe_non (nomark _)) (pss_one ps_never) pss_nil)))))))))), fun r H2 hx2 hr2' s2 nr => ?_⟩
      have cl := T.cl_SettingsFile
      have few : ∀ {l : List (Str × V)}, l.length ≤ 20 → l.length < 1000 := fun h => by omega
      have l1 : (flds1 t).length ≤ 1 := putF_len _ _ _
      have l2 : (flds2 t r).length ≤ 2 := Nat.le_trans (putF_len _ _ _) (by omega)
      refine ⟨Nat.zero_le _, fun h nh => ⟨.ref x, rfl, x, _, _, _, rfl, (by rw [upd_ne (ne_of_none hx2 nh)]; exact hx2), cl, T.no_SettingsFile_headers, few (by omega), ?_⟩⟩
      obtain ⟨H3, e3, x3, h3, k3, s3, nh0, hne⟩ := fldNew (o := .lst []) (fs' := flds3 t r h) hx2 nh s2 nx
      rw [show putF "headers" (V.ref h) (flds2 t r) = flds3 t r h from rfl, e3]
      have l3 : (flds3 t r h).length ≤ 3 := Nat.le_trans (putF_len _ _ _) (by omega)
      have r3 := k3 _ _ hr2' (lstNe hr2' hx2 (fun _ z => nomatch z))
      have rh : r ≠ h := ne_of_none hr2' nh
      intro sA nsA
      refine ⟨.ref x, rfl, x, _, _, _, rfl, (by rw [upd_ne (ne_of_none x3 nsA)]; exact x3), cl, T.no_SettingsFile_settings_read, few (by omega), ?_⟩
      obtain ⟨H4, e4, x4, s4', k4, s4, ns0, sne⟩ := fldNew (o := .dK []) (fs' := flds4 t r h sA) x3 nsA s3 nx
      rw [show putF "settings_read" (V.ref sA) (flds3 t r h) = flds4 t r h sA from rfl, e4]
      have l4 : (flds4 t r h sA).length ≤ 4 := Nat.le_trans (putF_len _ _ _) (by omega)
      have r4 := k4 _ _ r3 (lstNe r3 x3 (fun _ z => nomatch z))
      have h4 := k4 _ _ h3 hne
      intro kA nkA
      refine ⟨.ref x, rfl, x, _, _, _, rfl, (by rw [upd_ne (ne_of_none x4 nkA)]; exact x4), cl, T.no_SettingsFile_kept_read, few (by omega), ?_⟩
      obtain ⟨H5, e5, x5, k5', k5, s5, nk0, kne⟩ := fldNew (o := .dT []) (fs' := flds5 t r h sA kA) x4 nkA s4 nx
      rw [show putF "kept_read" (V.ref kA) (flds4 t r h sA) = flds5 t r h sA kA from rfl, e5]
      have l5 : (flds5 t r h sA kA).length ≤ 5 := Nat.le_trans (putF_len _ _ _) (by omega)
      have r5 := k5 _ _ r4 (lstNe r4 x4 (fun _ z => nomatch z))
      have h5 := k5 _ _ h4 hne
      have sA5 := k5 _ _ s4' sne
      intro bA nbA
      refine ⟨.ref x, rfl, x, _, _, _, rfl, (by rw [upd_ne (ne_of_none x5 nbA)]; exact x5), cl, T.no_SettingsFile_blocks, few (by omega), ?_⟩
      obtain ⟨H6, e6, x6, b6', k6, s6, nb0, bne⟩ := fldNew (o := .dK []) (fs' := flds6 t r h sA kA bA) x5 nbA s5 nx
      rw [show putF "blocks" (V.ref bA) (flds5 t r h sA kA) = flds6 t r h sA kA bA from rfl, e6]
      have l6 : (flds6 t r h sA kA bA).length ≤ 6 := Nat.le_trans (putF_len _ _ _) (by omega)
      have r6 := k6 _ _ r5 (lstNe r5 x5 (fun _ z => nomatch z))
      have h6 := k6 _ _ h5 hne
      have sA6 := k6 _ _ sA5 sne
      have kA6 := k6 _ _ k5' kne
      have sb : sA ≠ bA := ne_of_none sA5 nbA
      refine ⟨Nat.zero_le _, fun lA nlA => ⟨.ref x, rfl, x, _, _, _, rfl, (by rw [upd_ne (ne_of_none x6 nlA)]; exact x6), cl, T.no_SettingsFile_loose, few (by omega), ?_⟩⟩
      obtain ⟨H7, e7, x7, l7', k7, s7, nl0, lne⟩ := fldNew (o := .lst []) (fs' := flds t r h sA kA bA lA) x6 nlA s6 nx
      rw [show putF "loose" (V.ref lA) (flds6 t r h sA kA bA) = flds t r h sA kA bA lA from rfl, e7]
      have r7 := k7 _ _ r6 (lstNe r6 x6 (fun _ z => nomatch z))
      have h7 := k7 _ _ h6 hne
      have sA7 := k7 _ _ sA6 sne
      have kA7 := k7 _ _ kA6 kne
      have bA7 := k7 _ _ b6' bne
      have rl : r ≠ lA := ne_of_none r6 nlA
      have hl : h ≠ lA := ne_of_none h6 nlA
      -- the lines, one after another
      refine ⟨.ref x, rfl, x, _, _, _, _, rfl, x7, cl, T.no_SettingsFile_rows, f_rows _ _ _ _ _ _ _, r, _, rfl, .inl (SqL.of r7), fun c nc => ?_⟩
      have sc : Same H7 (upd H7 c (.lst ((rowsOf t).map V.str))) := same_new nc
      have hc : (upd H7 c (.lst ((rowsOf t).map V.str))) c = some (.lst ((rowsOf t).map V.str)) := upd_same
      have ncs : c ≠ x ∧ c ≠ r ∧ c ≠ h ∧ c ≠ sA ∧ c ≠ kA ∧ c ≠ bA ∧ c ≠ lA := ⟨(ne_of_none x7 nc).symm, (ne_of_none r7 nc).symm, (ne_of_none h7 nc).symm, (ne_of_none sA7 nc).symm, (ne_of_none kA7 nc).symm, (ne_of_none bA7 nc).symm, (ne_of_none l7' nc).symm⟩
      generalize upd H7 c (.lst ((rowsOf t).map V.str)) = H8 at sc hc
      let foot : Addr → Prop := fun b => b = x ∨ b = r ∨ b = h ∨ b = sA ∨ b = kA ∨ b = bA ∨ b = lA
      have dec : ∀ b, Decidable (foot b) := fun b => by unfold foot; infer_instance
      let G0 : Hp := fun b => if foot b then none else H8 b
      have gNone : ∀ b, foot b → G0 b = none := fun b hb => if_pos hb
      have gSome : ∀ b, ¬ foot b → G0 b = H8 b := fun b hb => if_neg hb
      have gSame : Same G0 H8 := fun b o e => by
        by_cases hb : foot b
        · rw [gNone b hb] at e; cases e
        · rw [gSome b hb] at e; exact e
      have gC : G0 c = some (.lst ((rowsOf t).map V.str)) := by
        rw [gSome c (fun hb => by
          obtain ⟨n1, n2, n3, n4, n5, n6, n7⟩ := ncs
          rcases hb with z | z | z | z | z | z | z
          · exact n1 z
          · exact n2 z
          · exact n3 z
          · exact n4 z
          · exact n5 z
          · exact n6 z
          · exact n7 z)]
        exact hc
      have gH0 : Same H0 G0 := fun b o e => by
        have hb : ¬ foot b := fun hb => by
          rcases hb with z | z | z | z | z | z | z
          · exact ne_of_none e nx z
          · exact ne_of_none e nr z
          · exact ne_of_none e nh0 z
          · exact ne_of_none e ns0 z
          · exact ne_of_none e nk0 z
          · exact ne_of_none e nb0 z
          · exact ne_of_none e nl0 z
        rw [gSome b hb]
        exact sc _ _ (s7 b o e)
      have f0 : FileP T.C_SettingsFile G0 H8 x t (rowsOf t) fs0 ⟨dx, r, h, sA, kA, bA, lA, []⟩ :=
        ⟨gSame, sc _ _ x7, sc _ _ r7, sc _ _ h7, sc _ _ sA7, sc _ _ kA7, sc _ _ bA7, sc _ _ l7', .nil, rh, rl, hl, sb, ⟨gNone _ (.inl rfl), gNone _ (.inr (.inl rfl)), gNone _ (.inr (.inr (.inl rfl))), gNone _ (.inr (.inr (.inr (.inl rfl)))), gNone _ (.inr (.inr (.inr (.inr (.inl rfl))))), gNone _ (.inr (.inr (.inr (.inr (.inr (.inl rfl)))))), gNone _ (.inr (.inr (.inr (.inr (.inr (.inr rfl))))))⟩, fs0_ok⟩
      refine ⟨c, _, rfl, SqL.of hc, for_it (walk_enum (xs := (rowsOf t).map V.str)) (fun i σ H3 => ∃ (fs : FS) (A : Parts) (y2 y3 y4 : Option V), σ = [some (.ref x), some (.str t), y2, y3, y4] ∧ FileP T.C_SettingsFile G0 H3 x t (rowsOf t) fs A ∧ runF fs0 ((rowsOf t).take i) = some fs ∧ Sm i fs) ?_ ?_ ?_ ?_⟩
      · exact ⟨fs0, _, none, none, none, rfl, f0, rfl, ⟨Nat.le_refl _, Nat.le_refl _, Nat.le_refl _, Nat.le_refl _, Nat.le_refl _⟩⟩
      · rintro i σ H9 _ ⟨fs, A', y2, y3, y4, _, f, _⟩
        exact SqL.of (f.same _ _ gC)
      · rintro i v σ H9 H10 hi ⟨fs, A', y2, y3, y4, rfl, f, hrun', sm⟩ ⟨tt, x1, x2, rfl, ntt, rfl, e1, e2⟩
        cases e1
        rw [List.length_map] at hi
        have hzi : (rowsOf t)[i]? = some (rowsOf t)[i] := List.getElem?_eq_getElem hi
        have ex2 : x2 = .str (rowsOf t)[i] := by
          have e2 : ((rowsOf t).map V.str)[i]? = some x2 := e2
          rw [List.getElem?_map, hzi] at e2
          exact (Option.some.inj e2).symm
        subst ex2
        obtain ⟨fs', hst, hrn⟩ := run_at hrun hzi hrun'
        have f2 := f.more (same_new (o := .tup [.int (i : Nat), .str (rowsOf t)[i]]) ntt)
        refine ⟨tt, _, rfl, SqT.of upd_same, rfl, _, _, rfl, _, _, rfl, rfl, ?_⟩
        refine ⟨.ref x, rfl, x, _, _, rfl, f2.ob, f_no _ _ _ _ _ _ _ (by decide +kernel) (by decide +kernel) (by decide +kernel) (by decide +kernel) (by decide +kernel) (by decide +kernel) (by decide +kernel), .str (rowsOf t)[i], rfl, G0, x, t, rowsOf t, fs, fs', A', _, rfl, f2, ?_, hr2 _ (List.getElem_mem hi), hst, fun H' A'' f3 => ?_⟩
        · obtain ⟨a1, a2, a3, a4, a5⟩ := sm
          constructor <;> omega
        · refine ⟨.non, rfl, rfl, _, rfl, iteNS rfl ?_⟩
          exact ⟨fs', A'', _, _, _, rfl, f3, hrn, sm.step hst⟩
      · rintro σ H9 ⟨fs, A', y2, y3, y4, rfl, f, hrun', sm⟩
        rw [List.length_map, List.take_of_length_le (Nat.le_refl _), hrun] at hrun'
        cases hrun'
        exact q _ _ (f.weaken gH0)
    refine ⟨_, (pss_cons (ps_if (pt_not (pt_val (pe_callB call_isi (by rfl) T.m_isinstance (by decide +kernel) (pa_cons (pv 1) (pa_cons (pe_bltn (v := .ty "str") (by rfl) T.m_str (by decide +kernel) rfl) pa_nil))))) (pss_one ps_never) pss_nil)
      (pss_cons (ps_fld (pv 0) (pv 1) rfl)
      (pss_cons (ps_fld (pv 0) (pe_ifExp (pt_cmpR op_ne (pv 1) pe_str (nomark _)) (pe_m1 F.slot_str_split F.type_str_split mt_split (pv 1) pe_str) (pe_lst pa_nil)) rfl)
      p2))), ?_⟩
    refine ⟨.str t, rfl, _, _, _, _, true, rfl, ClsV.ty "str", .base (.str t), kit_ty (by decide +kernel), true, rfl, iteF ?_⟩
    refine ⟨.str t, rfl, .ref x, rfl, x, _, _, _, rfl, hx0, T.cl_SettingsFile, T.no_SettingsFile_text, (by show 0 < 1000; decide), ?_⟩
    have x1 : (upd H x (.ins T.C_SettingsFile dx (flds1 t))) x = some (.ins T.C_SettingsFile dx (flds1 t)) := upd_same
    have s1 : Same H0 (upd H x (.ins T.C_SettingsFile dx (flds1 t))) := upd_off nx s0
    rw [show putF "text" (V.str t) [] = flds1 t from rfl]
    generalize upd H x (.ins T.C_SettingsFile dx (flds1 t)) = H1 at x1 s1
    have l1 : (flds1 t).length ≤ 1 := putF_len _ _ _
    refine ⟨.str t, rfl, rfl, _, rfl, ite2 (fun e => ?_) (fun e => ?_)⟩
    · have et : ¬ t = "" := fun h => by
        subst h
        cases e
      have hrw : rowsOf t = Txt.split t "\n" := if_neg et
      refine ⟨.str t, rfl, ⟨t, rfl⟩, t, _, rfl, rfl, rfl, Nat.le_trans (Nat.add_le_add_right ht 2) (by decide), fun r nr => ?_⟩
      rw [← hrw]
      refine ⟨.ref x, rfl, x, _, _, _, rfl, (by rw [upd_ne (ne_of_none x1 nr)]; exact x1), T.cl_SettingsFile, T.no_SettingsFile_rows, by omega, ?_⟩
      obtain ⟨H2, e2, x2, r2, k2, s2, nr0, rne⟩ := fldNew (o := .lst ((rowsOf t).map V.str)) (fs' := flds2 t r) x1 nr s1 nx
      rw [show putF "rows" (V.ref r) (flds1 t) = flds2 t r from rfl, e2]
      exact q2 r H2 x2 r2 s2 nr0
    · have et : t = "" := by
        by_cases h : t = ""
        · exact h
        · rw [eq_str, decide_eq_false h] at e
          exact absurd rfl e
      have hrw : (rowsOf t).map V.str = [] := by rw [show rowsOf t = [] from if_pos et]; rfl
      refine ⟨Nat.zero_le _, fun r nr => ?_⟩
      refine ⟨.ref x, rfl, x, _, _, _, rfl, (by rw [upd_ne (ne_of_none x1 nr)]; exact x1), T.cl_SettingsFile, T.no_SettingsFile_rows, by omega, ?_⟩
      obtain ⟨H2, e2, x2, r2, k2, s2, nr0, rne⟩ := fldNew (o := .lst []) (fs' := flds2 t r) x1 nr s1 nx
      rw [show putF "rows" (V.ref r) (flds1 t) = flds2 t r from rfl, e2]
      exact q2 r H2 x2 (by rw [hrw]; exact r2) s2 nr0
end
end K02

set_option Elab.async false
set_option linter.all false
set_option maxRecDepth 100000
namespace K02
open PySem PySem.Spec PyProof.Rows L2 My
theorem can_strs {n : Nat} {l : List Str} (h : ∀ y ∈ l, Plain n y) : PyData.canLayAll0 (l.map .str) = true := by
  induction l with
  | nil => rfl
  | cons y r ih =>
    show (PySem.PyData.strOk y && PyData.canLayAll0 (r.map .str)) = true
    rw [ih fun z hz => h z (List.mem_cons_of_mem _ hz), Bool.and_true]
    unfold PySem.PyData.strOk
    rw [Array.all_eq_true_iff_forall_mem]
    intro c hc
    exact decide_eq_true (Nat.lt_trans ((h y (List.mem_cons_self ..)).small c (Array.mem_toList_iff.mpr hc)) (by decide))
theorem shaped_strs {n : Nat} {l : List Str} (h : ∀ y ∈ l, Plain n y) : SeqAt.shaped (.list (l.map .str)) = true := by
  unfold SeqAt.shaped
  rw [Bool.and_eq_true]
  refine ⟨can_strs h, decide_eq_true ?_⟩
  show PyData.depthAll (l.map .str) + 1 ≤ 64
  rw [depthAll_strs']
  decide
theorem eqv_nil (l : List Str) : PyData.eqv (.list (l.map .str)) (.list []) = l.isEmpty := by
  cases l with
  | nil => rfl
  | cons y r => rfl
theorem _root_.My.Kept.off {b p : Addr} {H H3 : Hp} {o : HO} (k : Kept b H H3) (np : H p = none) : Kept b H (upd H3 p o) := fun x u h e => by
  rw [upd_ne (ne_of_none e np)]
  exact k x u h e
theorem _root_.My.Bag.off {b p : Addr} {H3 : Hp} {o : HO} (h : Bag H3 b) (ne : p ≠ b) : Bag (upd H3 p o) b := by
  obtain ⟨n, m, e, r⟩ := h
  exact ⟨n, m, by rw [upd_ne ne.symm]; exact e, r⟩
theorem ix_nat {n : Nat} {d : Int} (h0 : 0 ≤ d) (h1 : d < n) : ixN n d = some d.toNat := by
  unfold ixN
  rw [if_pos h0, if_pos h1]
theorem erase_map {α β : Type} (f : α → β) : ∀ (l : List α) (i : Nat), (l.map f).eraseIdx i = (l.eraseIdx i).map f
  | [], _ => rfl
  | _ :: _, 0 => rfl
  | a :: r, i + 1 => by
    show f a :: (r.map f).eraseIdx i = f a :: (r.eraseIdx i).map f
    rw [erase_map f r i]
theorem erase_perm {α : Type} : ∀ (l : List α) (i : Nat) (h : i < l.length), (l[i] :: l.eraseIdx i).Perm l
  | a :: r, 0, _ => List.Perm.refl _
  | a :: r, i + 1, h => by
    have hi : i < r.length := by simpa using h
    have ih := erase_perm r i hi
    show (r[i] :: a :: r.eraseIdx i).Perm (a :: r)
    exact (List.Perm.swap a r[i] _).trans (ih.cons a)
section
variable {P : Program} {w : World} {K : PySem.W.Frag} {mg : Str → Option Value} {base : Heap}
/-! ### a list in another order -/
def sp_L_mixed (K : PySem.W.Frag) : Sp := fun vs H Q _ => ∃ (b l : Addr) (zs : List Str), vs = [.ref b, .ref l] ∧ Bag H b ∧ H l = some (.lst (zs.map V.str)) ∧ l ≠ b ∧ zs.length ≤ 1000 ∧ (∀ y ∈ zs, Plain 1000 y) ∧
  ∀ (H' : Hp) (p : Addr) (ys : List Str), ys.Perm zs → Kept b H H' → Bag H' b → H p = none → H' p = some (.lst (ys.map V.str)) → Q (.ref p) H'
theorem ok_L_mixed (T : Top K mg) : FnOk P w K mg base CX0 2 T.f__law_mixed T.d__law_mixed ["_law_bag_here", "_law_things"] (sp_L_mixed K) := by
  have G__law_take : FnOk P w K mg base CX0 1 T.f__law_take T.d__law_take ["_law_bag_here", "_law_many"] (sp_L_take K) := ok_L_take T
  refine T.F__law_mixed.ok scL_mixed (fun vs H Q E h => ?_) (fun cdv A outer s H vs Q E hr h => ?_)
  · obtain ⟨b, l, zs, rfl, _⟩ := h
    rfl
  · obtain ⟨b, l, zs, rfl, hb, hl, nlb, hz, hpl, q⟩ := h
    refine ⟨_, (pss_cons (ps_par (i := 2) (j := 3) (by rfl) scL_mixed.nd rfl rfl (by decide) rfl rfl (pa_cons (pe_callTy call_list_of (by rfl) T.m_list (by decide +kernel) (pa_cons (pv 1) pa_nil)) (pa_cons (pe_lst pa_nil) pa_nil)) (by rfl))
      (pss_cons (ps_while PassesOwn.never (pt_cmpR (op_neD hr.units) (pv 2) (pe_lst pa_nil) (nomark _)) (pss_one (ps_expr (pe_bm PySem.F.plainAttrs_list PySem.F.slot_list_append PySem.F.type_list_append mt_append (pv 3) (pa_cons (pe_bm PySem.F.plainAttrs_list PySem.F.slot_list_pop PySem.F.type_list_pop mt_popAt (pv 2) (pa_cons (pe_call G__law_take (hr.mono (by decide)) (by rfl) T.g__law_take T.F__law_take.kp T.b__law_take .nil pass0 (pa_cons (pv 0) (pa_cons (pe_callB call_len_seq (by rfl) T.m_len (by decide +kernel) (pa_cons (pv 2) pa_nil)) pa_nil))) pa_nil)) pa_nil)))))
      (pss_one (ps_ret (pv 3))))), ?_⟩
    refine ⟨.ref l, rfl, l, _, rfl, .inl (SqL.of hl), fun p np => ⟨Nat.zero_le _, fun f nf => ⟨_, _, rfl, ?_⟩⟩⟩
    have npb : p ≠ b := hb.ne np
    have nfH : H f = none := (same_new np).free nf
    have nfb : f ≠ b := hb.ne nfH
    have npf : p ≠ f := ne_of_none upd_same nf
    refine while_by (fun σ H3 => ∃ ls fo : List Str, σ = [some (.ref b), some (.ref l), some (.ref p), some (.ref f)] ∧ H3 p = some (.lst (ls.map V.str)) ∧ H3 f = some (.lst (fo.map V.str)) ∧ (ls ++ fo).Perm zs ∧ Kept b H H3 ∧ Bag H3 b)
      (fun _ H3 => match H3 p with | some (.lst xs) => xs.length | _ => 0) ?_ ?_ ?_
    · exact ⟨zs, [], rfl, by rw [upd_ne npf]; exact upd_same, upd_same, by rw [List.append_nil], (Kept.new np).off nfH, (hb.new np).off nfb⟩
    · rintro σ H3 ⟨ls, fo, rfl, hp, hf, perm, k3, b3⟩
      have hlen : ls.length + fo.length = zs.length := by rw [← perm.length_eq, List.length_append]
      have hpl3 : ∀ y ∈ ls, Plain 1000 y := fun y hy => hpl y (perm.subset (List.mem_append_left _ hy))
      refine ⟨.ref p, rfl, Nat.zero_le _, fun e ne => ?_⟩
      have se : Same H3 (upd H3 e (.lst [])) := same_new ne
      refine ⟨.list (ls.map .str), .list [], .lst (SqL.of (se _ _ hp)) (dp_strs ls), .lst (SqL.of upd_same) .nil, shaped_strs hpl3, by decide, _, rfl, ?_⟩
      rw [eqv_nil]
      cases hls : ls with
      | nil =>
        subst hls
        refine iteF ?_
        exact ⟨.ref f, rfl, q _ f fo perm (k3.trans (Kept.same se)) (b3.same se) nfH (se _ _ hf)⟩
      | cons y0 r0 =>
        rw [← hls]
        have hpos : 0 < ls.length := by rw [hls]; simp
        refine (if_pos (by rw [hls]; rfl)).mpr ?_
        refine ⟨.ref f, rfl, .inl ⟨rfl, _, SqL.of (se _ _ hf)⟩, .ref p, rfl, .inl ⟨rfl, _, SqL.of (se _ _ hp)⟩, .ref b, rfl, .ref p, rfl, p, _, rfl, .inl (SqL.of (se _ _ hp)), b, _, rfl, b3.same se, ?_, ?_, fun d n m d0 d1 n0 m0 m1 => ?_⟩
        · rw [List.length_map]; omega
        · rw [List.length_map]; omega
        rw [List.length_map] at d1
        have hd : d.toNat < ls.length := by omega
        have hix := ix_nat (n := ls.length) d0 (by omega)
        have hp4 : (upd (upd H3 e (.lst [])) b (.lst [.int n, .int m])) p = some (.lst (ls.map V.str)) := by rw [upd_ne npb]; exact se _ _ hp
        refine ⟨p, _, d, d.toNat, .str ls[d.toNat], rfl, rfl, hp4, by omega, by omega, by rw [List.length_map]; exact (ixN_seq hix).1, by rw [List.getElem?_map, List.getElem?_eq_getElem hd]; rfl, ?_⟩
        have hf4 : (upd (upd (upd H3 e (.lst [])) b (.lst [.int n, .int m])) p (.lst ((ls.map V.str).eraseIdx d.toNat))) f = some (.lst (fo.map V.str)) := by
          rw [upd_ne npf.symm, upd_ne nfb]
          exact se _ _ hf
        refine ⟨f, _, _, rfl, rfl, hf4, by rw [List.length_map]; exact small1000 (by omega), ⟨ls.eraseIdx d.toNat, fo ++ [ls[d.toNat]], rfl, ?_, ?_, ?_, ?_, ?_⟩, ?_⟩
        · rw [upd_ne npf, upd_same, erase_map]
        · rw [upd_same, List.map_append]
          rfl
        · have p1 : (ls[d.toNat] :: ls.eraseIdx d.toNat).Perm ls := erase_perm ls d.toNat hd
          have p2 : (ls.eraseIdx d.toNat ++ (fo ++ [ls[d.toNat]])).Perm ((ls[d.toNat] :: ls.eraseIdx d.toNat) ++ fo) := by
            rw [← List.append_assoc]
            exact (List.perm_append_singleton _ _).trans (by rw [List.cons_append])
          exact p2.trans ((p1.append_right fo).trans perm)
        · exact ((((k3.trans (Kept.same se)).trans Kept.at).off np).off nfH)
        · exact ((Bag.at n0 m0 m1).off npb).off nfb
        · have e1 : (upd (upd (upd (upd H3 e (.lst [])) b (.lst [.int n, .int m])) p (.lst ((ls.map V.str).eraseIdx d.toNat))) f (.lst (fo.map V.str ++ [V.str ls[d.toNat]]))) p = some (.lst ((ls.map V.str).eraseIdx d.toNat)) := by rw [upd_ne npf, upd_same]
          simp only [e1, hp]
          rw [List.length_eraseIdx, List.length_map, if_pos hd]
          omega
    · rintro σ H3 Q1 Q2 hq ⟨v, h1, h2, h3⟩
      refine ⟨v, h1, h2, fun p np => ?_⟩
      obtain ⟨d, e, a1, a2, a3, a4, k, ek, qk⟩ := h3 p np
      exact ⟨d, e, a1, a2, a3, a4, k, ek, hq _ _ qk⟩
end
end K02

set_option Elab.async false
set_option linter.all false
set_option maxRecDepth 100000
namespace K02
open PySem PySem.Spec PyProof.Rows L2 My SkE
/-- whether an object is a place of the settings -/
def inS (l : List (Str × Str)) : V → Bool := ofText fun z => decide (z ∈ l.map (·.1))
section
variable {P : Program} {w : World} {K : PySem.W.Frag} {mg : Str → Option Value} {base : Heap}
def sp_SettingsFile_lines (K : PySem.W.Frag) (T : Top K mg) : Sp := fun vs H Q _ => ∃ (H0 : Hp) (x : Addr) (t : Str) (rows : List Str) (fs : FS) (A : Parts), vs = [.ref x] ∧ FileP T.C_SettingsFile H0 H x t rows fs A ∧
  ∀ H' p, Same H H' → H p = none → H' p = some (.lst (rows.map V.str)) → Q (.ref p) H'
theorem ok_SettingsFile_lines (T : Top K mg) : FnOk P w K mg base CX0 1 T.f_SettingsFile_lines T.d_SettingsFile_lines ["self"] (sp_SettingsFile_lines K T) := by
  refine T.F_SettingsFile_lines.ok scSettingsFile_lines (fun vs H Q E h => ?_) (fun cdv A outer s H vs Q E hr h => ?_)
  · obtain ⟨H0, x, t, rows, fs, A, rfl, _⟩ := h
    rfl
  · obtain ⟨H0, x, t, rows, fs, A, rfl, f, q⟩ := h
    refine ⟨_, (pss_one (ps_ret (pe_callTy call_list_of (by rfl) T.m_list (by decide +kernel) (pa_cons (pe_fld (pv 0) rfl) pa_nil)))), ?_⟩
    refine ⟨.ref x, rfl, x, _, _, _, _, rfl, f.ob, T.cl_SettingsFile, T.no_SettingsFile_rows, f_rows _ _ _ _ _ _ _, A.r, _, rfl, .inl (SqL.of f.er), fun p np => ?_⟩
    exact q _ p (same_new np) np upd_same
def sp_SettingsFile_sections (K : PySem.W.Frag) (T : Top K mg) : Sp := fun vs H Q _ => ∃ (H0 : Hp) (x : Addr) (t : Str) (rows : List Str) (fs : FS) (A : Parts), vs = [.ref x] ∧ FileP T.C_SettingsFile H0 H x t rows fs A ∧
  ∀ H' p, Same H H' → H p = none → H' p = some (.lst (fs.headers.map V.str)) → Q (.ref p) H'
theorem ok_SettingsFile_sections (T : Top K mg) : FnOk P w K mg base CX0 1 T.f_SettingsFile_sections T.d_SettingsFile_sections ["self"] (sp_SettingsFile_sections K T) := by
  refine T.F_SettingsFile_sections.ok scSettingsFile_sections (fun vs H Q E h => ?_) (fun cdv A outer s H vs Q E hr h => ?_)
  · obtain ⟨H0, x, t, rows, fs, A, rfl, _⟩ := h
    rfl
  · obtain ⟨H0, x, t, rows, fs, A, rfl, f, q⟩ := h
    refine ⟨_, (pss_one (ps_ret (pe_callTy call_list_of (by rfl) T.m_list (by decide +kernel) (pa_cons (pe_fld (pv 0) rfl) pa_nil)))), ?_⟩
    refine ⟨.ref x, rfl, x, _, _, _, _, rfl, f.ob, T.cl_SettingsFile, T.no_SettingsFile_headers, f_headers _ _ _ _ _ _ _, A.h, _, rfl, .inl (SqL.of f.eh), fun p np => ?_⟩
    exact q _ p (same_new np) np upd_same
def sp_SettingsFile_places (K : PySem.W.Frag) (T : Top K mg) : Sp := fun vs H Q _ => ∃ (H0 : Hp) (x : Addr) (t : Str) (rows : List Str) (fs : FS) (A : Parts), vs = [.ref x] ∧ FileP T.C_SettingsFile H0 H x t rows fs A ∧
  ∀ H' p, Same H H' → H p = none → H' p = some (.lst ((fs.settings.map (·.1)).map V.str)) → Q (.ref p) H'
theorem ok_SettingsFile_places (T : Top K mg) : FnOk P w K mg base CX0 1 T.f_SettingsFile_places T.d_SettingsFile_places ["self"] (sp_SettingsFile_places K T) := by
  refine T.F_SettingsFile_places.ok scSettingsFile_places (fun vs H Q E h => ?_) (fun cdv A outer s H vs Q E hr h => ?_)
  · obtain ⟨H0, x, t, rows, fs, A, rfl, _⟩ := h
    rfl
  · obtain ⟨H0, x, t, rows, fs, A, rfl, f, q⟩ := h
    refine ⟨_, (pss_one (ps_ret (pe_callTy (call_listD rfl) (by rfl) T.m_list (by decide +kernel) (pa_cons (pe_fld (pv 0) rfl) pa_nil)))), ?_⟩
    refine ⟨.ref x, rfl, x, _, _, _, _, rfl, f.ob, T.cl_SettingsFile, T.no_SettingsFile_settings_read, f_settings _ _ _ _ _ _ _, A.s, _, rfl, .inl f.es, fun p np => ?_⟩
    exact q _ p (same_new np) np (by rw [upd_same, keys_map])
def sp_SettingsFile___len__ (K : PySem.W.Frag) (T : Top K mg) : Sp := fun vs H Q _ => ∃ (H0 : Hp) (x : Addr) (t : Str) (rows : List Str) (fs : FS) (A : Parts), vs = [.ref x] ∧ FileP T.C_SettingsFile H0 H x t rows fs A ∧ Q (.int (fs.settings.length : Nat)) H
theorem ok_SettingsFile___len__ (T : Top K mg) : FnOk P w K mg base CX0 1 T.f_SettingsFile___len__ T.d_SettingsFile___len__ ["self"] (sp_SettingsFile___len__ K T) := by
  refine T.F_SettingsFile___len__.ok scSettingsFile___len__ (fun vs H Q E h => ?_) (fun cdv A outer s H vs Q E hr h => ?_)
  · obtain ⟨H0, x, t, rows, fs, A, rfl, _⟩ := h
    rfl
  · obtain ⟨H0, x, t, rows, fs, A, rfl, f, q⟩ := h
    refine ⟨_, (pss_one (ps_ret (pe_callB call_lenD (by rfl) T.m_len (by decide +kernel) (pa_cons (pe_fld (pv 0) rfl) pa_nil)))), ?_⟩
    refine ⟨.ref x, rfl, x, _, _, _, _, rfl, f.ob, T.cl_SettingsFile, T.no_SettingsFile_settings_read, f_settings _ _ _ _ _ _ _, A.s, _, rfl, f.es, ?_⟩
    rw [setKV_len]
    exact q
def sp_SettingsFile___str__ (K : PySem.W.Frag) (T : Top K mg) : Sp := fun vs H Q _ => ∃ (H0 : Hp) (x : Addr) (t : Str) (rows : List Str) (fs : FS) (A : Parts), vs = [.ref x] ∧ FileP T.C_SettingsFile H0 H x t rows fs A ∧ Q (.str t) H
theorem ok_SettingsFile___str__ (T : Top K mg) : FnOk P w K mg base CX0 1 T.f_SettingsFile___str__ T.d_SettingsFile___str__ ["self"] (sp_SettingsFile___str__ K T) := by
  refine T.F_SettingsFile___str__.ok scSettingsFile___str__ (fun vs H Q E h => ?_) (fun cdv A outer s H vs Q E hr h => ?_)
  · obtain ⟨H0, x, t, rows, fs, A, rfl, _⟩ := h
    rfl
  · obtain ⟨H0, x, t, rows, fs, A, rfl, f, q⟩ := h
    refine ⟨_, (pss_one (ps_ret (pe_callTy call_str_str (by rfl) T.m_str (by decide +kernel) (pa_cons (pe_fld (pv 0) rfl) pa_nil)))), ?_⟩
    exact ⟨.ref x, rfl, x, _, _, _, _, rfl, f.ob, T.cl_SettingsFile, T.no_SettingsFile_text, f_text _ _ _ _ _ _ _, t, rfl, q⟩
def sp_SettingsFile___contains__ (K : PySem.W.Frag) (T : Top K mg) : Sp := fun vs H Q _ => ∃ (H0 : Hp) (x : Addr) (t : Str) (rows : List Str) (fs : FS) (A : Parts) (v : V), vs = [.ref x, v] ∧ FileP T.C_SettingsFile H0 H x t rows fs A ∧ Ask K H v ∧ Q (.bl (inS fs.settings v)) H
theorem ok_SettingsFile___contains__ (T : Top K mg) : FnOk P w K mg base CX0 1 T.f_SettingsFile___contains__ T.d_SettingsFile___contains__ ["self", "x"] (sp_SettingsFile___contains__ K T) := by
  refine T.F_SettingsFile___contains__.ok scSettingsFile___contains__ (fun vs H Q E h => ?_) (fun cdv A outer s H vs Q E hr h => ?_)
  · obtain ⟨H0, x, t, rows, fs, A, v, rfl, _⟩ := h
    rfl
  · obtain ⟨H0, x, t, rows, fs, A, v, rfl, f, hv, q⟩ := h
    refine ⟨_, (pss_one (ps_ret (pe_and (pe_callB call_isi (by rfl) T.m_isinstance (by decide +kernel) (pa_cons (pv 1) (pa_cons (pe_bltn (v := .ty "str") (by rfl) T.m_str (by decide +kernel) rfl) pa_nil))) (pe_one (pe_cmp (pc_din (hu_of hr) (pv 1) (pe_fld (pv 0) rfl)) rfl))))), ?_⟩
    rcases hv with ⟨z, rfl, hz⟩ | ⟨hno, ty, ht, hk⟩
    · refine ⟨.str z, rfl, _, _, _, _, true, rfl, ClsV.ty "str", .base (.str z), kit_ty (by decide +kernel), true, rfl, iteT ?_⟩
      refine ⟨.str z, rfl, .ref x, rfl, x, _, _, _, _, rfl, f.ob, T.cl_SettingsFile, T.no_SettingsFile_settings_read, f_settings _ _ _ _ _ _ _, A.s, _, rfl, DGet.k (k := Sum.inr z) f.es, ?_⟩
      have e : (valV (setKV fs.settings) (Sum.inr z : Key)).isSome = inS fs.settings (.str z) := by
        rw [val_get, Option.isSome_map, valS_some]
        rfl
      rw [e]
      exact q
    · refine ⟨v, rfl, _, _, _, _, false, rfl, ClsV.ty "str", ht, kit_ty hk, false, rfl, iteF ?_⟩
      have e : inS fs.settings v = false := hno _
      rw [e] at q
      exact q
def sp_SettingsFile_value (K : PySem.W.Frag) (T : Top K mg) : Sp := fun vs H Q _ => ∃ (H0 : Hp) (x : Addr) (t : Str) (rows : List Str) (fs : FS) (A : Parts) (y v : Str), vs = [.ref x, .str y] ∧ FileP T.C_SettingsFile H0 H x t rows fs A ∧ y.length ≤ 1000 ∧ valS fs.settings y = some v ∧ Q (.str v) H
theorem ok_SettingsFile_value (T : Top K mg) : FnOk P w K mg base CX0 2 T.f_SettingsFile_value T.d_SettingsFile_value ["self", "place"] (sp_SettingsFile_value K T) := by
  have G_SettingsFile___contains__ : FnOk P w K mg base CX0 1 T.f_SettingsFile___contains__ T.d_SettingsFile___contains__ ["self", "x"] (sp_SettingsFile___contains__ K T) := ok_SettingsFile___contains__ T
  refine T.F_SettingsFile_value.ok scSettingsFile_value (fun vs H Q E h => ?_) (fun cdv A outer s H vs Q E hr h => ?_)
  · obtain ⟨H0, x, t, rows, fs, A, y, v, rfl, _⟩ := h
    rfl
  · obtain ⟨H0, x, t, rows, fs, A, y, v, rfl, f, hy, hv, q⟩ := h
    refine ⟨_, (pss_cons (ps_if (pt_cmpR (op_notInOwn T.me_SettingsFile___contains__ G_SettingsFile___contains__ (hr.mono (by decide)) T.b_SettingsFile___contains__) (pv 1) (pv 0) (by rfl)) (pss_one ps_never) pss_nil)
      (pss_one (ps_ret (pe_dget (hu_of hr) (pe_fld (pv 0) rfl) (pv 1) (fun _ _ => rfl))))), ?_⟩
    have e : inS fs.settings (.str y) = true := by
      show decide (y ∈ fs.settings.map (·.1)) = true
      rw [← valS_some, hv]
      rfl
    refine ⟨.str y, rfl, .ref x, rfl, x, _, _, rfl, f.ob, ⟨H0, x, t, rows, fs, A, .str y, rfl, f, .inl ⟨y, rfl, hy⟩, _, rfl, _, rfl, ?_⟩⟩
    rw [e]
    refine iteF ?_
    refine ⟨.ref x, rfl, x, _, _, _, _, rfl, f.ob, T.cl_SettingsFile, T.no_SettingsFile_settings_read, f_settings _ _ _ _ _ _ _, .str y, rfl, A.s, .str v, rfl, (by
      have := DGet.k (k := (Sum.inr y : Key)) f.es
      rw [val_get, hv] at this
      exact this), q⟩
def sp_SettingsFile_pairs (K : PySem.W.Frag) (T : Top K mg) : SpG := fun vs H Q _ => ∃ (H0 : Hp) (x : Addr) (t : Str) (rows : List Str) (fs : FS) (A : Parts), vs = [.ref x] ∧ FileP T.C_SettingsFile H0 H x t rows fs A ∧ (fs.settings.map (·.1)).Nodup ∧ fs.settings.length ≤ 1000 ∧
  ∀ H' out, Same H H' → PairsAt H' out fs.settings → Q out H'
theorem PairsAt.len {H : Hp} {vs : List V} {l : List (Str × Str)} (h : PairsAt H vs l) : vs.length = l.length := paired_len h
theorem ok_SettingsFile_pairs (T : Top K mg) : GFn P w K mg base 1 T.f_SettingsFile_pairs T.d_SettingsFile_pairs ["self"] (sp_SettingsFile_pairs K T) := by
  refine My.Fun.okY T.F_SettingsFile_pairs scSettingsFile_pairs (fun vs H Q E h => ?_) (fun cdv A outer s H vs Q E pn hr h => ?_)
  · obtain ⟨H0, x, t, rows, fs, A', rfl, _⟩ := h
    rfl
  · obtain ⟨H0, x, t, rows, fs, Ap, rfl, f, nd, hl, q⟩ := h
    refine ⟨_, (gss_one (gs_lock (gs_for owns_gcx rfl (pi_keys (pe_fld (pv 0) rfl)) (pg_name (i := 1) scSettingsFile_pairs.nd rfl (.inl rfl)) (gss_one (gs_yield (pe_tup (pa_cons (pv 1) (pa_cons (pe_dget (hu_of hr) (pe_fld (pv 0) rfl) (pv 1) (fun _ _ => rfl)) pa_nil)))))))), ?_⟩
    have xs : x ≠ Ap.s := ne_of f.ob f.es (fun h => nomatch h)
    refine ⟨Ap.s, _, f.es, trivial, fun od => ?_⟩
    have ob1 : (upd H Ap.s (.frz od (.dK (setKV fs.settings)))) x = some (.ins T.C_SettingsFile Ap.dx (flds t Ap.r Ap.h Ap.s Ap.k Ap.b Ap.l)) := by rw [upd_ne xs]; exact f.ob
    have es1 : (upd H Ap.s (.frz od (.dK (setKV fs.settings)))) Ap.s = some (.frz od (.dK (setKV fs.settings))) := upd_same
    have off1 : ∀ b o, b ≠ Ap.s → H b = some o → (upd H Ap.s (.frz od (.dK (setKV fs.settings)))) b = some o := fun b o h e => by rw [upd_ne h]; exact e
    generalize upd H Ap.s (.frz od (.dK (setKV fs.settings))) = H1 at ob1 es1 off1
    refine ⟨.ref x, rfl, x, _, _, _, _, rfl, ob1, T.cl_SettingsFile, T.no_SettingsFile_settings_read, f_settings _ _ _ _ _ _ _, Ap.s, od, rfl, .inl ⟨_, es1, gfor_it walk_keys (fun i ys σ H3 => ∃ y, σ = [some (.ref x), y] ∧ Same H1 H3 ∧ PairsAt H3 ys (fs.settings.take i)) ?_ ?_ ?_ ?_⟩⟩
    · exact ⟨none, rfl, Same.refl _, .nil⟩
    · rintro i ys σ H3 _ ⟨y, _, s3, _⟩
      exact s3 _ _ es1
    · rintro i v ys σ H3' H3 hi ⟨y, rfl, s3, pr⟩ ⟨rfl, k, u, hk, rfl⟩
      obtain ⟨p, hp, rfl, rfl⟩ := setKV_at hk
      rw [setKV_len] at hi
      refine ⟨?_, ?_⟩
      · rw [paired_len pr, List.length_take]
        exact small1000 (by omega)
      · have hv := valS_at nd hp
        refine ⟨.str p.1, rfl, .ref x, rfl, x, _, _, _, _, rfl, s3 _ _ ob1, T.cl_SettingsFile, T.no_SettingsFile_settings_read, f_settings _ _ _ _ _ _ _, .str p.1, rfl, Ap.s, .str p.2, rfl, ?_, (by show 2 ≤ sizeLine; decide), fun a na => ?_⟩
        · refine .inl ⟨_, Sum.inr p.1, .inr ⟨od, s3 _ _ es1⟩, rfl, ?_⟩
          rw [val_get, hv]
          rfl
        · refine ⟨_, rfl, s3.trans (same_new na), ?_⟩
          rw [List.take_add_one, hp]
          exact paired_snoc (PairsAt.same (same_new na) pr) ⟨a, rfl, upd_same⟩
    · rintro ys σ H3 ⟨y, rfl, s3, pr⟩
      rw [setKV_len, List.take_length] at pr
      refine ⟨s3 _ _ es1, ?_⟩
      refine q _ ys (fun b o e => ?_) ?_
      · by_cases hb : b = Ap.s
        · subst hb
          rw [f.es] at e
          cases e
          exact upd_same
        · rw [upd_ne hb]
          exact s3 _ _ (off1 b o hb e)
      · have key : ∀ {vs : List V} {l : List (Str × Str)}, PairsAt H3 vs l → PairsAt (upd H3 Ap.s (.dK (setKV fs.settings))) vs l := by
          intro vs l h
          induction h with
          | nil => exact .nil
          | cons h _ ih =>
            obtain ⟨a, e, h⟩ := h
            refine .cons ⟨a, e, ?_⟩ ih
            rw [upd_ne (fun z => by rw [z, s3 _ _ es1] at h; cases h)]
            exact h
        exact key pr
end
end K02

set_option Elab.async false
set_option linter.all false
set_option maxRecDepth 100000
namespace K02
open PySem PySem.Spec PyProof.Rows L2 My
/-! ### lines between -/
abbrev looseLines : List Str := ["", "", "# a = b", "#", "#[a]", "# ~ 1 a.b"]
/-- what is known of a line: plain, short, without a line feed -/
structure LineOk (z : Str) : Prop where
  p : Plain 100 z
  nl : 10 ∉ TL.tl z
theorem loose_all : ∀ z ∈ looseLines, looseS z = true ∧ z.length ≤ 100 ∧ (∀ c ∈ z.cps.toList, c < 128) ∧ 10 ∉ z.cps.toList := by decide +kernel
theorem loose_ok {z : Str} (h : z ∈ looseLines) : looseS z = true ∧ LineOk z := by
  obtain ⟨h1, h2, h3, h4⟩ := loose_all z h
  exact ⟨h1, ⟨h2, h3⟩, h4⟩
def kept1 (n : Int) : Str := "#~ " ++ toString n ++ " a.b"
def kept2 (n : Int) : Str := "#~ " ++ toString n ++ " net.x = 1"
theorem kept1_all : ∀ n ∈ List.range 100, looseS (kept1 (n : Nat)) = false ∧ Txt.startswith (kept1 (n : Nat)) markS = true ∧ keptS (kept1 (n : Nat)) = some (((n : Nat) : Int), ("a.b" : Str), (none : Option Str)) ∧ (kept1 (n : Nat)).length ≤ 100 ∧ (∀ c ∈ (kept1 (n : Nat)).cps.toList, c < 128) ∧ 10 ∉ (kept1 (n : Nat)).cps.toList := by decide +kernel
theorem kept2_all : ∀ n ∈ List.range 100, looseS (kept2 (n : Nat)) = false ∧ Txt.startswith (kept2 (n : Nat)) markS = true ∧ keptS (kept2 (n : Nat)) = some (((n : Nat) : Int), ("net.x" : Str), some ("1" : Str)) ∧ (kept2 (n : Nat)).length ≤ 100 ∧ (∀ c ∈ (kept2 (n : Nat)).cps.toList, c < 128) ∧ 10 ∉ (kept2 (n : Nat)).cps.toList := by decide +kernel
theorem num_all : ∀ n ∈ List.range 100, (toString ((n : Nat) : Int) : Str).length ≤ 10 ∧ n.log2 < 1920 := by decide +kernel
theorem num_len {n : Int} (h0 : 0 ≤ n) (h1 : n < 100) : (toString n : Str).length ≤ 10 := by
  have := (num_all n.toNat (List.mem_range.mpr (by omega))).1
  rwa [show ((n.toNat : Nat) : Int) = n by omega] at this
theorem num_log {n : Int} (h0 : 0 ≤ n) (h1 : n < 100) : n.natAbs.log2 < 1920 := by
  have := (num_all n.toNat (List.mem_range.mpr (by omega))).2
  rwa [show n.toNat = n.natAbs by omega] at this
/-- the releases that kept lines name so far -/
def KL (fs : FS) : Prop := ∀ e ∈ fs.kept.map (·.1), e.1 < ((fs.settings.length : Nat) : Int) ∨ (50 ≤ e.1 ∧ e.1 < 50 + ((fs.settings.length : Nat) : Int))
theorem run_loose : ∀ {ls : List Str} (fs : FS), (∀ z ∈ ls, looseS z = true) → runF fs ls = some { fs with loose := fs.loose ++ ls }
  | [], fs, _ => by simp [runF]
  | z :: r, fs, h => by
    show ((stepF fs z).bind fun f => runF f r) = _
    unfold stepF
    rw [if_pos (h z (List.mem_cons_self ..))]
    show runF { fs with loose := fs.loose ++ [z] } r = _
    rw [run_loose _ fun y hy => h y (List.mem_cons_of_mem _ hy)]
    simp
theorem runF_cons (fs : FS) (z : Str) (r : List Str) : runF fs (z :: r) = (stepF fs z).bind fun f => runF f r := rfl
theorem runF_nil (fs : FS) : runF fs [] = some fs := rfl
theorem step_kept {fs : FS} {z : Str} {r : Int} {p : Str} {v : Option Str} (g1 : looseS z = false) (g2 : Txt.startswith z markS = true) (g3 : keptS z = some (r, p, v)) (new : (r, p) ∉ fs.kept.map (·.1)) :
    stepF fs z = some { fs with kept := fs.kept ++ [((r, p), v)] } := by
  unfold stepF
  rw [if_neg (by rw [g1]; exact Bool.false_ne_true), if_pos g2, g3]
  show (if (r, p) ∈ fs.kept.map (·.1) then none else some _) = _
  rw [if_neg new]
/-! ### headers and settings -/
abbrev heads : List Str := ["net", "a", "abcdefgh", "ui"]
abbrev keys : List Str := ["x", "key", "longlong", "zz", "a"]
abbrev worths : List Str := ["1", "0-", "abcdefghijkl", "on", "9z"]
theorem head_all : ∀ h ∈ heads, looseS ("[" ++ h ++ "]") = false ∧ Txt.startswith ("[" ++ h ++ "]") markS = false ∧ headS ("[" ++ h ++ "]") = true ∧ headOf ("[" ++ h ++ "]") = h ∧ ("[" ++ h ++ "]").length ≤ 100 ∧
    (∀ c ∈ ("[" ++ h ++ "]").cps.toList, c < 128) ∧ 10 ∉ ("[" ++ h ++ "]").cps.toList := by decide +kernel
theorem set_all : ∀ k ∈ keys, ∀ v ∈ worths, looseS (k ++ " = " ++ v) = false ∧ Txt.startswith (k ++ " = " ++ v) markS = false ∧ headS (k ++ " = " ++ v) = false ∧ setS (k ++ " = " ++ v) = some (k, v) ∧ (k ++ " = " ++ v).length ≤ 100 ∧
    (∀ c ∈ (k ++ " = " ++ v).cps.toList, c < 128) ∧ 10 ∉ (k ++ " = " ++ v).cps.toList := by decide +kernel
theorem place_inj : ∀ h ∈ heads, ∀ h' ∈ heads, ∀ k ∈ keys, ∀ k' ∈ keys, h ++ "." ++ k = h' ++ "." ++ k' → h = h' ∧ k = k' := by decide +kernel
abbrev others : List Str := ["a.none", "net", "x", "", "net.x ", "[net]"]
theorem place_other : ∀ h ∈ heads, ∀ k ∈ keys, ∀ o ∈ others, ¬ h ++ "." ++ k = o := by decide +kernel
theorem name_plain : (∀ h ∈ heads, h.length ≤ 20 ∧ ∀ c ∈ h.cps.toList, c < 128) ∧ (∀ h ∈ heads, ∀ k ∈ keys, (h ++ "." ++ k).length ≤ 50 ∧ ∀ c ∈ (h ++ "." ++ k).cps.toList, c < 128) ∧ (∀ k ∈ keys, k.length ≤ 20) ∧ ∀ v ∈ worths, v.length ≤ 20 ∧ ∀ c ∈ v.cps.toList, c < 128 := by decide +kernel
theorem step_head {fs : FS} {h : Str} (hh : h ∈ heads) (new : h ∉ fs.headers) : stepF fs ("[" ++ h ++ "]") = some { fs with headers := fs.headers ++ [h], blocks := fs.blocks ++ [(h, fs.loose)], loose := [] } := by
  obtain ⟨g1, g2, g3, g4, _⟩ := head_all h hh
  unfold stepF
  rw [if_neg (by rw [g1]; exact Bool.false_ne_true), if_neg (by rw [g2]; exact Bool.false_ne_true), if_pos g3, g4, if_neg new]
theorem step_set {fs : FS} {h k v : Str} (hk : k ∈ keys) (hv : v ∈ worths) (hl : fs.headers.getLast? = some h) (new : h ++ "." ++ k ∉ fs.settings.map (·.1)) :
    stepF fs (k ++ " = " ++ v) = some { fs with settings := fs.settings ++ [(h ++ "." ++ k, v)], blocks := fs.blocks ++ [(h ++ "." ++ k, fs.loose)], loose := [] } := by
  obtain ⟨g1, g2, g3, g4, _⟩ := set_all k hk v hv
  unfold stepF
  rw [if_neg (by rw [g1]; exact Bool.false_ne_true), if_neg (by rw [g2]; exact Bool.false_ne_true), if_neg (by rw [g3]; exact Bool.false_ne_true), g4, hl]
  show (if _ then none else some _) = _
  rw [if_neg new]
theorem head_ok {h : Str} (hh : h ∈ heads) : LineOk ("[" ++ h ++ "]") := by
  obtain ⟨_, _, _, _, g5, g6, g7⟩ := head_all h hh
  exact ⟨⟨g5, g6⟩, g7⟩
theorem set_ok {k v : Str} (hk : k ∈ keys) (hv : v ∈ worths) : LineOk (k ++ " = " ++ v) := by
  obtain ⟨_, _, _, _, g5, g6, g7⟩ := set_all k hk v hv
  exact ⟨⟨g5, g6⟩, g7⟩
/-- the kept lines of a turn -/
def KK (n : Nat) (kk : List Str) : Prop := kk = [kept1 n, kept2 (50 + (n : Int))] ∨ kk = [kept2 (50 + (n : Int))] ∨ kk = []
theorem kk_ok {n : Nat} {kk : List Str} (hn : n < 40) (h : KK n kk) : (∀ z ∈ kk, LineOk z) ∧ kk.length ≤ 2 := by
  obtain ⟨_, _, _, a1, a2, a3⟩ := kept1_all n (List.mem_range.mpr (by omega))
  obtain ⟨_, _, _, b1, b2, b3⟩ := kept2_all (50 + n) (List.mem_range.mpr (by omega))
  have e : (((50 + n : Nat) : Int)) = 50 + (n : Int) := by omega
  rw [e] at b1 b2 b3
  have o1 : LineOk (kept1 n) := ⟨⟨a1, a2⟩, a3⟩
  have o2 : LineOk (kept2 (50 + (n : Int))) := ⟨⟨b1, b2⟩, b3⟩
  rcases h with rfl | rfl | rfl
  · refine ⟨fun z hz => ?_, by simp⟩
    rcases List.mem_cons.mp hz with e | hz
    · rw [e]; exact o1
    · rw [List.mem_singleton.mp hz]; exact o2
  · refine ⟨fun z hz => ?_, by simp⟩
    rw [List.mem_singleton.mp hz]; exact o2
  · exact ⟨(fun z hz => by cases hz), by simp⟩
/-- a setting with what stands ahead of it -/
theorem run_next {fs : FS} {ls kk : List Str} {h ky wo : Str} (hls : ∀ z ∈ ls, looseS z = true) (hkk : KK fs.settings.length kk) (hn : fs.settings.length < 40) (kl : KL fs) (hk : ky ∈ keys) (hv : wo ∈ worths) (hl : fs.headers.getLast? = some h) (new : h ++ "." ++ ky ∉ fs.settings.map (·.1)) :
    ∃ fs', runF fs (ls ++ kk ++ [ky ++ " = " ++ wo]) = some fs' ∧ fs'.headers = fs.headers ∧ fs'.settings = fs.settings ++ [(h ++ "." ++ ky, wo)] ∧ KL fs' := by
  obtain ⟨fs2, r2, e1, e2, k2⟩ : ∃ fs2, runF { fs with loose := fs.loose ++ ls } kk = some fs2 ∧ fs2.headers = fs.headers ∧ fs2.settings = fs.settings ∧ ∀ e ∈ fs2.kept.map (·.1), e.1 < ((fs.settings.length : Nat) : Int) + 1 ∨ (50 ≤ e.1 ∧ e.1 < 50 + (((fs.settings.length : Nat) : Int) + 1)) := by
    obtain ⟨a1, a2, a3, _⟩ := kept1_all fs.settings.length (List.mem_range.mpr (by omega))
    obtain ⟨b1, b2, b3, _⟩ := kept2_all (50 + fs.settings.length) (List.mem_range.mpr (by omega))
    have e : (((50 + fs.settings.length : Nat) : Int)) = 50 + (fs.settings.length : Int) := by omega
    rw [e] at b1 b2 b3
    have n1 : (((fs.settings.length : Nat) : Int), ("a.b" : Str)) ∉ fs.kept.map (·.1) := fun hm => by
      have := kl _ hm
      omega
    have n2 : ((50 + ((fs.settings.length : Nat) : Int)), ("net.x" : Str)) ∉ fs.kept.map (·.1) := fun hm => by
      have := kl _ hm
      omega
    rcases hkk with rfl | rfl | rfl
    · have s1 := step_kept (fs := { fs with loose := fs.loose ++ ls }) a1 a2 a3 n1
      have n3 : ((50 + ((fs.settings.length : Nat) : Int)), ("net.x" : Str)) ∉ (fs.kept ++ [((((fs.settings.length : Nat) : Int), ("a.b" : Str)), (none : Option Str))]).map (·.1) := fun hm => by
        rw [List.map_append] at hm
        rcases List.mem_append.mp hm with z | z
        · exact n2 z
        · have := congrArg Prod.fst (List.mem_singleton.mp z)
          have : (50 + ((fs.settings.length : Nat) : Int)) = ((fs.settings.length : Nat) : Int) := this
          omega
      have s2 := step_kept (fs := { fs with loose := fs.loose ++ ls, kept := fs.kept ++ [((((fs.settings.length : Nat) : Int), ("a.b" : Str)), (none : Option Str))] }) b1 b2 b3 n3
      refine ⟨{ fs with loose := fs.loose ++ ls, kept := (fs.kept ++ [((((fs.settings.length : Nat) : Int), ("a.b" : Str)), (none : Option Str))]) ++ [(((50 + ((fs.settings.length : Nat) : Int)), ("net.x" : Str)), some ("1" : Str))] }, ?_, rfl, rfl, ?_⟩
      · rw [runF_cons, s1, Option.bind_some, runF_cons, s2, Option.bind_some, runF_nil]
      · intro x hx
        have hx : x ∈ ((fs.kept ++ [((((fs.settings.length : Nat) : Int), ("a.b" : Str)), (none : Option Str))]) ++ [(((50 + ((fs.settings.length : Nat) : Int)), ("net.x" : Str)), some ("1" : Str))]).map (·.1) := hx
        rw [List.map_append, List.map_append] at hx
        rcases List.mem_append.mp hx with z | z
        · rcases List.mem_append.mp z with z | z
          · have := kl _ z
            omega
          · rw [List.mem_singleton.mp z]
            left
            show ((fs.settings.length : Nat) : Int) < _
            omega
        · rw [List.mem_singleton.mp z]
          right
          show 50 ≤ 50 + ((fs.settings.length : Nat) : Int) ∧ 50 + ((fs.settings.length : Nat) : Int) < _
          omega
    · have s2 := step_kept (fs := { fs with loose := fs.loose ++ ls }) b1 b2 b3 n2
      refine ⟨{ fs with loose := fs.loose ++ ls, kept := fs.kept ++ [(((50 + ((fs.settings.length : Nat) : Int)), ("net.x" : Str)), some ("1" : Str))] }, ?_, rfl, rfl, ?_⟩
      · rw [runF_cons, s2, Option.bind_some, runF_nil]
      · intro x hx
        have hx : x ∈ (fs.kept ++ [(((50 + ((fs.settings.length : Nat) : Int)), ("net.x" : Str)), some ("1" : Str))]).map (·.1) := hx
        rw [List.map_append] at hx
        rcases List.mem_append.mp hx with z | z
        · have := kl _ z
          omega
        · rw [List.mem_singleton.mp z]
          right
          show 50 ≤ 50 + ((fs.settings.length : Nat) : Int) ∧ 50 + ((fs.settings.length : Nat) : Int) < _
          omega
    · refine ⟨{ fs with loose := fs.loose ++ ls }, rfl, rfl, rfl, fun x hx => ?_⟩
      have := kl x hx
      omega
  have s3 := step_set (fs := fs2) hk hv (by rw [e1]; exact hl) (by rw [e2]; exact new)
  refine ⟨{ fs2 with settings := fs2.settings ++ [(h ++ "." ++ ky, wo)], blocks := fs2.blocks ++ [(h ++ "." ++ ky, fs2.loose)], loose := [] }, ?_, e1, (by show fs2.settings ++ _ = _; rw [e2]), ?_⟩
  · rw [List.append_assoc, runF_app, run_loose fs hls]
    rw [Option.bind_some, runF_app, r2, Option.bind_some, runF_cons, s3, Option.bind_some, runF_nil]
  · intro x hx
    have := k2 x hx
    show x.1 < (((fs2.settings ++ [(h ++ "." ++ ky, wo)]).length : Nat) : Int) ∨ (50 ≤ x.1 ∧ x.1 < 50 + (((fs2.settings ++ [(h ++ "." ++ ky, wo)]).length : Nat) : Int))
    rw [e2, List.length_append, List.length_singleton]
    omega
theorem nodup_at {α : Type} [DecidableEq α] : ∀ {l : List α} {i : Nat} {x : α}, l.Nodup → l[i]? = some x → x ∉ l.take i
  | [], i, x, _, e => by simp at e
  | a :: r, 0, x, _, _ => by simp
  | a :: r, i + 1, x, h, e => by
    have hr := (List.nodup_cons.mp h)
    have e2 : r[i]? = some x := e
    rw [List.take_succ_cons]
    intro hm
    rcases List.mem_cons.mp hm with rfl | hm
    · exact hr.1 (List.mem_of_getElem? e2)
    · exact nodup_at hr.2 e2 hm
theorem cut_take (ys : List Str) {d : Int} (h0 : 0 ≤ d) : cutV (ys.map V.str) none (some d) = (ys.take d.toNat).map V.str := by
  unfold cutV
  rw [HT.sIx_none]
  have e : HT.sIx (ys.map V.str).length (ys.map V.str).length (some d) = min d.toNat (ys.map V.str).length := by
    have := HT.sIx_nat (ys.map V.str).length (ys.map V.str).length d.toNat
    rwa [show ((d.toNat : Nat) : Int) = d by omega] at this
  rw [e, List.drop_zero, Nat.sub_zero, List.map_take, List.length_map]
  by_cases h : d.toNat ≤ ys.length
  · rw [Nat.min_eq_left h]
  · rw [Nat.min_eq_right (by omega), List.take_of_length_le (by rw [List.length_map]; exact Nat.le_refl _), List.take_of_length_le (by rw [List.length_map]; omega)]
theorem cut_kept (n : Nat) {d : Int} (h0 : 0 ≤ d) (h1 : d < 3) : ∃ kk, cutV [V.str (kept1 n), .str (kept2 (50 + (n : Int)))] (some d) none = kk.map V.str ∧ KK n kk := by
  have : d = 0 ∨ d = 1 ∨ d = 2 := by omega
  rcases this with rfl | rfl | rfl
  · exact ⟨_, (rfl : _ = [kept1 n, kept2 (50 + (n : Int))].map V.str), .inl rfl⟩
  · exact ⟨_, (rfl : _ = [kept2 (50 + (n : Int))].map V.str), .inr (.inl rfl)⟩
  · exact ⟨_, (rfl : _ = ([] : List Str).map V.str), .inr (.inr rfl)⟩
section
variable {P : Program} {w : World} {K : PySem.W.Frag} {mg : Str → Option Value} {base : Heap}
def sp_L_amid (K : PySem.W.Frag) : Sp := fun vs H Q _ => ∃ b : Addr, vs = [.ref b] ∧ Bag H b ∧
  ∀ (H' : Hp) (ls : List Str) (p : Addr), (∀ z ∈ ls, z ∈ looseLines) → ls.length ≤ 3 → Kept b H H' → Bag H' b → H p = none → H' p = some (.lst (ls.map V.str)) → Q (.ref p) H'
theorem ok_L_amid (T : Top K mg) : FnOk P w K mg base CX0 3 T.f__law_amid T.d__law_amid ["_law_bag_here"] (sp_L_amid K) := by
  have G__law_take : FnOk P w K mg base CX0 1 T.f__law_take T.d__law_take ["_law_bag_here", "_law_many"] (sp_L_take K) := ok_L_take T
  have G__law_of : FnOk P w K mg base CX0 2 T.f__law_of T.d__law_of ["_law_bag_here", "_law_some"] (sp_L_of K) := ok_L_of T
  refine T.F__law_amid.ok scL_amid (fun vs H Q E h => ?_) (fun cdv A outer s H vs Q E hr h => ?_)
  · obtain ⟨b, rfl, _⟩ := h
    rfl
  · obtain ⟨b, rfl, hb, q⟩ := h
    refine ⟨_, (pss_cons (ps_set (i := 1) scL_amid.nd rfl (.inr rfl) (pe_lst (pa_cons pe_str (pa_cons pe_str (pa_cons pe_str (pa_cons pe_str (pa_cons pe_str (pa_cons pe_str pa_nil))))))))
      (pss_one (ps_ret (pe_lc (own := [("_law_turn", 2)]) rfl scL_amid.nd (pi_range1 (by rfl) T.m_range (pa_cons (pe_call G__law_take (hr.mono (by decide)) (by rfl) T.g__law_take T.F__law_take.kp T.b__law_take .nil pass0 (pa_cons (pv 0) (pa_cons pe_int pa_nil))) pa_nil)) (blkOk_by (N := N_L_amid) (sc := defScope s_L_amid) (by decide +kernel)) (fun _ _ _ _ _ => (pg_name (i := 2) scL_amid.nd rfl (.inl rfl))) (fun _ _ _ _ _ => pts_nil) (fun _ _ _ _ _ => (pe_call G__law_of (hr.mono (by decide)) (by rfl) T.g__law_of T.F__law_of.kp T.b__law_of .nil pass0 (pa_cons (pv 0) (pa_cons (pv 1) pa_nil)))))))), ?_⟩
    refine ⟨(by show 6 ≤ sizeLine; decide), fun l nl => ?_⟩
    have sl : Same H (upd H l (.lst (looseLines.map V.str))) := same_new nl
    have hl : (upd H l (.lst (looseLines.map V.str))) l = some (.lst (looseLines.map V.str)) := upd_same
    have b1 := hb.same sl
    have lb : l ≠ b := hb.ne nl
    show _
    refine ⟨.ref b, rfl, b, 4, rfl, b1, by decide, by decide, fun d m1 m2 d0 d1 g0 g1 g2 => ⟨d, rfl, by omega, by omega, fun D nD => ?_⟩⟩
    have b2 : Bag (upd (upd H l (.lst (looseLines.map V.str))) b (.lst [.int m1, .int m2])) b := Bag.at g0 g1 g2
    have k2 : Kept b H (upd (upd H l (.lst (looseLines.map V.str))) b (.lst [.int m1, .int m2])) := (Kept.same sl).trans Kept.at
    have hl2 : (upd (upd H l (.lst (looseLines.map V.str))) b (.lst [.int m1, .int m2])) l = some (.lst (looseLines.map V.str)) := Kept.at _ _ lb hl
    have nD' : (upd (upd H l (.lst (looseLines.map V.str))) b (.lst [.int m1, .int m2])) D = none := nD
    refine lc_it walk_range (fun j H3 => ∃ ys : List Str, ys.length = j ∧ (∀ y ∈ ys, y ∈ looseLines) ∧ Kept b H H3 ∧ Bag H3 b ∧ H3 l = some (.lst (looseLines.map V.str)) ∧ H3 D = some (.lst (ys.map V.str))) ?_ (fun _ _ _ _ => trivial) ?_ ?_
    · have nDH : H D = none := k2.free b2 nD'
      exact ⟨[], rfl, (fun _ h => by cases h), k2.trans (Kept.new nD'), b2.new nD', same_new nD' _ _ hl2, upd_same⟩
    · rintro j x H3' H3 hj ⟨ys, ly, hy, k3, b3, l3, d3⟩ ⟨rfl, rfl⟩
      refine ⟨rfl, ?_⟩
      simp only [tYes, if_true]
      refine ⟨.ref b, rfl, .ref l, rfl, b, l, _, rfl, b3, l3, lb, by simp, by show 6 ≤ 1000; decide, fun v n m hv n0 m0 m1 => ?_⟩
      obtain ⟨z, hz, rfl⟩ := List.mem_map.mp hv
      have nDb : D ≠ b := b2.ne nD'
      have nDH : H D = none := k2.free b2 nD'
      have lD : l ≠ D := ne_of_none hl2 nD'
      refine ⟨_, Kept.at _ _ nDb d3, ?_, ys ++ [z], ?_, ?_, ?_, ?_, ?_, ?_⟩
      · rw [List.length_map]
        exact small1000 (by omega)
      · rw [List.length_append, ly]
        rfl
      · intro y hy'
        rcases List.mem_append.mp hy' with x | x
        · exact hy y x
        · cases List.mem_singleton.mp x
          exact hz
      · exact (k3.trans Kept.at).off nDH
      · exact (Bag.at n0 m0 m1).off nDb
      · rw [upd_ne lD]
        exact Kept.at _ _ lb l3
      · rw [upd_same, List.map_append]
        rfl
    · rintro H3 ⟨ys, ly, hy, k3, b3, l3, d3⟩
      exact q H3 ys D hy (by omega) k3 b3 (k2.free b2 nD') d3
end
end K02

set_option Elab.async false
set_option linter.all false
set_option maxRecDepth 100000
set_option maxHeartbeats 1000000
namespace K02
open PySem PySem.Spec PyProof.Rows L2 My
theorem PairsAt.off {H : Hp} {c : Addr} {u : List V} {o : HO} (hc : H c = some (.lst u)) : ∀ {vs : List V} {l : List (Str × Str)}, PairsAt H vs l → PairsAt (upd H c o) vs l
  | _, _, .nil => .nil
  | _, _, .cons ⟨a, e, h⟩ t => .cons ⟨a, e, by
      rw [upd_ne (fun z => by rw [z, hc] at h; cases h)]
      exact h⟩ (PairsAt.off hc t)
theorem PairsAt.kept {H H' : Hp} {b : Addr} (hb : Bag H b) (k : Kept b H H') : ∀ {vs : List V} {l : List (Str × Str)}, PairsAt H vs l → PairsAt H' vs l
  | _, _, .nil => .nil
  | _, _, .cons ⟨a, e, h⟩ t => .cons ⟨a, e, k _ _ (fun z => by
      obtain ⟨n, m, eb, _⟩ := hb
      rw [z, eb] at h
      cases h) h⟩ (PairsAt.kept hb k t)
/-- the state of the drawing -/
structure Dr (H : Hp) (b ph pf : Addr) (H3 : Hp) (pl : Addr) (lines : List Str) (fs : FS) (us : List V) (k : Nat) : Prop where
  bag : Bag H3 b
  hl : H3 pl = some (.lst (lines.map V.str))
  hh : H3 ph = some (.lst (fs.headers.map V.str))
  hf : H3 pf = some (.lst us)
  pr : PairsAt H3 us fs.settings
  run : runF fs0 lines = some fs
  kl : KL fs
  ok : ∀ z ∈ lines, LineOk z
  ll : lines.length ≤ k
  pb : pl ≠ b
  pph : pl ≠ ph
  ppf : pl ≠ pf
  np : H pl = none
  kp : Kept b H H3
structure Ds (H : Hp) (b ph pf : Addr) : Prop where
  hb : ph ≠ b
  fb : pf ≠ b
  hf : ph ≠ pf
  nh : H ph = none
  nf : H pf = none
theorem Dr.keptD {H H3 H4 : Hp} {b ph pf pl : Addr} {lines : List Str} {fs : FS} {us : List V} {k : Nat} (s : Ds H b ph pf) (d : Dr H b ph pf H3 pl lines fs us k) (kk : Kept b H3 H4) (bag : Bag H4 b) : Dr H b ph pf H4 pl lines fs us k :=
  ⟨bag, kk _ _ d.pb d.hl, kk _ _ s.hb d.hh, kk _ _ s.fb d.hf, PairsAt.kept d.bag kk d.pr, d.run, d.kl, d.ok, d.ll, d.pb, d.pph, d.ppf, d.np, d.kp.trans kk⟩
/-- a header -/
theorem Dr.head {H H3 : Hp} {b ph pf pl : Addr} {lines : List Str} {fs : FS} {us : List V} {k : Nat} {h : Str} (s : Ds H b ph pf) (d : Dr H b ph pf H3 pl lines fs us k) (hh : h ∈ heads) (new : h ∉ fs.headers) :
    Dr H b ph pf (upd (upd H3 ph (.lst (fs.headers.map V.str ++ [.str h]))) pl (.lst (lines.map V.str ++ [.str ("[" ++ h ++ "]")]))) pl (lines ++ ["[" ++ h ++ "]"]) { fs with headers := fs.headers ++ [h], blocks := fs.blocks ++ [(h, fs.loose)], loose := [] } us (k + 1) := by
  have pl1 : (upd H3 ph (.lst (fs.headers.map V.str ++ [.str h]))) pl = some (.lst (lines.map V.str)) := by rw [upd_ne d.pph]; exact d.hl
  refine ⟨(d.bag.off s.hb).off d.pb, ?_, ?_, ?_, PairsAt.off pl1 (PairsAt.off d.hh d.pr), ?_, d.kl, ?_, ?_, d.pb, d.pph, d.ppf, d.np, (d.kp.off s.nh).off d.np⟩
  · rw [upd_same, List.map_append]
    rfl
  · rw [upd_ne d.pph.symm, upd_same]
    show _ = some (HO.lst ((fs.headers ++ [h]).map V.str))
    rw [List.map_append]
    rfl
  · rw [upd_ne d.ppf.symm, upd_ne s.hf.symm]
    exact d.hf
  · rw [runF_app, d.run, Option.bind_some, runF_cons, step_head hh new, Option.bind_some, runF_nil]
  · intro y hy
    rcases List.mem_append.mp hy with x | x
    · exact d.ok y x
    · rw [List.mem_singleton.mp x]
      exact head_ok hh
  · have := d.ll
    rw [List.length_append, List.length_singleton]
    omega
/-- a setting, with the lines ahead of it -/
theorem Dr.set {H H3 G : Hp} {b ph pf pl q4 a : Addr} {lines ls kk : List Str} {fs : FS} {us : List V} {k : Nat} {h ky wo : Str} (s : Ds H b ph pf) (d : Dr H b ph pf H3 pl lines fs us k)
    (hls : ∀ z ∈ ls, z ∈ looseLines) (lls : ls.length ≤ 3) (hkk : KK fs.settings.length kk) (hn : fs.settings.length < 40) (hk : ky ∈ keys) (hv : wo ∈ worths) (hl : fs.headers.getLast? = some h) (new : h ++ "." ++ ky ∉ fs.settings.map (·.1))
    (kG : Kept b H3 G) (bG : Bag G b) {L : List V} (eL : L = (lines ++ (ls ++ kk ++ [ky ++ " = " ++ wo])).map V.str) (nq : G q4 = none) (na : (upd G q4 (.lst L)) a = none) :
    ∃ fs', fs'.headers = fs.headers ∧ fs'.settings = fs.settings ++ [(h ++ "." ++ ky, wo)] ∧ Dr H b ph pf (upd (upd (upd G q4 (.lst L)) a (.tup [.str (h ++ "." ++ ky), .str wo])) pf (.lst (us ++ [.ref a]))) q4 (lines ++ (ls ++ kk ++ [ky ++ " = " ++ wo])) fs' (us ++ [.ref a]) (k + 6) := by
  have d1 := d.keptD s kG bG
  obtain ⟨fs', r, e1, e2, kl'⟩ := run_next (fs := fs) (h := h) (fun z hz => (loose_ok (hls z hz)).1) hkk hn d.kl hk hv hl new
  have okk := kk_ok hn hkk
  have s1 : Same G (upd (upd G q4 (.lst L)) a (.tup [.str (h ++ "." ++ ky), .str wo])) := (same_new nq).trans (same_new na)
  have qb := bG.ne nq
  have qh : q4 ≠ ph := (ne_of_none d1.hh nq).symm
  have qf : q4 ≠ pf := (ne_of_none d1.hf nq).symm
  have qa : q4 ≠ a := ne_of_none upd_same na
  have af : a ≠ pf := (ne_of_none (same_new nq _ _ d1.hf) na).symm
  refine ⟨fs', e1, e2, ⟨(bG.same s1).off s.fb, ?_, ?_, upd_same, ?_, ?_, kl', ?_, ?_, qb, qh, qf, d1.kp.free bG nq, (d1.kp.trans (Kept.same s1)).off s.nf⟩⟩
  · rw [upd_ne qf, upd_ne qa, upd_same, eL]
  · rw [upd_ne s.hf, e1]
    exact s1 _ _ d1.hh
  · rw [e2]
    exact PairsAt.off (s1 _ _ d1.hf) (paired_snoc (PairsAt.same s1 d1.pr) ⟨a, rfl, upd_same⟩)
  · rw [runF_app, d.run, Option.bind_some]
    exact r
  · intro y hy
    rcases List.mem_append.mp hy with x | x
    · exact d.ok y x
    · rcases List.mem_append.mp x with x | x
      · rcases List.mem_append.mp x with x | x
        · exact (loose_ok (hls y x)).2
        · exact okk.1 y x
      · rw [List.mem_singleton.mp x]
        exact set_ok hk hv
  · have := d.ll
    have := okk.2
    simp only [List.length_append, List.length_singleton]
    omega
/-- lines behind -/
theorem Dr.more {H H3 G : Hp} {b ph pf pl q : Addr} {lines ls : List Str} {fs : FS} {us : List V} {k : Nat} (s : Ds H b ph pf) (d : Dr H b ph pf H3 pl lines fs us k) (hls : ∀ z ∈ ls, z ∈ looseLines) (lls : ls.length ≤ 3) (kG : Kept b H3 G) (bG : Bag G b) (nq : G q = none) :
    Dr H b ph pf (upd G q (.lst (lines.map V.str ++ ls.map V.str))) q (lines ++ ls) { fs with loose := fs.loose ++ ls } us (k + 3) := by
  have d1 := d.keptD s kG bG
  have s1 : Same G (upd G q (.lst (lines.map V.str ++ ls.map V.str))) := same_new nq
  refine ⟨bG.same s1, ?_, s1 _ _ d1.hh, s1 _ _ d1.hf, PairsAt.same s1 d1.pr, ?_, d.kl, ?_, ?_, bG.ne nq, (ne_of_none d1.hh nq).symm, (ne_of_none d1.hf nq).symm, d1.kp.free bG nq, d1.kp.trans (Kept.same s1)⟩
  · rw [upd_same, List.map_append]
  · rw [runF_app, d.run, Option.bind_some, run_loose fs fun z hz => (loose_ok (hls z hz)).1]
  · intro y hy
    rcases List.mem_append.mp hy with x | x
    · exact d.ok y x
    · exact (loose_ok (hls y x)).2
  · have := d.ll
    rw [List.length_append]
    omega
end K02

set_option Elab.async false
set_option linter.all false
set_option maxRecDepth 100000
set_option maxHeartbeats 2000000
namespace K02
open PySem PySem.Spec PyProof.Rows L2 My
section
variable {P : Program} {w : World} {K : PySem.W.Frag} {mg : Str → Option Value} {base : Heap}
def SetOk (fs : FS) : Prop := ∀ e ∈ fs.settings, (∃ h ∈ heads, ∃ k ∈ keys, e.1 = h ++ "." ++ k) ∧ e.2 ∈ worths
def sp_L_drawn (K : PySem.W.Frag) : Sp := fun vs H Q _ => ∃ b : Addr, vs = [.ref b] ∧ Bag H b ∧ ∀ (H' : Hp) (lines : List Str) (fs : FS) (p pl ph pf : Addr) (us : List V), runF fs0 lines = some fs → (∀ z ∈ lines, LineOk z) → lines.length ≤ 1000 →
  SetOk fs → fs.settings.length ≤ 30 → (∀ h ∈ fs.headers, h ∈ heads) → Kept b H H' → Bag H' b → H' p = some (.tup [.ref pl, .ref ph, .ref pf]) → H' pl = some (.lst (lines.map V.str)) → H' ph = some (.lst (fs.headers.map V.str)) → H' pf = some (.lst us) → PairsAt H' us fs.settings → Q (.ref p) H'
theorem ok_L_drawn (T : Top K mg) : FnOk P w K mg base CX0 4 T.f__law_drawn T.d__law_drawn ["_law_bag_here"] (sp_L_drawn K) := by
  have G__law_amid : FnOk P w K mg base CX0 3 T.f__law_amid T.d__law_amid ["_law_bag_here"] (sp_L_amid K) := ok_L_amid T
  have G__law_take : FnOk P w K mg base CX0 1 T.f__law_take T.d__law_take ["_law_bag_here", "_law_many"] (sp_L_take K) := ok_L_take T
  have G__law_mixed : FnOk P w K mg base CX0 2 T.f__law_mixed T.d__law_mixed ["_law_bag_here", "_law_things"] (sp_L_mixed K) := ok_L_mixed T
  have G__law_of : FnOk P w K mg base CX0 2 T.f__law_of T.d__law_of ["_law_bag_here", "_law_some"] (sp_L_of K) := ok_L_of T
  refine T.F__law_drawn.ok scL_drawn (fun vs H Q E h => ?_) (fun cdv A outer s H vs Q E hr h => ?_)
  · obtain ⟨b, rfl, _⟩ := h
    rfl
  · obtain ⟨b, rfl, hb, q⟩ := h
    refine ⟨_, (pss_cons (ps_par3 (i := 1) (j := 2) (l := 3) (by rfl) scL_drawn.nd rfl rfl rfl (by decide) (by decide) (by decide) rfl rfl rfl (pa_cons (pe_call G__law_amid (hr.mono (by decide)) (by rfl) T.g__law_amid T.F__law_amid.kp T.b__law_amid .nil pass0 (pa_cons (pv 0) pa_nil)) (pa_cons (pe_lst pa_nil) (pa_cons (pe_lst pa_nil) pa_nil))) (by rfl))
      (pss_cons (ps_for PassesOwn.never rfl (pi_list (pe_slice sl_list (pe_call G__law_mixed (hr.mono (by decide)) (by rfl) T.g__law_mixed T.F__law_mixed.kp T.b__law_mixed .nil pass0 (pa_cons (pv 0) (pa_cons (pe_lst (pa_cons pe_str (pa_cons pe_str (pa_cons pe_str (pa_cons pe_str pa_nil))))) pa_nil))) po_none (po_some (pe_call G__law_take (hr.mono (by decide)) (by rfl) T.g__law_take T.F__law_take.kp T.b__law_take .nil pass0 (pa_cons (pv 0) (pa_cons pe_int pa_nil)))))) (pg_name (i := 4) scL_drawn.nd rfl (.inl rfl)) (pss_cons (ps_expr (pe_bm PySem.F.plainAttrs_list PySem.F.slot_list_append PySem.F.type_list_append mt_append (pv 2) (pa_cons (pv 4) pa_nil)))
      (pss_cons (ps_expr (pe_bm PySem.F.plainAttrs_list PySem.F.slot_list_append PySem.F.type_list_append mt_append (pv 1) (pa_cons (pe_op op_add_str (pe_op op_add_str pe_str (pv 4)) pe_str) pa_nil)))
      (pss_cons (ps_for PassesOwn.never rfl (pi_list (pe_slice sl_list (pe_call G__law_mixed (hr.mono (by decide)) (by rfl) T.g__law_mixed T.F__law_mixed.kp T.b__law_mixed .nil pass0 (pa_cons (pv 0) (pa_cons (pe_lst (pa_cons pe_str (pa_cons pe_str (pa_cons pe_str (pa_cons pe_str (pa_cons pe_str pa_nil)))))) pa_nil))) po_none (po_some (pe_call G__law_take (hr.mono (by decide)) (by rfl) T.g__law_take T.F__law_take.kp T.b__law_take .nil pass0 (pa_cons (pv 0) (pa_cons pe_int pa_nil)))))) (pg_name (i := 5) scL_drawn.nd rfl (.inl rfl)) (pss_cons (ps_par (i := 6) (j := 7) (by rfl) scL_drawn.nd rfl rfl (by decide) rfl rfl (pa_cons (pe_call G__law_of (hr.mono (by decide)) (by rfl) T.g__law_of T.F__law_of.kp T.b__law_of .nil pass0 (pa_cons (pv 0) (pa_cons (pe_lst (pa_cons pe_str (pa_cons pe_str (pa_cons pe_str (pa_cons pe_str (pa_cons pe_str pa_nil)))))) pa_nil))) (pa_cons (pe_callB call_len_seq (by rfl) T.m_len (by decide +kernel) (pa_cons (pv 3) pa_nil)) pa_nil)) (by rfl))
      (pss_cons (ps_set (i := 8) scL_drawn.nd rfl (.inl rfl) (pe_lst (pa_cons (pe_op op_add_str (pe_op op_add_str pe_str (pe_callTy call_str_int (by rfl) T.m_str (by decide +kernel) (pa_cons (pv 7) pa_nil))) pe_str) (pa_cons (pe_op op_add_str (pe_op op_add_str pe_str (pe_callTy call_str_int (by rfl) T.m_str (by decide +kernel) (pa_cons (pe_op op_add pe_int (pv 7)) pa_nil))) pe_str) pa_nil))))
      (pss_cons (ps_set (i := 1) scL_drawn.nd rfl (.inl rfl) (pe_op op_cat (pe_op op_cat (pe_op op_cat (pv 1) (pe_call G__law_amid (hr.mono (by decide)) (by rfl) T.g__law_amid T.F__law_amid.kp T.b__law_amid .nil pass0 (pa_cons (pv 0) pa_nil))) (pe_slice sl_list (pv 8) (po_some (pe_call G__law_take (hr.mono (by decide)) (by rfl) T.g__law_take T.F__law_take.kp T.b__law_take .nil pass0 (pa_cons (pv 0) (pa_cons pe_int pa_nil)))) po_none)) (pe_lst (pa_cons (pe_op op_add_str (pe_op op_add_str (pv 5) pe_str) (pv 6)) pa_nil))))
      (pss_one (ps_expr (pe_bm PySem.F.plainAttrs_list PySem.F.slot_list_append PySem.F.type_list_append mt_append (pv 3) (pa_cons (pe_tup (pa_cons (pe_op op_add_str (pe_op op_add_str (pv 4) pe_str) (pv 5)) (pa_cons (pv 6) pa_nil))) pa_nil))))))))
      (pss_one (ps_set (i := 1) scL_drawn.nd rfl (.inl rfl) (pe_op op_cat (pv 1) (pe_call G__law_amid (hr.mono (by decide)) (by rfl) T.g__law_amid T.F__law_amid.kp T.b__law_amid .nil pass0 (pa_cons (pv 0) pa_nil)))))))))
      (pss_one (ps_ret (pe_tup (pa_cons (pv 1) (pa_cons (pv 2) (pa_cons (pv 3) pa_nil)))))))), ?_⟩
    have sbig : 100000 ≤ sizeLine := by decide
    refine ⟨.ref b, rfl, b, rfl, hb, fun H1 ls0 l0 hls0 lls0 k1 b1 nl0 hl0 => ⟨Nat.zero_le _, fun ph nph => ⟨Nat.zero_le _, fun pf npf => ⟨_, _, _, rfl, ?_⟩⟩⟩⟩
    have nphH : H ph = none := k1.free b1 nph
    have npf1 : H1 pf = none := (same_new nph).free npf
    have npfH : H pf = none := k1.free b1 npf1
    have st : Ds H b ph pf := ⟨hb.ne nphH, hb.ne npfH, ne_of_none upd_same npf, nphH, npfH⟩
    have d0 : Dr H b ph pf (upd (upd H1 ph (.lst [])) pf (.lst [])) l0 ls0 { fs0 with loose := ls0 } [] 3 := by
      have s3 : Same H1 (upd (upd H1 ph (.lst [])) pf (.lst [])) := (same_new nph).trans (same_new npf)
      refine ⟨b1.same s3, s3 _ _ hl0, ?_, upd_same, .nil, ?_, (fun e he => by cases he), (fun z hz => (loose_ok (hls0 z hz)).2), lls0, hb.ne nl0, ne_of_none hl0 nph, ne_of_none hl0 npf1, nl0, k1.trans (Kept.same s3)⟩
      · rw [upd_ne st.hf]
        exact upd_same
      · rw [run_loose fs0 fun z hz => (loose_ok (hls0 z hz)).1]
        rfl
    generalize upd (upd H1 ph (.lst [])) pf (.lst []) = H1' at d0
    -- the heads, in another order, some of them
    refine ⟨.ref b, rfl, (by show 4 ≤ sizeLine; decide), fun lh nlh => ?_⟩
    refine ⟨b, lh, heads, rfl, d0.bag.new nlh, upd_same, d0.bag.ne nlh, by decide, plain_all (by decide), fun H2 pm ys perm k2 b2 npm hpm => ?_⟩
    have d2 := d0.keptD st ((Kept.new nlh).trans k2) b2
    refine ⟨.ref b, rfl, b, 5, rfl, b2, by decide, by decide, fun d m1 m2 e0 e1 g0 g1 g2 => ⟨d, rfl, pm, _, rfl, SqL.of (Kept.at _ _ (Bag.ne (Bag.new d0.bag nlh) npm) hpm), fun s1 ns1 => ?_⟩⟩
    have d3 := d2.keptD st Kept.at (Bag.at g0 g1 g2)
    generalize upd H2 b (.lst [.int m1, .int m2]) = H3 at d3 ns1
    rw [cut_take ys e0]
    obtain ⟨hs, ehs⟩ : ∃ hs, hs = ys.take d.toNat := ⟨_, rfl⟩
    rw [← ehs]
    have hsN : hs.Nodup := by rw [ehs]; exact (perm.nodup_iff.mpr (by decide)).sublist (List.take_sublist _ _)
    have hsH : ∀ h ∈ hs, h ∈ heads := fun h hh => perm.subset (List.mem_of_mem_take (by rw [← ehs]; exact hh))
    have hsL : hs.length ≤ 4 := by
      rw [ehs, List.length_take]
      have := perm.length_eq
      have : heads.length = 4 := rfl
      omega
    have s1b : s1 ≠ b := d3.bag.ne ns1
    have s1h : s1 ≠ ph := (ne_of_none d3.hh ns1).symm
    have s1f : s1 ≠ pf := (ne_of_none d3.hf ns1).symm
    have s1l : l0 ≠ s1 := ne_of_none d3.hl ns1
    have d4 := d3.keptD st (Kept.new (o := .lst (hs.map V.str)) ns1) (d3.bag.new ns1)
    have hs1 : (upd H3 s1 (.lst (hs.map V.str))) s1 = some (.lst (hs.map V.str)) := upd_same
    generalize upd H3 s1 (.lst (hs.map V.str)) = H4 at d4 hs1
    refine ⟨s1, rfl, ⟨_, SqL.of hs1⟩, for_it (walk_list (xs := hs.map V.str)) (fun i σ H5 => ∃ (k : Nat) (pl : Addr) (lines : List Str) (fs : FS) (us : List V) (y4 y5 y6 y7 y8 : Option V), σ = [some (.ref b), some (.ref pl), some (.ref ph), some (.ref pf), y4, y5, y6, y7, y8] ∧
        Dr H b ph pf H5 pl lines fs us k ∧ k ≤ 3 + 34 * i ∧ fs.headers = hs.take i ∧ fs.settings.length ≤ 5 * i ∧ SetOk fs ∧ (∀ p ∈ fs.settings.map (·.1), ∃ h ∈ hs.take i, ∃ k ∈ keys, p = h ++ "." ++ k) ∧ pl ≠ s1 ∧ H5 s1 = some (.lst (hs.map V.str))) ?_ (fun i σ H5 _ h => by
          obtain ⟨_, _, _, _, _, _, _, _, _, _, _, _, _, _, _, _, _, _, h⟩ := h
          exact SqL.of h) ?_ ?_⟩
    · exact ⟨3, l0, ls0, _, [], none, none, none, none, none, rfl, d4, by omega, rfl, Nat.zero_le _, (fun p hp => by cases hp), (fun p hp => by cases hp), s1l, hs1⟩
    · rintro i v σ H5' H5 hi ⟨k, pl, lines, fs, us, y4, y5, y6, y7, y8, rfl, dr, kb, eh, slen, sok, eset, pls1, es⟩ ⟨rfl, hv⟩
      rw [List.length_map] at hi
      have hii : hs[i]? = some hs[i] := List.getElem?_eq_getElem hi
      have ev : v = .str hs[i] := by
        rw [List.getElem?_map, hii] at hv
        exact (Option.some.inj hv).symm
      subst ev
      obtain ⟨h, eh0⟩ : ∃ h, h = hs[i] := ⟨_, rfl⟩
      rw [← eh0] at hii ⊢
      have hh : h ∈ heads := hsH h (List.mem_of_getElem? hii)
      have hnew : h ∉ fs.headers := by rw [eh]; exact nodup_at hsN hii
      have hlen := (name_plain.1 h hh).1
      have ll := dr.ll
      have hdl : fs.headers.length ≤ 4 := by rw [eh, List.length_take]; omega
      -- heads.append, lines.append
      refine ⟨.ref ph, rfl, .inl ⟨rfl, _, SqL.of dr.hh⟩, .str h, rfl, ph, _, _, rfl, rfl, dr.hh, by rw [List.length_map]; exact small1000 (by omega), ?_⟩
      have pl1 : (upd H5 ph (.lst (fs.headers.map V.str ++ [.str h]))) pl = some (.lst (lines.map V.str)) := by rw [upd_ne dr.pph]; exact dr.hl
      refine ⟨.ref pl, rfl, .inl ⟨rfl, _, SqL.of pl1⟩, .str h, rfl, _, _, rfl, rfl, (by show 1 + h.length ≤ sizeLine; omega), _, _, rfl, rfl, (by
        show (("[" : Str) ++ h).length + 1 ≤ sizeLine
        rw [len_tl, TL.tl_append, List.length_append]
        show 1 + h.length + 1 ≤ sizeLine
        omega), pl, _, _, rfl, rfl, pl1, by rw [List.length_map]; exact small1000 (by omega), ?_⟩
      have d10 := dr.head st hh hnew
      have es10 : (upd (upd H5 ph (.lst (fs.headers.map V.str ++ [.str h]))) pl (.lst (lines.map V.str ++ [.str ("[" ++ h ++ "]")]))) s1 = some (.lst (hs.map V.str)) := by rw [upd_ne pls1.symm, upd_ne s1h]; exact es
      generalize upd (upd H5 ph (.lst (fs.headers.map V.str ++ [.str h]))) pl (.lst (lines.map V.str ++ [.str ("[" ++ h ++ "]")])) = H7 at d10 es10
      -- the keys
      refine ⟨.ref b, rfl, (by show 5 ≤ sizeLine; decide), fun lk nlk => ?_⟩
      refine ⟨b, lk, keys, rfl, d10.bag.new nlk, upd_same, d10.bag.ne nlk, by decide, plain_all (by decide), fun H8 pk ys2 perm2 k8 b8 npk hpk => ?_⟩
      have d11 := d10.keptD st ((Kept.new nlk).trans k8) b8
      have es11 := ((Kept.new (b := b) nlk).trans k8) _ _ s1b es10
      refine ⟨.ref b, rfl, b, 5, rfl, b8, by decide, by decide, fun dd m3 m4 e2 e3 g3 g4 g5 => ⟨dd, rfl, pk, _, rfl, SqL.of (Kept.at _ _ (Bag.ne (Bag.new d10.bag nlk) npk) hpk), fun sl nsl => ?_⟩⟩
      have d12 := d11.keptD st Kept.at (Bag.at g3 g4 g5)
      have es12 := Kept.at (H := H8) (b := b) (o := .lst [.int m3, .int m4]) _ _ s1b es11
      generalize upd H8 b (.lst [.int m3, .int m4]) = H9 at d12 nsl es12
      rw [cut_take ys2 e2]
      obtain ⟨kz, ekz⟩ : ∃ kz, kz = ys2.take dd.toNat := ⟨_, rfl⟩
      rw [← ekz]
      have kN : kz.Nodup := by rw [ekz]; exact (perm2.nodup_iff.mpr (by decide)).sublist (List.take_sublist _ _)
      have kK : ∀ x ∈ kz, x ∈ keys := fun x hx => perm2.subset (List.mem_of_mem_take (by rw [← ekz]; exact hx))
      have kL : kz.length ≤ 5 := by
        rw [ekz, List.length_take]
        have := perm2.length_eq
        have : keys.length = 5 := rfl
        omega
      have slb : sl ≠ b := d12.bag.ne nsl
      have slf : sl ≠ pf := (ne_of_none d12.hf nsl).symm
      have d13 := d12.keptD st (Kept.new (o := .lst (kz.map V.str)) nsl) (d12.bag.new nsl)
      have hsl : (upd H9 sl (.lst (kz.map V.str))) sl = some (.lst (kz.map V.str)) := upd_same
      have es13 : (upd H9 sl (.lst (kz.map V.str))) s1 = some (.lst (hs.map V.str)) := same_new nsl _ _ es12
      generalize upd H9 sl (.lst (kz.map V.str)) = H10 at d13 hsl es13
      refine ⟨sl, rfl, ⟨_, SqL.of hsl⟩, for_it (walk_list (xs := kz.map V.str)) (fun j σ H5 => ∃ (k2 : Nat) (pl : Addr) (lines : List Str) (fs : FS) (us : List V) (y5 y6 y7 y8 : Option V), σ = [some (.ref b), some (.ref pl), some (.ref ph), some (.ref pf), some (.str h), y5, y6, y7, y8] ∧
        Dr H b ph pf H5 pl lines fs us k2 ∧ k2 ≤ 3 + 34 * i + 1 + 6 * j ∧ fs.headers = hs.take i ++ [h] ∧ fs.settings.length ≤ 5 * i + j ∧ SetOk fs ∧ (∀ p ∈ fs.settings.map (·.1), (∃ h' ∈ hs.take i, ∃ k ∈ keys, p = h' ++ "." ++ k) ∨ ∃ k ∈ kz.take j, p = h ++ "." ++ k) ∧ pl ≠ s1 ∧ H5 s1 = some (.lst (hs.map V.str)) ∧ H5 sl = some (.lst (kz.map V.str))) ?_ (fun j σ H5 _ hh => by
          obtain ⟨_, _, _, _, _, _, _, _, _, _, _, _, _, _, _, _, _, _, hh⟩ := hh
          exact SqL.of hh) ?_ ?_⟩
      · refine ⟨k + 1, pl, _, _, us, _, _, _, _, rfl, d13, by omega, ?_, by show fs.settings.length ≤ _; omega, sok, ?_, pls1, es13, hsl⟩
        · show fs.headers ++ [h] = _
          rw [eh]
        · intro p hp
          exact .inl (eset p hp)
      · rintro j v σ H11' H11 hj ⟨k2, pl, lines, fs, us, y5, y6, y7, y8, rfl, dr, kb2, eh2, slen2, sok2, eset2, pls2, es2, esl2⟩ ⟨rfl, hv⟩
        rw [List.length_map] at hj
        have hjj : kz[j]? = some kz[j] := List.getElem?_eq_getElem hj
        have ev : v = .str kz[j] := by
          rw [List.getElem?_map, hjj] at hv
          exact (Option.some.inj hv).symm
        subst ev
        obtain ⟨ky, eky⟩ : ∃ ky, ky = kz[j] := ⟨_, rfl⟩
        rw [← eky] at hjj ⊢
        have hky : ky ∈ keys := kK ky (List.mem_of_getElem? hjj)
        have klen := name_plain.2.2.1 ky hky
        have ll := dr.ll
        have hlast : fs.headers.getLast? = some h := by rw [eh2]; simp
        have ulen : us.length = fs.settings.length := paired_len dr.pr
        have knew : h ++ "." ++ ky ∉ fs.settings.map (·.1) := fun hm => by
          rcases eset2 _ hm with ⟨h', hh', k', hk', e⟩ | ⟨k', hk', e⟩
          · have := (place_inj h hh h' (hsH h' (List.mem_of_mem_take hh')) ky hky k' hk' e).1
            subst this
            exact nodup_at hsN hii hh'
          · have := (place_inj h hh h hh ky hky k' (kK k' (List.mem_of_mem_take hk')) e).2
            subst this
            exact nodup_at kN hjj hk'
        -- worth, count
        refine ⟨.ref b, rfl, (by show 5 ≤ sizeLine; decide), fun lw nlw => ?_⟩
        refine ⟨b, lw, _, rfl, dr.bag.new nlw, upd_same, dr.bag.ne nlw, by simp, by show 5 ≤ 1000; decide, fun v m5 m6 hv g6 g7 g8 => ?_⟩
        obtain ⟨wo, hwo, rfl⟩ := List.mem_map.mp (show v ∈ worths.map V.str from hv)
        have wlen := (name_plain.2.2.2 wo hwo).1
        have k6 : Kept b H11 (upd (upd H11 lw (.lst [V.str "1", .str "0-", .str "abcdefghijkl", .str "on", .str "9z"])) b (.lst [.int m5, .int m6])) := (Kept.new nlw).trans Kept.at
        have b6 : Bag (upd (upd H11 lw (.lst [V.str "1", .str "0-", .str "abcdefghijkl", .str "on", .str "9z"])) b (.lst [.int m5, .int m6])) b := Bag.at g6 g7 g8
        generalize upd (upd H11 lw (.lst [V.str "1", .str "0-", .str "abcdefghijkl", .str "on", .str "9z"])) b (.lst [.int m5, .int m6]) = H12 at k6 b6
        have d14 := dr.keptD st k6 b6
        refine ⟨.ref pf, rfl, pf, _, rfl, .inl (SqL.of d14.hf), _, _, rfl, ?_⟩
        rw [ulen]
        have sl40 : fs.settings.length < 40 := by omega
        have n1 := num_len (n := ((fs.settings.length : Nat) : Int)) (by omega) (by omega)
        have n2 := num_len (n := 50 + ((fs.settings.length : Nat) : Int)) (by omega) (by omega)
        -- the kept lines
        have z1 : (("#~ " : Str) ++ toString ((fs.settings.length : Nat) : Int)).length ≤ 13 := by
          rw [len_tl, TL.tl_append, List.length_append]
          show 3 + (toString ((fs.settings.length : Nat) : Int) : Str).length ≤ 13
          omega
        have z2 : (("#~ " : Str) ++ toString (50 + ((fs.settings.length : Nat) : Int))).length ≤ 13 := by
          rw [len_tl, TL.tl_append, List.length_append]
          show 3 + (toString (50 + ((fs.settings.length : Nat) : Int)) : Str).length ≤ 13
          omega
        refine ⟨.int ((fs.settings.length : Nat) : Int), rfl, _, rfl, num_log (by omega) (by omega), _, _, rfl, rfl, (by show 3 + (toString ((fs.settings.length : Nat) : Int) : Str).length ≤ sizeLine; omega), _, _, rfl, rfl, (by show (("#~ " : Str) ++ toString ((fs.settings.length : Nat) : Int)).length + 4 ≤ sizeLine; omega), ?_⟩
        refine ⟨.int ((fs.settings.length : Nat) : Int), rfl, 50, _, rfl, rfl, _, rfl, num_log (by omega) (by omega), _, _, rfl, rfl, (by show 3 + (toString (50 + ((fs.settings.length : Nat) : Int)) : Str).length ≤ sizeLine; omega), _, _, rfl, rfl, (by show (("#~ " : Str) ++ toString (50 + ((fs.settings.length : Nat) : Int))).length + 10 ≤ sizeLine; omega), (by show 2 ≤ sizeLine; decide), fun kA nkA => ?_⟩
        have s15 : Same H12 (upd H12 kA (.lst [V.str (kept1 fs.settings.length), .str (kept2 (50 + ((fs.settings.length : Nat) : Int)))])) := same_new nkA
        have hkA : (upd H12 kA (.lst [V.str (kept1 fs.settings.length), .str (kept2 (50 + ((fs.settings.length : Nat) : Int)))])) kA = some (.lst [V.str (kept1 fs.settings.length), .str (kept2 (50 + ((fs.settings.length : Nat) : Int)))]) := upd_same
        have b15 := b6.same s15
        have kAb : kA ≠ b := b6.ne nkA
        have d15 := d14.keptD st (Kept.same s15) b15
        show _
        refine ⟨.ref pl, rfl, .ref b, rfl, b, rfl, b15, fun H16 ls p1 hls lls k16 b16 np1 hp1 => ?_⟩
        have d16 := d15.keptD st k16 b16
        have hkA16 := k16 _ _ kAb hkA
        refine ⟨_, _, _, _, rfl, rfl, d16.hl, hp1, (by simp; omega), fun q1 nq1 => ?_⟩
        have s17 := same_new (o := .lst (lines.map V.str ++ ls.map V.str)) nq1
        have hq1 : (upd H16 q1 (.lst (lines.map V.str ++ ls.map V.str))) q1 = some (.lst (lines.map V.str ++ ls.map V.str)) := upd_same
        have q1b : q1 ≠ b := b16.ne nq1
        have b17 := b16.same s17
        refine ⟨.ref kA, rfl, .ref b, rfl, b, 3, rfl, b17, by decide, by decide, fun dk m7 m8 e5 e6 g9 g10 g11 => ⟨dk, rfl, kA, _, rfl, SqL.of (Kept.at _ _ kAb (s17 _ _ hkA16)), fun sA nsA => ?_⟩⟩
        have k18 : Kept b H16 (upd (upd H16 q1 (.lst (lines.map V.str ++ ls.map V.str))) b (.lst [.int m7, .int m8])) := (Kept.same s17).trans Kept.at
        have b18 : Bag (upd (upd H16 q1 (.lst (lines.map V.str ++ ls.map V.str))) b (.lst [.int m7, .int m8])) b := Bag.at g9 g10 g11
        have hq18 : (upd (upd H16 q1 (.lst (lines.map V.str ++ ls.map V.str))) b (.lst [.int m7, .int m8])) q1 = some (.lst (lines.map V.str ++ ls.map V.str)) := Kept.at _ _ q1b hq1
        generalize upd (upd H16 q1 (.lst (lines.map V.str ++ ls.map V.str))) b (.lst [.int m7, .int m8]) = H18 at k18 b18 hq18 nsA
        obtain ⟨kk, ekk, hkk⟩ := cut_kept fs.settings.length e5 e6
        have kkl := (kk_ok sl40 hkk).2
        show _
        rw [show (cutV [V.str (kept1 fs.settings.length), .str (kept2 (50 + ((fs.settings.length : Nat) : Int)))] (some dk) none) = kk.map V.str from ekk]
        have s19 := same_new (o := .lst (kk.map V.str)) nsA
        refine ⟨_, _, _, _, rfl, rfl, s19 _ _ hq18, upd_same, (by simp; omega), fun q2 nq2 => ?_⟩
        have s20 := same_new (o := .lst (lines.map V.str ++ ls.map V.str ++ kk.map V.str)) nq2
        refine ⟨.str ky, rfl, _, _, rfl, rfl, (by show ky.length + 3 ≤ sizeLine; omega), .str wo, rfl, _, _, rfl, rfl, (by
          show ((ky : Str) ++ " = ").length + wo.length ≤ sizeLine
          rw [len_tl, TL.tl_append, List.length_append]
          show ky.length + 3 + wo.length ≤ sizeLine
          omega), (by show 1 ≤ sizeLine; decide), fun q3 nq3 => ?_⟩
        have s21 := same_new (o := .lst [.str (ky ++ " = " ++ wo)]) nq3
        refine ⟨_, _, _, _, rfl, rfl, s21 _ _ upd_same, upd_same, (by simp; omega), fun q4 nq4 => ?_⟩
        have sG := (s19.trans s20).trans s21
        have kG : Kept b H11 (upd (upd (upd H18 sA (.lst (kk.map V.str))) q2 (.lst (lines.map V.str ++ ls.map V.str ++ kk.map V.str))) q3 (.lst [.str (ky ++ " = " ++ wo)])) := ((k6.trans (Kept.same s15)).trans (k16.trans k18)).trans (Kept.same sG)
        have bG := b18.same sG
        generalize upd (upd (upd H18 sA (.lst (kk.map V.str))) q2 (.lst (lines.map V.str ++ ls.map V.str ++ kk.map V.str))) q3 (.lst [.str (ky ++ " = " ++ wo)]) = G at kG bG nq4
        have dG := dr.keptD st kG bG
        have s22 := same_new (o := .lst (lines.map V.str ++ ls.map V.str ++ kk.map V.str ++ [.str (ky ++ " = " ++ wo)])) nq4
        refine ⟨.ref pf, rfl, .inl ⟨rfl, _, SqL.of (s22 _ _ dG.hf)⟩, .str h, rfl, _, _, rfl, rfl, (by show h.length + 1 ≤ sizeLine; omega), .str ky, rfl, _, _, rfl, rfl, (by
          show ((h : Str) ++ ".").length + ky.length ≤ sizeLine
          rw [len_tl, TL.tl_append, List.length_append]
          show h.length + 1 + ky.length ≤ sizeLine
          omega), .str wo, rfl, (by show 2 ≤ sizeLine; decide), fun a na => ⟨pf, _, _, rfl, rfl, same_new na _ _ (s22 _ _ dG.hf), by rw [ulen]; exact small1000 (by omega), ?_⟩⟩
        obtain ⟨fs', f1, f2, d20⟩ := dr.set st hls lls hkk sl40 hky hwo hlast knew kG bG (L := lines.map V.str ++ ls.map V.str ++ kk.map V.str ++ [.str (ky ++ " = " ++ wo)]) (by simp) nq4 na
        have keepX : ∀ {x : Addr} {o : HO}, x ≠ b → x ≠ pf → H11 x = some o → (upd (upd (upd G q4 (.lst (lines.map V.str ++ ls.map V.str ++ kk.map V.str ++ [.str (ky ++ " = " ++ wo)]))) a (.tup [.str (h ++ "." ++ ky), .str wo])) pf (.lst (us ++ [.ref a]))) x = some o := fun hx hf e => by
          rw [upd_ne hf]
          exact same_new na _ _ (s22 _ _ (kG _ _ hx e))
        refine ⟨k2 + 6, q4, _, fs', _, _, _, _, _, rfl, d20, by omega, by rw [f1, eh2], by rw [f2, List.length_append, List.length_singleton]; omega, ?_, ?_, (ne_of_none (kG _ _ s1b es2) nq4).symm, keepX s1b s1f es2, keepX slb slf esl2⟩
        · intro e he
          rw [f2] at he
          rcases List.mem_append.mp he with x | x
          · exact sok2 e x
          · rw [List.mem_singleton.mp x]
            exact ⟨⟨h, hh, ky, hky, rfl⟩, hwo⟩
        · intro p hp
          rw [f2, List.map_append] at hp
          rcases List.mem_append.mp hp with x | x
          · rcases eset2 p x with y | ⟨k', hk', e⟩
            · exact .inl y
            · refine .inr ⟨k', ?_, e⟩
              rw [List.take_add_one]
              exact List.mem_append_left _ hk'
          · rw [List.mem_singleton.mp x]
            refine .inr ⟨ky, ?_, rfl⟩
            rw [List.take_add_one, hjj]
            exact List.mem_append_right _ (by simp)
      · rintro σ H11 ⟨k2, pl, lines, fs, us, y5, y6, y7, y8, rfl, dr, kb2, eh2, slen2, sok2, eset2, pls2, es2, esl2⟩
        rw [List.length_map] at kb2 slen2
        have ll := dr.ll
        refine ⟨.ref pl, rfl, .ref b, rfl, b, rfl, dr.bag, fun H12 ls p hls lls k12 b12 np hp => ?_⟩
        refine ⟨_, _, _, _, rfl, rfl, (dr.keptD st k12 b12).hl, hp, (by simp; omega), fun q1 nq1 => ?_⟩
        have d21 := dr.more st hls lls k12 b12 nq1
        refine ⟨k2 + 3, q1, _, _, us, _, _, _, _, _, rfl, d21, by omega, ?_, by show fs.settings.length ≤ _; omega, sok2, ?_, (ne_of_none (k12 _ _ s1b es2) nq1).symm, same_new nq1 _ _ (k12 _ _ s1b es2)⟩
        · show fs.headers = _
          rw [eh2, List.take_add_one, hii]
          rfl
        · intro p hp
          rcases eset2 p hp with ⟨h', hh', k', hk', e⟩ | ⟨k', hk', e⟩
          · exact ⟨h', by rw [List.take_add_one]; exact List.mem_append_left _ hh', k', hk', e⟩
          · exact ⟨h, by rw [List.take_add_one, hii]; exact List.mem_append_right _ (by simp), k', kK k' (List.mem_of_mem_take hk'), e⟩
    · rintro σ H5 ⟨k, pl, lines, fs, us, y4, y5, y6, y7, y8, rfl, dr, kb, eh, slen, sok, eset, pls1, es⟩
      rw [List.length_map] at kb slen
      have ll := dr.ll
      refine ⟨.ref pl, rfl, .ref ph, rfl, .ref pf, rfl, (by show 3 ≤ sizeLine; decide), fun pp npp => ?_⟩
      have s8 := same_new (o := .tup [.ref pl, .ref ph, .ref pf]) npp
      refine q _ lines fs pp pl ph pf us dr.run dr.ok (by omega) sok (by omega) ?_ (dr.kp.trans (Kept.same s8)) (dr.bag.same s8) upd_same (s8 _ _ dr.hl) (s8 _ _ dr.hh) (s8 _ _ dr.hf) (PairsAt.same s8 dr.pr)
      intro h hh
      rw [eh] at hh
      exact hsH h (List.mem_of_mem_take hh)
end
end K02

set_option Elab.async false
set_option linter.all false
set_option maxRecDepth 100000
set_option maxHeartbeats 2000000
namespace K02
open PySem PySem.Spec PyProof.Rows L2 My
theorem step_nd {fs fs' : FS} {z : Str} (n : (fs.settings.map (·.1)).Nodup) (h : stepF fs z = some fs') : (fs'.settings.map (·.1)).Nodup := by
  unfold stepF at h
  split at h
  · cases h
    exact n
  split at h
  · split at h
    · cases h
    · split at h
      · cases h
      · cases h
        exact n
  split at h
  · split at h
    · cases h
    · cases h
      exact n
  split at h
  · cases h
  split at h
  · cases h
  split at h
  · cases h
  · rename_i hm
    cases h
    rw [List.map_append]
    exact List.nodup_append.mpr ⟨n, by simp, fun a ha b hb => by
      have hb := List.mem_singleton.mp hb
      intro e
      rw [e, hb] at ha
      exact hm ha⟩
theorem run_nd : ∀ {lines : List Str} {fs fs' : FS}, (fs.settings.map (·.1)).Nodup → runF fs lines = some fs' → (fs'.settings.map (·.1)).Nodup
  | [], fs, fs', n, h => by
    cases h
    exact n
  | z :: r, fs, fs', n, h => by
    rw [runF_cons] at h
    cases hs : stepF fs z with
    | none => rw [hs] at h; cases h
    | some f =>
      rw [hs] at h
      exact run_nd (step_nd n hs) h
theorem eqv_same {d : PyData} (h : SeqAt.shaped d = true) : PyData.eqv d d = true := SeqAt.eqv_refl d (SeqAt.canLay_of_shaped h)
theorem can_str {n : Nat} {y : Str} (h : Plain n y) : PySem.PyData.strOk y = true := by
  unfold PySem.PyData.strOk
  rw [Array.all_eq_true_iff_forall_mem]
  intro c hc
  exact decide_eq_true (Nat.lt_trans (h.small c (Array.mem_toList_iff.mpr hc)) (by decide))
/-- data: a list of pairs of texts -/
def dataP (l : List (Str × Str)) : PyData := .list (l.map fun p => .tuple [.str p.1, .str p.2])
theorem shaped_pairs {l : List (Str × Str)} (h : ∀ p ∈ l, Plain 100 p.1 ∧ Plain 100 p.2) : SeqAt.shaped (dataP l) = true := by
  have can : PyData.canLayAll0 (l.map fun p => PyData.tuple [.str p.1, .str p.2]) = true := by
    induction l with
    | nil => rfl
    | cons p r ih =>
      show ((PySem.PyData.strOk p.1 && (PySem.PyData.strOk p.2 && true)) && PyData.canLayAll0 (r.map fun p => PyData.tuple [.str p.1, .str p.2])) = true
      rw [can_str (h p (List.mem_cons_self ..)).1, can_str (h p (List.mem_cons_self ..)).2, ih fun q hq => h q (List.mem_cons_of_mem _ hq)]
      rfl
  have dep : PyData.depthAll (l.map fun p => PyData.tuple [.str p.1, .str p.2]) ≤ 1 := by
    clear can h
    induction l with
    | nil => exact Nat.zero_le _
    | cons p r ih =>
      show max (max 0 (max 0 0) + 1) (PyData.depthAll (r.map fun p => PyData.tuple [.str p.1, .str p.2])) ≤ 1
      omega
  unfold SeqAt.shaped dataP
  rw [Bool.and_eq_true]
  refine ⟨can, decide_eq_true ?_⟩
  show PyData.depthAll (l.map fun p => PyData.tuple [.str p.1, .str p.2]) + 1 ≤ 64
  omega
theorem dp_pairs {K : PySem.W.Frag} {H : Hp} : ∀ {vs : List V} {l : List (Str × Str)}, PairsAt H vs l → DpAll K H vs (l.map fun p => PyData.tuple [.str p.1, .str p.2])
  | _, _, .nil => .nil
  | _, _, .cons ⟨a, e, h⟩ t => .cons (by rw [e]; exact .tup (SqT.of h) (.cons (.str _) (.cons (.str _) .nil))) (dp_pairs t)
theorem eqv_nilP (l : List (Str × Str)) : PyData.eqv (dataP l) (.list []) = l.isEmpty := by
  cases l with
  | nil => rfl
  | cons y r => rfl
theorem paired_get {α β : Type} {F : α → β → Prop} : ∀ {l : List α} {m : List β} {i : Nat} {a : α}, Paired F l m → l[i]? = some a → ∃ b, m[i]? = some b ∧ F a b
  | _, _, 0, _, .cons h _, e => ⟨_, rfl, by cases e; exact h⟩
  | _, _, i + 1, _, .cons _ r, e => paired_get (i := i) r e
theorem same_off {H H3 H4 : Hp} {D : Addr} {o : HO} (nD : H D = none) (s3 : Same H H3) (s4 : Same H3 H4) : Same H (upd H4 D o) := fun b u e => by
  rw [upd_ne (ne_of_none e nD)]
  exact s4 _ _ (s3 _ _ e)
theorem grow_map {l : List (Str × Str)} {i : Nat} {p : Str × Str} (f : Str × Str → Str) (h : l[i]? = some p) : ((l.take i).map f).map V.str ++ [V.str (f p)] = ((l.take (i + 1)).map f).map V.str := by
  rw [List.take_add_one, h, List.map_append, List.map_append]
  rfl
section
variable {P : Program} {w : World} {K : PySem.W.Frag} {mg : Str → Option Value} {base : Heap}
def sp_L_shows (K : PySem.W.Frag) (T : Top K mg) : Sp := fun vs H Q _ => ∃ (H0 : Hp) (x : Addr) (t : Str) (rows : List Str) (fs : FS) (A : Parts) (pl ph pf : Addr) (us : List V), vs = [.ref x, .ref pl, .ref ph, .ref pf] ∧ FileP T.C_SettingsFile H0 H x t rows fs A ∧
  H pl = some (.lst (rows.map V.str)) ∧ H ph = some (.lst (fs.headers.map V.str)) ∧ H pf = some (.lst us) ∧ PairsAt H us fs.settings ∧ (fs.settings.map (·.1)).Nodup ∧ SetOk fs ∧ fs.settings.length ≤ 30 ∧ (∀ h ∈ fs.headers, h ∈ heads) ∧ (∀ z ∈ rows, LineOk z) ∧ ∀ H', Same H H' → Q (.bl true) H'
theorem ok_L_shows (T : Top K mg) : FnOk P w K mg base CX0 5 T.f__law_shows T.d__law_shows ["_law_file", "_law_lines", "_law_heads", "_law_found"] (sp_L_shows K T) := by
  have G_SettingsFile_sections : FnOk P w K mg base CX0 1 T.f_SettingsFile_sections T.d_SettingsFile_sections ["self"] (sp_SettingsFile_sections K T) := ok_SettingsFile_sections T
  have G_SettingsFile_lines : FnOk P w K mg base CX0 1 T.f_SettingsFile_lines T.d_SettingsFile_lines ["self"] (sp_SettingsFile_lines K T) := ok_SettingsFile_lines T
  have G_SettingsFile_pairs : GFn P w K mg base 1 T.f_SettingsFile_pairs T.d_SettingsFile_pairs ["self"] (sp_SettingsFile_pairs K T) := ok_SettingsFile_pairs T
  have G_SettingsFile_places : FnOk P w K mg base CX0 1 T.f_SettingsFile_places T.d_SettingsFile_places ["self"] (sp_SettingsFile_places K T) := ok_SettingsFile_places T
  have G_SettingsFile___len__ : FnOk P w K mg base CX0 1 T.f_SettingsFile___len__ T.d_SettingsFile___len__ ["self"] (sp_SettingsFile___len__ K T) := ok_SettingsFile___len__ T
  have G_SettingsFile_value : FnOk P w K mg base CX0 2 T.f_SettingsFile_value T.d_SettingsFile_value ["self", "place"] (sp_SettingsFile_value K T) := ok_SettingsFile_value T
  have G_SettingsFile___contains__ : FnOk P w K mg base CX0 1 T.f_SettingsFile___contains__ T.d_SettingsFile___contains__ ["self", "x"] (sp_SettingsFile___contains__ K T) := ok_SettingsFile___contains__ T
  refine T.F__law_shows.ok scL_shows (fun vs H Q E h => ?_) (fun cdv A outer s H vs Q E hr h => ?_)
  · obtain ⟨H0, x, t, rows, fs, A, pl, ph, pf, us, rfl, _⟩ := h
    rfl
  · obtain ⟨H0, x, t, rows, fs, A', pl, ph, pf, us, rfl, f, hpl, hph, hpf, pr, nd, sok, slen, hok, rok, q⟩ := h
    refine ⟨_, (pss_cons (ps_if (PW.pt (pw_or (pt_cmpR (op_neD hr.units) (pe_prop (pv 0) T.cl_SettingsFile T.pr_SettingsFile_lines G_SettingsFile_lines (hr.mono (by decide)) T.b_SettingsFile_lines .nil pass0 rfl) (pv 1) (nomark _)) (pw_or1 (pt_cmpR (op_neD hr.units) (pe_meth0 (pv 0) T.cl_SettingsFile T.me_SettingsFile_sections G_SettingsFile_sections (hr.mono (by decide)) T.b_SettingsFile_sections .nil pass0) (pv 2) (nomark _))))) (pss_one (ps_ret pe_bl)) pss_nil)
      (pss_cons (ps_if (PW.pt (pw_or (pt_cmpR (op_neD hr.units) (pe_meth0 (pv 0) T.cl_SettingsFile T.me_SettingsFile_places G_SettingsFile_places (hr.mono (by decide)) T.b_SettingsFile_places .nil pass0) (pe_lc (own := [("_law_one", 5), ("_law_worth", 6)]) (g := gTup K 2 (gCons (gName 5) (gCons (gName 6) gNil))) rfl scL_shows.nd (pi_list (pv 3)) (blkOk_by (N := N_L_shows) (sc := defScope s_L_shows) (by decide +kernel)) (fun _ _ _ _ _ => (pg_tup rfl (pgs_cons (pg_name (i := 5) scL_shows.nd rfl (.inl rfl)) (pgs_cons (pg_name (i := 6) scL_shows.nd rfl (.inl rfl)) pgs_nil)))) (fun _ _ _ _ _ => pts_nil) (fun _ _ _ _ _ => (pv 5))) (nomark _)) (pw_or1 (pt_cmpR (op_neD hr.units) (pe_listG (pgen_meth0 (pv 0) T.cl_SettingsFile T.me_SettingsFile_pairs G_SettingsFile_pairs (hr.mono (by decide)) T.b_SettingsFile_pairs .nil) passE0 noStop0 (hr.mono (by decide)) (by rfl) T.m_list (by decide +kernel)) (pv 3) (nomark _))))) (pss_one (ps_ret pe_bl)) pss_nil)
      (pss_cons (ps_if (PW.pt (pw_or (pt_cmpR op_ne (pe_callB (call_lenOwn T.me_SettingsFile___len__ G_SettingsFile___len__ (hr.mono (by decide)) T.b_SettingsFile___len__) (by rfl) T.m_len (by decide +kernel) (pa_cons (pv 0) pa_nil)) (pe_callB call_len_seq (by rfl) T.m_len (by decide +kernel) (pa_cons (pv 3) pa_nil)) (nomark _)) (pw_or1 (pt_cmpR op_ne (pe_callTy (call_boolOwn T.nb_SettingsFile T.me_SettingsFile___len__ G_SettingsFile___len__ (hr.mono (by decide)) T.b_SettingsFile___len__) (by rfl) T.m_bool (by decide +kernel) (pa_cons (pv 0) pa_nil)) (pe_cmpR (op_neD hr.units) (pv 3) (pe_lst pa_nil) (nomark _)) (nomark _))))) (pss_one (ps_ret pe_bl)) pss_nil)
      (pss_cons (ps_if (pt_cmpR (op_neD hr.units) (pe_lc (own := [("_law_one", 5), ("_law_worth", 6)]) (g := gTup K 2 (gCons (gName 5) (gCons (gName 6) gNil))) rfl scL_shows.nd (pi_list (pv 3)) (blkOk_by (N := N_L_shows) (sc := defScope s_L_shows) (by decide +kernel)) (fun _ _ _ _ _ => (pg_tup rfl (pgs_cons (pg_name (i := 5) scL_shows.nd rfl (.inl rfl)) (pgs_cons (pg_name (i := 6) scL_shows.nd rfl (.inl rfl)) pgs_nil)))) (fun _ _ _ _ _ => pts_nil) (fun _ _ _ _ _ => (pe_meth (pv 0) T.cl_SettingsFile T.me_SettingsFile_value G_SettingsFile_value (hr.mono (by decide)) T.b_SettingsFile_value .nil pass0 (pa_cons (pv 5) pa_nil)))) (pe_lc (own := [("_law_one", 5), ("_law_worth", 6)]) (g := gTup K 2 (gCons (gName 5) (gCons (gName 6) gNil))) rfl scL_shows.nd (pi_list (pv 3)) (blkOk_by (N := N_L_shows) (sc := defScope s_L_shows) (by decide +kernel)) (fun _ _ _ _ _ => (pg_tup rfl (pgs_cons (pg_name (i := 5) scL_shows.nd rfl (.inl rfl)) (pgs_cons (pg_name (i := 6) scL_shows.nd rfl (.inl rfl)) pgs_nil)))) (fun _ _ _ _ _ => pts_nil) (fun _ _ _ _ _ => (pv 6))) (nomark _)) (pss_one (ps_ret pe_bl)) pss_nil)
      (pss_cons (ps_if (pt_cmpR (op_neD hr.units) (pe_lc (own := [("_law_one", 5), ("_law_worth", 6)]) (g := gTup K 2 (gCons (gName 5) (gCons (gName 6) gNil))) rfl scL_shows.nd (pi_list (pv 3)) (blkOk_by (N := N_L_shows) (sc := defScope s_L_shows) (by decide +kernel)) (fun _ _ _ _ _ => (pg_tup rfl (pgs_cons (pg_name (i := 5) scL_shows.nd rfl (.inl rfl)) (pgs_cons (pg_name (i := 6) scL_shows.nd rfl (.inl rfl)) pgs_nil)))) (fun _ _ _ _ _ => pts_one (pt_cmpR (op_notInOwn T.me_SettingsFile___contains__ G_SettingsFile___contains__ (hr.mono (by decide)) T.b_SettingsFile___contains__) (pv 5) (pv 0) (by rfl))) (fun _ _ _ _ _ => (pv 5))) (pe_lst pa_nil) (nomark _)) (pss_one (ps_ret pe_bl)) pss_nil)
      (pss_cons (ps_set (i := 4) scL_shows.nd rfl (.inl rfl) (pe_lst (pa_cons pe_str (pa_cons pe_str (pa_cons pe_str (pa_cons pe_str (pa_cons pe_non (pa_cons pe_int (pa_cons pe_bl (pa_cons (pe_tup (pa_cons pe_str pa_nil)) (pa_cons (pe_lst (pa_cons pe_str pa_nil)) (pa_cons pe_str (pa_cons pe_str pa_nil)))))))))))))
      (pss_one (ps_ret (pe_cmpR (op_eqNil hr.units0) (pe_lc (own := [("_law_one", 5)]) rfl scL_shows.nd (pi_list (pv 4)) (blkOk_by (N := N_L_shows) (sc := defScope s_L_shows) (by decide +kernel)) (fun _ _ _ _ _ => (pg_name (i := 5) scL_shows.nd rfl (.inl rfl))) (fun _ _ _ _ _ => pts_one (pt_cmpR (op_inOwn T.me_SettingsFile___contains__ G_SettingsFile___contains__ (hr.mono (by decide)) T.b_SettingsFile___contains__) (pv 5) (pv 0) (by rfl))) (fun _ _ _ _ _ => (pv 5))) (pe_lst pa_nil) (nomark _)))))))))), ?_⟩
    have ulen : us.length = fs.settings.length := paired_len pr
    have noM : ∀ {m : Str}, ¬ m = "loose" → ¬ m = "blocks" → ¬ m = "kept_read" → ¬ m = "settings_read" → ¬ m = "headers" → ¬ m = "rows" → ¬ m = "text" → (flds t A'.r A'.h A'.s A'.k A'.b A'.l).lookup m = none := fun h1 h2 h3 h4 h5 h6 h7 => f_no _ _ _ _ _ _ _ h1 h2 h3 h4 h5 h6 h7
    have pp : ∀ p ∈ fs.settings, Plain 100 p.1 ∧ Plain 100 p.2 ∧ p.1.length ≤ 50 := fun p hp => by
      obtain ⟨⟨h, hh, k, hk, e⟩, hw⟩ := sok p hp
      have n1 := name_plain.2.1 h hh k hk
      have n2 := name_plain.2.2.2 p.2 hw
      rw [e]
      exact ⟨⟨by omega, n1.2⟩, ⟨by omega, n2.2⟩, n1.1⟩
    have shR : SeqAt.shaped (.list (rows.map .str)) = true := shaped_strs fun z hz => (rok z hz).p
    have shH : SeqAt.shaped (.list (fs.headers.map .str)) = true := shaped_strs (n := 20) fun z hz => ⟨(name_plain.1 z (hok z hz)).1, (name_plain.1 z (hok z hz)).2⟩
    have shP : SeqAt.shaped (.list ((fs.settings.map (·.1)).map .str)) = true := shaped_strs (n := 100) fun z hz => by
      obtain ⟨p, hp, rfl⟩ := List.mem_map.mp hz
      exact (pp p hp).1
    have shV : SeqAt.shaped (.list ((fs.settings.map (·.2)).map .str)) = true := shaped_strs (n := 100) fun z hz => by
      obtain ⟨p, hp, rfl⟩ := List.mem_map.mp hz
      exact (pp p hp).2.1
    have shD : SeqAt.shaped (dataP fs.settings) = true := shaped_pairs fun p hp => ⟨(pp p hp).1, (pp p hp).2.1⟩
    -- lines, sections
    refine ⟨.ref x, rfl, x, _, _, rfl, f.ob, H0, x, t, rows, fs, A', rfl, f, fun H1 p1 s1 np1 hp1 => ?_⟩
    refine ⟨.ref pl, rfl, .list (rows.map .str), .list (rows.map .str), .lst (SqL.of hp1) (dp_strs _), .lst (SqL.of (s1 _ _ hpl)) (dp_strs _), shR, shR, _, rfl, ?_⟩
    rw [eqv_same shR]
    refine iteF ?_
    have f1 := f.more s1
    refine ⟨.ref x, rfl, x, _, _, rfl, f1.ob, noM (by decide +kernel) (by decide +kernel) (by decide +kernel) (by decide +kernel) (by decide +kernel) (by decide +kernel) (by decide +kernel), H0, x, t, rows, fs, A', rfl, f1, fun H2 p2 s2 np2 hp2 => ?_⟩
    have s02 := s1.trans s2
    refine ⟨.ref ph, rfl, .list (fs.headers.map .str), .list (fs.headers.map .str), .lst (SqL.of hp2) (dp_strs _), .lst (SqL.of (s02 _ _ hph)) (dp_strs _), shH, shH, _, rfl, ?_⟩
    rw [eqv_same shH]
    refine iteF ?_
    -- places
    have f2 := f.more s02
    refine ⟨.ref x, rfl, x, _, _, rfl, f2.ob, noM (by decide +kernel) (by decide +kernel) (by decide +kernel) (by decide +kernel) (by decide +kernel) (by decide +kernel) (by decide +kernel), H0, x, t, rows, fs, A', rfl, f2, fun H3 p3 s3 np3 hp3 => ?_⟩
    have s03 := s02.trans s3
    have pr3 := PairsAt.same s03 pr
    have hpf3 := s03 _ _ hpf
    refine ⟨.ref pf, rfl, pf, rfl, ⟨_, SqL.of hpf3⟩, fun D nD => lc_it (walk_list (xs := us)) (fun i H4 => Same H3 H4 ∧ H4 D = some (.lst (((fs.settings.take i).map (·.1)).map V.str))) ?_ (fun _ _ _ h => SqL.of (h.1 _ _ hpf3)) ?_ ?_⟩
    · exact ⟨same_new nD, upd_same⟩
    · rintro i v H4 H4' hi ⟨s4, hD⟩ ⟨rfl, hv⟩
      obtain ⟨p, hp, a, rfl, ha⟩ := paired_get pr3 hv
      refine ⟨a, _, rfl, SqT.of (s4 _ _ ha), rfl, _, _, rfl, _, _, rfl, rfl, rfl, ?_⟩
      simp only [tYes, if_true]
      refine ⟨.str p.1, rfl, _, hD, ?_, same_off nD s4 (Same.refl _), ?_⟩
      · rw [List.length_map, List.length_map, List.length_take]
        exact small1000 (by omega)
      · rw [upd_same, grow_map (fun q => q.1) hp]
    rintro H4 ⟨s4, hD⟩
    rw [ulen, List.take_length] at hD
    refine ⟨_, _, .lst (SqL.of (s4 _ _ hp3)) (dp_strs _), .lst (SqL.of hD) (dp_strs _), shP, shP, _, rfl, ?_⟩
    rw [eqv_same shP]
    refine iteF ?_
    have s04 := s03.trans s4
    have f4 := f.more s04
    -- pairs
    refine ⟨.ref x, rfl, x, _, _, rfl, f4.ob, noM (by decide +kernel) (by decide +kernel) (by decide +kernel) (by decide +kernel) (by decide +kernel) (by decide +kernel) (by decide +kernel), H0, x, t, rows, fs, A', rfl, f4, nd, by omega, fun H5 out s5 prs p5 np5 => ?_⟩
    have s5' : Same H4 (upd H5 p5 (.lst out)) := s5.trans (same_new np5)
    have s05 := s04.trans s5'
    refine ⟨.ref pf, rfl, dataP fs.settings, dataP fs.settings, .lst (SqL.of upd_same) (dp_pairs (PairsAt.same (same_new np5) prs)), .lst (SqL.of (s05 _ _ hpf)) (dp_pairs (PairsAt.same s05 pr)), shD, shD, _, rfl, ?_⟩
    rw [eqv_same shD]
    refine iteF ?_
    generalize upd H5 p5 (.lst out) = H6 at s05
    have f6 := f.more s05
    have hpf6 := s05 _ _ hpf
    -- len, bool
    refine ⟨.ref x, rfl, x, _, _, rfl, f6.ob, H0, x, t, rows, fs, A', rfl, f6, _, rfl, by omega, by omega, ?_⟩
    refine ⟨.ref pf, rfl, pf, _, rfl, .inl (SqL.of hpf6), rfl, _, rfl, ?_⟩
    rw [ulen]
    refine (if_neg (by simp)).mpr ?_
    refine ⟨.ref x, rfl, .ref x, rfl, x, _, _, rfl, f6.ob, H0, x, t, rows, fs, A', rfl, f6, _, rfl, by omega, by omega, ?_⟩
    refine ⟨.ref pf, rfl, Nat.zero_le _, fun e7 ne7 => ?_⟩
    have s7 := same_new (o := .lst []) ne7
    have s07 := s05.trans s7
    refine ⟨dataP fs.settings, .list [], .lst (SqL.of (s07 _ _ hpf)) (dp_pairs (PairsAt.same s07 pr)), .lst (SqL.of upd_same) .nil, shD, by decide, rfl, _, rfl, ?_⟩
    rw [eqv_nilP]
    refine (if_neg (by
      cases fs.settings with
      | nil => decide
      | cons p r => simp; omega)).mpr ?_
    generalize upd H6 e7 (.lst []) = H7 at s07
    have pr7 := PairsAt.same s07 pr
    have hpf7 := s07 _ _ hpf
    -- values
    refine ⟨.ref pf, rfl, pf, rfl, ⟨_, SqL.of hpf7⟩, fun D2 nD2 => lc_it (walk_list (xs := us)) (fun i H8 => Same H7 H8 ∧ H8 D2 = some (.lst (((fs.settings.take i).map (·.2)).map V.str))) ?_ (fun _ _ _ h => SqL.of (h.1 _ _ hpf7)) ?_ ?_⟩
    · exact ⟨same_new nD2, upd_same⟩
    · rintro i v H8 H8' hi ⟨s8, hD2⟩ ⟨rfl, hv⟩
      obtain ⟨p, hp, a, rfl, ha⟩ := paired_get pr7 hv
      refine ⟨a, _, rfl, SqT.of (s8 _ _ ha), rfl, _, _, rfl, _, _, rfl, rfl, rfl, ?_⟩
      simp only [tYes, if_true]
      have f8 := f.more (s07.trans s8)
      refine ⟨.ref x, rfl, x, _, _, rfl, f8.ob, noM (by decide +kernel) (by decide +kernel) (by decide +kernel) (by decide +kernel) (by decide +kernel) (by decide +kernel) (by decide +kernel), .str p.1, rfl, H0, x, t, rows, fs, A', p.1, p.2, rfl, f8, (by have := (pp p (List.mem_of_getElem? hp)).2.2; omega), valS_at nd hp, ?_⟩
      refine ⟨_, hD2, ?_, same_off nD2 s8 (Same.refl _), ?_⟩
      · rw [List.length_map, List.length_map, List.length_take]
        exact small1000 (by omega)
      · rw [upd_same, grow_map (fun q => q.2) hp]
    rintro H8 ⟨s8, hD2⟩
    rw [ulen, List.take_length] at hD2
    have s08 := s07.trans s8
    have pr8 := PairsAt.same s08 pr
    have hpf8 := s08 _ _ hpf
    refine ⟨.ref pf, rfl, pf, rfl, ⟨_, SqL.of hpf8⟩, fun D3 nD3 => lc_it (walk_list (xs := us)) (fun i H9 => Same H8 H9 ∧ H9 D3 = some (.lst (((fs.settings.take i).map (·.2)).map V.str))) ?_ (fun _ _ _ h => SqL.of (h.1 _ _ hpf8)) ?_ ?_⟩
    · exact ⟨same_new nD3, upd_same⟩
    · rintro i v H9 H9' hi ⟨s9, hD3⟩ ⟨rfl, hv⟩
      obtain ⟨p, hp, a, rfl, ha⟩ := paired_get pr8 hv
      refine ⟨a, _, rfl, SqT.of (s9 _ _ ha), rfl, _, _, rfl, _, _, rfl, rfl, rfl, ?_⟩
      simp only [tYes, if_true]
      refine ⟨.str p.2, rfl, _, hD3, ?_, same_off nD3 s9 (Same.refl _), ?_⟩
      · rw [List.length_map, List.length_map, List.length_take]
        exact small1000 (by omega)
      · rw [upd_same, grow_map (fun q => q.2) hp]
    rintro H9 ⟨s9, hD3⟩
    rw [ulen, List.take_length] at hD3
    refine ⟨_, _, .lst (SqL.of (s9 _ _ hD2)) (dp_strs _), .lst (SqL.of hD3) (dp_strs _), shV, shV, _, rfl, ?_⟩
    rw [eqv_same shV]
    refine iteF ?_
    have s09 := s08.trans s9
    have pr9 := PairsAt.same s09 pr
    have hpf9 := s09 _ _ hpf
    -- those that are not in the file: none
    refine ⟨.ref pf, rfl, pf, rfl, ⟨_, SqL.of hpf9⟩, fun D4 nD4 => lc_it (walk_list (xs := us)) (fun i H10 => Same H9 H10 ∧ H10 D4 = some (.lst [])) ?_ (fun _ _ _ h => SqL.of (h.1 _ _ hpf9)) ?_ ?_⟩
    · exact ⟨same_new nD4, upd_same⟩
    · rintro i v H10 H10' hi ⟨s10, hD4⟩ ⟨rfl, hv⟩
      obtain ⟨p, hp, a, rfl, ha⟩ := paired_get pr9 hv
      refine ⟨a, _, rfl, SqT.of (s10 _ _ ha), rfl, _, _, rfl, _, _, rfl, rfl, rfl, ?_⟩
      have f10 := f.more (s09.trans s10)
      have hin : inS fs.settings (.str p.1) = true := decide_eq_true (List.mem_map_of_mem (List.mem_of_getElem? hp))
      refine ⟨.str p.1, rfl, .ref x, rfl, x, _, _, rfl, f10.ob, ⟨H0, x, t, rows, fs, A', .str p.1, rfl, f10, .inl ⟨p.1, rfl, (by have := (pp p (List.mem_of_getElem? hp)).2.2; omega)⟩, _, rfl, _, rfl, ?_⟩⟩
      rw [hin]
      exact iteF ⟨s10, hD4⟩
    rintro H10 ⟨s10, hD4⟩
    refine ⟨Nat.zero_le _, fun e11 ne11 => ?_⟩
    have s11 := same_new (o := .lst []) ne11
    refine ⟨.list [], .list [], .lst (SqL.of (s11 _ _ hD4)) .nil, .lst (SqL.of upd_same) .nil, by decide, by decide, _, rfl, ?_⟩
    refine iteF ?_
    have s011 := (s09.trans s10).trans s11
    generalize upd H10 e11 (.lst []) = H11 at s011
    -- other objects
    refine ⟨(by show 1 ≤ sizeLine; decide), fun tA ntA => ⟨(by show 1 ≤ sizeLine; decide), fun lA nlA => ⟨(by show 11 ≤ sizeLine; decide), fun oA noA => ?_⟩⟩⟩
    have t1 := same_new (o := .tup [.str "net.x"]) ntA
    have t2 := same_new (o := .lst [.str "net.x"]) nlA
    obtain ⟨os, eos⟩ : ∃ os : List V, os = [.str "a.none", .str "net", .str "x", .str "", .non, .int 3, .bl true, .ref tA, .ref lA, .str "net.x ", .str "[net]"] := ⟨_, rfl⟩
    have t3 := same_new (o := .lst os) noA
    have hoA : (upd (upd (upd H11 tA (.tup [.str "net.x"])) lA (.lst [.str "net.x"])) oA (.lst os)) oA = some (.lst os) := upd_same
    have s12 := s011.trans ((t1.trans t2).trans t3)
    have aT := (t2.trans t3) _ _ (show (upd H11 tA (.tup [.str "net.x"])) tA = some (.tup [.str "net.x"]) from upd_same)
    have aL := t3 _ _ (show (upd (upd H11 tA (.tup [.str "net.x"])) lA (.lst [.str "net.x"])) lA = some (.lst [.str "net.x"]) from upd_same)
    have asks : ∀ v ∈ os, Ask' K (upd (upd (upd H11 tA (.tup [.str "net.x"])) lA (.lst [.str "net.x"])) oA (.lst os)) v ∧ inS fs.settings v = false := by
      have no : ∀ o ∈ others, inS fs.settings (.str o) = false := fun o ho => decide_eq_false fun hm => by
        obtain ⟨p, hp, e⟩ := List.mem_map.mp hm
        obtain ⟨⟨h, hh, k, hk, e2⟩, _⟩ := sok p hp
        exact place_other h hh k hk o ho (by rw [← e2, e])
      have txt : ∀ o ∈ others, Ask' K (upd (upd (upd H11 tA (.tup [.str "net.x"])) lA (.lst [.str "net.x"])) oA (.lst os)) (.str o) ∧ inS fs.settings (.str o) = false := fun o ho => ⟨.inl ⟨o, rfl, by
        have all : ∀ o ∈ others, o.length ≤ 1000 := by decide
        exact all o ho⟩, no o ho⟩
      intro v hv
      rw [eos] at hv
      simp only [List.mem_cons, List.not_mem_nil, or_false] at hv
      rcases hv with rfl | rfl | rfl | rfl | rfl | rfl | rfl | rfl | rfl | rfl | rfl
      · exact txt _ (by simp)
      · exact txt _ (by simp)
      · exact txt _ (by simp)
      · exact txt _ (by simp)
      · exact ⟨.inr ⟨_, .non⟩, rfl⟩
      · exact ⟨.inr ⟨_, .int 3⟩, rfl⟩
      · exact ⟨.inr ⟨_, .bl true⟩, rfl⟩
      · exact ⟨.inr ⟨_, .tup aT⟩, rfl⟩
      · exact ⟨.inr ⟨_, .lst aL⟩, rfl⟩
      · exact txt _ (by simp)
      · exact txt _ (by simp)
    rw [← eos]
    generalize upd (upd (upd H11 tA (.tup [.str "net.x"])) lA (.lst [.str "net.x"])) oA (.lst os) = H12 at hoA s12 asks
    refine ⟨.ref oA, rfl, oA, rfl, ⟨_, SqL.of hoA⟩, fun D5 nD5 => lc_it (walk_list (xs := os)) (fun i H13 => Same H12 H13 ∧ H13 D5 = some (.lst [])) ?_ (fun _ _ _ h => SqL.of (h.1 _ _ hoA)) ?_ ?_⟩
    · exact ⟨same_new nD5, upd_same⟩
    · rintro i v H13 H13' hi ⟨s13, hD5⟩ ⟨rfl, hv⟩
      obtain ⟨a1, a2⟩ := asks v (List.mem_of_getElem? hv)
      refine ⟨rfl, ?_⟩
      have f13 := f.more (s12.trans s13)
      refine ⟨v, rfl, .ref x, rfl, x, _, _, rfl, f13.ob, ⟨H0, x, t, rows, fs, A', v, rfl, f13, (a1.same s13).ask, _, rfl, _, rfl, ?_⟩⟩
      rw [a2]
      exact iteF ⟨s13, hD5⟩
    rintro H13 ⟨s13, hD5⟩
    refine ⟨Nat.zero_le _, fun e14 ne14 => ?_⟩
    have s14 := same_new (o := .lst []) ne14
    exact ⟨D5, e14, [], rfl, rfl, SqL.of (s14 _ _ hD5), SqL.of upd_same, q _ ((s12.trans s13).trans s14)⟩
end
end K02

set_option Elab.async false
set_option linter.all false
set_option maxRecDepth 100000
set_option maxHeartbeats 2000000
namespace K02
open PySem PySem.Spec PyProof.Rows L2 My
abbrev lf : Str := "\n"
theorem tl_lf : TL.tl lf = 10 :: [] := by decide
/-- lines that are joined and cut again -/
theorem rows_join {lines : List Str} (h : ∀ z ∈ lines, 10 ∉ TL.tl z) : rowsOf (Txt.join lf lines) = if lines = [("" : Str)] then [] else lines := by
  unfold rowsOf
  cases lines with
  | nil => rfl
  | cons a r =>
    have sp := TL.split_join (y := lf) tl_lf (by decide +kernel) (parts := a :: r) (by simp) h
    by_cases e : (a :: r) = [("" : Str)]
    · rw [if_pos e, e]
      rfl
    · rw [if_neg e]
      have ne : ¬ Txt.join lf (a :: r) = "" := fun z => by
        have z2 : TL.tl (Txt.join lf (a :: r)) = [] := by rw [z]; rfl
        rw [TL.join_eq, TL.tl_join, tl_lf] at z2
        cases r with
        | nil =>
          have z3 : TL.tl a = [] := z2
          apply e
          have : a = "" := by
            obtain ⟨cps⟩ := a
            have : cps = #[] := Array.toList_eq_nil_iff.mp z3
            rw [this]
            rfl
          rw [this]
        | cons b r2 =>
          have z3 : TL.tl a ++ ([10] ++ TL.joinL [10] ((b :: r2).map TL.tl)) = [] := z2
          simp at z3
      rw [if_neg ne]
      exact sp
theorem joined_len : ∀ {lines : List Str}, (∀ z ∈ lines, z.length ≤ 100) → (lines.map (·.length)).sum ≤ 100 * lines.length
  | [], _ => Nat.le_refl _
  | a :: r, h => by
    have h1 := h a (by simp)
    have h2 := joined_len (lines := r) fun z hz => h z (List.mem_cons_of_mem _ hz)
    rw [List.map_cons, List.sum_cons, List.length_cons]
    omega
theorem joinL_len {S : List Nat} : ∀ {l : List (List Nat)}, (TL.joinL S l).length ≤ (l.map (·.length)).sum + l.length * S.length
  | [] => Nat.zero_le _
  | [a] => by
    show a.length ≤ _
    simp
  | a :: b :: r => by
    have ih := joinL_len (S := S) (l := b :: r)
    show (a ++ (S ++ TL.joinL S (b :: r))).length ≤ _
    rw [List.length_append, List.length_append, List.map_cons, List.sum_cons, List.length_cons, Nat.add_mul, Nat.one_mul]
    omega
theorem join_short {lines : List Str} (h : ∀ z ∈ lines, z.length ≤ 100) (hl : lines.length ≤ 1000) : (Txt.join lf lines).length ≤ 1000000 := by
  have h1 := joined_len h
  rw [len_tl, TL.join_eq, TL.tl_join, tl_lf]
  have h2 := joinL_len (S := [10]) (l := lines.map TL.tl)
  rw [List.map_map, List.length_map] at h2
  have e : (lines.map ((fun x => x.length) ∘ TL.tl)).sum = (lines.map (·.length)).sum := rfl
  rw [e] at h2
  rw [show ([10] : List Nat).length = 1 from rfl, Nat.mul_one] at h2
  omega
theorem ite_tail {c A B : Prop} [Decidable c] {C : Addr → Hp → Prop} (R : Addr → Hp → Prop) (hb : ¬ c → (∀ a H, R a H → C a H) → B) (ha : c → (∀ a H, R a H → C a H) → A) (h : ∀ a H, R a H → C a H) : if c then A else B := by
  by_cases e : c
  · rw [if_pos e]; exact ha e h
  · rw [if_neg e]; exact hb e h
/-- lists at these addresses, of at most n items -/
def AllL (H : Hp) (n : Nat) (ps : List Addr) : Prop := ∀ p ∈ ps, ∃ zs, H p = some (.lst zs) ∧ zs.length ≤ n
theorem AllL.same {H H' : Hp} {n : Nat} {ps : List Addr} (h : AllL H n ps) (s : Same H H') : AllL H' n ps := fun p hp => by
  obtain ⟨zs, e, l⟩ := h p hp
  exact ⟨zs, s _ _ e, l⟩
theorem AllL.put {H : Hp} {n m : Nat} {ps : List Addr} {p : Addr} {zs : List V} (h : AllL H n ps) (hm : zs.length ≤ m) (nm : n ≤ m) : AllL (upd H p (.lst zs)) m ps := fun y hy => by
  by_cases e : y = p
  · subst e
    exact ⟨zs, upd_same, hm⟩
  · obtain ⟨u, e2, l⟩ := h y hy
    exact ⟨u, by rw [upd_ne e]; exact e2, by omega⟩
section
variable {P : Program} {w : World} {K : PySem.W.Frag} {mg : Str → Option Value} {base : Heap}
def sp_L_changed (K : PySem.W.Frag) (T : Top K mg) : Sp := fun vs H Q _ => ∃ (H0 : Hp) (x : Addr) (t : Str) (rows : List Str) (fs : FS) (A : Parts), vs = [.ref x] ∧ FileP T.C_SettingsFile H0 H x t rows fs A ∧ (fs.settings.map (·.1)).Nodup ∧ fs.settings.length ≤ 1000 ∧ rows.length ≤ 1000 ∧ fs.headers.length ≤ 1000 ∧
  ∀ H', Same H H' → Q .non H'
theorem ok_L_changed (T : Top K mg) : FnOk P w K mg base CX0 5 T.f__law_changed T.d__law_changed ["_law_file"] (sp_L_changed K T) := by
  have G_SettingsFile_pairs : GFn P w K mg base 1 T.f_SettingsFile_pairs T.d_SettingsFile_pairs ["self"] (sp_SettingsFile_pairs K T) := ok_SettingsFile_pairs T
  have G_SettingsFile_places : FnOk P w K mg base CX0 1 T.f_SettingsFile_places T.d_SettingsFile_places ["self"] (sp_SettingsFile_places K T) := ok_SettingsFile_places T
  have G_SettingsFile_sections : FnOk P w K mg base CX0 1 T.f_SettingsFile_sections T.d_SettingsFile_sections ["self"] (sp_SettingsFile_sections K T) := ok_SettingsFile_sections T
  have G_SettingsFile_lines : FnOk P w K mg base CX0 1 T.f_SettingsFile_lines T.d_SettingsFile_lines ["self"] (sp_SettingsFile_lines K T) := ok_SettingsFile_lines T
  refine T.F__law_changed.ok scL_changed (fun vs H Q E h => ?_) (fun cdv A outer s H vs Q E hr h => ?_)
  · obtain ⟨H0, x, t, rows, fs, A, rfl, _⟩ := h
    rfl
  · obtain ⟨H0, x, t, rows, fs, A', rfl, f, nd, slen, rlen, hlen, q⟩ := h
    refine ⟨_, (pss_one (ps_for PassesOwn.never rfl (pi_list (pe_lst (pa_cons (pe_prop (pv 0) T.cl_SettingsFile T.pr_SettingsFile_lines G_SettingsFile_lines (hr.mono (by decide)) T.b_SettingsFile_lines .nil pass0 rfl) (pa_cons (pe_meth0 (pv 0) T.cl_SettingsFile T.me_SettingsFile_sections G_SettingsFile_sections (hr.mono (by decide)) T.b_SettingsFile_sections .nil pass0) (pa_cons (pe_meth0 (pv 0) T.cl_SettingsFile T.me_SettingsFile_places G_SettingsFile_places (hr.mono (by decide)) T.b_SettingsFile_places .nil pass0) (pa_cons (pe_listG (pgen_meth0 (pv 0) T.cl_SettingsFile T.me_SettingsFile_pairs G_SettingsFile_pairs (hr.mono (by decide)) T.b_SettingsFile_pairs .nil) passE0 noStop0 (hr.mono (by decide)) (by rfl) T.m_list (by decide +kernel)) pa_nil)))))) (pg_name (i := 1) scL_changed.nd rfl (.inl rfl)) (pss_cons (ps_expr (pe_bm PySem.F.plainAttrs_list PySem.F.slot_list_append PySem.F.type_list_append mt_append (pv 1) (pa_cons pe_str pa_nil)))
      (pss_one (ps_expr (pe_bm0 PySem.F.plainAttrs_list PySem.F.slot_list_reverse PySem.F.type_list_reverse mt_reverse (pv 1))))))), ?_⟩
    have noM : ∀ {m : Str}, ¬ m = "loose" → ¬ m = "blocks" → ¬ m = "kept_read" → ¬ m = "settings_read" → ¬ m = "headers" → ¬ m = "rows" → ¬ m = "text" → (flds t A'.r A'.h A'.s A'.k A'.b A'.l).lookup m = none := fun h1 h2 h3 h4 h5 h6 h7 => f_no _ _ _ _ _ _ _ h1 h2 h3 h4 h5 h6 h7
    refine ⟨.ref x, rfl, x, _, _, rfl, f.ob, H0, x, t, rows, fs, A', rfl, f, fun H1 p1 s1 np1 hp1 => ?_⟩
    have f1 := f.more s1
    refine ⟨.ref x, rfl, x, _, _, rfl, f1.ob, noM (by decide +kernel) (by decide +kernel) (by decide +kernel) (by decide +kernel) (by decide +kernel) (by decide +kernel) (by decide +kernel), H0, x, t, rows, fs, A', rfl, f1, fun H2 p2 s2 np2 hp2 => ?_⟩
    have f2 := f1.more s2
    refine ⟨.ref x, rfl, x, _, _, rfl, f2.ob, noM (by decide +kernel) (by decide +kernel) (by decide +kernel) (by decide +kernel) (by decide +kernel) (by decide +kernel) (by decide +kernel), H0, x, t, rows, fs, A', rfl, f2, fun H3 p3 s3 np3 hp3 => ?_⟩
    have f3 := f2.more s3
    refine ⟨.ref x, rfl, x, _, _, rfl, f3.ob, noM (by decide +kernel) (by decide +kernel) (by decide +kernel) (by decide +kernel) (by decide +kernel) (by decide +kernel) (by decide +kernel), H0, x, t, rows, fs, A', rfl, f3, nd, slen, fun H4 out s4 prs p4 np4 => ?_⟩
    have s5 := same_new (o := .lst out) np4
    have olen : out.length = fs.settings.length := paired_len prs
    have n2 : H p2 = none := s1.free np2
    have n3 : H p3 = none := (s1.trans s2).free np3
    have n4 : H p4 = none := ((s1.trans s2).trans (s3.trans s4)).free np4
    have hp4 : (upd H4 p4 (.lst out)) p4 = some (.lst out) := upd_same
    have s05 : Same H (upd H4 p4 (.lst out)) := ((s1.trans s2).trans (s3.trans s4)).trans s5
    have all5 : AllL (upd H4 p4 (.lst out)) 1000 [p1, p2, p3, p4] := by
      intro p hp
      simp only [List.mem_cons, List.not_mem_nil, or_false] at hp
      rcases hp with rfl | rfl | rfl | rfl
      · exact ⟨_, s5 _ _ (s4 _ _ (s3 _ _ (s2 _ _ hp1))), by rw [List.length_map]; exact rlen⟩
      · exact ⟨_, s5 _ _ (s4 _ _ (s3 _ _ hp2)), by rw [List.length_map]; exact hlen⟩
      · exact ⟨_, s5 _ _ (s4 _ _ hp3), by rw [List.length_map, List.length_map]; exact slen⟩
      · exact ⟨_, hp4, by rw [olen]; exact slen⟩
    generalize upd H4 p4 (.lst out) = H5 at s05 all5
    refine ⟨(by show 4 ≤ sizeLine; decide), fun L nL => ?_⟩
    have s6 := same_new (o := .lst [.ref p1, .ref p2, .ref p3, .ref p4]) nL
    have hL : (upd H5 L (.lst [.ref p1, .ref p2, .ref p3, .ref p4])) L = some (.lst ([p1, p2, p3, p4].map V.ref)) := upd_same
    have s06 := s05.trans s6
    have all6 := all5.same s6
    have neL : ∀ p ∈ [p1, p2, p3, p4], p ≠ L := fun p hp => by
      obtain ⟨zs, e, _⟩ := all5 p hp
      exact ne_of_none e nL
    have new : ∀ p ∈ [p1, p2, p3, p4], H p = none := fun p hp => by
      simp only [List.mem_cons, List.not_mem_nil, or_false] at hp
      rcases hp with rfl | rfl | rfl | rfl
      · exact np1
      · exact n2
      · exact n3
      · exact n4
    generalize upd H5 L (.lst [.ref p1, .ref p2, .ref p3, .ref p4]) = H6 at hL s06 all6
    refine ⟨L, rfl, ⟨_, SqL.of hL⟩, for_it (walk_list (xs := [p1, p2, p3, p4].map V.ref)) (fun i σ H7 => ∃ y, σ = [some (.ref x), y] ∧ Same H H7 ∧ H7 L = some (.lst ([p1, p2, p3, p4].map V.ref)) ∧ AllL H7 (1000 + i) [p1, p2, p3, p4]) ?_ (fun i σ H7 _ h => by
      obtain ⟨_, _, _, h, _⟩ := h
      exact SqL.of h) ?_ ?_⟩
    · exact ⟨none, rfl, s06, hL, all6⟩
    · rintro i v σ H7' H7 hi ⟨y, rfl, s7, hL7, all7⟩ ⟨rfl, hv⟩
      obtain ⟨p, hp, rfl⟩ := List.mem_map.mp (List.mem_of_getElem? hv)
      obtain ⟨zs, ez, lz⟩ := all7 p hp
      have i4 : i < 4 := hi
      refine ⟨.ref p, rfl, .inl ⟨rfl, _, SqL.of ez⟩, p, _, _, rfl, rfl, ez, big (by omega), ?_⟩
      refine ⟨.ref p, rfl, .inl ⟨rfl, _, SqL.of upd_same⟩, p, _, rfl, rfl, upd_same, ?_⟩
      refine ⟨_, rfl, ?_, ?_, ?_⟩
      · intro b o e
        rw [upd_ne (ne_of_none e (new p hp)), upd_ne (ne_of_none e (new p hp))]
        exact s7 _ _ e
      · rw [upd_ne (neL p hp).symm, upd_ne (neL p hp).symm]
        exact hL7
      · refine (all7.put (m := 1000 + (i + 1)) ?_ (by omega)).put ?_ (Nat.le_refl _)
        · rw [List.length_append, List.length_singleton]
          omega
        · rw [List.length_reverse, List.length_append, List.length_singleton]
          omega
    · rintro σ H7 ⟨y, rfl, s7, _, _⟩
      exact q _ s7
theorem blank_run : runF fs0 (rowsOf "\n\n") = some { fs0 with loose := [("" : Str), "", ""] } := by decide +kernel
theorem blank_rows : rowsOf "\n\n" = [("" : Str), "", ""] := by decide +kernel
theorem none_rows : rowsOf "" = [] := rfl
def sp_law (K : PySem.W.Frag) : Sp := fun vs H Q _ => ∃ (a : Addr) (ns : List Int), vs = [.ref a] ∧ SqL K H a (ns.map V.int) ∧ ns.length ≤ 63 ∧ ∀ H', Q (.bl true) H'
theorem ok_law (T : Top K mg) : FnOk P w K mg base CX0 9 T.f_law T.d_law ["_law_script"] (sp_law K) := by
  have G__law_bag : FnOk P w K mg base CX0 1 T.f__law_bag T.d__law_bag ["_law_script", "_law_at"] (sp_L_bag K) := ok_L_bag T
  have G__law_take : FnOk P w K mg base CX0 1 T.f__law_take T.d__law_take ["_law_bag_here", "_law_many"] (sp_L_take K) := ok_L_take T
  have G__law_drawn : FnOk P w K mg base CX0 4 T.f__law_drawn T.d__law_drawn ["_law_bag_here"] (sp_L_drawn K) := ok_L_drawn T
  have G_SettingsFile___init__ : FnOk P w K mg base CX0 7 T.f_SettingsFile___init__ T.d_SettingsFile___init__ ["self", "text"] (sp_SettingsFile___init__ K T) := ok_SettingsFile___init__ T
  have G_SettingsFile___str__ : FnOk P w K mg base CX0 1 T.f_SettingsFile___str__ T.d_SettingsFile___str__ ["self"] (sp_SettingsFile___str__ K T) := ok_SettingsFile___str__ T
  have G__law_shows : FnOk P w K mg base CX0 5 T.f__law_shows T.d__law_shows ["_law_file", "_law_lines", "_law_heads", "_law_found"] (sp_L_shows K T) := ok_L_shows T
  have G__law_changed : FnOk P w K mg base CX0 5 T.f__law_changed T.d__law_changed ["_law_file"] (sp_L_changed K T) := ok_L_changed T
  have G_SettingsFile___len__ : FnOk P w K mg base CX0 1 T.f_SettingsFile___len__ T.d_SettingsFile___len__ ["self"] (sp_SettingsFile___len__ K T) := ok_SettingsFile___len__ T
  have G_SettingsFile_lines : FnOk P w K mg base CX0 1 T.f_SettingsFile_lines T.d_SettingsFile_lines ["self"] (sp_SettingsFile_lines K T) := ok_SettingsFile_lines T
  refine T.F_law.ok sclaw (fun vs H Q E h => ?_) (fun cdv A outer s H vs Q E hr h => ?_)
  · obtain ⟨a, ns, rfl, _⟩ := h
    rfl
  · obtain ⟨a, ns, rfl, hS, hl, q⟩ := h
    refine ⟨_, (pss_cons (ps_for PassesOwn.never rfl (pi_range1 (by rfl) T.m_range (pa_cons (pe_callB (call_max2 rfl) (by rfl) T.m_max (by decide +kernel) (pa_cons pe_int (pa_cons (pe_callB (call_min2 rfl) (by rfl) T.m_min (by decide +kernel) (pa_cons pe_int (pa_cons (pe_callB call_len_seq (by rfl) T.m_len (by decide +kernel) (pa_cons (pv 0) pa_nil)) pa_nil))) pa_nil))) pa_nil)) (pg_name (i := 1) sclaw.nd rfl (.inl rfl)) (pss_cons (ps_set (i := 2) sclaw.nd rfl (.inl rfl) (pe_call G__law_bag (hr.mono (by decide)) (by rfl) T.g__law_bag T.F__law_bag.kp T.b__law_bag .nil pass0 (pa_cons (pv 0) (pa_cons (pv 1) pa_nil))))
      (pss_one (ps_for PassesOwn.never rfl (pi_range1 (by rfl) T.m_range (pa_cons (pe_call G__law_take (hr.mono (by decide)) (by rfl) T.g__law_take T.F__law_take.kp T.b__law_take .nil pass0 (pa_cons (pv 2) (pa_cons pe_int pa_nil))) pa_nil)) (pg_name (i := 3) sclaw.nd rfl (.inl rfl)) (pss_cons (ps_asg (pe_call G__law_drawn (hr.mono (by decide)) (by rfl) T.g__law_drawn T.F__law_drawn.kp T.b__law_drawn .nil pass0 (pa_cons (pv 2) pa_nil)) (pg_tup rfl (pgs_cons (pg_name (i := 4) sclaw.nd rfl (.inl rfl)) (pgs_cons (pg_name (i := 5) sclaw.nd rfl (.inl rfl)) (pgs_cons (pg_name (i := 6) sclaw.nd rfl (.inl rfl)) pgs_nil)))))
      (pss_cons (ps_set (i := 7) sclaw.nd rfl (.inl rfl) (pe_m1 F.slot_str_join F.type_str_join mt_join pe_str (pv 4)))
      (pss_cons (ps_set (i := 8) sclaw.nd rfl (.inl rfl) (pe_make T.mk_SettingsFile G_SettingsFile___init__ (hr.mono (by decide)) (by rfl) T.g_SettingsFile T.b_SettingsFile___init__ .nil pass0 (pa_cons (pv 7) pa_nil)))
      (pss_cons (ps_set (i := 4) sclaw.nd rfl (.inl rfl) (pe_ifExp (pt_cmpR op_eq (pv 7) pe_str (nomark _)) (pe_lst pa_nil) (pv 4)))
      (pss_cons (ps_if (PW.pt (pw_or (pt_not (pt_val (pe_call G__law_shows (hr.mono (by decide)) (by rfl) T.g__law_shows T.F__law_shows.kp T.b__law_shows .nil pass0 (pa_cons (pv 8) (pa_cons (pv 4) (pa_cons (pv 5) (pa_cons (pv 6) pa_nil))))))) (pw_or1 (pt_cmpR op_ne (pe_callTy (call_strOwn T.me_SettingsFile___str__ G_SettingsFile___str__ (hr.mono (by decide)) T.b_SettingsFile___str__) (by rfl) T.m_str (by decide +kernel) (pa_cons (pv 8) pa_nil)) (pv 7) (nomark _))))) (pss_one (ps_ret pe_bl)) pss_nil)
      (pss_cons (ps_expr (pe_call G__law_changed (hr.mono (by decide)) (by rfl) T.g__law_changed T.F__law_changed.kp T.b__law_changed .nil pass0 (pa_cons (pv 8) pa_nil)))
      (pss_one (ps_if (PW.pt (pw_or (pt_not (pt_val (pe_call G__law_shows (hr.mono (by decide)) (by rfl) T.g__law_shows T.F__law_shows.kp T.b__law_shows .nil pass0 (pa_cons (pv 8) (pa_cons (pv 4) (pa_cons (pv 5) (pa_cons (pv 6) pa_nil))))))) (pw_or1 (pt_cmpR op_ne (pe_callTy (call_strOwn T.me_SettingsFile___str__ G_SettingsFile___str__ (hr.mono (by decide)) T.b_SettingsFile___str__) (by rfl) T.m_str (by decide +kernel) (pa_cons (pe_makeK0 T.mk_SettingsFile G_SettingsFile___init__ (hr.mono (by decide)) (by rfl) T.g_SettingsFile T.kn_SettingsFile___init__ pass0 (pk_cons (pv 7) pk_nil)) pa_nil)) (pv 7) (nomark _))))) (pss_one (ps_ret pe_bl)) pss_nil))))))))))))
      (pss_cons (ps_set (i := 9) sclaw.nd rfl (.inl rfl) (pe_make T.mk_SettingsFile G_SettingsFile___init__ (hr.mono (by decide)) (by rfl) T.g_SettingsFile T.b_SettingsFile___init__ .nil pass0 (pa_cons pe_str pa_nil)))
      (pss_one (ps_ret (pe_and (pe_cmpR (op_eqNil hr.units0) (pe_prop (pe_make T.mk_SettingsFile G_SettingsFile___init__ (hr.mono (by decide)) (by rfl) T.g_SettingsFile T.b_SettingsFile___init__ .nil pass0 (pa_cons pe_str pa_nil)) T.cl_SettingsFile T.pr_SettingsFile_lines G_SettingsFile_lines (hr.mono (by decide)) T.b_SettingsFile_lines .nil pass0 rfl) (pe_lst pa_nil) (nomark _)) (pe_and (pe_cmpR (op_eqD hr.units) (pe_prop (pv 9) T.cl_SettingsFile T.pr_SettingsFile_lines G_SettingsFile_lines (hr.mono (by decide)) T.b_SettingsFile_lines .nil pass0 rfl) (pe_lst (pa_cons pe_str (pa_cons pe_str (pa_cons pe_str pa_nil)))) (nomark _)) (pe_and (pe_cmpR op_eq (pe_callB (call_lenOwn T.me_SettingsFile___len__ G_SettingsFile___len__ (hr.mono (by decide)) T.b_SettingsFile___len__) (by rfl) T.m_len (by decide +kernel) (pa_cons (pv 9) pa_nil)) pe_int (nomark _)) (pe_one (pe_notOwn T.nb_SettingsFile T.me_SettingsFile___len__ G_SettingsFile___len__ (hr.mono (by decide)) T.b_SettingsFile___len__ (pe_make T.mk_SettingsFile G_SettingsFile___init__ (hr.mono (by decide)) (by rfl) T.g_SettingsFile T.b_SettingsFile___init__ .nil pass0 (pa_cons pe_str pa_nil))))))))))), ?_⟩
    refine ⟨.ref a, rfl, a, _, rfl, .inl hS, _, _, rfl, _, _, rfl, ?_⟩
    obtain ⟨M, hM, M1, M4⟩ : ∃ M : Int, (if (if (((ns.map V.int).length : Nat) : Int) < 4 then (((ns.map V.int).length : Nat) : Int) else 4) > 1 then (if (((ns.map V.int).length : Nat) : Int) < 4 then (((ns.map V.int).length : Nat) : Int) else 4) else 1) = M ∧ 0 ≤ M ∧ M ≤ 4 := by
      refine ⟨_, rfl, ?_, ?_⟩
      · split <;> split <;> omega
      · split <;> split <;> omega
    refine ⟨M, congrArg (fun z => [V.int z]) hM, by omega, by omega, for_it walk_range (fun _ σ H3 => ∃ y1 y2 y3 y4 y5 y6 y7 y8 y9, σ = [some (.ref a), y1, y2, y3, y4, y5, y6, y7, y8, y9] ∧ SqL K H3 a (ns.map V.int)) ?_ (fun _ _ _ _ _ => trivial) ?_ ?_⟩
    · exact ⟨none, none, none, none, none, none, none, none, none, rfl, hS⟩
    · rintro i x σ H1' H1 hi ⟨y1, y2, y3, y4, y5, y6, y7, y8, y9, rfl, hS1⟩ ⟨rfl, rfl⟩
      refine ⟨.ref a, rfl, .int (0 + (i : Int)), rfl, a, _, ns, rfl, hS1, hl, by omega, by omega, fun H2 b s2 nb b2 => ?_⟩
      have hold := held_of hS1 s2 nb
      refine ⟨.ref b, rfl, b, 6, rfl, b2, by decide, by decide, fun d m1 m2 d0 d1 g0 g1 g2 => ⟨d, rfl, by omega, by omega, for_it walk_range (fun _ σ H3 => ∃ y1 y3 y4 y5 y6 y7 y8 y9, σ = [some (.ref a), y1, some (.ref b), y3, y4, y5, y6, y7, y8, y9] ∧ Bag H3 b ∧ Kept b H2 H3) ?_ (fun _ _ _ _ _ => trivial) ?_ ?_⟩⟩
      · exact ⟨_, _, _, _, _, _, _, _, rfl, Bag.at g0 g1 g2, Kept.at⟩
      · rintro j x σ H3' H3 hj ⟨z1, z3, z4, z5, z6, z7, z8, z9, rfl, b3, k3⟩ ⟨rfl, rfl⟩
        -- a drawn text
        refine ⟨.ref b, rfl, b, rfl, b3, fun H4 lines fs pp pl ph pf us r1 okl llen sok slen hok k4 b4 hp hpl hph hpf pr => ?_⟩
        refine ⟨pp, _, rfl, SqT.of hp, rfl, _, _, rfl, _, _, rfl, _, _, rfl, rfl, ?_⟩
        have lens : ∀ z ∈ lines, z.length ≤ 100 := fun z hz => (okl z hz).p.len
        have sumL := joined_len lens
        refine ⟨⟨_, rfl⟩, .ref pl, rfl, _, pl, lines, rfl, rfl, .inl (SqL.of hpl), (by show (lines.map (·.length)).sum + lines.length * 1 ≤ 16777216; omega), ?_⟩
        obtain ⟨t, et⟩ : ∃ t, t = Txt.join lf lines := ⟨_, rfl⟩
        rw [show Txt.join lf lines = t from et.symm]
        have rws : rowsOf t = if lines = [("" : Str)] then [] else lines := by rw [et]; exact rows_join fun z hz => (okl z hz).nl
        have tlen : t.length ≤ 1000000 := by rw [et]; exact join_short lens llen
        -- what the file is
        obtain ⟨fF, runE, hdE, stE⟩ : ∃ fF, runF fs0 (rowsOf t) = some fF ∧ fF.headers = fs.headers ∧ fF.settings = fs.settings := by
          by_cases e : lines = [("" : Str)]
          · rw [rws, if_pos e]
            subst e
            have : fs = { fs0 with loose := [("" : Str)] } := by
              have z : runF fs0 [("" : Str)] = some { fs0 with loose := [("" : Str)] } := by decide +kernel
              rw [z] at r1
              exact (Option.some.inj r1).symm
            exact ⟨fs0, rfl, by rw [this], by rw [this]⟩
          · rw [rws, if_neg e]
            exact ⟨fs, r1, rfl, rfl⟩
        have nd : (fF.settings.map (·.1)).Nodup := run_nd (by simp [fs0]) runE
        have rl1 : (rowsOf t).length ≤ 1000 := by
          rw [rws]
          split
          · simp
          · omega
        have rok : ∀ z ∈ rowsOf t, LineOk z := fun z hz => by
          rw [rws] at hz
          split at hz
          · cases hz
          · exact okl z hz
        have rz : ∀ z ∈ rowsOf t, z.length ≤ 1000 := fun z hz => by
          have := (rok z hz).p.len
          omega
        have sokF : SetOk fF := fun e he => by rw [stE] at he; exact sok e he
        have hokF : ∀ h ∈ fF.headers, h ∈ heads := fun h hh => by rw [hdE] at hh; exact hok h hh
        have slF : fF.settings.length ≤ 30 := by rw [stE]; exact slen
        refine ⟨.str t, rfl, fun x dx nx ndx nex => ?_⟩
        refine ⟨H4, x, dx, t, fF, rfl, rfl, nx, ndx, nex, tlen, by omega, rz, runE, fun H5 A f5 => ⟨rfl, ?_⟩⟩
        have s5 : Same H4 H5 := f5.same
        -- the lines that are due
        refine ⟨.str t, rfl, rfl, _, rfl, ?_⟩
        have rowsE : ¬ t = "" → rowsOf t = lines := fun ne => by
          rw [rws, if_neg]
          intro z
          apply ne
          rw [et, z]
          rfl
        refine ite_tail (fun lA H7 => Same H5 H7 ∧ H7 lA = some (.lst ((rowsOf t).map V.str))) (fun e r => ⟨.ref pl, rfl, r pl H5 ⟨Same.refl _, by rw [rowsE (fun z => e (decide_eq_true (by rw [z])))]; exact s5 _ _ hpl⟩⟩) (fun e r => ⟨Nat.zero_le _, fun e2 ne2 => r e2 _ ⟨same_new ne2, by
          have : t = "" := V.str.inj (of_decide_eq_true e)
          rw [this]
          exact upd_same⟩⟩) ?_
        rintro lA H7 ⟨s7, hlA⟩
        have f7 := f5.more s7
        have s47 := s5.trans s7
        have hph7 : H7 ph = some (.lst (fF.headers.map V.str)) := by rw [hdE]; exact s47 _ _ hph
        have hpf7 := s47 _ _ hpf
        have pr7 : PairsAt H7 us fF.settings := by rw [stE]; exact PairsAt.same s47 pr
        refine ⟨.ref x, rfl, .ref lA, rfl, .ref ph, rfl, .ref pf, rfl, H4, x, t, rowsOf t, fF, A, lA, ph, pf, us, rfl, f7, hlA, hph7, hpf7, pr7, nd, sokF, slF, hokF, rok, fun H8 s8 => ⟨true, rfl, iteF ?_⟩⟩
        have f8 := f7.more s8
        refine ⟨.ref x, rfl, x, _, _, rfl, f8.ob, H4, x, t, rowsOf t, fF, A, rfl, f8, _, rfl, .str t, rfl, rfl, _, rfl, ?_⟩
        refine (if_neg (by simp)).mpr ?_
        -- the returned lists are changed
        refine ⟨.ref x, rfl, H4, x, t, rowsOf t, fF, A, rfl, f8, nd, by omega, rl1, ?_, fun H9 s9 => ?_⟩
        · have : fF.headers.length ≤ 1000 := by
            have hn : fF.headers.length ≤ (rowsOf t).length := by
              have sm : Sm (rowsOf t).length fF := by
                have key : ∀ {l : List Str} {n : Nat} {g g' : FS}, Sm n g → runF g l = some g' → Sm (n + l.length) g' := by
                  intro l
                  induction l with
                  | nil => intro n g g' h e; cases e; exact h
                  | cons z r ih =>
                    intro n g g' h e
                    rw [runF_cons] at e
                    cases hs : stepF g z with
                    | none => rw [hs] at e; cases e
                    | some g2 =>
                      rw [hs] at e
                      have := ih (h.step hs) e
                      rwa [show n + 1 + r.length = n + (z :: r).length by rw [List.length_cons]; omega] at this
                have := key (n := 0) (g := fs0) ⟨Nat.le_refl _, Nat.le_refl _, Nat.le_refl _, Nat.le_refl _, Nat.le_refl _⟩ runE
                rwa [Nat.zero_add] at this
              obtain ⟨a1, a2, a3, a4, a5⟩ := sm
              omega
            omega
          exact this
        have s89 := s8.trans s9
        have f9 := f7.more s89
        have hph9 := s89 _ _ hph7
        refine ⟨.ref x, rfl, .ref lA, rfl, .ref ph, rfl, .ref pf, rfl, H4, x, t, rowsOf t, fF, A, lA, ph, pf, us, rfl, f9, s89 _ _ hlA, hph9, s89 _ _ hpf7, PairsAt.same s89 pr7, nd, sokF, slF, hokF, rok, fun H10 s10 => ⟨true, rfl, iteF ?_⟩⟩
        refine ⟨.str t, rfl, rfl, rfl, fun x2 dx2 nx2 ndx2 nex2 => ?_⟩
        refine ⟨H10, x2, dx2, t, fF, rfl, rfl, nx2, ndx2, nex2, tlen, by omega, rz, runE, fun H11 A2 f11 => ⟨rfl, ?_⟩⟩
        refine ⟨x2, _, _, rfl, f11.ob, H10, x2, t, rowsOf t, fF, A2, rfl, f11, _, rfl, .str t, rfl, rfl, _, rfl, ?_⟩
        refine (if_neg (by simp)).mpr ?_
        have sEnd : Same H4 H11 := s47.trans ((s89.trans s10).trans f11.same)
        exact ⟨_, _, _, _, _, _, _, _, rfl, b4.same sEnd, k3.trans (k4.trans (Kept.same sEnd))⟩
      · rintro σ H3 ⟨z1, z3, z4, z5, z6, z7, z8, z9, rfl, b3, k3⟩
        exact ⟨_, _, _, _, _, _, _, _, _, rfl, hold H3 k3⟩
    · rintro σ H3 ⟨y1, y2, y3, y4, y5, y6, y7, y8, y9, rfl, hS3⟩
      -- texts by hand
      intro x dx nx ndx nex
      refine ⟨H3, x, dx, "\n\n", _, rfl, rfl, nx, ndx, nex, by decide +kernel, by rw [blank_rows]; decide, by rw [blank_rows]; decide, blank_run, fun H5 A f5 => ⟨rfl, ?_⟩⟩
      intro x2 dx2 nx2 ndx2 nex2
      refine ⟨H5, x2, dx2, "", fs0, rfl, rfl, nx2, ndx2, nex2, by decide, by rw [none_rows]; decide, (by rw [none_rows]; intro z hz; cases hz), rfl, fun H6 A2 f6 => ⟨rfl, ?_⟩⟩
      refine ⟨x2, _, _, rfl, f6.ob, H5, x2, "", rowsOf "", fs0, A2, rfl, f6, fun H7 p7 s7 np7 hp7 => ?_⟩
      refine ⟨Nat.zero_le _, fun e8 ne8 => ⟨p7, e8, [], rfl, rfl, SqL.of (same_new ne8 _ _ hp7), SqL.of upd_same, true, rfl, iteT ?_⟩⟩
      have s8 : Same H5 (upd H7 e8 (.lst [])) := (f6.same.trans s7).trans (same_new ne8)
      generalize upd H7 e8 (.lst []) = H8 at s8
      have f8 := f5.more s8
      refine ⟨.ref x, rfl, x, _, _, rfl, f8.ob, H3, x, "\n\n", _, _, A, rfl, f8, fun H9 p9 s9 np9 hp9 => ?_⟩
      refine ⟨(by show 3 ≤ sizeLine; decide), fun l9 nl9 => ?_⟩
      have s10 := same_new (o := .lst [.str "", .str "", .str ""]) nl9
      have want : SeqAt.shaped (.list [.str "", .str "", .str ""]) = true := by decide +kernel
      refine ⟨.list [.str "", .str "", .str ""], .list [.str "", .str "", .str ""], .lst (SqL.of (xs := [.str "", .str "", .str ""]) (by rw [s10 _ _ hp9, blank_rows]; rfl)) (.cons (.str _) (.cons (.str _) (.cons (.str _) .nil))), .lst (SqL.of upd_same) (.cons (.str _) (.cons (.str _) (.cons (.str _) .nil))), want, want, true, ?_, iteT ?_⟩
      · rw [eqv_same want]
      have s11 := s9.trans s10
      generalize upd H9 l9 (.lst [.str "", .str "", .str ""]) = H10 at s11
      have f10 := f8.more s11
      refine ⟨.ref x, rfl, x, _, _, rfl, f10.ob, H3, x, "\n\n", _, _, A, rfl, f10, 0, rfl, by decide, by decide, rfl, true, rfl, iteT ?_⟩
      intro x3 dx3 nx3 ndx3 nex3
      refine ⟨H10, x3, dx3, "", fs0, rfl, rfl, nx3, ndx3, nex3, by decide, by rw [none_rows]; decide, (by rw [none_rows]; intro z hz; cases hz), rfl, fun H11 A3 f11 => ⟨rfl, ?_⟩⟩
      exact ⟨x3, _, _, rfl, f11.ob, H10, x3, "", rowsOf "", fs0, A3, rfl, f11, 0, rfl, by decide, by decide, q _⟩
end
end K02

set_option Elab.async false
set_option linter.all false
set_option maxRecDepth 100000
namespace K02
open PySem PySem.Spec PyProof.Rows L2 My
/-! ### the end -/
def top_mk {h : Heap} {K : PySem.W.Frag} {mg : Str → Option Value} (X : K.In h) (G : h.Ns mainGlobals mg)
    {C0 : Addr} (aC0 : PySem.W.nsIn K mainGlobals "SettingsFile" = some (some (.ref C0))) (pg0 : PySem.W.plainGet K C0 Str.empty = true) (hd0 : PySem.W.hasDictIn K C0 = true) (po0 : PySem.W.plainOver K C0 = true) (sa0 : PySem.W.findIn K (.ref C0) "__setattr__" = some (some (.builtin "object.__setattr__"))) (mk0 : PySem.W.makesIn K C0 = true) (kc0 : PySem.W.keepIn K (.ref C0) = true)
    (nb0 : PySem.W.findIn K (.ref C0) "__bool__" = some none)
    (na0_0 : PySem.W.findIn K (.ref C0) "text" = some none)
    (na0_1 : PySem.W.findIn K (.ref C0) "rows" = some none)
    (na0_2 : PySem.W.findIn K (.ref C0) "headers" = some none)
    (na0_3 : PySem.W.findIn K (.ref C0) "settings_read" = some none)
    (na0_4 : PySem.W.findIn K (.ref C0) "kept_read" = some none)
    (na0_5 : PySem.W.findIn K (.ref C0) "blocks" = some none)
    (na0_6 : PySem.W.findIn K (.ref C0) "loose" = some none)
    {f0 : Addr} {od0 an0 : Option Addr} {sl0 : Array (Option Value)} {oc0 kV0 dc0 pm0 cd0 ct0 : Value} (a0 : PySem.W.nsIn K mainGlobals "is_made_of" = some (some (.ref f0))) (l0 : K.lookup f0 = some ⟨oc0, od0, .func (PySem.W.fnOf "is_made_of" "is_made_of" (defArgs s_is_made_of) (defBody s_is_made_of) (defScope s_is_made_of) .none kV0 dc0 pm0 an0 cd0 ct0), sl0⟩) (c0 : PySem.W.codeIn K cd0 "is_made_of" = true) (k0 : PySem.W.keepIn K (.ref f0) = true)
    {f1 : Addr} {od1 an1 : Option Addr} {sl1 : Array (Option Value)} {oc1 kV1 dc1 pm1 cd1 ct1 : Value} (a1 : PySem.W.nsIn K mainGlobals "is_name" = some (some (.ref f1))) (l1 : K.lookup f1 = some ⟨oc1, od1, .func (PySem.W.fnOf "is_name" "is_name" (defArgs s_is_name) (defBody s_is_name) (defScope s_is_name) .none kV1 dc1 pm1 an1 cd1 ct1), sl1⟩) (c1 : PySem.W.codeIn K cd1 "is_name" = true) (k1 : PySem.W.keepIn K (.ref f1) = true)
    {f2 : Addr} {od2 an2 : Option Addr} {sl2 : Array (Option Value)} {oc2 kV2 dc2 pm2 cd2 ct2 : Value} (a2 : PySem.W.nsIn K mainGlobals "is_place" = some (some (.ref f2))) (l2 : K.lookup f2 = some ⟨oc2, od2, .func (PySem.W.fnOf "is_place" "is_place" (defArgs s_is_place) (defBody s_is_place) (defScope s_is_place) .none kV2 dc2 pm2 an2 cd2 ct2), sl2⟩) (c2 : PySem.W.codeIn K cd2 "is_place" = true) (k2 : PySem.W.keepIn K (.ref f2) = true)
    {f3 : Addr} {od3 an3 : Option Addr} {sl3 : Array (Option Value)} {oc3 kV3 dc3 pm3 cd3 ct3 : Value} (a3 : PySem.W.nsIn K mainGlobals "is_value" = some (some (.ref f3))) (l3 : K.lookup f3 = some ⟨oc3, od3, .func (PySem.W.fnOf "is_value" "is_value" (defArgs s_is_value) (defBody s_is_value) (defScope s_is_value) .none kV3 dc3 pm3 an3 cd3 ct3), sl3⟩) (c3 : PySem.W.codeIn K cd3 "is_value" = true) (k3 : PySem.W.keepIn K (.ref f3) = true)
    {f4 : Addr} {od4 an4 : Option Addr} {sl4 : Array (Option Value)} {oc4 kV4 dc4 pm4 cd4 ct4 : Value} (a4 : PySem.W.nsIn K mainGlobals "is_release_word" = some (some (.ref f4))) (l4 : K.lookup f4 = some ⟨oc4, od4, .func (PySem.W.fnOf "is_release_word" "is_release_word" (defArgs s_is_release_word) (defBody s_is_release_word) (defScope s_is_release_word) .none kV4 dc4 pm4 an4 cd4 ct4), sl4⟩) (c4 : PySem.W.codeIn K cd4 "is_release_word" = true) (k4 : PySem.W.keepIn K (.ref f4) = true)
    {f5 : Addr} {od5 an5 : Option Addr} {sl5 : Array (Option Value)} {oc5 kV5 dc5 pm5 cd5 ct5 : Value} (a5 : PySem.W.nsIn K mainGlobals "is_header" = some (some (.ref f5))) (l5 : K.lookup f5 = some ⟨oc5, od5, .func (PySem.W.fnOf "is_header" "is_header" (defArgs s_is_header) (defBody s_is_header) (defScope s_is_header) .none kV5 dc5 pm5 an5 cd5 ct5), sl5⟩) (c5 : PySem.W.codeIn K cd5 "is_header" = true) (k5 : PySem.W.keepIn K (.ref f5) = true)
    {f6 : Addr} {od6 an6 : Option Addr} {sl6 : Array (Option Value)} {oc6 kV6 dc6 pm6 cd6 ct6 : Value} (a6 : PySem.W.nsIn K mainGlobals "is_loose" = some (some (.ref f6))) (l6 : K.lookup f6 = some ⟨oc6, od6, .func (PySem.W.fnOf "is_loose" "is_loose" (defArgs s_is_loose) (defBody s_is_loose) (defScope s_is_loose) .none kV6 dc6 pm6 an6 cd6 ct6), sl6⟩) (c6 : PySem.W.codeIn K cd6 "is_loose" = true) (k6 : PySem.W.keepIn K (.ref f6) = true)
    {f7 : Addr} {od7 an7 : Option Addr} {sl7 : Array (Option Value)} {oc7 kV7 dc7 pm7 cd7 ct7 : Value} (a7 : PySem.W.nsIn K mainGlobals "read_setting" = some (some (.ref f7))) (l7 : K.lookup f7 = some ⟨oc7, od7, .func (PySem.W.fnOf "read_setting" "read_setting" (defArgs s_read_setting) (defBody s_read_setting) (defScope s_read_setting) .none kV7 dc7 pm7 an7 cd7 ct7), sl7⟩) (c7 : PySem.W.codeIn K cd7 "read_setting" = true) (k7 : PySem.W.keepIn K (.ref f7) = true)
    {f8 : Addr} {od8 an8 : Option Addr} {sl8 : Array (Option Value)} {oc8 kV8 dc8 pm8 cd8 ct8 : Value} (a8 : PySem.W.nsIn K mainGlobals "read_kept" = some (some (.ref f8))) (l8 : K.lookup f8 = some ⟨oc8, od8, .func (PySem.W.fnOf "read_kept" "read_kept" (defArgs s_read_kept) (defBody s_read_kept) (defScope s_read_kept) .none kV8 dc8 pm8 an8 cd8 ct8), sl8⟩) (c8 : PySem.W.codeIn K cd8 "read_kept" = true) (k8 : PySem.W.keepIn K (.ref f8) = true)
    {f9 : Addr} {od9 an9 : Option Addr} {sl9 : Array (Option Value)} {oc9 kV9 dc9 pm9 cd9 ct9 : Value} (a9 : PySem.W.nsIn K mainGlobals "_law_bag" = some (some (.ref f9))) (l9 : K.lookup f9 = some ⟨oc9, od9, .func (PySem.W.fnOf "_law_bag" "_law_bag" (defArgs s_L_bag) (defBody s_L_bag) (defScope s_L_bag) .none kV9 dc9 pm9 an9 cd9 ct9), sl9⟩) (c9 : PySem.W.codeIn K cd9 "_law_bag" = true) (k9 : PySem.W.keepIn K (.ref f9) = true)
    {f10 : Addr} {od10 an10 : Option Addr} {sl10 : Array (Option Value)} {oc10 kV10 dc10 pm10 cd10 ct10 : Value} (a10 : PySem.W.nsIn K mainGlobals "_law_take" = some (some (.ref f10))) (l10 : K.lookup f10 = some ⟨oc10, od10, .func (PySem.W.fnOf "_law_take" "_law_take" (defArgs s_L_take) (defBody s_L_take) (defScope s_L_take) .none kV10 dc10 pm10 an10 cd10 ct10), sl10⟩) (c10 : PySem.W.codeIn K cd10 "_law_take" = true) (k10 : PySem.W.keepIn K (.ref f10) = true)
    {f11 : Addr} {od11 an11 : Option Addr} {sl11 : Array (Option Value)} {oc11 kV11 dc11 pm11 cd11 ct11 : Value} (a11 : PySem.W.nsIn K mainGlobals "_law_of" = some (some (.ref f11))) (l11 : K.lookup f11 = some ⟨oc11, od11, .func (PySem.W.fnOf "_law_of" "_law_of" (defArgs s_L_of) (defBody s_L_of) (defScope s_L_of) .none kV11 dc11 pm11 an11 cd11 ct11), sl11⟩) (c11 : PySem.W.codeIn K cd11 "_law_of" = true) (k11 : PySem.W.keepIn K (.ref f11) = true)
    {f12 : Addr} {od12 an12 : Option Addr} {sl12 : Array (Option Value)} {oc12 kV12 dc12 pm12 cd12 ct12 : Value} (a12 : PySem.W.nsIn K mainGlobals "_law_mixed" = some (some (.ref f12))) (l12 : K.lookup f12 = some ⟨oc12, od12, .func (PySem.W.fnOf "_law_mixed" "_law_mixed" (defArgs s_L_mixed) (defBody s_L_mixed) (defScope s_L_mixed) .none kV12 dc12 pm12 an12 cd12 ct12), sl12⟩) (c12 : PySem.W.codeIn K cd12 "_law_mixed" = true) (k12 : PySem.W.keepIn K (.ref f12) = true)
    {f13 : Addr} {od13 an13 : Option Addr} {sl13 : Array (Option Value)} {oc13 kV13 dc13 pm13 cd13 ct13 : Value} (a13 : PySem.W.nsIn K mainGlobals "_law_amid" = some (some (.ref f13))) (l13 : K.lookup f13 = some ⟨oc13, od13, .func (PySem.W.fnOf "_law_amid" "_law_amid" (defArgs s_L_amid) (defBody s_L_amid) (defScope s_L_amid) .none kV13 dc13 pm13 an13 cd13 ct13), sl13⟩) (c13 : PySem.W.codeIn K cd13 "_law_amid" = true) (k13 : PySem.W.keepIn K (.ref f13) = true)
    {f14 : Addr} {od14 an14 : Option Addr} {sl14 : Array (Option Value)} {oc14 kV14 dc14 pm14 cd14 ct14 : Value} (a14 : PySem.W.nsIn K mainGlobals "_law_drawn" = some (some (.ref f14))) (l14 : K.lookup f14 = some ⟨oc14, od14, .func (PySem.W.fnOf "_law_drawn" "_law_drawn" (defArgs s_L_drawn) (defBody s_L_drawn) (defScope s_L_drawn) .none kV14 dc14 pm14 an14 cd14 ct14), sl14⟩) (c14 : PySem.W.codeIn K cd14 "_law_drawn" = true) (k14 : PySem.W.keepIn K (.ref f14) = true)
    {f15 : Addr} {od15 an15 : Option Addr} {sl15 : Array (Option Value)} {oc15 kV15 dc15 pm15 cd15 ct15 : Value} (a15 : PySem.W.nsIn K mainGlobals "_law_shows" = some (some (.ref f15))) (l15 : K.lookup f15 = some ⟨oc15, od15, .func (PySem.W.fnOf "_law_shows" "_law_shows" (defArgs s_L_shows) (defBody s_L_shows) (defScope s_L_shows) .none kV15 dc15 pm15 an15 cd15 ct15), sl15⟩) (c15 : PySem.W.codeIn K cd15 "_law_shows" = true) (k15 : PySem.W.keepIn K (.ref f15) = true)
    {f16 : Addr} {od16 an16 : Option Addr} {sl16 : Array (Option Value)} {oc16 kV16 dc16 pm16 cd16 ct16 : Value} (a16 : PySem.W.nsIn K mainGlobals "_law_changed" = some (some (.ref f16))) (l16 : K.lookup f16 = some ⟨oc16, od16, .func (PySem.W.fnOf "_law_changed" "_law_changed" (defArgs s_L_changed) (defBody s_L_changed) (defScope s_L_changed) .none kV16 dc16 pm16 an16 cd16 ct16), sl16⟩) (c16 : PySem.W.codeIn K cd16 "_law_changed" = true) (k16 : PySem.W.keepIn K (.ref f16) = true)
    {f17 : Addr} {od17 an17 : Option Addr} {sl17 : Array (Option Value)} {oc17 kV17 dc17 pm17 cd17 ct17 : Value} (a17 : PySem.W.nsIn K mainGlobals "law" = some (some (.ref f17))) (l17 : K.lookup f17 = some ⟨oc17, od17, .func (PySem.W.fnOf "law" "law" (defArgs s_law) (defBody s_law) (defScope s_law) .none kV17 dc17 pm17 an17 cd17 ct17), sl17⟩) (c17 : PySem.W.codeIn K cd17 "law" = true) (k17 : PySem.W.keepIn K (.ref f17) = true)
    {f18 : Addr} {od18 an18 : Option Addr} {sl18 : Array (Option Value)} {oc18 kV18 dc18 pm18 cd18 ct18 : Value} (a18 : PySem.W.findIn K (.ref C0) "__init__" = some (some (.ref f18))) (i18 : PySem.W.isFn K (.ref f18) = true) (l18 : K.lookup f18 = some ⟨oc18, od18, .func (PySem.W.fnOf "__init__" "SettingsFile.__init__" (defArgs s_SettingsFile___init__) (defBody s_SettingsFile___init__) (defScope s_SettingsFile___init__) .none kV18 dc18 pm18 an18 cd18 ct18), sl18⟩) (c18 : PySem.W.codeIn K cd18 "SettingsFile.__init__" = true) (k18 : PySem.W.keepIn K (.ref f18) = true)
    {f19 : Addr} {od19 an19 : Option Addr} {sl19 : Array (Option Value)} {oc19 kV19 dc19 pm19 cd19 ct19 : Value} (a19 : PySem.W.findIn K (.ref C0) "take" = some (some (.ref f19))) (i19 : PySem.W.isFn K (.ref f19) = true) (l19 : K.lookup f19 = some ⟨oc19, od19, .func (PySem.W.fnOf "take" "SettingsFile.take" (defArgs s_SettingsFile_take) (defBody s_SettingsFile_take) (defScope s_SettingsFile_take) .none kV19 dc19 pm19 an19 cd19 ct19), sl19⟩) (c19 : PySem.W.codeIn K cd19 "SettingsFile.take" = true) (k19 : PySem.W.keepIn K (.ref f19) = true)
    {f20 : Addr} {od20 an20 : Option Addr} {sl20 : Array (Option Value)} {oc20 kV20 dc20 pm20 cd20 ct20 : Value} (a20 : PySem.W.findIn K (.ref C0) "take_kept" = some (some (.ref f20))) (i20 : PySem.W.isFn K (.ref f20) = true) (l20 : K.lookup f20 = some ⟨oc20, od20, .func (PySem.W.fnOf "take_kept" "SettingsFile.take_kept" (defArgs s_SettingsFile_take_kept) (defBody s_SettingsFile_take_kept) (defScope s_SettingsFile_take_kept) .none kV20 dc20 pm20 an20 cd20 ct20), sl20⟩) (c20 : PySem.W.codeIn K cd20 "SettingsFile.take_kept" = true) (k20 : PySem.W.keepIn K (.ref f20) = true)
    {f21 : Addr} {od21 an21 : Option Addr} {sl21 : Array (Option Value)} {oc21 kV21 dc21 pm21 cd21 ct21 : Value} (a21 : PySem.W.findIn K (.ref C0) "take_header" = some (some (.ref f21))) (i21 : PySem.W.isFn K (.ref f21) = true) (l21 : K.lookup f21 = some ⟨oc21, od21, .func (PySem.W.fnOf "take_header" "SettingsFile.take_header" (defArgs s_SettingsFile_take_header) (defBody s_SettingsFile_take_header) (defScope s_SettingsFile_take_header) .none kV21 dc21 pm21 an21 cd21 ct21), sl21⟩) (c21 : PySem.W.codeIn K cd21 "SettingsFile.take_header" = true) (k21 : PySem.W.keepIn K (.ref f21) = true)
    {f22 : Addr} {od22 an22 : Option Addr} {sl22 : Array (Option Value)} {oc22 kV22 dc22 pm22 cd22 ct22 : Value} (a22 : PySem.W.findIn K (.ref C0) "take_setting" = some (some (.ref f22))) (i22 : PySem.W.isFn K (.ref f22) = true) (l22 : K.lookup f22 = some ⟨oc22, od22, .func (PySem.W.fnOf "take_setting" "SettingsFile.take_setting" (defArgs s_SettingsFile_take_setting) (defBody s_SettingsFile_take_setting) (defScope s_SettingsFile_take_setting) .none kV22 dc22 pm22 an22 cd22 ct22), sl22⟩) (c22 : PySem.W.codeIn K cd22 "SettingsFile.take_setting" = true) (k22 : PySem.W.keepIn K (.ref f22) = true)
    {f23 : Addr} {od23 an23 : Option Addr} {sl23 : Array (Option Value)} {oc23 kV23 dc23 pm23 cd23 ct23 : Value} (a23 : PySem.W.findIn K (.ref C0) "close_block" = some (some (.ref f23))) (i23 : PySem.W.isFn K (.ref f23) = true) (l23 : K.lookup f23 = some ⟨oc23, od23, .func (PySem.W.fnOf "close_block" "SettingsFile.close_block" (defArgs s_SettingsFile_close_block) (defBody s_SettingsFile_close_block) (defScope s_SettingsFile_close_block) .none kV23 dc23 pm23 an23 cd23 ct23), sl23⟩) (c23 : PySem.W.codeIn K cd23 "SettingsFile.close_block" = true) (k23 : PySem.W.keepIn K (.ref f23) = true)
    {p24 : Addr} {rs24 : List Value} (a24 : PySem.W.findIn K (.ref C0) "lines" = some (some (.ref p24))) (pg_24 : PySem.W.specialIn K (.ref p24) "__get__" = some (some (.builtin "property.__get__"))) (pt_24 : PySem.W.takesIn K (.ref p24) = some true)
    {f24 : Addr} {od24 an24 : Option Addr} {sl24 : Array (Option Value)} {oc24 kV24 dc24 pm24 cd24 ct24 : Value} (pr_24 : PySem.W.recIn K p24 "property" = some (.ref f24 :: rs24)) (l24 : K.lookup f24 = some ⟨oc24, od24, .func (PySem.W.fnOf "lines" "SettingsFile.lines" (defArgs s_SettingsFile_lines) (defBody s_SettingsFile_lines) (defScope s_SettingsFile_lines) .none kV24 dc24 pm24 an24 cd24 ct24), sl24⟩) (c24 : PySem.W.codeIn K cd24 "SettingsFile.lines" = true) (k24 : PySem.W.keepIn K (.ref f24) = true)
    {f25 : Addr} {od25 an25 : Option Addr} {sl25 : Array (Option Value)} {oc25 kV25 dc25 pm25 cd25 ct25 : Value} (a25 : PySem.W.findIn K (.ref C0) "sections" = some (some (.ref f25))) (i25 : PySem.W.isFn K (.ref f25) = true) (l25 : K.lookup f25 = some ⟨oc25, od25, .func (PySem.W.fnOf "sections" "SettingsFile.sections" (defArgs s_SettingsFile_sections) (defBody s_SettingsFile_sections) (defScope s_SettingsFile_sections) .none kV25 dc25 pm25 an25 cd25 ct25), sl25⟩) (c25 : PySem.W.codeIn K cd25 "SettingsFile.sections" = true) (k25 : PySem.W.keepIn K (.ref f25) = true)
    {f26 : Addr} {od26 an26 : Option Addr} {sl26 : Array (Option Value)} {oc26 kV26 dc26 pm26 cd26 ct26 : Value} (a26 : PySem.W.findIn K (.ref C0) "places" = some (some (.ref f26))) (i26 : PySem.W.isFn K (.ref f26) = true) (l26 : K.lookup f26 = some ⟨oc26, od26, .func (PySem.W.fnOf "places" "SettingsFile.places" (defArgs s_SettingsFile_places) (defBody s_SettingsFile_places) (defScope s_SettingsFile_places) .none kV26 dc26 pm26 an26 cd26 ct26), sl26⟩) (c26 : PySem.W.codeIn K cd26 "SettingsFile.places" = true) (k26 : PySem.W.keepIn K (.ref f26) = true)
    {f27 : Addr} {od27 an27 : Option Addr} {sl27 : Array (Option Value)} {oc27 kV27 dc27 pm27 cd27 ct27 : Value} (a27 : PySem.W.findIn K (.ref C0) "value" = some (some (.ref f27))) (i27 : PySem.W.isFn K (.ref f27) = true) (l27 : K.lookup f27 = some ⟨oc27, od27, .func (PySem.W.fnOf "value" "SettingsFile.value" (defArgs s_SettingsFile_value) (defBody s_SettingsFile_value) (defScope s_SettingsFile_value) .none kV27 dc27 pm27 an27 cd27 ct27), sl27⟩) (c27 : PySem.W.codeIn K cd27 "SettingsFile.value" = true) (k27 : PySem.W.keepIn K (.ref f27) = true)
    {f28 : Addr} {od28 an28 : Option Addr} {sl28 : Array (Option Value)} {oc28 kV28 dc28 pm28 cd28 ct28 : Value} (a28 : PySem.W.findIn K (.ref C0) "pairs" = some (some (.ref f28))) (i28 : PySem.W.isFn K (.ref f28) = true) (l28 : K.lookup f28 = some ⟨oc28, od28, .func (PySem.W.fnOf "pairs" "SettingsFile.pairs" (defArgs s_SettingsFile_pairs) (defBody s_SettingsFile_pairs) (defScope s_SettingsFile_pairs) .none kV28 dc28 pm28 an28 cd28 ct28), sl28⟩) (c28 : PySem.W.codeIn K cd28 "SettingsFile.pairs" = true) (k28 : PySem.W.keepIn K (.ref f28) = true)
    {f29 : Addr} {od29 an29 : Option Addr} {sl29 : Array (Option Value)} {oc29 kV29 dc29 pm29 cd29 ct29 : Value} (a29 : PySem.W.findIn K (.ref C0) "__len__" = some (some (.ref f29))) (i29 : PySem.W.isFn K (.ref f29) = true) (l29 : K.lookup f29 = some ⟨oc29, od29, .func (PySem.W.fnOf "__len__" "SettingsFile.__len__" (defArgs s_SettingsFile___len__) (defBody s_SettingsFile___len__) (defScope s_SettingsFile___len__) .none kV29 dc29 pm29 an29 cd29 ct29), sl29⟩) (c29 : PySem.W.codeIn K cd29 "SettingsFile.__len__" = true) (k29 : PySem.W.keepIn K (.ref f29) = true)
    {f30 : Addr} {od30 an30 : Option Addr} {sl30 : Array (Option Value)} {oc30 kV30 dc30 pm30 cd30 ct30 : Value} (a30 : PySem.W.findIn K (.ref C0) "__contains__" = some (some (.ref f30))) (i30 : PySem.W.isFn K (.ref f30) = true) (l30 : K.lookup f30 = some ⟨oc30, od30, .func (PySem.W.fnOf "__contains__" "SettingsFile.__contains__" (defArgs s_SettingsFile___contains__) (defBody s_SettingsFile___contains__) (defScope s_SettingsFile___contains__) .none kV30 dc30 pm30 an30 cd30 ct30), sl30⟩) (c30 : PySem.W.codeIn K cd30 "SettingsFile.__contains__" = true) (k30 : PySem.W.keepIn K (.ref f30) = true)
    {f31 : Addr} {od31 an31 : Option Addr} {sl31 : Array (Option Value)} {oc31 kV31 dc31 pm31 cd31 ct31 : Value} (a31 : PySem.W.findIn K (.ref C0) "__str__" = some (some (.ref f31))) (i31 : PySem.W.isFn K (.ref f31) = true) (l31 : K.lookup f31 = some ⟨oc31, od31, .func (PySem.W.fnOf "__str__" "SettingsFile.__str__" (defArgs s_SettingsFile___str__) (defBody s_SettingsFile___str__) (defScope s_SettingsFile___str__) .none kV31 dc31 pm31 an31 cd31 ct31), sl31⟩) (c31 : PySem.W.codeIn K cd31 "SettingsFile.__str__" = true) (k31 : PySem.W.keepIn K (.ref f31) = true)
    {t0 : Tok} (q0 : PySem.W.nsIn K mainGlobals "LONGEST_NAME" = some (some (.int 8 t0)))
    {t1 : Tok} (q1 : PySem.W.nsIn K mainGlobals "LETTERS" = some (some (.str "abcdefghijklmnopqrstuvwxyz" t1)))
    {t2 : Tok} (q2 : PySem.W.nsIn K mainGlobals "LONGEST_VALUE" = some (some (.int 12 t2)))
    {t3 : Tok} (q3 : PySem.W.nsIn K mainGlobals "DIGITS" = some (some (.str "0123456789" t3)))
    {t4 : Tok} (q4 : PySem.W.nsIn K mainGlobals "LONGEST_RELEASE" = some (some (.int 2 t4)))
    {t5 : Tok} (q5 : PySem.W.nsIn K mainGlobals "KEPT_MARK" = some (some (.str "#~" t5)))
    (z0 : PySem.W.nsIn K mainGlobals "len" = some none)
    (z1 : PySem.W.nsIn K mainGlobals "isinstance" = some none)
    (z2 : PySem.W.nsIn K mainGlobals "str" = some none)
    (z3 : PySem.W.nsIn K mainGlobals "all" = some none)
    (z4 : PySem.W.nsIn K mainGlobals "int" = some none)
    (z5 : PySem.W.nsIn K mainGlobals "enumerate" = some none)
    (z6 : PySem.W.nsIn K mainGlobals "abs" = some none)
    (z7 : PySem.W.nsIn K mainGlobals "list" = some none)
    (z8 : PySem.W.nsIn K mainGlobals "range" = some none)
    (z9 : PySem.W.nsIn K mainGlobals "bool" = some none)
    (z10 : PySem.W.nsIn K mainGlobals "max" = some none)
    (z11 : PySem.W.nsIn K mainGlobals "min" = some none) : Top K mg := {
    C_SettingsFile := C0, cl_SettingsFile := ⟨pg0, hd0, po0, sa0⟩, g_SettingsFile := PySem.W.mg_of X G aC0,
    nb_SettingsFile := nb0,
    no_SettingsFile_text := na0_0,
    no_SettingsFile_rows := na0_1,
    no_SettingsFile_headers := na0_2,
    no_SettingsFile_settings_read := na0_3,
    no_SettingsFile_kept_read := na0_4,
    no_SettingsFile_blocks := na0_5,
    no_SettingsFile_loose := na0_6,
    f_is_made_of := f0, d_is_made_of := _, F_is_made_of := fun_mk (st := s_is_made_of) l0 c0 k0, b_is_made_of := (fun_mk (st := s_is_made_of) l0 c0 k0).binds (ps := ["thing", "characters", "most"]) (fun _ _ _ _ _ _ us hl => match us, hl with | [_, _, _], _ => rfl), g_is_made_of := PySem.W.mg_of X G a0,
    f_is_name := f1, d_is_name := _, F_is_name := fun_mk (st := s_is_name) l1 c1 k1, b_is_name := (fun_mk (st := s_is_name) l1 c1 k1).binds (ps := ["thing"]) (fun _ _ _ _ _ _ us hl => match us, hl with | [_], _ => rfl), g_is_name := PySem.W.mg_of X G a1,
    f_is_place := f2, d_is_place := _, F_is_place := fun_mk (st := s_is_place) l2 c2 k2, b_is_place := (fun_mk (st := s_is_place) l2 c2 k2).binds (ps := ["thing"]) (fun _ _ _ _ _ _ us hl => match us, hl with | [_], _ => rfl), g_is_place := PySem.W.mg_of X G a2,
    f_is_value := f3, d_is_value := _, F_is_value := fun_mk (st := s_is_value) l3 c3 k3, b_is_value := (fun_mk (st := s_is_value) l3 c3 k3).binds (ps := ["thing"]) (fun _ _ _ _ _ _ us hl => match us, hl with | [_], _ => rfl), g_is_value := PySem.W.mg_of X G a3,
    f_is_release_word := f4, d_is_release_word := _, F_is_release_word := fun_mk (st := s_is_release_word) l4 c4 k4, b_is_release_word := (fun_mk (st := s_is_release_word) l4 c4 k4).binds (ps := ["thing"]) (fun _ _ _ _ _ _ us hl => match us, hl with | [_], _ => rfl), g_is_release_word := PySem.W.mg_of X G a4,
    f_is_header := f5, d_is_header := _, F_is_header := fun_mk (st := s_is_header) l5 c5 k5, b_is_header := (fun_mk (st := s_is_header) l5 c5 k5).binds (ps := ["line"]) (fun _ _ _ _ _ _ us hl => match us, hl with | [_], _ => rfl), g_is_header := PySem.W.mg_of X G a5,
    f_is_loose := f6, d_is_loose := _, F_is_loose := fun_mk (st := s_is_loose) l6 c6 k6, b_is_loose := (fun_mk (st := s_is_loose) l6 c6 k6).binds (ps := ["line"]) (fun _ _ _ _ _ _ us hl => match us, hl with | [_], _ => rfl), g_is_loose := PySem.W.mg_of X G a6,
    f_read_setting := f7, d_read_setting := _, F_read_setting := fun_mk (st := s_read_setting) l7 c7 k7, b_read_setting := (fun_mk (st := s_read_setting) l7 c7 k7).binds (ps := ["line"]) (fun _ _ _ _ _ _ us hl => match us, hl with | [_], _ => rfl), g_read_setting := PySem.W.mg_of X G a7,
    f_read_kept := f8, d_read_kept := _, F_read_kept := fun_mk (st := s_read_kept) l8 c8 k8, b_read_kept := (fun_mk (st := s_read_kept) l8 c8 k8).binds (ps := ["line"]) (fun _ _ _ _ _ _ us hl => match us, hl with | [_], _ => rfl), g_read_kept := PySem.W.mg_of X G a8,
    f__law_bag := f9, d__law_bag := _, F__law_bag := fun_mk (st := s_L_bag) l9 c9 k9, b__law_bag := (fun_mk (st := s_L_bag) l9 c9 k9).binds (ps := ["_law_script", "_law_at"]) (fun _ _ _ _ _ _ us hl => match us, hl with | [_, _], _ => rfl), g__law_bag := PySem.W.mg_of X G a9,
    f__law_take := f10, d__law_take := _, F__law_take := fun_mk (st := s_L_take) l10 c10 k10, b__law_take := (fun_mk (st := s_L_take) l10 c10 k10).binds (ps := ["_law_bag_here", "_law_many"]) (fun _ _ _ _ _ _ us hl => match us, hl with | [_, _], _ => rfl), g__law_take := PySem.W.mg_of X G a10,
    f__law_of := f11, d__law_of := _, F__law_of := fun_mk (st := s_L_of) l11 c11 k11, b__law_of := (fun_mk (st := s_L_of) l11 c11 k11).binds (ps := ["_law_bag_here", "_law_some"]) (fun _ _ _ _ _ _ us hl => match us, hl with | [_, _], _ => rfl), g__law_of := PySem.W.mg_of X G a11,
    f__law_mixed := f12, d__law_mixed := _, F__law_mixed := fun_mk (st := s_L_mixed) l12 c12 k12, b__law_mixed := (fun_mk (st := s_L_mixed) l12 c12 k12).binds (ps := ["_law_bag_here", "_law_things"]) (fun _ _ _ _ _ _ us hl => match us, hl with | [_, _], _ => rfl), g__law_mixed := PySem.W.mg_of X G a12,
    f__law_amid := f13, d__law_amid := _, F__law_amid := fun_mk (st := s_L_amid) l13 c13 k13, b__law_amid := (fun_mk (st := s_L_amid) l13 c13 k13).binds (ps := ["_law_bag_here"]) (fun _ _ _ _ _ _ us hl => match us, hl with | [_], _ => rfl), g__law_amid := PySem.W.mg_of X G a13,
    f__law_drawn := f14, d__law_drawn := _, F__law_drawn := fun_mk (st := s_L_drawn) l14 c14 k14, b__law_drawn := (fun_mk (st := s_L_drawn) l14 c14 k14).binds (ps := ["_law_bag_here"]) (fun _ _ _ _ _ _ us hl => match us, hl with | [_], _ => rfl), g__law_drawn := PySem.W.mg_of X G a14,
    f__law_shows := f15, d__law_shows := _, F__law_shows := fun_mk (st := s_L_shows) l15 c15 k15, b__law_shows := (fun_mk (st := s_L_shows) l15 c15 k15).binds (ps := ["_law_file", "_law_lines", "_law_heads", "_law_found"]) (fun _ _ _ _ _ _ us hl => match us, hl with | [_, _, _, _], _ => rfl), g__law_shows := PySem.W.mg_of X G a15,
    f__law_changed := f16, d__law_changed := _, F__law_changed := fun_mk (st := s_L_changed) l16 c16 k16, b__law_changed := (fun_mk (st := s_L_changed) l16 c16 k16).binds (ps := ["_law_file"]) (fun _ _ _ _ _ _ us hl => match us, hl with | [_], _ => rfl), g__law_changed := PySem.W.mg_of X G a16,
    f_law := f17, d_law := _, F_law := fun_mk (st := s_law) l17 c17 k17, b_law := (fun_mk (st := s_law) l17 c17 k17).binds (ps := ["_law_script"]) (fun _ _ _ _ _ _ us hl => match us, hl with | [_], _ => rfl), g_law := PySem.W.mg_of X G a17,
    f_SettingsFile___init__ := f18, d_SettingsFile___init__ := _, F_SettingsFile___init__ := fun_mk (st := s_SettingsFile___init__) l18 c18 k18, b_SettingsFile___init__ := (fun_mk (st := s_SettingsFile___init__) l18 c18 k18).binds (ps := ["self", "text"]) (fun _ _ _ _ _ _ us hl => match us, hl with | [_, _], _ => rfl), mk_SettingsFile := ⟨mk0, a18, i18, kc0⟩,
    kn_SettingsFile___init__ := ⟨fun s us ws _ h1 h2 => match us, ws, h1, h2 with | [_], [_], _, _ => .of_eq rfl, fun r z => r.append z⟩,
    f_SettingsFile_take := f19, d_SettingsFile_take := _, F_SettingsFile_take := fun_mk (st := s_SettingsFile_take) l19 c19 k19, b_SettingsFile_take := (fun_mk (st := s_SettingsFile_take) l19 c19 k19).binds (ps := ["self", "line"]) (fun _ _ _ _ _ _ us hl => match us, hl with | [_, _], _ => rfl), me_SettingsFile_take := ⟨a19, i19, k19⟩,
    f_SettingsFile_take_kept := f20, d_SettingsFile_take_kept := _, F_SettingsFile_take_kept := fun_mk (st := s_SettingsFile_take_kept) l20 c20 k20, b_SettingsFile_take_kept := (fun_mk (st := s_SettingsFile_take_kept) l20 c20 k20).binds (ps := ["self", "line"]) (fun _ _ _ _ _ _ us hl => match us, hl with | [_, _], _ => rfl), me_SettingsFile_take_kept := ⟨a20, i20, k20⟩,
    f_SettingsFile_take_header := f21, d_SettingsFile_take_header := _, F_SettingsFile_take_header := fun_mk (st := s_SettingsFile_take_header) l21 c21 k21, b_SettingsFile_take_header := (fun_mk (st := s_SettingsFile_take_header) l21 c21 k21).binds (ps := ["self", "name"]) (fun _ _ _ _ _ _ us hl => match us, hl with | [_, _], _ => rfl), me_SettingsFile_take_header := ⟨a21, i21, k21⟩,
    f_SettingsFile_take_setting := f22, d_SettingsFile_take_setting := _, F_SettingsFile_take_setting := fun_mk (st := s_SettingsFile_take_setting) l22 c22 k22, b_SettingsFile_take_setting := (fun_mk (st := s_SettingsFile_take_setting) l22 c22 k22).binds (ps := ["self", "key", "value"]) (fun _ _ _ _ _ _ us hl => match us, hl with | [_, _, _], _ => rfl), me_SettingsFile_take_setting := ⟨a22, i22, k22⟩,
    f_SettingsFile_close_block := f23, d_SettingsFile_close_block := _, F_SettingsFile_close_block := fun_mk (st := s_SettingsFile_close_block) l23 c23 k23, b_SettingsFile_close_block := (fun_mk (st := s_SettingsFile_close_block) l23 c23 k23).binds (ps := ["self", "thing"]) (fun _ _ _ _ _ _ us hl => match us, hl with | [_, _], _ => rfl), me_SettingsFile_close_block := ⟨a23, i23, k23⟩,
    f_SettingsFile_lines := f24, d_SettingsFile_lines := _, F_SettingsFile_lines := fun_mk (st := s_SettingsFile_lines) l24 c24 k24, b_SettingsFile_lines := (fun_mk (st := s_SettingsFile_lines) l24 c24 k24).binds (ps := ["self"]) (fun _ _ _ _ _ _ us hl => match us, hl with | [_], _ => rfl), p_SettingsFile_lines := p24, pr_SettingsFile_lines := ⟨a24, pg_24, pt_24, rs24, pr_24⟩,
    f_SettingsFile_sections := f25, d_SettingsFile_sections := _, F_SettingsFile_sections := fun_mk (st := s_SettingsFile_sections) l25 c25 k25, b_SettingsFile_sections := (fun_mk (st := s_SettingsFile_sections) l25 c25 k25).binds (ps := ["self"]) (fun _ _ _ _ _ _ us hl => match us, hl with | [_], _ => rfl), me_SettingsFile_sections := ⟨a25, i25, k25⟩,
    f_SettingsFile_places := f26, d_SettingsFile_places := _, F_SettingsFile_places := fun_mk (st := s_SettingsFile_places) l26 c26 k26, b_SettingsFile_places := (fun_mk (st := s_SettingsFile_places) l26 c26 k26).binds (ps := ["self"]) (fun _ _ _ _ _ _ us hl => match us, hl with | [_], _ => rfl), me_SettingsFile_places := ⟨a26, i26, k26⟩,
    f_SettingsFile_value := f27, d_SettingsFile_value := _, F_SettingsFile_value := fun_mk (st := s_SettingsFile_value) l27 c27 k27, b_SettingsFile_value := (fun_mk (st := s_SettingsFile_value) l27 c27 k27).binds (ps := ["self", "place"]) (fun _ _ _ _ _ _ us hl => match us, hl with | [_, _], _ => rfl), me_SettingsFile_value := ⟨a27, i27, k27⟩,
    f_SettingsFile_pairs := f28, d_SettingsFile_pairs := _, F_SettingsFile_pairs := fun_mk (st := s_SettingsFile_pairs) l28 c28 k28, b_SettingsFile_pairs := (fun_mk (st := s_SettingsFile_pairs) l28 c28 k28).binds (ps := ["self"]) (fun _ _ _ _ _ _ us hl => match us, hl with | [_], _ => rfl), me_SettingsFile_pairs := ⟨a28, i28, k28⟩,
    f_SettingsFile___len__ := f29, d_SettingsFile___len__ := _, F_SettingsFile___len__ := fun_mk (st := s_SettingsFile___len__) l29 c29 k29, b_SettingsFile___len__ := (fun_mk (st := s_SettingsFile___len__) l29 c29 k29).binds (ps := ["self"]) (fun _ _ _ _ _ _ us hl => match us, hl with | [_], _ => rfl), me_SettingsFile___len__ := ⟨a29, i29, k29⟩,
    f_SettingsFile___contains__ := f30, d_SettingsFile___contains__ := _, F_SettingsFile___contains__ := fun_mk (st := s_SettingsFile___contains__) l30 c30 k30, b_SettingsFile___contains__ := (fun_mk (st := s_SettingsFile___contains__) l30 c30 k30).binds (ps := ["self", "x"]) (fun _ _ _ _ _ _ us hl => match us, hl with | [_, _], _ => rfl), me_SettingsFile___contains__ := ⟨a30, i30, k30⟩,
    f_SettingsFile___str__ := f31, d_SettingsFile___str__ := _, F_SettingsFile___str__ := fun_mk (st := s_SettingsFile___str__) l31 c31 k31, b_SettingsFile___str__ := (fun_mk (st := s_SettingsFile___str__) l31 c31 k31).binds (ps := ["self"]) (fun _ _ _ _ _ _ us hl => match us, hl with | [_], _ => rfl), me_SettingsFile___str__ := ⟨a31, i31, k31⟩,
    t_LONGEST_NAME := t0, g_LONGEST_NAME := PySem.W.mg_of X G q0,
    t_LETTERS := t1, g_LETTERS := PySem.W.mg_of X G q1,
    t_LONGEST_VALUE := t2, g_LONGEST_VALUE := PySem.W.mg_of X G q2,
    t_DIGITS := t3, g_DIGITS := PySem.W.mg_of X G q3,
    t_LONGEST_RELEASE := t4, g_LONGEST_RELEASE := PySem.W.mg_of X G q4,
    t_KEPT_MARK := t5, g_KEPT_MARK := PySem.W.mg_of X G q5,
    m_len := PySem.W.mg_none_of X G z0,
    m_isinstance := PySem.W.mg_none_of X G z1,
    m_str := PySem.W.mg_none_of X G z2,
    m_all := PySem.W.mg_none_of X G z3,
    m_int := PySem.W.mg_none_of X G z4,
    m_enumerate := PySem.W.mg_none_of X G z5,
    m_abs := PySem.W.mg_none_of X G z6,
    m_list := PySem.W.mg_none_of X G z7,
    m_range := PySem.W.mg_none_of X G z8,
    m_bool := PySem.W.mg_none_of X G z9,
    m_max := PySem.W.mg_none_of X G z10,
    m_min := PySem.W.mg_none_of X G z11 }
theorem all_mk {l : PySem.W.OpenLaw} {w : World} {K : PySem.W.Frag} {h : Heap} {mg : Str → Option Value} {fa : Addr} (X : K.In h) (G : h.Ns mainGlobals mg) (hfa : mg "law" = some (.ref fa))
    {C0 : Addr} (aC0 : PySem.W.nsIn K mainGlobals "SettingsFile" = some (some (.ref C0))) (pg0 : PySem.W.plainGet K C0 Str.empty = true) (hd0 : PySem.W.hasDictIn K C0 = true) (po0 : PySem.W.plainOver K C0 = true) (sa0 : PySem.W.findIn K (.ref C0) "__setattr__" = some (some (.builtin "object.__setattr__"))) (mk0 : PySem.W.makesIn K C0 = true) (kc0 : PySem.W.keepIn K (.ref C0) = true)
    (nb0 : PySem.W.findIn K (.ref C0) "__bool__" = some none)
    (na0_0 : PySem.W.findIn K (.ref C0) "text" = some none)
    (na0_1 : PySem.W.findIn K (.ref C0) "rows" = some none)
    (na0_2 : PySem.W.findIn K (.ref C0) "headers" = some none)
    (na0_3 : PySem.W.findIn K (.ref C0) "settings_read" = some none)
    (na0_4 : PySem.W.findIn K (.ref C0) "kept_read" = some none)
    (na0_5 : PySem.W.findIn K (.ref C0) "blocks" = some none)
    (na0_6 : PySem.W.findIn K (.ref C0) "loose" = some none)
    {f0 : Addr} {od0 an0 : Option Addr} {sl0 : Array (Option Value)} {oc0 kV0 dc0 pm0 cd0 ct0 : Value} (a0 : PySem.W.nsIn K mainGlobals "is_made_of" = some (some (.ref f0))) (l0 : K.lookup f0 = some ⟨oc0, od0, .func (PySem.W.fnOf "is_made_of" "is_made_of" (defArgs s_is_made_of) (defBody s_is_made_of) (defScope s_is_made_of) .none kV0 dc0 pm0 an0 cd0 ct0), sl0⟩) (c0 : PySem.W.codeIn K cd0 "is_made_of" = true) (k0 : PySem.W.keepIn K (.ref f0) = true)
    {f1 : Addr} {od1 an1 : Option Addr} {sl1 : Array (Option Value)} {oc1 kV1 dc1 pm1 cd1 ct1 : Value} (a1 : PySem.W.nsIn K mainGlobals "is_name" = some (some (.ref f1))) (l1 : K.lookup f1 = some ⟨oc1, od1, .func (PySem.W.fnOf "is_name" "is_name" (defArgs s_is_name) (defBody s_is_name) (defScope s_is_name) .none kV1 dc1 pm1 an1 cd1 ct1), sl1⟩) (c1 : PySem.W.codeIn K cd1 "is_name" = true) (k1 : PySem.W.keepIn K (.ref f1) = true)
    {f2 : Addr} {od2 an2 : Option Addr} {sl2 : Array (Option Value)} {oc2 kV2 dc2 pm2 cd2 ct2 : Value} (a2 : PySem.W.nsIn K mainGlobals "is_place" = some (some (.ref f2))) (l2 : K.lookup f2 = some ⟨oc2, od2, .func (PySem.W.fnOf "is_place" "is_place" (defArgs s_is_place) (defBody s_is_place) (defScope s_is_place) .none kV2 dc2 pm2 an2 cd2 ct2), sl2⟩) (c2 : PySem.W.codeIn K cd2 "is_place" = true) (k2 : PySem.W.keepIn K (.ref f2) = true)
    {f3 : Addr} {od3 an3 : Option Addr} {sl3 : Array (Option Value)} {oc3 kV3 dc3 pm3 cd3 ct3 : Value} (a3 : PySem.W.nsIn K mainGlobals "is_value" = some (some (.ref f3))) (l3 : K.lookup f3 = some ⟨oc3, od3, .func (PySem.W.fnOf "is_value" "is_value" (defArgs s_is_value) (defBody s_is_value) (defScope s_is_value) .none kV3 dc3 pm3 an3 cd3 ct3), sl3⟩) (c3 : PySem.W.codeIn K cd3 "is_value" = true) (k3 : PySem.W.keepIn K (.ref f3) = true)
    {f4 : Addr} {od4 an4 : Option Addr} {sl4 : Array (Option Value)} {oc4 kV4 dc4 pm4 cd4 ct4 : Value} (a4 : PySem.W.nsIn K mainGlobals "is_release_word" = some (some (.ref f4))) (l4 : K.lookup f4 = some ⟨oc4, od4, .func (PySem.W.fnOf "is_release_word" "is_release_word" (defArgs s_is_release_word) (defBody s_is_release_word) (defScope s_is_release_word) .none kV4 dc4 pm4 an4 cd4 ct4), sl4⟩) (c4 : PySem.W.codeIn K cd4 "is_release_word" = true) (k4 : PySem.W.keepIn K (.ref f4) = true)
    {f5 : Addr} {od5 an5 : Option Addr} {sl5 : Array (Option Value)} {oc5 kV5 dc5 pm5 cd5 ct5 : Value} (a5 : PySem.W.nsIn K mainGlobals "is_header" = some (some (.ref f5))) (l5 : K.lookup f5 = some ⟨oc5, od5, .func (PySem.W.fnOf "is_header" "is_header" (defArgs s_is_header) (defBody s_is_header) (defScope s_is_header) .none kV5 dc5 pm5 an5 cd5 ct5), sl5⟩) (c5 : PySem.W.codeIn K cd5 "is_header" = true) (k5 : PySem.W.keepIn K (.ref f5) = true)
    {f6 : Addr} {od6 an6 : Option Addr} {sl6 : Array (Option Value)} {oc6 kV6 dc6 pm6 cd6 ct6 : Value} (a6 : PySem.W.nsIn K mainGlobals "is_loose" = some (some (.ref f6))) (l6 : K.lookup f6 = some ⟨oc6, od6, .func (PySem.W.fnOf "is_loose" "is_loose" (defArgs s_is_loose) (defBody s_is_loose) (defScope s_is_loose) .none kV6 dc6 pm6 an6 cd6 ct6), sl6⟩) (c6 : PySem.W.codeIn K cd6 "is_loose" = true) (k6 : PySem.W.keepIn K (.ref f6) = true)
    {f7 : Addr} {od7 an7 : Option Addr} {sl7 : Array (Option Value)} {oc7 kV7 dc7 pm7 cd7 ct7 : Value} (a7 : PySem.W.nsIn K mainGlobals "read_setting" = some (some (.ref f7))) (l7 : K.lookup f7 = some ⟨oc7, od7, .func (PySem.W.fnOf "read_setting" "read_setting" (defArgs s_read_setting) (defBody s_read_setting) (defScope s_read_setting) .none kV7 dc7 pm7 an7 cd7 ct7), sl7⟩) (c7 : PySem.W.codeIn K cd7 "read_setting" = true) (k7 : PySem.W.keepIn K (.ref f7) = true)
    {f8 : Addr} {od8 an8 : Option Addr} {sl8 : Array (Option Value)} {oc8 kV8 dc8 pm8 cd8 ct8 : Value} (a8 : PySem.W.nsIn K mainGlobals "read_kept" = some (some (.ref f8))) (l8 : K.lookup f8 = some ⟨oc8, od8, .func (PySem.W.fnOf "read_kept" "read_kept" (defArgs s_read_kept) (defBody s_read_kept) (defScope s_read_kept) .none kV8 dc8 pm8 an8 cd8 ct8), sl8⟩) (c8 : PySem.W.codeIn K cd8 "read_kept" = true) (k8 : PySem.W.keepIn K (.ref f8) = true)
    {f9 : Addr} {od9 an9 : Option Addr} {sl9 : Array (Option Value)} {oc9 kV9 dc9 pm9 cd9 ct9 : Value} (a9 : PySem.W.nsIn K mainGlobals "_law_bag" = some (some (.ref f9))) (l9 : K.lookup f9 = some ⟨oc9, od9, .func (PySem.W.fnOf "_law_bag" "_law_bag" (defArgs s_L_bag) (defBody s_L_bag) (defScope s_L_bag) .none kV9 dc9 pm9 an9 cd9 ct9), sl9⟩) (c9 : PySem.W.codeIn K cd9 "_law_bag" = true) (k9 : PySem.W.keepIn K (.ref f9) = true)
    {f10 : Addr} {od10 an10 : Option Addr} {sl10 : Array (Option Value)} {oc10 kV10 dc10 pm10 cd10 ct10 : Value} (a10 : PySem.W.nsIn K mainGlobals "_law_take" = some (some (.ref f10))) (l10 : K.lookup f10 = some ⟨oc10, od10, .func (PySem.W.fnOf "_law_take" "_law_take" (defArgs s_L_take) (defBody s_L_take) (defScope s_L_take) .none kV10 dc10 pm10 an10 cd10 ct10), sl10⟩) (c10 : PySem.W.codeIn K cd10 "_law_take" = true) (k10 : PySem.W.keepIn K (.ref f10) = true)
    {f11 : Addr} {od11 an11 : Option Addr} {sl11 : Array (Option Value)} {oc11 kV11 dc11 pm11 cd11 ct11 : Value} (a11 : PySem.W.nsIn K mainGlobals "_law_of" = some (some (.ref f11))) (l11 : K.lookup f11 = some ⟨oc11, od11, .func (PySem.W.fnOf "_law_of" "_law_of" (defArgs s_L_of) (defBody s_L_of) (defScope s_L_of) .none kV11 dc11 pm11 an11 cd11 ct11), sl11⟩) (c11 : PySem.W.codeIn K cd11 "_law_of" = true) (k11 : PySem.W.keepIn K (.ref f11) = true)
    {f12 : Addr} {od12 an12 : Option Addr} {sl12 : Array (Option Value)} {oc12 kV12 dc12 pm12 cd12 ct12 : Value} (a12 : PySem.W.nsIn K mainGlobals "_law_mixed" = some (some (.ref f12))) (l12 : K.lookup f12 = some ⟨oc12, od12, .func (PySem.W.fnOf "_law_mixed" "_law_mixed" (defArgs s_L_mixed) (defBody s_L_mixed) (defScope s_L_mixed) .none kV12 dc12 pm12 an12 cd12 ct12), sl12⟩) (c12 : PySem.W.codeIn K cd12 "_law_mixed" = true) (k12 : PySem.W.keepIn K (.ref f12) = true)
    {f13 : Addr} {od13 an13 : Option Addr} {sl13 : Array (Option Value)} {oc13 kV13 dc13 pm13 cd13 ct13 : Value} (a13 : PySem.W.nsIn K mainGlobals "_law_amid" = some (some (.ref f13))) (l13 : K.lookup f13 = some ⟨oc13, od13, .func (PySem.W.fnOf "_law_amid" "_law_amid" (defArgs s_L_amid) (defBody s_L_amid) (defScope s_L_amid) .none kV13 dc13 pm13 an13 cd13 ct13), sl13⟩) (c13 : PySem.W.codeIn K cd13 "_law_amid" = true) (k13 : PySem.W.keepIn K (.ref f13) = true)
    {f14 : Addr} {od14 an14 : Option Addr} {sl14 : Array (Option Value)} {oc14 kV14 dc14 pm14 cd14 ct14 : Value} (a14 : PySem.W.nsIn K mainGlobals "_law_drawn" = some (some (.ref f14))) (l14 : K.lookup f14 = some ⟨oc14, od14, .func (PySem.W.fnOf "_law_drawn" "_law_drawn" (defArgs s_L_drawn) (defBody s_L_drawn) (defScope s_L_drawn) .none kV14 dc14 pm14 an14 cd14 ct14), sl14⟩) (c14 : PySem.W.codeIn K cd14 "_law_drawn" = true) (k14 : PySem.W.keepIn K (.ref f14) = true)
    {f15 : Addr} {od15 an15 : Option Addr} {sl15 : Array (Option Value)} {oc15 kV15 dc15 pm15 cd15 ct15 : Value} (a15 : PySem.W.nsIn K mainGlobals "_law_shows" = some (some (.ref f15))) (l15 : K.lookup f15 = some ⟨oc15, od15, .func (PySem.W.fnOf "_law_shows" "_law_shows" (defArgs s_L_shows) (defBody s_L_shows) (defScope s_L_shows) .none kV15 dc15 pm15 an15 cd15 ct15), sl15⟩) (c15 : PySem.W.codeIn K cd15 "_law_shows" = true) (k15 : PySem.W.keepIn K (.ref f15) = true)
    {f16 : Addr} {od16 an16 : Option Addr} {sl16 : Array (Option Value)} {oc16 kV16 dc16 pm16 cd16 ct16 : Value} (a16 : PySem.W.nsIn K mainGlobals "_law_changed" = some (some (.ref f16))) (l16 : K.lookup f16 = some ⟨oc16, od16, .func (PySem.W.fnOf "_law_changed" "_law_changed" (defArgs s_L_changed) (defBody s_L_changed) (defScope s_L_changed) .none kV16 dc16 pm16 an16 cd16 ct16), sl16⟩) (c16 : PySem.W.codeIn K cd16 "_law_changed" = true) (k16 : PySem.W.keepIn K (.ref f16) = true)
    {f17 : Addr} {od17 an17 : Option Addr} {sl17 : Array (Option Value)} {oc17 kV17 dc17 pm17 cd17 ct17 : Value} (a17 : PySem.W.nsIn K mainGlobals "law" = some (some (.ref f17))) (l17 : K.lookup f17 = some ⟨oc17, od17, .func (PySem.W.fnOf "law" "law" (defArgs s_law) (defBody s_law) (defScope s_law) .none kV17 dc17 pm17 an17 cd17 ct17), sl17⟩) (c17 : PySem.W.codeIn K cd17 "law" = true) (k17 : PySem.W.keepIn K (.ref f17) = true)
    {f18 : Addr} {od18 an18 : Option Addr} {sl18 : Array (Option Value)} {oc18 kV18 dc18 pm18 cd18 ct18 : Value} (a18 : PySem.W.findIn K (.ref C0) "__init__" = some (some (.ref f18))) (i18 : PySem.W.isFn K (.ref f18) = true) (l18 : K.lookup f18 = some ⟨oc18, od18, .func (PySem.W.fnOf "__init__" "SettingsFile.__init__" (defArgs s_SettingsFile___init__) (defBody s_SettingsFile___init__) (defScope s_SettingsFile___init__) .none kV18 dc18 pm18 an18 cd18 ct18), sl18⟩) (c18 : PySem.W.codeIn K cd18 "SettingsFile.__init__" = true) (k18 : PySem.W.keepIn K (.ref f18) = true)
    {f19 : Addr} {od19 an19 : Option Addr} {sl19 : Array (Option Value)} {oc19 kV19 dc19 pm19 cd19 ct19 : Value} (a19 : PySem.W.findIn K (.ref C0) "take" = some (some (.ref f19))) (i19 : PySem.W.isFn K (.ref f19) = true) (l19 : K.lookup f19 = some ⟨oc19, od19, .func (PySem.W.fnOf "take" "SettingsFile.take" (defArgs s_SettingsFile_take) (defBody s_SettingsFile_take) (defScope s_SettingsFile_take) .none kV19 dc19 pm19 an19 cd19 ct19), sl19⟩) (c19 : PySem.W.codeIn K cd19 "SettingsFile.take" = true) (k19 : PySem.W.keepIn K (.ref f19) = true)
    {f20 : Addr} {od20 an20 : Option Addr} {sl20 : Array (Option Value)} {oc20 kV20 dc20 pm20 cd20 ct20 : Value} (a20 : PySem.W.findIn K (.ref C0) "take_kept" = some (some (.ref f20))) (i20 : PySem.W.isFn K (.ref f20) = true) (l20 : K.lookup f20 = some ⟨oc20, od20, .func (PySem.W.fnOf "take_kept" "SettingsFile.take_kept" (defArgs s_SettingsFile_take_kept) (defBody s_SettingsFile_take_kept) (defScope s_SettingsFile_take_kept) .none kV20 dc20 pm20 an20 cd20 ct20), sl20⟩) (c20 : PySem.W.codeIn K cd20 "SettingsFile.take_kept" = true) (k20 : PySem.W.keepIn K (.ref f20) = true)
    {f21 : Addr} {od21 an21 : Option Addr} {sl21 : Array (Option Value)} {oc21 kV21 dc21 pm21 cd21 ct21 : Value} (a21 : PySem.W.findIn K (.ref C0) "take_header" = some (some (.ref f21))) (i21 : PySem.W.isFn K (.ref f21) = true) (l21 : K.lookup f21 = some ⟨oc21, od21, .func (PySem.W.fnOf "take_header" "SettingsFile.take_header" (defArgs s_SettingsFile_take_header) (defBody s_SettingsFile_take_header) (defScope s_SettingsFile_take_header) .none kV21 dc21 pm21 an21 cd21 ct21), sl21⟩) (c21 : PySem.W.codeIn K cd21 "SettingsFile.take_header" = true) (k21 : PySem.W.keepIn K (.ref f21) = true)
    {f22 : Addr} {od22 an22 : Option Addr} {sl22 : Array (Option Value)} {oc22 kV22 dc22 pm22 cd22 ct22 : Value} (a22 : PySem.W.findIn K (.ref C0) "take_setting" = some (some (.ref f22))) (i22 : PySem.W.isFn K (.ref f22) = true) (l22 : K.lookup f22 = some ⟨oc22, od22, .func (PySem.W.fnOf "take_setting" "SettingsFile.take_setting" (defArgs s_SettingsFile_take_setting) (defBody s_SettingsFile_take_setting) (defScope s_SettingsFile_take_setting) .none kV22 dc22 pm22 an22 cd22 ct22), sl22⟩) (c22 : PySem.W.codeIn K cd22 "SettingsFile.take_setting" = true) (k22 : PySem.W.keepIn K (.ref f22) = true)
    {f23 : Addr} {od23 an23 : Option Addr} {sl23 : Array (Option Value)} {oc23 kV23 dc23 pm23 cd23 ct23 : Value} (a23 : PySem.W.findIn K (.ref C0) "close_block" = some (some (.ref f23))) (i23 : PySem.W.isFn K (.ref f23) = true) (l23 : K.lookup f23 = some ⟨oc23, od23, .func (PySem.W.fnOf "close_block" "SettingsFile.close_block" (defArgs s_SettingsFile_close_block) (defBody s_SettingsFile_close_block) (defScope s_SettingsFile_close_block) .none kV23 dc23 pm23 an23 cd23 ct23), sl23⟩) (c23 : PySem.W.codeIn K cd23 "SettingsFile.close_block" = true) (k23 : PySem.W.keepIn K (.ref f23) = true)
    {p24 : Addr} {rs24 : List Value} (a24 : PySem.W.findIn K (.ref C0) "lines" = some (some (.ref p24))) (pg_24 : PySem.W.specialIn K (.ref p24) "__get__" = some (some (.builtin "property.__get__"))) (pt_24 : PySem.W.takesIn K (.ref p24) = some true)
    {f24 : Addr} {od24 an24 : Option Addr} {sl24 : Array (Option Value)} {oc24 kV24 dc24 pm24 cd24 ct24 : Value} (pr_24 : PySem.W.recIn K p24 "property" = some (.ref f24 :: rs24)) (l24 : K.lookup f24 = some ⟨oc24, od24, .func (PySem.W.fnOf "lines" "SettingsFile.lines" (defArgs s_SettingsFile_lines) (defBody s_SettingsFile_lines) (defScope s_SettingsFile_lines) .none kV24 dc24 pm24 an24 cd24 ct24), sl24⟩) (c24 : PySem.W.codeIn K cd24 "SettingsFile.lines" = true) (k24 : PySem.W.keepIn K (.ref f24) = true)
    {f25 : Addr} {od25 an25 : Option Addr} {sl25 : Array (Option Value)} {oc25 kV25 dc25 pm25 cd25 ct25 : Value} (a25 : PySem.W.findIn K (.ref C0) "sections" = some (some (.ref f25))) (i25 : PySem.W.isFn K (.ref f25) = true) (l25 : K.lookup f25 = some ⟨oc25, od25, .func (PySem.W.fnOf "sections" "SettingsFile.sections" (defArgs s_SettingsFile_sections) (defBody s_SettingsFile_sections) (defScope s_SettingsFile_sections) .none kV25 dc25 pm25 an25 cd25 ct25), sl25⟩) (c25 : PySem.W.codeIn K cd25 "SettingsFile.sections" = true) (k25 : PySem.W.keepIn K (.ref f25) = true)
    {f26 : Addr} {od26 an26 : Option Addr} {sl26 : Array (Option Value)} {oc26 kV26 dc26 pm26 cd26 ct26 : Value} (a26 : PySem.W.findIn K (.ref C0) "places" = some (some (.ref f26))) (i26 : PySem.W.isFn K (.ref f26) = true) (l26 : K.lookup f26 = some ⟨oc26, od26, .func (PySem.W.fnOf "places" "SettingsFile.places" (defArgs s_SettingsFile_places) (defBody s_SettingsFile_places) (defScope s_SettingsFile_places) .none kV26 dc26 pm26 an26 cd26 ct26), sl26⟩) (c26 : PySem.W.codeIn K cd26 "SettingsFile.places" = true) (k26 : PySem.W.keepIn K (.ref f26) = true)
    {f27 : Addr} {od27 an27 : Option Addr} {sl27 : Array (Option Value)} {oc27 kV27 dc27 pm27 cd27 ct27 : Value} (a27 : PySem.W.findIn K (.ref C0) "value" = some (some (.ref f27))) (i27 : PySem.W.isFn K (.ref f27) = true) (l27 : K.lookup f27 = some ⟨oc27, od27, .func (PySem.W.fnOf "value" "SettingsFile.value" (defArgs s_SettingsFile_value) (defBody s_SettingsFile_value) (defScope s_SettingsFile_value) .none kV27 dc27 pm27 an27 cd27 ct27), sl27⟩) (c27 : PySem.W.codeIn K cd27 "SettingsFile.value" = true) (k27 : PySem.W.keepIn K (.ref f27) = true)
    {f28 : Addr} {od28 an28 : Option Addr} {sl28 : Array (Option Value)} {oc28 kV28 dc28 pm28 cd28 ct28 : Value} (a28 : PySem.W.findIn K (.ref C0) "pairs" = some (some (.ref f28))) (i28 : PySem.W.isFn K (.ref f28) = true) (l28 : K.lookup f28 = some ⟨oc28, od28, .func (PySem.W.fnOf "pairs" "SettingsFile.pairs" (defArgs s_SettingsFile_pairs) (defBody s_SettingsFile_pairs) (defScope s_SettingsFile_pairs) .none kV28 dc28 pm28 an28 cd28 ct28), sl28⟩) (c28 : PySem.W.codeIn K cd28 "SettingsFile.pairs" = true) (k28 : PySem.W.keepIn K (.ref f28) = true)
    {f29 : Addr} {od29 an29 : Option Addr} {sl29 : Array (Option Value)} {oc29 kV29 dc29 pm29 cd29 ct29 : Value} (a29 : PySem.W.findIn K (.ref C0) "__len__" = some (some (.ref f29))) (i29 : PySem.W.isFn K (.ref f29) = true) (l29 : K.lookup f29 = some ⟨oc29, od29, .func (PySem.W.fnOf "__len__" "SettingsFile.__len__" (defArgs s_SettingsFile___len__) (defBody s_SettingsFile___len__) (defScope s_SettingsFile___len__) .none kV29 dc29 pm29 an29 cd29 ct29), sl29⟩) (c29 : PySem.W.codeIn K cd29 "SettingsFile.__len__" = true) (k29 : PySem.W.keepIn K (.ref f29) = true)
    {f30 : Addr} {od30 an30 : Option Addr} {sl30 : Array (Option Value)} {oc30 kV30 dc30 pm30 cd30 ct30 : Value} (a30 : PySem.W.findIn K (.ref C0) "__contains__" = some (some (.ref f30))) (i30 : PySem.W.isFn K (.ref f30) = true) (l30 : K.lookup f30 = some ⟨oc30, od30, .func (PySem.W.fnOf "__contains__" "SettingsFile.__contains__" (defArgs s_SettingsFile___contains__) (defBody s_SettingsFile___contains__) (defScope s_SettingsFile___contains__) .none kV30 dc30 pm30 an30 cd30 ct30), sl30⟩) (c30 : PySem.W.codeIn K cd30 "SettingsFile.__contains__" = true) (k30 : PySem.W.keepIn K (.ref f30) = true)
    {f31 : Addr} {od31 an31 : Option Addr} {sl31 : Array (Option Value)} {oc31 kV31 dc31 pm31 cd31 ct31 : Value} (a31 : PySem.W.findIn K (.ref C0) "__str__" = some (some (.ref f31))) (i31 : PySem.W.isFn K (.ref f31) = true) (l31 : K.lookup f31 = some ⟨oc31, od31, .func (PySem.W.fnOf "__str__" "SettingsFile.__str__" (defArgs s_SettingsFile___str__) (defBody s_SettingsFile___str__) (defScope s_SettingsFile___str__) .none kV31 dc31 pm31 an31 cd31 ct31), sl31⟩) (c31 : PySem.W.codeIn K cd31 "SettingsFile.__str__" = true) (k31 : PySem.W.keepIn K (.ref f31) = true)
    {t0 : Tok} (q0 : PySem.W.nsIn K mainGlobals "LONGEST_NAME" = some (some (.int 8 t0)))
    {t1 : Tok} (q1 : PySem.W.nsIn K mainGlobals "LETTERS" = some (some (.str "abcdefghijklmnopqrstuvwxyz" t1)))
    {t2 : Tok} (q2 : PySem.W.nsIn K mainGlobals "LONGEST_VALUE" = some (some (.int 12 t2)))
    {t3 : Tok} (q3 : PySem.W.nsIn K mainGlobals "DIGITS" = some (some (.str "0123456789" t3)))
    {t4 : Tok} (q4 : PySem.W.nsIn K mainGlobals "LONGEST_RELEASE" = some (some (.int 2 t4)))
    {t5 : Tok} (q5 : PySem.W.nsIn K mainGlobals "KEPT_MARK" = some (some (.str "#~" t5)))
    (z0 : PySem.W.nsIn K mainGlobals "len" = some none)
    (z1 : PySem.W.nsIn K mainGlobals "isinstance" = some none)
    (z2 : PySem.W.nsIn K mainGlobals "str" = some none)
    (z3 : PySem.W.nsIn K mainGlobals "all" = some none)
    (z4 : PySem.W.nsIn K mainGlobals "int" = some none)
    (z5 : PySem.W.nsIn K mainGlobals "enumerate" = some none)
    (z6 : PySem.W.nsIn K mainGlobals "abs" = some none)
    (z7 : PySem.W.nsIn K mainGlobals "list" = some none)
    (z8 : PySem.W.nsIn K mainGlobals "range" = some none)
    (z9 : PySem.W.nsIn K mainGlobals "bool" = some none)
    (z10 : PySem.W.nsIn K mainGlobals "max" = some none)
    (z11 : PySem.W.nsIn K mainGlobals "min" = some none) :
    ∃ fd : FuncData, (∀ (s : Shared) (v : Value), BindsTo s fd ⟨[v], []⟩ [("_law_script", v)]) ∧ ∀ base : Heap, K.In base → base.Ns mainGlobals mg → FnOk l.prog w K mg base CX0 9 fa fd ["_law_script"] (sp_law K) := by
  have e := hfa.symm.trans (PySem.W.mg_of X G a17)
  cases e
  exact ⟨_, fun s v => .of_eq rfl, fun base _ _ => ok_law (top_mk X G aC0 pg0 hd0 po0 sa0 mk0 kc0 nb0 na0_0 na0_1 na0_2 na0_3 na0_4 na0_5 na0_6 a0 l0 c0 k0 a1 l1 c1 k1 a2 l2 c2 k2 a3 l3 c3 k3 a4 l4 c4 k4 a5 l5 c5 k5 a6 l6 c6 k6 a7 l7 c7 k7 a8 l8 c8 k8 a9 l9 c9 k9 a10 l10 c10 k10 a11 l11 c11 k11 a12 l12 c12 k12 a13 l13 c13 k13 a14 l14 c14 k14 a15 l15 c15 k15 a16 l16 c16 k16 a17 l17 c17 k17 a18 i18 l18 c18 k18 a19 i19 l19 c19 k19 a20 i20 l20 c20 k20 a21 i21 l21 c21 k21 a22 i22 l22 c22 k22 a23 i23 l23 c23 k23 a24 pg_24 pt_24 pr_24 l24 c24 k24 a25 i25 l25 c25 k25 a26 i26 l26 c26 k26 a27 i27 l27 c27 k27 a28 i28 l28 c28 k28 a29 i29 l29 c29 k29 a30 i30 l30 c30 k30 a31 i31 l31 c31 k31 q0 q1 q2 q3 q4 q5 z0 z1 z2 z3 z4 z5 z6 z7 z8 z9 z10 z11)⟩
end K02
open PySem PySem.W PyProof.Rows
set_option maxHeartbeats 0 in
theorem PySem.Challenge.cw_settingsmerge_k02_files_read_holds : PySem.Challenge.rw_settingsmerge_k02_files_read.Holds := by
  w_on; o_law; k_head; (case hw => w_witness2)
  k_fill
  refine L2.walk_of (l := PySem.Challenge.rw_settingsmerge_k02_files_read) (n := 63) (k := 9) (x := "_law_script") (CX := fun _ => L2.CX0) (sp := fun w => K02.sp_law _) rfl (by decide) rfl ⟨rfl, by decide, by decide⟩ (fun w h Y => PySem.W.kIn_of Y) ?F (fun _ _ a ns hl _ hS => ⟨a, ns, rfl, hS, hl, fun _ => rfl⟩) (fun _ _ _ _ _ h => h)
  case F =>
    intro w mg fa h KX G hmg
    refine' K02.all_mk KX G hmg ?aC0 ?pg0 ?hd0 ?po0 ?sa0 ?mk0 ?kc0 ?nb0 ?na0_0 ?na0_1 ?na0_2 ?na0_3 ?na0_4 ?na0_5 ?na0_6 ?a0 ?l0 ?c0 ?k0 ?a1 ?l1 ?c1 ?k1 ?a2 ?l2 ?c2 ?k2 ?a3 ?l3 ?c3 ?k3 ?a4 ?l4 ?c4 ?k4 ?a5 ?l5 ?c5 ?k5 ?a6 ?l6 ?c6 ?k6 ?a7 ?l7 ?c7 ?k7 ?a8 ?l8 ?c8 ?k8 ?a9 ?l9 ?c9 ?k9 ?a10 ?l10 ?c10 ?k10 ?a11 ?l11 ?c11 ?k11 ?a12 ?l12 ?c12 ?k12 ?a13 ?l13 ?c13 ?k13 ?a14 ?l14 ?c14 ?k14 ?a15 ?l15 ?c15 ?k15 ?a16 ?l16 ?c16 ?k16 ?a17 ?l17 ?c17 ?k17 ?a18 ?i18 ?l18 ?c18 ?k18 ?a19 ?i19 ?l19 ?c19 ?k19 ?a20 ?i20 ?l20 ?c20 ?k20 ?a21 ?i21 ?l21 ?c21 ?k21 ?a22 ?i22 ?l22 ?c22 ?k22 ?a23 ?i23 ?l23 ?c23 ?k23 ?a24 ?pg_24 ?pt_24 ?pr_24 ?l24 ?c24 ?k24 ?a25 ?i25 ?l25 ?c25 ?k25 ?a26 ?i26 ?l26 ?c26 ?k26 ?a27 ?i27 ?l27 ?c27 ?k27 ?a28 ?i28 ?l28 ?c28 ?k28 ?a29 ?i29 ?l29 ?c29 ?k29 ?a30 ?i30 ?l30 ?c30 ?k30 ?a31 ?i31 ?l31 ?c31 ?k31 ?q0 ?q1 ?q2 ?q3 ?q4 ?q5 ?z0 ?z1 ?z2 ?z3 ?z4 ?z5 ?z6 ?z7 ?z8 ?z9 ?z10 ?z11
    (case aC0 => k_is); (case pg0 => k_is); (case hd0 => k_is); (case po0 => k_is); (case sa0 => k_is); (case mk0 => k_is); (case kc0 => k_is); (case nb0 => k_is); (case na0_0 => k_is); (case na0_1 => k_is); (case na0_2 => k_is); (case na0_3 => k_is); (case na0_4 => k_is); (case na0_5 => k_is); (case na0_6 => k_is); (case a0 => k_is); (case l0 => k_is); (case c0 => k_is); (case k0 => k_is); (case a1 => k_is); (case l1 => k_is); (case c1 => k_is); (case k1 => k_is); (case a2 => k_is); (case l2 => k_is); (case c2 => k_is); (case k2 => k_is); (case a3 => k_is); (case l3 => k_is); (case c3 => k_is); (case k3 => k_is); (case a4 => k_is); (case l4 => k_is); (case c4 => k_is); (case k4 => k_is); (case a5 => k_is); (case l5 => k_is); (case c5 => k_is); (case k5 => k_is); (case a6 => k_is); (case l6 => k_is); (case c6 => k_is); (case k6 => k_is); (case a7 => k_is); (case l7 => k_is); (case c7 => k_is); (case k7 => k_is); (case a8 => k_is); (case l8 => k_is); (case c8 => k_is); (case k8 => k_is); (case a9 => k_is); (case l9 => k_is); (case c9 => k_is); (case k9 => k_is); (case a10 => k_is); (case l10 => k_is); (case c10 => k_is); (case k10 => k_is); (case a11 => k_is); (case l11 => k_is); (case c11 => k_is); (case k11 => k_is); (case a12 => k_is); (case l12 => k_is); (case c12 => k_is); (case k12 => k_is); (case a13 => k_is); (case l13 => k_is); (case c13 => k_is); (case k13 => k_is); (case a14 => k_is); (case l14 => k_is); (case c14 => k_is); (case k14 => k_is); (case a15 => k_is); (case l15 => k_is); (case c15 => k_is); (case k15 => k_is); (case a16 => k_is); (case l16 => k_is); (case c16 => k_is); (case k16 => k_is); (case a17 => k_is); (case l17 => k_is); (case c17 => k_is); (case k17 => k_is); (case a18 => k_is); (case i18 => k_is); (case l18 => k_is); (case c18 => k_is); (case k18 => k_is); (case a19 => k_is); (case i19 => k_is); (case l19 => k_is); (case c19 => k_is); (case k19 => k_is); (case a20 => k_is); (case i20 => k_is); (case l20 => k_is); (case c20 => k_is); (case k20 => k_is); (case a21 => k_is); (case i21 => k_is); (case l21 => k_is); (case c21 => k_is); (case k21 => k_is); (case a22 => k_is); (case i22 => k_is); (case l22 => k_is); (case c22 => k_is); (case k22 => k_is); (case a23 => k_is); (case i23 => k_is); (case l23 => k_is); (case c23 => k_is); (case k23 => k_is); (case a24 => k_is); (case pg_24 => k_is); (case pt_24 => k_is); (case pr_24 => k_is); (case l24 => k_is); (case c24 => k_is); (case k24 => k_is); (case a25 => k_is); (case i25 => k_is); (case l25 => k_is); (case c25 => k_is); (case k25 => k_is); (case a26 => k_is); (case i26 => k_is); (case l26 => k_is); (case c26 => k_is); (case k26 => k_is); (case a27 => k_is); (case i27 => k_is); (case l27 => k_is); (case c27 => k_is); (case k27 => k_is); (case a28 => k_is); (case i28 => k_is); (case l28 => k_is); (case c28 => k_is); (case k28 => k_is); (case a29 => k_is); (case i29 => k_is); (case l29 => k_is); (case c29 => k_is); (case k29 => k_is); (case a30 => k_is); (case i30 => k_is); (case l30 => k_is); (case c30 => k_is); (case k30 => k_is); (case a31 => k_is); (case i31 => k_is); (case l31 => k_is); (case c31 => k_is); (case k31 => k_is); (case q0 => k_is); (case q1 => k_is); (case q2 => k_is); (case q3 => k_is); (case q4 => k_is); (case q5 => k_is); (case z0 => k_is); (case z1 => k_is); (case z2 => k_is); (case z3 => k_is); (case z4 => k_is); (case z5 => k_is); (case z6 => k_is); (case z7 => k_is); (case z8 => k_is); (case z9 => k_is); (case z10 => k_is); (case z11 => k_is)


