import PyProof.Rows.All
import Wide.All
import OpenK.AllK
import Wide.FinOn
import HandS.ForMost
import HandS.Walk
import HandS.IsInst
import HandS.Style
import PySem.Challenge.RW_settingsmerge_k01_names_places_values
set_option Elab.async false
set_option linter.all false
set_option maxRecDepth 100000
/-! words of my own over the hand layer: repr of data, a text times a number, calls by keywords alone, defs that may ask for a repr -/
namespace My
open PySem PySem.Spec PyProof.Rows L2
section
variable {X : Cx}
/-- repr(x), x any data, where no other repr is under way -/
theorem call_repr (hg : X.A.guards = some []) (hu : X.A.units + 64 < cLine) : CallR X (.builtin "repr") (fun xs H Q => ∃ x d, xs = [x] ∧ Dp X.K H x d ∧ d.showable = true ∧ d.hasDict = false ∧ d.depth ≤ 8 ∧ d.shown.length ≤ sizeLine ∧ Q (.str d.shown) H) := by
  intro pins s σ H xs us Q I rr h
  obtain ⟨x, d, rfl, hd, hs, hn, hp, hz, q⟩ := h
  obtain ⟨u, rfl, ru⟩ := vals1 rr
  obtain ⟨as, rd⟩ := Dp.reads I d x u hd ru
  cases hd with
  | non =>
    cases (show u = Value.none from ru)
    exact PySem.P.repr_of_none ⟨.str _, H, I.tok _, ⟨_, rfl⟩, q⟩
  | bl b =>
    cases (show u = Value.bool b from ru)
    refine PySem.P.repr_of_bool ⟨.str _, H, I.tok _, ⟨_, rfl⟩, ?_⟩
    have e : (PyData.bool b).shown = (if b then ("True" : Str) else "False") := by cases b <;> rfl
    rw [e] at q
    cases b <;> exact q
  | int i =>
    obtain ⟨t, rfl⟩ := (show ∃ t, u = Value.int i t from ru)
    exact PySem.P.repr_of_int (of_decide_eq_true (by simpa [PyData.showable] using hs)) ⟨.str _, H, I.tok _, ⟨_, rfl⟩, q⟩
  | str z =>
    obtain ⟨t, rfl⟩ := (show ∃ t, u = Value.str z t from ru)
    exact PySem.P.repr_of_str ⟨.str _, H, I.tok _, ⟨_, rfl⟩, q⟩ hz
  | @lst a xs ds hS hA =>
    cases (show u = Value.ref a from ru)
    exact repr_of_reads' rd hs (PyData.noDict_hsm hn) hg (by omega) (fun _ _ e => e) (fun h' u tk hk => ⟨.str _, H, I.kept hk, ⟨_, rfl⟩, q⟩) hz
  | @tup a xs ds hS hA =>
    cases (show u = Value.ref a from ru)
    exact repr_of_reads' rd hs (PyData.noDict_hsm hn) hg (by omega) (fun _ _ e => e) (fun h' u tk hk => ⟨.str _, H, I.kept hk, ⟨_, rfl⟩, q⟩) hz
/-- a text n times, n from 2 to 1000 -/
theorem op_mulS : OpR X (binaryOp .Mult) (fun x y H Q => ∃ (z : Str) (n : Int), x = .str z ∧ y = .int n ∧ 2 ≤ n ∧ n ≤ 1000 ∧ 1 ≤ z.length ∧ z.length ≤ 1000 ∧ PySem.Builtin.Str.tooLong (z.length * n.toNat) = false ∧
    (⟨(List.replicate n.toNat z.cps).foldl (· ++ ·) #[]⟩ : Str).length ≤ sizeLine ∧ Q (.str ⟨(List.replicate n.toNat z.cps).foldl (· ++ ·) #[]⟩) H) := by
  intro pins s σ H x y v u Q I rx ry h
  obtain ⟨z, n, rfl, rfl, h1, h2, h3, h4, h5, h6, q⟩ := h
  obtain ⟨t, rfl⟩ := (show ∃ t, v = Value.str z t from rx)
  obtain ⟨t', rfl⟩ := (show ∃ t, u = Value.int n t from ry)
  have e0 : ¬ n < 1 := by omega
  have e1 : (n == 1 || z.length == 0) = false := by
    rw [Bool.or_eq_false_iff]
    exact ⟨beq_eq_false_iff_ne.mpr (by omega), beq_eq_false_iff_ne.mpr (by omega)⟩
  refine PySem.P.mul_str (by
      rw [decide_eq_false (show ¬ n < -(2 ^ 63 : Int) by omega), decide_eq_false (show ¬ n ≥ 2 ^ 63 by omega)]; rfl) (fun _ _ => ?_) (fun _ _ => h5) ?_
  · have : (1000 : Int) ≤ (2 ^ 63 - 1) / n := by
      rw [Int.le_ediv_iff_mul_le (by omega)]
      omega
    omega
  · rw [if_neg e0, if_neg (by rw [e1]; exact Bool.false_ne_true)]
    exact ⟨h6, ⟨.str _, H, I.tok _, ⟨_, rfl⟩, q⟩⟩
end

/-! ### a list against the empty list -/
section
variable {X : Cx}
theorem isL {pins : List (Addr × Obj)} {σ : L2.St} {H : Hp} {s : Shared} {a : Addr} {xs : List V} (I : Inv X pins σ H s) (h : SqL X.K H a xs) : ∃ its : Array Value, its.size = xs.length ∧ s.heap.IsList a its := by
  obtain ⟨its, r, ⟨o, n, h1, h2, _, h4⟩, _⟩ := I.list h
  exact ⟨its.toArray, r.length.symm, o, h1, h2, n, h4⟩
theorem op_eqNil (hu : X.A.units < cLine) : OpR X (compareOp .Eq) (fun x y H Q => ∃ (a b : Addr) (xs : List V), x = .ref a ∧ y = .ref b ∧ SqL X.K H a xs ∧ SqL X.K H b [] ∧ Q (.bl xs.isEmpty) H) := by
  intro pins s σ H x y v u Q I rx ry h
  obtain ⟨a, b, xs, rfl, rfl, h1, h2, q⟩ := h
  cases (show v = Value.ref a from rx)
  cases (show u = Value.ref b from ry)
  obtain ⟨i1, z1, l1⟩ := isL I h1
  obtain ⟨i2, z2, l2⟩ := isL I h2
  cases xs with
  | nil =>
    have zz : i1.size = i2.size := by rw [z1, z2]
    refine PySem.SeqAt.eq_listAt (e := fun _ => true) l1 l2 zz hu (fun j h3 _ => ?_) ?_
    · rw [z1] at h3
      cases h3
    · rw [z1]
      exact ⟨.bl true, H, I, rfl, q⟩
  | cons y ys =>
    refine PySem.SeqAt.eq_list_lengthsAt l1 l2 ?_ hu ⟨.bl false, H, I, rfl, q⟩
    rw [z1, z2]
    rfl
end

/-! ### a call by keywords alone -/
/-- all parameters are given by name -/
def KB0 (K : PySem.W.Frag) (fd : FuncData) (ps : List Str) : Prop := ∀ (s : Shared) (ws : List Value), K.In s.heap → ws.length = ps.length → BindsTo s fd ⟨[], ps.zip ws⟩ (ps.zip ws)
def tCallK0 (sp : Sp) (tk : TA) : TE := fun σ H Q => tk σ H fun zs H1 => sp zs H1 Q E0
section
variable {X : Cx} {k : Nat} {f : Addr} {fd : FuncData} {ps : List Str} {sp : Sp} {x : Str} {p pos : Pos} {kws : List Keyword} {tk : TA}
theorem pe_callK0 (F : FnOk X.prog X.w X.K X.mg X.base CX0 k f fd ps sp) (hr : Room k X.A) (hg : Gl X x) (hm : X.mg x = some (.ref f)) (hk : PySem.W.keepIn X.K (.ref f) = true) (hb : KB0 X.K fd ps) (hkw : PK X kws tk)
    (hall : (backToKw pos (keywordEach kws X.env)).all (·.1.isSome) = true := by rfl) (hks : (backToKw pos (keywordEach kws X.env)).filterMap (·.1) = ps := by rfl) (hdb : (x == ("__debug__" : Str)) = false := by decide)
    (hpl : ((backTo pos (starEach [] X.env)).any (·.1) || (backToKw pos (keywordEach kws X.env)).any (·.1.isNone)) = false := by rfl) :
    PE X (.Call (.Name x p) [] kws pos) (tCallK0 sp tk) := by
  constructor
  intro pins s σ H Q I h
  apply wpAny_Call_Name_kw
  apply ld_glob I hg hm _ hdb
  apply PySem.W.callWith_KW0 (h₀ := X.base) I.ok.mod.kin hk hall _ hpl
  apply thn (hkw.run pos pins s σ H _ I h)
  rintro ws s2 ⟨zs, H2, I2, rz, q2⟩
  refine ⟨I2.kIn, ?_⟩
  have hl : ws.length = ps.length := rz.length.symm.trans (F.len _ _ _ _ q2)
  have go := F.run X.A X.stack s2 H2 ⟨[], ps.zip ws⟩ ws zs Q E0 hr I2.env0 (hb s2 ws I2.kIn hl) rz q2
  rw [hks]
  refine wpAny_call (codeAny_mono go fun r s' hq => ?_)
  match r, hq with
  | .error _, hq => exact False.elim hq
  | .ok (.ret _), hq => exact I2.after hq
  | .ok .next, hq => exact False.elim hq
  | .ok .brk, hq => exact False.elim hq
  | .ok .cont, hq => exact False.elim hq
end

/-! ### defs that may ask for a repr: no repr is under way -/
structure FnG (P : Program) (w : World) (K : PySem.W.Frag) (mg : Str → Option Value) (base : Heap) (k : Nat) (f : Addr) (fd : FuncData) (ps : List Str) (sp : Sp) : Prop where
  len : ∀ vs H Q E, sp vs H Q E → vs.length = ps.length
  run : ∀ (A : Around) (outer : List Env) (s : Shared) (H : Hp) (args : Args) (us : List Value) (vs : List V) (Q : VK) (E : XK), Room k A → A.guards = some [] → Env0 P w K mg base A outer s H →
    BindsTo s fd args (ps.zip us) → Vals vs us → sp vs H Q E → codeAny (model P w) A (.call (.ref f) args) (CR CX0 outer P w H s Q E) s
section
variable {P : Program} {w : World} {K : PySem.W.Frag} {mg : Str → Option Value} {base : Heap}
theorem Fun.okG {x qual : Str} {st : Stmt} {f : Addr} {fd : FuncData} {N ps : List Str} {k : Nat} {sp : Sp} (F : Fun K x qual st f fd) (S : FnScope N ps (defScope st)) (len : ∀ vs H Q E, sp vs H Q E → vs.length = ps.length)
    (hbody : ∀ (cdv : Value) (A : Around) (outer : List Env) (s : Shared) (H : Hp) (vs : List V) (Q : VK) (E : XK), Room k (A.deeper (envOfC qual (defScope st) s.heap.objs.size f cdv)) → A.guards = some [] → sp vs H Q E →
      ∃ t, PSs (cxOf CX0 P w K mg base N qual (defScope st) f cdv A outer s H E).nox (defBody st) t ∧ t { nx := fun _ H' => Q .non H', rt := Q } (start N vs) H) : FnG P w K mg base (k + 1) f fd ps sp := by
  obtain ⟨c0, d0, v0, e0, p0, n0, cv, t0, l0, rfl, hl0, hc0⟩ := F.ex
  constructor
  · exact len
  intro A outer s H args us vs Q E hr hgd en hb rv hsp
  have hlen := len _ _ _ _ hsp
  have hkept : ∀ b o, base.get? b = some o → s.heap.get? b = some o := fun b o e => (en.bs b o e).1
  have hK : K.In s.heap := en.mod.kin.keeps hkept
  have hlim : s.heap.NoLimit := en.mod.nolimit.keeps hkept
  have hpar : ∀ y ∈ ps.zip us, (defScope st).names.lookup y.1 = some .local ∨ ((defScope st).names.lookup y.1 = some .cell ∧ ((cellsFrom (s.heap.objs.size + 1) (defScope st).names []).lookup y.1).isSome = true) := by
    rintro ⟨n, v⟩ hy
    rcases S.par n (List.of_mem_zip hy).1 with q | q
    · exact Or.inl q
    · exact Or.inr ⟨q, PySem.W.cellsFrom_some _ _ _ (Or.inl q)⟩
  apply codeAny_call_function hr.depth (hK _ _ hl0) rfl S.co S.gen rfl (PySem.W.codeRec_of hK hc0)
  apply hb
  apply wpAny_newFunctionEnv_cells S.kind hpar
  rintro env he s1 inC
  subst he
  refine ⟨hlim.keeps inC.toInCall.keep, codeAny_func ?_⟩
  obtain ⟨t, ht, hq⟩ := hbody cv A outer s H vs Q E (hr.deeper _) hgd hsp
  have I := inv_start (CX := CX0) (E := E) S hr.hd en hlen rv inC
  refine wpAny_mono (ht.nox.run [] s1 (start N vs) H _ I hq) ?_ (fun _ _ z => z)
  intro fl s' hs
  match fl, hs with
  | .ret u, ⟨v, σ', H', J, r2, q⟩ => exact ⟨v, H', J.os, J.bare, J.base, J.hok, r2, q⟩
  | .next, ⟨σ', H', J, q⟩ => exact ⟨V.non, H', J.os, J.bare, J.base, J.hok, rfl, q⟩
  | .brk, ⟨_, _, _, q⟩ => exact False.elim q
  | .cont, ⟨_, _, _, q⟩ => exact False.elim q
end
section
variable {X : Cx} {k : Nat} {f : Addr} {fd : FuncData} {ps : List Str} {sp : Sp} {x : Str} {p pos : Pos} {e : Expr} {es : List Expr} {t : TA}
/-- f(e, ..) of such a def -/
theorem pe_callG (F : FnG X.prog X.w X.K X.mg X.base k f fd ps sp) (hgd : X.A.guards = some []) (hr : Room k X.A) (hg : Gl X x) (hm : X.mg x = some (.ref f)) (hk : PySem.W.keepIn X.K (.ref f) = true) (hb : Binds X.K fd ps []) (ha : PA X (e :: es) t)
    (hdb : (x == ("__debug__" : Str)) = false := by decide) (he : starEach (e :: es) X.env = (false, eval e X.env) :: starEach es X.env := by rfl) (hpl : (backTo pos (starEach es X.env)).any (·.1) = false := by rfl) :
    PE X (.Call (.Name x p) (e :: es) [] pos) (tCall sp [] E0 t) := by
  constructor
  intro pins s σ H Q I h
  apply wpAny_Call_Name_kw
  apply ld_glob I hg hm _ hdb
  refine PySem.W.callWith_K (h₀ := X.base) I.ok.mod.kin hk ?_ he hpl
  apply thn (ha.run pos pins s σ H _ I h)
  rintro us s1 ⟨vs, H1, I1, r, q⟩
  refine ⟨I1.kIn, ?_⟩
  have r2 : Vals (vs ++ []) (us ++ []) := r.append .nil
  have hl : (us ++ []).length = ps.length := by rw [← r2.length]; exact F.len _ _ _ _ q
  have go := F.run X.A X.stack s1 H1 ⟨us, []⟩ (us ++ []) (vs ++ []) Q E0 hr hgd I1.env0 (hb s1 us I1.kIn hl) r2 q
  refine wpAny_call (codeAny_mono go fun r s' hq => ?_)
  match r, hq with
  | .error _, hq => exact False.elim hq
  | .ok (.ret _), hq => exact I1.after hq
  | .ok .next, hq => exact False.elim hq
  | .ok .brk, hq => exact False.elim hq
  | .ok .cont, hq => exact False.elim hq
end

/-! ### the end of a law whose def may ask for a repr -/
section
variable {P : Program} {w : World} {K : PySem.W.Frag} {mg mb : Str → Option Value} {k : Nat} {fa a : Addr} {fd : FuncData} {x : Str} {sp : Sp} {s₁ : Shared} {vs : List Value} {ns : List Int} {H : Hp}
/-- what is tracked is the script at most: the state at the law's call -/
theorem env_law (KX : K.In s₁.heap) (hns : s₁.heap.Ns mainGlobals mg) (hb : s₁.heap.Ns builtinsNs mb) (hbb : ∀ x : Str, x ≠ "__name__" → mb x = bootBuiltins x) (hlim : s₁.heap.NoLimit) (hg : s₁.gens = #[])
    (ha : s₁.heap.get? a = some { cls := .type "list", data := .seq vs.toArray }) (hA : ∀ b, H b ≠ none → b = a) (hK : H a ≠ none → K.lookup a = none) (hok : HOk P w H s₁.heap) :
    K.In (hidT s₁.heap H) ∧ (hidT s₁.heap H).Ns mainGlobals mg ∧ Env0 P w K mg (hidT s₁.heap H) callerA [] s₁ H := by
  have free : ∀ {b : Addr} {o : Obj}, s₁.heap.get? b = some o → (∀ es ep, o.data = .dict es ep → False) ∨ H b = none := by
    intro b o e
    by_cases hb : H b = none
    · exact Or.inr hb
    · left
      intro es ep hd
      have := hA b hb
      subst this
      rw [ha] at e
      cases e
      cases hd
  have nsOf : ∀ {b : Addr} {m : Str → Option Value}, s₁.heap.Ns b m → (hidT s₁.heap H).Ns b m := by
    rintro b m ⟨o, es, ep, e, hd, rest⟩
    rcases free e with z | z
    · exact (z es ep hd).elim
    · exact ⟨o, es, ep, hidT_get e z, hd, rest⟩
  have kIn : K.In (hidT s₁.heap H) := by
    intro b o e
    refine hidT_get (KX b o e) ?_
    by_cases hb : H b = none
    · exact hb
    · have := hA b hb
      subst this
      rw [hK hb] at e
      cases e
  have md : Mod K mg (hidT s₁.heap H) := by
    obtain ⟨mc, h1, h2⟩ := hlim
    exact ⟨kIn, nsOf hns, ⟨mb, nsOf hb, hbb⟩, ⟨mc, nsOf h1, h2⟩⟩
  refine ⟨kIn, nsOf hns, ⟨rfl, md, fun b o e => of_hidT e, Nat.le_of_eq (hidT_size _ _), trivial, ?_, hok, .of_eq hg⟩⟩
  intro b z
  cases (show b ∈ ([] : List Addr) from z)
/-- the law's own call -/
theorem law_callG (KX : K.In s₁.heap) (hns : s₁.heap.Ns mainGlobals mg) (hb : s₁.heap.Ns builtinsNs mb) (hbb : ∀ x : Str, x ≠ "__name__" → mb x = bootBuiltins x) (hlim : s₁.heap.NoLimit) (hg : s₁.gens = #[])
    (ha : s₁.heap.get? a = some { cls := .type "list", data := .seq vs.toArray }) (hi : IntsAre vs ns) (hl : ns.length ≤ sizeLine) (hr : Room k callerA)
    (F : ∀ base : Heap, K.In base → base.Ns mainGlobals mg → FnG P w K mg base k fa fd [x] sp) (hbind : ∀ (s : Shared) (u : Value), BindsTo s fd ⟨[u], []⟩ [(x, u)])
    (hsp : ∀ H : Hp, Only H → SqL K H a (ns.map V.int) → sp [.ref a] H (fun v _ => v = .bl true) fun _ _ _ => False) :
    codeAny (model P w) callerA (.call (.ref fa) ⟨[.ref a], []⟩) (fun r s' => r = .ok (.ret (.bool true)) ∧ OldK s₁.heap s'.heap ∧ s'.os = s₁.os ∧ AllBare s'.gens) s₁ := by
  have main : ∀ H : Hp, Only H → SqL K H a (ns.map V.int) → HOk P w H s₁.heap → (∀ b, H b ≠ none → b = a) → (H a ≠ none → K.lookup a = none) →
      codeAny (model P w) callerA (.call (.ref fa) ⟨[.ref a], []⟩) (fun r s' => r = .ok (.ret (.bool true)) ∧ OldK s₁.heap s'.heap ∧ s'.os = s₁.os ∧ AllBare s'.gens) s₁ := by
    intro H only seq hok hA hK
    obtain ⟨k1, k2, en⟩ := env_law KX hns hb hbb hlim hg ha hA hK hok
    have go := (F _ k1 k2).run callerA [] s₁ H ⟨[.ref a], []⟩ [.ref a] [.ref a] (fun v _ => v = .bl true) (fun _ _ _ => False) hr rfl en (hbind s₁ (.ref a)) (.cons rfl .nil) (hsp H only seq)
    refine codeAny_mono go fun r s' hq => ?_
    match r, hq with
    | .error _, hq => exact False.elim hq
    | .ok .next, hq => exact False.elim hq
    | .ok .brk, hq => exact False.elim hq
    | .ok .cont, hq => exact False.elim hq
    | .ok (.ret u), ⟨v, H', os, bare, un, hok', ru, ev⟩ =>
      have ev' : v = .bl true := ev
      subst ev'
      have eu : u = Value.bool true := ru
      subst eu
      refine ⟨rfl, OldK.of_keep ?_, os, bare⟩
      intro b o e
      rcases only b with z | ⟨ob, xs, z⟩
      · exact un.keep b o e z (by intro z2; cases (show b ∈ ([] : List Addr) from z2)) (by intro z2; cases z2)
      · have after := (hok' b _ (un.frzs b ob _ z)).1
        have ahead := (hok b _ z).1
        rw [e] at ahead
        cases ahead
        exact after
  have rv := vals_ints hi
  cases hk : K.lookup a with
  | some o =>
    have e := KX a o hk
    rw [ha] at e
    cases e
    refine main (fun _ => none) (fun _ => Or.inl rfl) (Or.inr ⟨_, vs.toArray, _, hk, rfl, rfl, rfl, ?_, ?_⟩) ?_ (fun b z => absurd rfl z) (fun z => absurd rfl z)
    · rw [List.size_toArray, hi.length]
      exact hl
    · simpa using rv
    · intro b u z
      cases (show (none : Option HO) = some u from z)
  | none =>
    let H0 : Hp := fun b => if b = a then some (.frz { cls := .type "list", data := .seq vs.toArray } (.lst (ns.map V.int))) else none
    have at0 : H0 a = some (.frz { cls := .type "list", data := .seq vs.toArray } (.lst (ns.map V.int))) := if_pos rfl
    have off : ∀ b, b ≠ a → H0 b = none := fun b h => if_neg h
    refine main H0 ?_ (Or.inl (Or.inr ⟨_, at0⟩)) ?_ ?_ (fun _ => hk)
    · intro b
      by_cases h : b = a
      · subst h
        exact Or.inr ⟨_, _, at0⟩
      · exact Or.inl (off b h)
    · intro b u z
      by_cases h : b = a
      · subst h
        rw [at0] at z
        cases z
        refine ⟨ha, ?_, vs, _, rv, ha⟩
        rw [List.length_map]
        exact hl
      · rw [off b h] at z
        cases z
    · intro b z
      by_cases h : b = a
      · exact h
      · exact absurd (off b h) z
end
/-- the goal that the head leaves, by the law's promise -/
theorem walk_ofG {l : PySem.W.OpenLaw} {n k : Nat} {q : Program} {loose : List Str} {XP : (Str → Option Value) → Heap → Prop} {YP : World → Heap → Prop} {d : DefRec} {K : Params → PySem.W.Frag} {sp : World → Sp} {x : Str}
    (hn : l.most = some n) (hn2 : n ≤ sizeLine) (hdf : d.params.defaults = []) (hr : Room k callerA) (hY : ∀ (w : World) (h : Heap), YP w h → (K w.params).In h)
    (F : ∀ (w : World) (mg : Str → Option Value) (fa : Addr) (h : Heap), (K w.params).In h → h.Ns mainGlobals mg → mg d.name = some (.ref fa) →
      ∃ fd : FuncData, (∀ (s : Shared) (u : Value), BindsTo s fd ⟨[u], []⟩ [(x, u)]) ∧ ∀ base : Heap, (K w.params).In base → base.Ns mainGlobals mg → FnG l.prog w (K w.params) mg base k fa fd [x] (sp w))
    (hsp : ∀ (w : World) (H : Hp) (a : Addr) (ns : List Int), ns.length ≤ n → Only H → SqL (K w.params) H a (ns.map V.int) → sp w [.ref a] H (fun v _ => v = .bl true) fun _ _ _ => False) :
    PySem.W.WalkO q loose XP YP l.row.toRowW d [] (fun f vs => PySem.call f vs) := by
  apply Att.attach_call hn hdf
  intro w s₀ s₁ mg mb fa o pm cd doc a vs ns G Y ho hd hcd hmg hobj hints hlen hgens
  obtain ⟨fd, hb, hF⟩ := F w mg fa _ (hY w _ Y) G.T.g hmg
  exact law_callG (hY w _ Y) G.T.g G.T.b G.T.builtins G.T.nolimit hgens hobj hints (Nat.le_trans hlen hn2) hr hF hb (fun H h1 h2 => hsp w H a ns hlen h1 h2)
end My
set_option Elab.async false
set_option linter.all false
set_option maxRecDepth 100000
namespace K01
open PySem PySem.Spec PyProof.Rows L2 My
/-! ### the text -/
def topS (i : Nat) : Stmt := PySem.Challenge.pw_settingsmerge_k01_names_places_values.main.body.getD i (.Pass ⟨0, 0, 0, 0⟩)
abbrev s_is_made_of : Stmt := topS 5
abbrev N_is_made_of : List Str := ["thing", "characters", "most", "character"]
theorem scis_made_of : FnScope N_is_made_of ["thing", "characters", "most"] (defScope s_is_made_of) := ⟨rfl, rfl, rfl, by decide +kernel, rfl, by decide +kernel, by decide +kernel⟩
abbrev s_is_name : Stmt := topS 6
abbrev N_is_name : List Str := ["thing"]
theorem scis_name : FnScope N_is_name ["thing"] (defScope s_is_name) := ⟨rfl, rfl, rfl, by decide +kernel, rfl, by decide +kernel, by decide +kernel⟩
abbrev s_is_place : Stmt := topS 7
abbrev N_is_place : List Str := ["thing", "section", "dot", "key"]
theorem scis_place : FnScope N_is_place ["thing"] (defScope s_is_place) := ⟨rfl, rfl, rfl, by decide +kernel, rfl, by decide +kernel, by decide +kernel⟩
abbrev s_is_value : Stmt := topS 8
abbrev N_is_value : List Str := ["thing"]
theorem scis_value : FnScope N_is_value ["thing"] (defScope s_is_value) := ⟨rfl, rfl, rfl, by decide +kernel, rfl, by decide +kernel, by decide +kernel⟩
abbrev s_L_bag : Stmt := topS 10
abbrev N_L_bag : List Str := ["_law_script", "_law_at", "_law_cell", "_law_blend", "_law_k", "_law_each"]
theorem scL_bag : FnScope N_L_bag ["_law_script", "_law_at"] (defScope s_L_bag) := ⟨rfl, rfl, rfl, by decide +kernel, rfl, by decide +kernel, by decide +kernel⟩
abbrev s_L_take : Stmt := topS 11
abbrev N_L_take : List Str := ["_law_bag_here", "_law_many", "_law_digit"]
theorem scL_take : FnScope N_L_take ["_law_bag_here", "_law_many"] (defScope s_L_take) := ⟨rfl, rfl, rfl, by decide +kernel, rfl, by decide +kernel, by decide +kernel⟩
abbrev s_L_of : Stmt := topS 12
abbrev N_L_of : List Str := ["_law_bag_here", "_law_some"]
theorem scL_of : FnScope N_L_of ["_law_bag_here", "_law_some"] (defScope s_L_of) := ⟨rfl, rfl, rfl, by decide +kernel, rfl, by decide +kernel, by decide +kernel⟩
abbrev s_L_is_word : Stmt := topS 13
abbrev N_L_is_word : List Str := ["_law_what", "_law_sign"]
theorem scL_is_word : FnScope N_L_is_word ["_law_what"] (defScope s_L_is_word) := ⟨rfl, rfl, rfl, by decide +kernel, rfl, by decide +kernel, by decide +kernel⟩
abbrev s_L_due : Stmt := topS 14
abbrev N_L_due : List Str := ["_law_what", "_law_parts", "_law_place", "_law_wrong", "_law_sign"]
theorem scL_due : FnScope N_L_due ["_law_what"] (defScope s_L_due) := ⟨rfl, rfl, rfl, by decide +kernel, rfl, by decide +kernel, by decide +kernel⟩
abbrev s_L_text : Stmt := topS 15
abbrev N_L_text : List Str := ["_law_bag_here", "_law_most", "_law_signs", "_law_turn"]
theorem scL_text : FnScope N_L_text ["_law_bag_here", "_law_most"] (defScope s_L_text) := ⟨rfl, rfl, rfl, by decide +kernel, rfl, by decide +kernel, by decide +kernel⟩
abbrev s_L_near : Stmt := topS 16
abbrev N_L_near : List Str := ["_law_bag_here", "_law_letters", "_law_lasts", "_law_digits", "_law_text_here", "_law_at", "_law_sign", "_law_way", "_law_turn"]
theorem scL_near : FnScope N_L_near ["_law_bag_here"] (defScope s_L_near) := ⟨rfl, rfl, rfl, by decide +kernel, rfl, by decide +kernel, by decide +kernel⟩
abbrev s_L_thing : Stmt := topS 17
abbrev N_L_thing : List Str := ["_law_bag_here", "_law_way", "_law_text_here", "_law_some"]
theorem scL_thing : FnScope N_L_thing ["_law_bag_here"] (defScope s_L_thing) := ⟨rfl, rfl, rfl, by decide +kernel, rfl, by decide +kernel, by decide +kernel⟩
abbrev s_L_alike : Stmt := topS 18
abbrev N_L_alike : List Str := ["_law_what", "_law_due_here", "_law_told", "_law_again"]
theorem scL_alike : FnScope N_L_alike ["_law_what", "_law_due_here"] (defScope s_L_alike) := ⟨rfl, rfl, rfl, by decide +kernel, rfl, by decide +kernel, by decide +kernel⟩
abbrev s_law : Stmt := topS 19
abbrev N_law : List Str := ["_law_script", "_law_at", "_law_bag_here", "_law_turn", "_law_one", "_law_shown", "_law_some"]
theorem sclaw : FnScope N_law ["_law_script"] (defScope s_law) := ⟨rfl, rfl, rfl, by decide +kernel, rfl, by decide +kernel, by decide +kernel⟩
/-! ### what the top has written -/
structure Top (K : PySem.W.Frag) (mg : Str → Option Value) where
  f_is_made_of : Addr
  d_is_made_of : FuncData
  F_is_made_of : Fun K "is_made_of" "is_made_of" s_is_made_of f_is_made_of d_is_made_of
  g_is_made_of : mg "is_made_of" = some (.ref f_is_made_of)
  b_is_made_of : Binds K d_is_made_of ["thing", "characters", "most"] []
  f_is_name : Addr
  d_is_name : FuncData
  F_is_name : Fun K "is_name" "is_name" s_is_name f_is_name d_is_name
  g_is_name : mg "is_name" = some (.ref f_is_name)
  b_is_name : Binds K d_is_name ["thing"] []
  kb_is_name : KB0 K d_is_name ["thing"]
  f_is_place : Addr
  d_is_place : FuncData
  F_is_place : Fun K "is_place" "is_place" s_is_place f_is_place d_is_place
  g_is_place : mg "is_place" = some (.ref f_is_place)
  b_is_place : Binds K d_is_place ["thing"] []
  kb_is_place : KB0 K d_is_place ["thing"]
  f_is_value : Addr
  d_is_value : FuncData
  F_is_value : Fun K "is_value" "is_value" s_is_value f_is_value d_is_value
  g_is_value : mg "is_value" = some (.ref f_is_value)
  b_is_value : Binds K d_is_value ["thing"] []
  kb_is_value : KB0 K d_is_value ["thing"]
  f__law_bag : Addr
  d__law_bag : FuncData
  F__law_bag : Fun K "_law_bag" "_law_bag" s_L_bag f__law_bag d__law_bag
  g__law_bag : mg "_law_bag" = some (.ref f__law_bag)
  b__law_bag : Binds K d__law_bag ["_law_script", "_law_at"] []
  f__law_take : Addr
  d__law_take : FuncData
  F__law_take : Fun K "_law_take" "_law_take" s_L_take f__law_take d__law_take
  g__law_take : mg "_law_take" = some (.ref f__law_take)
  b__law_take : Binds K d__law_take ["_law_bag_here", "_law_many"] []
  f__law_of : Addr
  d__law_of : FuncData
  F__law_of : Fun K "_law_of" "_law_of" s_L_of f__law_of d__law_of
  g__law_of : mg "_law_of" = some (.ref f__law_of)
  b__law_of : Binds K d__law_of ["_law_bag_here", "_law_some"] []
  f__law_is_word : Addr
  d__law_is_word : FuncData
  F__law_is_word : Fun K "_law_is_word" "_law_is_word" s_L_is_word f__law_is_word d__law_is_word
  g__law_is_word : mg "_law_is_word" = some (.ref f__law_is_word)
  b__law_is_word : Binds K d__law_is_word ["_law_what"] []
  f__law_due : Addr
  d__law_due : FuncData
  F__law_due : Fun K "_law_due" "_law_due" s_L_due f__law_due d__law_due
  g__law_due : mg "_law_due" = some (.ref f__law_due)
  b__law_due : Binds K d__law_due ["_law_what"] []
  f__law_text : Addr
  d__law_text : FuncData
  F__law_text : Fun K "_law_text" "_law_text" s_L_text f__law_text d__law_text
  g__law_text : mg "_law_text" = some (.ref f__law_text)
  b__law_text : Binds K d__law_text ["_law_bag_here", "_law_most"] []
  f__law_near : Addr
  d__law_near : FuncData
  F__law_near : Fun K "_law_near" "_law_near" s_L_near f__law_near d__law_near
  g__law_near : mg "_law_near" = some (.ref f__law_near)
  b__law_near : Binds K d__law_near ["_law_bag_here"] []
  f__law_thing : Addr
  d__law_thing : FuncData
  F__law_thing : Fun K "_law_thing" "_law_thing" s_L_thing f__law_thing d__law_thing
  g__law_thing : mg "_law_thing" = some (.ref f__law_thing)
  b__law_thing : Binds K d__law_thing ["_law_bag_here"] []
  f__law_alike : Addr
  d__law_alike : FuncData
  F__law_alike : Fun K "_law_alike" "_law_alike" s_L_alike f__law_alike d__law_alike
  g__law_alike : mg "_law_alike" = some (.ref f__law_alike)
  b__law_alike : Binds K d__law_alike ["_law_what", "_law_due_here"] []
  f_law : Addr
  d_law : FuncData
  F_law : Fun K "law" "law" s_law f_law d_law
  g_law : mg "law" = some (.ref f_law)
  b_law : Binds K d_law ["_law_script"] []
  t_LONGEST_NAME : Tok
  g_LONGEST_NAME : mg "LONGEST_NAME" = some (.int 8 t_LONGEST_NAME)
  t_LETTERS : Tok
  g_LETTERS : mg "LETTERS" = some (.str "abcdefghijklmnopqrstuvwxyz" t_LETTERS)
  t_LONGEST_VALUE : Tok
  g_LONGEST_VALUE : mg "LONGEST_VALUE" = some (.int 12 t_LONGEST_VALUE)
  t_DIGITS : Tok
  g_DIGITS : mg "DIGITS" = some (.str "0123456789" t_DIGITS)
  m_len : mg "len" = none
  m_isinstance : mg "isinstance" = none
  m_str : mg "str" = none
  m_all : mg "all" = none
  m_enumerate : mg "enumerate" = none
  m_int : mg "int" = none
  m_abs : mg "abs" = none
  m_range : mg "range" = none
  m_repr : mg "repr" = none
  m_max : mg "max" = none
  m_min : mg "min" = none
end K01

set_option Elab.async false
set_option linter.all false
set_option maxRecDepth 100000
namespace K01
open PySem PySem.Spec PyProof.Rows L2 My
section
variable {P : Program} {w : World} {K : PySem.W.Frag} {mg : Str → Option Value} {base : Heap}
/-! ### the draws -/
/-- the law's bag of numbers -/
def Bag (H : Hp) (b : Addr) : Prop := ∃ n m : Int, H b = some (.lst [.int n, .int m]) ∧ 0 ≤ n ∧ 0 ≤ m ∧ m < 2147483648
/-- only the bag may have changed -/
def Kept (b : Addr) (H H' : Hp) : Prop := ∀ x o, x ≠ b → H x = some o → H' x = some o
def sp_L_take (K : PySem.W.Frag) : Sp := fun vs H Q _ => ∃ (b : Addr) (many : Int), vs = [.ref b, .int many] ∧ Bag H b ∧ 0 < many ∧ many ≤ 1000 ∧
  ∀ (d n m : Int), 0 ≤ d → d < many → 0 ≤ n → 0 ≤ m → m < 2147483648 → Q (.int d) (upd H b (.lst [.int n, .int m]))
theorem ok_L_take (T : Top K mg) : FnOk P w K mg base CX0 1 T.f__law_take T.d__law_take ["_law_bag_here", "_law_many"] (sp_L_take K) := by
  refine T.F__law_take.ok scL_take (fun vs H Q E h => ?_) (fun cdv A outer s H vs Q E hr h => ?_)
  · obtain ⟨b, many, rfl, _⟩ := h
    rfl
  · obtain ⟨b, many, rfl, ⟨n, m, hb, n0, m0, m1⟩, p0, p1, q⟩ := h
    refine ⟨_, (pss_cons (ps_if (pt_cmpR op_gt (pe_ix ix_list (pv 0) pe_int (fun _ _ => rfl)) pe_int (nomark _)) (pss_cons (ps_set (i := 2) scL_take.nd rfl (.inl rfl) (pe_op op_mod (pe_callTy call_int1 (by rfl) T.m_int (by decide +kernel) (pa_cons (pe_ix ix_list (pv 0) pe_int (fun _ _ => rfl)) pa_nil)) (pv 1)))
      (pss_cons (ps_asg (pe_op op_fdiv (pe_ix ix_list (pv 0) pe_int (fun _ _ => rfl)) (pv 1)) (pg_sub (pv 0) pe_int set_list))
      (pss_one (ps_ret (pv 2))))) pss_nil)
      (pss_cons (ps_asg (pe_op op_mod (pe_callTy call_int1 (by rfl) T.m_int (by decide +kernel) (pa_cons (pe_op op_add (pe_op op_mul (pe_ix ix_list (pv 0) pe_int (fun _ _ => rfl)) pe_int) pe_int) pa_nil)) pe_int) (pg_sub (pv 0) pe_int set_list))
      (pss_one (ps_ret (pe_op op_mod (pe_op op_fdiv (pe_op op_mod (pe_callTy call_int1 (by rfl) T.m_int (by decide +kernel) (pa_cons (pe_op op_mul (pe_op op_fdiv (pe_ix ix_list (pv 0) pe_int (fun _ _ => rfl)) pe_int) pe_int) pa_nil)) pe_int) pe_int) (pv 1)))))), ?_⟩
    refine ⟨.ref b, rfl, b, _, 0, .int n, rfl, rfl, SqL.of hb, atI_nat (j := 0) rfl, n, 0, rfl, rfl, _, rfl, ite2 (fun e => ?_) (fun e => ?_)⟩
    · refine ⟨.ref b, rfl, b, _, 0, .int n, rfl, rfl, SqL.of hb, atI_nat (j := 0) rfl, .inl ⟨n, rfl, .int many, rfl, n, many, rfl, rfl, p0, ?_⟩⟩
      refine ⟨.ref b, rfl, b, _, 0, .int n, rfl, rfl, SqL.of hb, atI_nat (j := 0) rfl, .int many, rfl, n, many, rfl, rfl, ⟨p0, by omega⟩, ?_⟩
      refine ⟨.ref b, rfl, b, _, 0, 0, rfl, rfl, hb, rfl, ?_⟩
      refine ⟨.int (n % many), rfl, ?_⟩
      exact q _ _ _ (Int.emod_nonneg _ (by omega)) (Int.emod_lt_of_pos _ p0) (Int.ediv_nonneg n0 (by omega)) m0 m1
    · refine ⟨.ref b, rfl, b, _, 1, .int m, rfl, rfl, SqL.of hb, atI_nat (j := 1) rfl, m, 40692, rfl, rfl, .inl ⟨by omega, by omega⟩, _, 2909, rfl, rfl, .inl ⟨_, rfl, _, 2147483399, rfl, rfl, (show (0 : Int) < 2147483399 by decide), ?_⟩⟩
      refine ⟨.ref b, rfl, b, _, 1, 1, rfl, rfl, hb, rfl, ?_⟩
      obtain ⟨m2, hm⟩ : ∃ m2, m2 = (m * 40692 + 2909) % 2147483399 := ⟨_, rfl⟩
      have a0 : 0 ≤ m2 := by rw [hm]; exact Int.emod_nonneg _ (by decide)
      have a1 : m2 < 2147483399 := by rw [hm]; exact Int.emod_lt_of_pos _ (by decide)
      refine ⟨.ref b, rfl, b, _, 1, .int m2, rfl, rfl, SqL.of upd_same, atI_nat (j := 1) (by rw [hm]; rfl), m2, 7, rfl, rfl, ⟨by decide, by decide⟩, _, 69621, rfl, rfl, .inl ⟨by omega, by omega⟩,
        .inl ⟨_, rfl, _, 2147483587, rfl, rfl, (show (0 : Int) < 2147483587 by decide), _, 64, rfl, rfl, ⟨by decide, by decide⟩, .int many, rfl, _, many, rfl, rfl, p0, ?_⟩⟩
      have z := q (m2 / 7 * 69621 % 2147483587 / 64 % many) n m2 (Int.emod_nonneg _ (by omega)) (Int.emod_lt_of_pos _ p0) n0 a0 (by omega)
      rw [hm] at z ⊢
      exact z
end
end K01

set_option Elab.async false
set_option linter.all false
set_option maxRecDepth 100000
namespace K01
open PySem PySem.Spec PyProof.Rows L2 My
/-- two ways that go on alike -/
theorem ite_via {c A B C : Prop} [Decidable c] (ha : c → C → A) (hb : ¬ c → C → B) (h : C) : if c then A else B := by
  by_cases e : c
  · rw [if_pos e]; exact ha e h
  · rw [if_neg e]; exact hb e h
theorem same_new {H : Hp} {p : Addr} {o : HO} (h : H p = none) : Same H (upd H p o) := fun b x e => by
  rw [upd_ne (ne_of_none e h)]
  exact e
theorem Bag.same {H H' : Hp} {b : Addr} (h : Bag H b) (s : Same H H') : Bag H' b := by
  obtain ⟨n, m, e, r⟩ := h
  exact ⟨n, m, s _ _ e, r⟩
theorem cut_ints (ns : List Int) (lo hi : Option Int) : ∃ ms : List Int, cutV (ns.map V.int) lo hi = ms.map V.int ∧ ms.length ≤ ns.length := by
  refine ⟨(ns.drop (HT.sIx ns.length 0 lo)).take (HT.sIx ns.length ns.length hi - HT.sIx ns.length 0 lo), ?_, ?_⟩
  · unfold cutV
    rw [List.length_map, List.map_take, List.map_drop]
  · rw [List.length_take, List.length_drop]
    omega
section
variable {P : Program} {w : World} {K : PySem.W.Frag} {mg : Str → Option Value} {base : Heap}
def sp_L_of (K : PySem.W.Frag) : Sp := fun vs H Q _ => ∃ (b l : Addr) (xs : List V), vs = [.ref b, .ref l] ∧ Bag H b ∧ H l = some (.lst xs) ∧ l ≠ b ∧ xs ≠ [] ∧ xs.length ≤ 1000 ∧
  ∀ (v : V) (n m : Int), v ∈ xs → 0 ≤ n → 0 ≤ m → m < 2147483648 → Q v (upd H b (.lst [.int n, .int m]))
theorem ok_L_of (T : Top K mg) : FnOk P w K mg base CX0 2 T.f__law_of T.d__law_of ["_law_bag_here", "_law_some"] (sp_L_of K) := by
  have G__law_take : FnOk P w K mg base CX0 1 T.f__law_take T.d__law_take ["_law_bag_here", "_law_many"] (sp_L_take K) := ok_L_take T
  refine T.F__law_of.ok scL_of (fun vs H Q E h => ?_) (fun cdv A outer s H vs Q E hr h => ?_)
  · obtain ⟨b, l, xs, rfl, _⟩ := h
    rfl
  · obtain ⟨b, l, xs, rfl, hb, hl, ne, h0, h1, q⟩ := h
    refine ⟨_, (pss_one (ps_ret (pe_ix ix_list (pv 1) (pe_call G__law_take (hr.mono (by decide)) (by rfl) T.g__law_take T.F__law_take.kp T.b__law_take .nil pass0 (pa_cons (pv 0) (pa_cons (pe_callB call_len_seq (by rfl) T.m_len (by decide +kernel) (pa_cons (pv 1) pa_nil)) pa_nil))) (fun _ _ => rfl)))), ?_⟩
    have hp : 0 < xs.length := List.length_pos_iff.mpr h0
    refine ⟨.ref l, rfl, .ref b, rfl, .ref l, rfl, l, xs, rfl, .inl (SqL.of hl), b, (xs.length : Int), rfl, hb, by omega, by omega, fun d n m d0 d1 n0 m0 m1 => ?_⟩
    have hd : d.toNat < xs.length := by omega
    refine ⟨l, xs, d, xs[d.toNat], rfl, rfl, SqL.of (by rw [upd_ne ne]; exact hl), at_of (j := d.toNat) (by omega) (List.getElem?_eq_getElem hd), ?_⟩
    exact q _ _ _ (List.getElem_mem hd) n0 m0 m1
/-! ### the bag -/
def sp_L_bag (K : PySem.W.Frag) : Sp := fun vs H Q _ => ∃ (a : Addr) (i : Int) (ns : List Int), vs = [.ref a, .int i] ∧ SqL K H a (ns.map V.int) ∧ ns.length ≤ 63 ∧ 0 ≤ i ∧ i ≤ 1000 ∧
  ∀ H' p, Same H H' → H p = none → Bag H' p → Q (.ref p) H'
theorem ok_L_bag (T : Top K mg) : FnOk P w K mg base CX0 1 T.f__law_bag T.d__law_bag ["_law_script", "_law_at"] (sp_L_bag K) := by
  refine T.F__law_bag.ok scL_bag (fun vs H Q E h => ?_) (fun cdv A outer s H vs Q E hr h => ?_)
  · obtain ⟨b, l, xs, rfl, _⟩ := h
    rfl
  · obtain ⟨a, i, ns, rfl, hS, hl, i0, i1, q⟩ := h
    refine ⟨_, (pss_cons (ps_set (i := 2) scL_bag.nd rfl (.inl rfl) (pe_ifExp (pt_cmpR op_lt (pv 1) (pe_callB call_len_seq (by rfl) T.m_len (by decide +kernel) (pa_cons (pv 0) pa_nil)) (nomark _)) (pe_ix ix_list (pv 0) (pv 1) (fun _ _ => rfl)) pe_int))
      (pss_cons (ps_set (i := 3) scL_bag.nd rfl (.inl rfl) (pe_op op_add (pe_op op_mul pe_int (pv 1)) pe_int))
      (pss_cons (ps_for PassesOwn.never rfl (pi_enum (by rfl) T.m_enumerate (pa_cons (pe_slice sl_list (pv 0) po_none (po_some pe_int)) pa_nil)) (pg_tup rfl (pgs_cons (pg_name (i := 4) scL_bag.nd rfl (.inl rfl)) (pgs_cons (pg_name (i := 5) scL_bag.nd rfl (.inl rfl)) pgs_nil))) (pss_one (ps_set (i := 3) scL_bag.nd rfl (.inl rfl) (pe_op op_mod (pe_callTy call_int1 (by rfl) T.m_int (by decide +kernel) (pa_cons (pe_op op_add (pe_op op_add (pe_op op_add (pe_op op_mul (pv 3) pe_int) (pe_op op_mod (pe_callTy call_int1 (by rfl) T.m_int (by decide +kernel) (pa_cons (pv 5) pa_nil)) pe_int)) (pe_op op_mul pe_int (pv 4))) pe_int) pa_nil)) pe_int))))
      (pss_one (ps_ret (pe_lst (pa_cons (pe_ifExp (pt_cmpR op_ge (pe_callB call_abs (by rfl) T.m_abs (by decide +kernel) (pa_cons (pv 2) pa_nil)) (pe_op op_pow pe_int pe_int) (nomark _)) (pe_callB call_abs (by rfl) T.m_abs (by decide +kernel) (pa_cons (pv 2) pa_nil)) pe_int) (pa_cons (pv 3) pa_nil)))))))), ?_⟩
    obtain ⟨z, hz1, hz2⟩ : ∃ z : Int, (i < (((ns.map V.int).length : Nat) : Int) → atI (ns.map V.int) i = some (.int z)) ∧ (¬ i < (((ns.map V.int).length : Nat) : Int) → z = 0) := by
      by_cases h : i < (((ns.map V.int).length : Nat) : Int)
      · have hn : i.toNat < ns.length := by rw [List.length_map] at h; omega
        refine ⟨ns[i.toNat], fun _ => at_of (j := i.toNat) (by omega) ?_, fun h2 => absurd h h2⟩
        rw [List.getElem?_map, List.getElem?_eq_getElem hn]
        rfl
      · exact ⟨0, fun h2 => absurd h2 h, fun _ => rfl⟩
    refine ⟨.int i, rfl, .ref a, rfl, a, _, rfl, .inl hS, i, _, rfl, rfl, _, rfl, ite_via (fun e r => ⟨.ref a, rfl, .int i, rfl, a, _, i, .int z, rfl, rfl, hS, hz1 (of_decide_eq_true e), r⟩) (fun e r => by
      have e2 := hz2 (fun x => e (decide_eq_true x))
      rw [e2] at r
      exact r) ?_⟩
    refine ⟨.int i, rfl, 4021, i, rfl, rfl, .inl ⟨by decide, by decide⟩, _, 17, rfl, rfl, ?_⟩
    refine ⟨.ref a, rfl, 40, rfl, a, _, rfl, hS, fun c nc => ?_⟩
    obtain ⟨ms, ems, lms⟩ := cut_ints ns none (some 40)
    have sc0 : Same H (upd H c (.lst (cutV (ns.map V.int) none (some 40)))) := same_new nc
    refine ⟨c, _, rfl, SqL.of upd_same, for_it (walk_enum (xs := cutV (ns.map V.int) none (some 40))) (fun _ σ H3 => ∃ (bl : Int) (y4 y5 : Option V), σ = [some (.ref a), some (.int i), some (.int z), some (.int bl), y4, y5] ∧ 0 ≤ bl ∧ bl < 2147483648 ∧ Same H H3 ∧ H3 c = some (.lst (cutV (ns.map V.int) none (some 40)))) ?_ ?_ ?_ ?_⟩
    · exact ⟨4021 * i + 17, none, none, rfl, by omega, by omega, sc0, upd_same⟩
    · rintro j σ H3 _ ⟨bl, y4, y5, _, _, _, _, h5⟩
      exact SqL.of h5
    · rintro j x σ H3 H4 hj ⟨bl, y4, y5, rfl, b0, b1, hs, hc⟩ ⟨t, x1, x2, rfl, nt, rfl, e1, e2⟩
      cases e1
      obtain ⟨v, rfl⟩ : ∃ v : Int, x2 = .int v := by
        have e2 : (ms.map V.int)[j]? = some x2 := by rw [← ems]; exact e2
        rw [List.getElem?_map] at e2
        cases e3 : ms[j]? with
        | none => rw [e3] at e2; cases e2
        | some v => rw [e3] at e2; cases e2; exact ⟨v, rfl⟩
      refine ⟨t, _, rfl, SqT.of upd_same, rfl, .int (j : Nat), [.int v], rfl, .int v, [], rfl, rfl, ?_⟩
      refine ⟨.int bl, rfl, bl, 40014, rfl, rfl, .inl ⟨by omega, by omega⟩, .int v, rfl, .inl ⟨v, rfl, v, 2147483563, rfl, rfl, (show (0 : Int) < 2147483563 by decide), _, _, rfl, rfl, .int (j : Nat), rfl, 83, _, rfl, rfl, .inl ⟨by decide, by decide⟩, _, _, rfl, rfl, _, 7, rfl, rfl, .inl ⟨_, rfl, _, 2147483563, rfl, rfl, (show (0 : Int) < 2147483563 by decide), ?_⟩⟩⟩
      refine ⟨_, _, _, rfl, Int.emod_nonneg _ (by decide), Int.lt_trans (Int.emod_lt_of_pos _ (by decide)) (by decide), hs.trans (same_new nt), ?_⟩
      rw [upd_ne (ne_of_none hc nt)]
      exact hc
    · rintro σ H3 ⟨bl, y4, y5, rfl, b0, b1, hs, hc⟩
      have rest : ∀ n : Int, 0 ≤ n → ∀ p, H3 p = none → Q (.ref p) (upd H3 p (.lst [.int n, .int bl])) := fun n n0 p np => q _ p (hs.trans (same_new np)) (hs.free np) ⟨n, bl, upd_same, n0, b0, b1⟩
      refine ⟨.int z, rfl, z, rfl, 10, 18, rfl, rfl, ⟨by decide, by decide, by decide⟩, _, _, rfl, rfl, _, rfl, ite2 (fun e => ?_) (fun e => ?_)⟩
      · refine ⟨.int z, rfl, z, rfl, .int bl, rfl, (by show 2 ≤ sizeLine; decide), fun p np => rest _ ?_ p np⟩
        split <;> omega
      · exact ⟨.int bl, rfl, (by show 2 ≤ sizeLine; decide), fun p np => rest 0 (by decide) p np⟩
end
end K01

set_option Elab.async false
set_option linter.all false
set_option maxRecDepth 100000
namespace K01
open PySem PySem.Spec PyProof.Rows L2 My
/-! ### names, places, values -/
abbrev letters : Str := "abcdefghijklmnopqrstuvwxyz"
/-- a text of 1 to most of these signs -/
def madeOf (cs : Str) (most : Int) (z : Str) : Bool := decide (1 ≤ z.length) && (decide ((z.length : Int) ≤ most) && z.cps.toList.all fun c => decide (c ∈ cs.cps.toList))
def ofText (f : Str → Bool) : V → Bool
  | .str z => f z
  | _ => false
/-- what is asked about: a text of no great length, or no text at all -/
def Ask (K : PySem.W.Frag) (H : Hp) (v : V) : Prop := (∃ z, v = .str z ∧ z.length ≤ 1000) ∨ ((∀ f, ofText f v = false) ∧ ∃ t, TyX K H v (.type t) ∧ kitB t "str" = some false)
theorem Ask.text {K : PySem.W.Frag} {H : Hp} {z : Str} (h : z.length ≤ 1000) : Ask K H (.str z) := .inl ⟨z, rfl, h⟩
theorem len1000 {n : Nat} (h : n ≤ 1000) : n ≤ sizeLine := Nat.le_of_lt (small1000 h)
theorem take_all_map {α β : Type} (f : α → β) (l : List α) (i : Nat) (x : α) (h : l[i]? = some x) : (l.take (i + 1)).map f = (l.take i).map f ++ [f x] := by
  rw [List.take_add_one, h, List.map_append]
  rfl
section
variable {P : Program} {w : World} {K : PySem.W.Frag} {mg : Str → Option Value} {base : Heap}
def sp_is_made_of (K : PySem.W.Frag) : Sp := fun vs H Q _ => ∃ (v : V) (cs : Str) (most : Int), vs = [v, .str cs, .int most] ∧ Ask K H v ∧ ∀ H', Same H H' → Q (.bl (ofText (madeOf cs most) v)) H'
theorem ok_is_made_of (T : Top K mg) : FnOk P w K mg base CX0 1 T.f_is_made_of T.d_is_made_of ["thing", "characters", "most"] (sp_is_made_of K) := by
  refine T.F_is_made_of.ok scis_made_of (fun vs H Q E h => ?_) (fun cdv A outer s H vs Q E hr h => ?_)
  · obtain ⟨v, cs, most, rfl, _⟩ := h
    rfl
  · obtain ⟨v, cs, most, rfl, hv, q⟩ := h
    refine ⟨_, (pss_cons (ps_if (PW.pt (pw_or (pt_not (pt_val (pe_callB call_isi (by rfl) T.m_isinstance (by decide +kernel) (pa_cons (pv 0) (pa_cons (pe_bltn (v := .ty "str") (by rfl) T.m_str (by decide +kernel) rfl) pa_nil))))) (pw_or (pt_cmpR op_eq (pv 0) pe_str (nomark _)) (pw_or1 (pt_cmpR op_gt (pe_callB call_len_str (by rfl) T.m_len (by decide +kernel) (pa_cons (pv 0) pa_nil)) (pv 2) (nomark _)))))) (pss_one (ps_ret pe_bl)) pss_nil)
      (pss_one (ps_ret (pe_callB (cr_all rfl) (by rfl) T.m_all (by decide +kernel) (pa_cons (pe_lc (own := [("character", 3)]) rfl scis_made_of.nd (pi_str (pv 0)) (blkOk_by (N := N_is_made_of) (sc := defScope s_is_made_of) (by decide +kernel)) (fun _ _ _ _ _ => (pg_name (i := 3) scis_made_of.nd rfl (.inl rfl))) (fun _ _ _ _ _ => pts_nil) (fun _ _ _ _ _ => (pe_cmpR op_in_sign (pv 3) (pv 1) (by rfl)))) pa_nil))))), ?_⟩
    rcases hv with ⟨z, rfl, hz⟩ | ⟨hno, t, ht, hk⟩
    · refine ⟨.str z, rfl, _, _, _, _, true, rfl, ClsV.ty "str", .base (.str z), kit_ty (by decide +kernel), true, rfl, iteF ?_⟩
      refine ⟨.str z, rfl, rfl, _, rfl, ite2 (fun e => iteT ?_) (fun e => ?_)⟩
      · have e1 : z = "" := V.str.inj (of_decide_eq_true e)
        subst e1
        exact q H (Same.refl H)
      · have z0 : 1 ≤ z.length := by
          cases hl : z.length with
          | zero =>
            refine absurd (decide_eq_true ?_) e
            have : z = "" := by
              cases z with
              | mk cps => 
                have : cps = #[] := Array.eq_empty_of_size_eq_zero hl
                rw [this]; rfl
            rw [this]
          | succ n => omega
        refine ⟨.str z, rfl, z, rfl, len1000 hz, .int most, rfl, _, _, rfl, rfl, _, rfl, ite2 (fun e2 => ?_) (fun e2 => ?_)⟩
        · have e3 : (z.length : Int) > most := of_decide_eq_true e2
          have := q H (Same.refl H)
          have hm : ofText (madeOf cs most) (.str z) = false := by
            show (decide (1 ≤ z.length) && (decide ((z.length : Int) ≤ most) && _)) = false
            rw [decide_eq_false (show ¬ (z.length : Int) ≤ most by omega), Bool.false_and, Bool.and_false]
          rw [hm] at this
          exact this
        · have e3 : ¬ (z.length : Int) > most := fun x => e2 (decide_eq_true x)
          refine ⟨.str z, rfl, z, rfl, fun D nD => lc_it walk_str (fun i H3 => Same H H3 ∧ H3 D = some (.lst ((z.cps.toList.take i).map fun c => V.bl (decide (c ∈ cs.cps.toList))))) ?_ (fun _ _ _ _ => trivial) ?_ ?_⟩
          · exact ⟨same_new nD, upd_same⟩
          · rintro i x H3 H4 hi ⟨s3, d3⟩ ⟨rfl, c, hc, rfl⟩
            refine ⟨rfl, ?_⟩
            simp only [tYes, if_true]
            refine ⟨.str ⟨#[c]⟩, rfl, .str cs, rfl, c, cs, rfl, rfl, _, d3, ?_, ?_, ?_⟩
            · rw [List.length_map, List.length_take]
              refine small1000 ?_
              have : z.cps.toList.length = z.length := rfl
              omega
            · intro b o e4
              rw [upd_ne (ne_of_none e4 nD)]
              exact s3 _ _ e4
            · have hc2 : z.cps.toList[i]? = some c := by rw [Array.getElem?_toList]; exact hc
              rw [upd_same, take_all_map _ _ _ _ hc2]
          · rintro H3 ⟨s3, d3⟩
            have e4 : z.cps.toList.take z.cps.size = z.cps.toList := List.take_of_length_le (Nat.le_of_eq rfl)
            rw [e4] at d3
            refine ⟨D, z.cps.toList.map fun c => decide (c ∈ cs.cps.toList), rfl, SqL.of (by rw [d3, List.map_map]; rfl), ?_⟩
            have := q H3 s3
            have hm : ofText (madeOf cs most) (.str z) = (z.cps.toList.map fun c => decide (c ∈ cs.cps.toList)).all id := by
              show (decide (1 ≤ z.length) && (decide ((z.length : Int) ≤ most) && _)) = _
              rw [decide_eq_true z0, decide_eq_true (show (z.length : Int) ≤ most by omega), Bool.true_and, Bool.true_and, List.all_map]
              rfl
            rw [hm] at this
            exact this
    · refine ⟨v, rfl, _, _, _, _, false, rfl, ClsV.ty "str", ht, kit_ty hk, false, rfl, iteT ?_⟩
      have := q H (Same.refl H)
      rw [hno] at this
      exact this
end
end K01

set_option Elab.async false
set_option linter.all false
set_option maxRecDepth 100000
namespace K01
open PySem PySem.Spec PyProof.Rows L2 My
def nameS : Str → Bool := madeOf letters 8
/-- the text up to the first dot and behind it -/
def dot : Str := "."
def placeS (z : Str) : Bool := nameS (Txt.partition z dot).1 && nameS (Txt.partition z dot).2.2
abbrev valueSigns : Str := letters ++ "0123456789" ++ "-"
def valueS (z : Str) : Bool := madeOf valueSigns 12 z && !Txt.startswith z "-"
theorem part_len (z : Str) : (Txt.partition z dot).1.length ≤ z.length ∧ (Txt.partition z dot).2.2.length ≤ z.length := ⟨(fact_partition z dot).1, (fact_partition z dot).2.2⟩
section
variable {P : Program} {w : World} {K : PySem.W.Frag} {mg : Str → Option Value} {base : Heap}
def sp_ask (K : PySem.W.Frag) (f : Str → Bool) : Sp := fun vs H Q _ => ∃ v : V, vs = [v] ∧ Ask K H v ∧ ∀ H', Same H H' → Q (.bl (ofText f v)) H'
def sp_is_name (K : PySem.W.Frag) : Sp := sp_ask K nameS
def sp_is_place (K : PySem.W.Frag) : Sp := sp_ask K placeS
def sp_is_value (K : PySem.W.Frag) : Sp := sp_ask K valueS
theorem ok_is_name (T : Top K mg) : FnOk P w K mg base CX0 2 T.f_is_name T.d_is_name ["thing"] (sp_is_name K) := by
  have G_is_made_of : FnOk P w K mg base CX0 1 T.f_is_made_of T.d_is_made_of ["thing", "characters", "most"] (sp_is_made_of K) := ok_is_made_of T
  refine T.F_is_name.ok scis_name (fun vs H Q E h => ?_) (fun cdv A outer s H vs Q E hr h => ?_)
  · obtain ⟨v, rfl, _⟩ := h
    rfl
  · obtain ⟨v, rfl, hv, q⟩ := h
    refine ⟨_, (pss_one (ps_ret (pe_call G_is_made_of (hr.mono (by decide)) (by rfl) T.g_is_made_of T.F_is_made_of.kp T.b_is_made_of .nil pass0 (pa_cons (pv 0) (pa_cons (pe_glob (v := .str "abcdefghijklmnopqrstuvwxyz") (by rfl) T.g_LETTERS ⟨_, rfl⟩) (pa_cons (pe_glob (v := .int 8) (by rfl) T.g_LONGEST_NAME ⟨_, rfl⟩) pa_nil)))))), ?_⟩
    exact ⟨v, rfl, v, _, _, rfl, hv, q⟩
theorem ok_is_place (T : Top K mg) : FnOk P w K mg base CX0 3 T.f_is_place T.d_is_place ["thing"] (sp_is_place K) := by
  have G_is_name : FnOk P w K mg base CX0 2 T.f_is_name T.d_is_name ["thing"] (sp_is_name K) := ok_is_name T
  refine T.F_is_place.ok scis_place (fun vs H Q E h => ?_) (fun cdv A outer s H vs Q E hr h => ?_)
  · obtain ⟨v, rfl, _⟩ := h
    rfl
  · obtain ⟨v, rfl, hv, q⟩ := h
    refine ⟨_, (pss_cons (ps_if (pt_not (pt_val (pe_callB call_isi (by rfl) T.m_isinstance (by decide +kernel) (pa_cons (pv 0) (pa_cons (pe_bltn (v := .ty "str") (by rfl) T.m_str (by decide +kernel) rfl) pa_nil))))) (pss_one (ps_ret pe_bl)) pss_nil)
      (pss_cons (ps_asg (pe_m1 F.slot_str_partition F.type_str_partition mt_partition (pv 0) pe_str) (pg_tup rfl (pgs_cons (pg_name (i := 1) scis_place.nd rfl (.inl rfl)) (pgs_cons (pg_name (i := 2) scis_place.nd rfl (.inl rfl)) (pgs_cons (pg_name (i := 3) scis_place.nd rfl (.inl rfl)) pgs_nil)))))
      (pss_one (ps_ret (pe_and (pe_call G_is_name (hr.mono (by decide)) (by rfl) T.g_is_name T.F_is_name.kp T.b_is_name .nil pass0 (pa_cons (pv 1) pa_nil)) (pe_one (pe_call G_is_name (hr.mono (by decide)) (by rfl) T.g_is_name T.F_is_name.kp T.b_is_name .nil pass0 (pa_cons (pv 3) pa_nil)))))))), ?_⟩
    rcases hv with ⟨z, rfl, hz⟩ | ⟨hno, t, ht, hk⟩
    · refine ⟨.str z, rfl, _, _, _, _, true, rfl, ClsV.ty "str", .base (.str z), kit_ty (by decide +kernel), true, rfl, iteF ?_⟩
      refine ⟨.str z, rfl, ⟨z, rfl⟩, z, dot, rfl, rfl, rfl, len1000 hz, fun p np => ?_⟩
      refine ⟨p, _, rfl, SqT.of upd_same, rfl, _, _, rfl, _, _, rfl, _, _, rfl, rfl, ?_⟩
      have hp := part_len z
      refine ⟨.str (Txt.partition z dot).1, rfl, _, rfl, Ask.text (by omega), fun H2 s2 => ⟨nameS (Txt.partition z dot).1, rfl, ite2 (fun e => ?_) (fun e => ?_)⟩⟩
      · refine ⟨.str (Txt.partition z dot).2.2, rfl, _, rfl, Ask.text (by omega), fun H3 s3 => ?_⟩
        have := q H3 (((same_new np).trans s2).trans s3)
        have hm : ofText placeS (.str z) = ofText nameS (.str (Txt.partition z dot).2.2) := by
          show (nameS _ && nameS _) = nameS _
          rw [e, Bool.true_and]
        rw [hm] at this
        exact this
      · have := q H2 ((same_new np).trans s2)
        have hm : ofText placeS (.str z) = false := by
          show (nameS _ && nameS _) = false
          rw [eq_false_of_ne_true e, Bool.false_and]
        rw [hm] at this
        exact this
    · refine ⟨v, rfl, _, _, _, _, false, rfl, ClsV.ty "str", ht, kit_ty hk, false, rfl, iteT ?_⟩
      have := q H (Same.refl H)
      rw [hno] at this
      exact this
theorem ok_is_value (T : Top K mg) : FnOk P w K mg base CX0 2 T.f_is_value T.d_is_value ["thing"] (sp_is_value K) := by
  have G_is_made_of : FnOk P w K mg base CX0 1 T.f_is_made_of T.d_is_made_of ["thing", "characters", "most"] (sp_is_made_of K) := ok_is_made_of T
  refine T.F_is_value.ok scis_value (fun vs H Q E h => ?_) (fun cdv A outer s H vs Q E hr h => ?_)
  · obtain ⟨v, rfl, _⟩ := h
    rfl
  · obtain ⟨v, rfl, hv, q⟩ := h
    refine ⟨_, (pss_one (ps_ret (pe_and (pe_call G_is_made_of (hr.mono (by decide)) (by rfl) T.g_is_made_of T.F_is_made_of.kp T.b_is_made_of .nil pass0 (pa_cons (pv 0) (pa_cons (pe_op op_add_str (pe_op op_add_str (pe_glob (v := .str "abcdefghijklmnopqrstuvwxyz") (by rfl) T.g_LETTERS ⟨_, rfl⟩) (pe_glob (v := .str "0123456789") (by rfl) T.g_DIGITS ⟨_, rfl⟩)) pe_str) (pa_cons (pe_glob (v := .int 12) (by rfl) T.g_LONGEST_VALUE ⟨_, rfl⟩) pa_nil)))) (pe_one (pe_not (pe_m1 F.slot_str_startswith F.type_str_startswith mt_startswith (pv 0) pe_str)))))), ?_⟩
    refine ⟨v, rfl, _, _, rfl, rfl, by decide, _, _, rfl, rfl, by decide, v, _, _, rfl, hv, fun H2 s2 => ⟨_, rfl, ite2 (fun e => ?_) (fun e => ?_)⟩⟩
    · rcases hv with ⟨z, rfl, hz⟩ | ⟨hno, t, ht, hk⟩
      · refine ⟨.str z, rfl, ⟨z, rfl⟩, z, _, rfl, rfl, _, rfl, ?_⟩
        have := q H2 s2
        have hm : ofText valueS (.str z) = !Txt.startswith z "-" := by
          show (madeOf valueSigns 12 z && _) = _
          rw [show madeOf valueSigns 12 z = true from e, Bool.true_and]
        rw [hm] at this
        exact this
      · rw [hno] at e
        cases e
    · have := q H2 s2
      have hm : ofText valueS v = false := by
        rcases hv with ⟨z, rfl, hz⟩ | ⟨hno, t, ht, hk⟩
        · show (madeOf valueSigns 12 z && _) = false
          rw [show madeOf valueSigns 12 z = false from eq_false_of_ne_true e, Bool.false_and]
        · exact hno _
      rw [hm] at this
      exact this
/-! ### the law's own look -/
/-- its signs that are not among cs -/
def oddL (cs : Str) (l : List Nat) : List Nat := l.filter fun c => !decide (c ∈ cs.cps.toList)
theorem oddL_len (cs : Str) (l : List Nat) : (oddL cs l).length ≤ l.length := List.length_filter_le _ _
theorem oddL_nil (cs : Str) (l : List Nat) : (oddL cs l).isEmpty = l.all fun c => decide (c ∈ cs.cps.toList) := by
  unfold oddL
  induction l with
  | nil => rfl
  | cons c r ih =>
    rw [List.filter_cons, List.all_cons]
    cases h : decide (c ∈ cs.cps.toList) with
    | false => rfl
    | true => rw [Bool.true_and, ← ih]; rfl
theorem oddL_take {cs : Str} {l : List Nat} {i c : Nat} (h : l[i]? = some c) : oddL cs (l.take (i + 1)) = oddL cs (l.take i) ++ (if (!decide (c ∈ cs.cps.toList)) = true then [c] else []) := by
  unfold oddL
  rw [List.take_add_one, h, List.filter_append]
  congr 1
  show List.filter _ [c] = _
  rw [List.filter_cons, List.filter_nil]
def sp_L_is_word (K : PySem.W.Frag) : Sp := fun vs H Q _ => ∃ z : Str, vs = [.str z] ∧ z.length ≤ 1000 ∧ ∀ H', Same H H' → Q (.bl (nameS z)) H'
theorem ok_L_is_word (T : Top K mg) : FnOk P w K mg base CX0 1 T.f__law_is_word T.d__law_is_word ["_law_what"] (sp_L_is_word K) := by
  refine T.F__law_is_word.ok scL_is_word (fun vs H Q E h => ?_) (fun cdv A outer s H vs Q E hr h => ?_)
  · obtain ⟨z, rfl, _⟩ := h
    rfl
  · obtain ⟨z, rfl, hz, q⟩ := h
    refine ⟨_, (pss_cons (ps_if (pt_not (pt_chain op_le op_le pe_int (pe_callB call_len_str (by rfl) T.m_len (by decide +kernel) (pa_cons (pv 0) pa_nil)) pe_int)) (pss_one (ps_ret pe_bl)) pss_nil)
      (pss_one (ps_ret (pe_cmpR (op_eqNil hr.units0) (pe_lc (own := [("_law_sign", 1)]) rfl scL_is_word.nd (pi_str (pv 0)) (blkOk_by (N := N_L_is_word) (sc := defScope s_L_is_word) (by decide +kernel)) (fun _ _ _ _ _ => (pg_name (i := 1) scL_is_word.nd rfl (.inl rfl))) (fun _ _ _ _ _ => pts_one (pt_cmpR op_notIn_sign (pv 1) pe_str (by rfl))) (fun _ _ _ _ _ => (pv 1))) (pe_lst pa_nil) (nomark _))))), ?_⟩
    have short : ¬ (1 ≤ z.length ∧ z.length ≤ 8) → nameS z = false := fun h => by
      unfold nameS madeOf
      by_cases h1 : 1 ≤ z.length
      · rw [decide_eq_false (show ¬ (z.length : Int) ≤ 8 by omega), Bool.false_and, Bool.and_false]
      · rw [decide_eq_false h1, Bool.false_and]
    refine ⟨.str z, rfl, z, rfl, len1000 hz, _, _, rfl, rfl, _, rfl, ite2 (fun e => ?_) (fun e => ?_)⟩
    · have h1 : (1 : Int) ≤ (z.length : Int) := of_decide_eq_true e
      refine ⟨_, _, rfl, rfl, _, rfl, ite2 (fun e2 => ?_) (fun e2 => ?_)⟩
      · have h2 : ¬ (z.length : Int) ≤ 8 := fun x => by
          rw [decide_eq_true x] at e2
          cases e2
        have := q H (Same.refl H)
        rw [short (by omega)] at this
        exact this
      · have h2 : (z.length : Int) ≤ 8 := by
          by_cases x : (z.length : Int) ≤ 8
          · exact x
          · rw [decide_eq_false x] at e2
            exact absurd rfl e2
        refine ⟨.str z, rfl, z, rfl, fun D nD => lc_it walk_str (fun i H3 => Same H H3 ∧ H3 D = some (.lst ((oddL letters (z.cps.toList.take i)).map fun c => V.str ⟨#[c]⟩))) ?_ (fun _ _ _ _ => trivial) ?_ ?_⟩
        · exact ⟨same_new nD, upd_same⟩
        · rintro i x H3 H4 hi ⟨s3, d3⟩ ⟨rfl, c, hc, rfl⟩
          have hc2 : z.cps.toList[i]? = some c := by rw [Array.getElem?_toList]; exact hc
          refine ⟨rfl, ?_⟩
          refine ⟨.str ⟨#[c]⟩, rfl, c, letters, rfl, rfl, _, rfl, ite2 (fun e3 => ?_) (fun e3 => ?_)⟩
          · refine ⟨.str ⟨#[c]⟩, rfl, _, d3, ?_, ?_, ?_⟩
            · rw [List.length_map]
              exact small1000 (Nat.le_trans (oddL_len _ _) (by rw [List.length_take]; have : z.cps.toList.length = z.length := rfl; omega))
            · intro b o e4
              rw [upd_ne (ne_of_none e4 nD)]
              exact s3 _ _ e4
            · rw [upd_same, oddL_take hc2, if_pos e3, List.map_append]
              rfl
          · refine ⟨s3, ?_⟩
            rw [oddL_take hc2, if_neg e3, List.append_nil]
            exact d3
        · rintro H3 ⟨s3, d3⟩
          have e4 : z.cps.toList.take z.cps.size = z.cps.toList := List.take_of_length_le (Nat.le_of_eq rfl)
          rw [e4] at d3
          refine ⟨Nat.zero_le _, fun p np => ⟨D, p, _, rfl, rfl, SqL.of (same_new np _ _ d3), SqL.of upd_same, ?_⟩⟩
          have := q _ (s3.trans (same_new (o := .lst []) np))
          have hm : nameS z = ((oddL letters z.cps.toList).map fun c => V.str ⟨#[c]⟩).isEmpty := by
            rw [List.isEmpty_map, oddL_nil]
            unfold nameS madeOf
            rw [decide_eq_true (show 1 ≤ z.length by omega), decide_eq_true h2, Bool.true_and, Bool.true_and]
          rw [hm] at this
          exact this
    · have h1 : ¬ (1 : Int) ≤ (z.length : Int) := fun x => e (decide_eq_true x)
      refine ⟨false, rfl, iteT ?_⟩
      have := q H (Same.refl H)
      rw [short (by omega)] at this
      exact this
end
end K01

set_option Elab.async false
set_option linter.all false
set_option maxRecDepth 100000
namespace K01
open PySem PySem.Spec PyProof.Rows L2 My
/-! ### a place by its first dot, and by all its dots -/
theorem name_free {a : Str} (h : nameS a = true) : 46 ∉ TL.tl a := by
  unfold nameS madeOf at h
  rw [Bool.and_eq_true, Bool.and_eq_true] at h
  intro hm
  have h2 := List.all_eq_true.mp h.2.2 46 hm
  exact absurd (of_decide_eq_true h2) (by decide)
theorem name_empty : nameS Str.empty = false := by decide
theorem tl_dot : TL.tl dot = 46 :: [] := by decide
/-- by all its dots -/
def placeL : List Str → Bool
  | [a, b] => nameS a && nameS b
  | _ => false
theorem place_of (z : Str) : placeS z = placeL (Txt.split z dot) := by
  have hd : dot = (⟨#[46]⟩ : Str) := by decide
  have two : ∀ p q : Str, Str.join dot [p, q] = p ++ dot ++ q := fun p q => rfl
  by_cases hp : placeS z = true
  · have h1 := hp
    unfold placeS at h1
    rw [Bool.and_eq_true] at h1
    rcases partition_whole z dot with ⟨e, _⟩ | ⟨i, e, _⟩
    · rw [e] at h1
      exact absurd h1.2 (by rw [name_empty]; exact Bool.false_ne_true)
    · have sum := PySem.StrLaws.partition_sum z dot
      have mid : (Txt.partition z dot).2.1 = dot := by rw [e]
      rw [mid] at sum
      have back := TL.split_join (y := dot) tl_dot (by decide +kernel) (parts := [(Txt.partition z dot).1, (Txt.partition z dot).2.2]) (by simp) (fun p hm => by
        rcases List.mem_cons.mp hm with rfl | hm
        · exact name_free h1.1
        · cases List.mem_singleton.mp hm
          exact name_free h1.2)
      rw [TL.join_eq, two, sum] at back
      rw [back, hp]
      show true = (nameS _ && nameS _)
      rw [h1.1, h1.2]
      rfl
  · have hf : placeS z = false := eq_false_of_ne_true hp
    rw [hf]
    cases hs : Txt.split z dot with
    | nil => rfl
    | cons p r =>
      cases r with
      | nil => rfl
      | cons q r2 =>
        cases r2 with
        | cons _ _ => rfl
        | nil =>
          have sum := PySem.StrLaws.join_split z dot
          rw [hs, two] at sum
          have fr := PySem.StrLaws.split_free z 46
          rw [← hd, hs] at fr
          have e := TL.partition_app (y := dot) tl_dot (a := p) (b := q) (fr p (List.mem_cons_self ..))
          rw [sum] at e
          unfold placeS at hf
          rw [e] at hf
          exact hf.symm
theorem split_short (z : Str) : ∀ a ∈ Txt.split z dot, a.length ≤ z.length := fun a h => part_short h
/-! ### values: the same signs in another order -/
abbrev lawSigns : Str := "0123456789-abcdefghijklmnopqrstuvwxyz"
theorem signs_iff (c : Nat) : c ∈ lawSigns.cps.toList ↔ c ∈ valueSigns.cps.toList := by
  have h1 : ∀ x ∈ lawSigns.cps.toList, x ∈ valueSigns.cps.toList := by decide
  have h2 : ∀ x ∈ valueSigns.cps.toList, x ∈ lawSigns.cps.toList := by decide
  exact ⟨h1 c, h2 c⟩
theorem value_of (z : Str) : valueS z = ((oddL lawSigns z.cps.toList).isEmpty && ((decide ((1 : Int) ≤ (z.length : Int)) && decide ((z.length : Int) ≤ 12)) && !Txt.startswith z "-")) := by
  rw [oddL_nil]
  unfold valueS madeOf
  have e : (z.cps.toList.all fun c => decide (c ∈ lawSigns.cps.toList)) = z.cps.toList.all fun c => decide (c ∈ valueSigns.cps.toList) := by
    congr 1
    funext c
    exact decide_eq_decide.mpr (signs_iff c)
  rw [e, show decide ((1 : Int) ≤ (z.length : Int)) = decide (1 ≤ z.length) from decide_eq_decide.mpr (by omega)]
  cases decide (1 ≤ z.length) <;> cases decide ((z.length : Int) ≤ 12) <;> cases (z.cps.toList.all fun c => decide (c ∈ valueSigns.cps.toList)) <;> cases Txt.startswith z "-" <;> rfl
section
variable {P : Program} {w : World} {K : PySem.W.Frag} {mg : Str → Option Value} {base : Heap}
def dueOf (v : V) : List V := [.bl (ofText nameS v), .bl (ofText placeS v), .bl (ofText valueS v)]
def sp_L_due (K : PySem.W.Frag) : Sp := fun vs H Q _ => ∃ v : V, vs = [v] ∧ Ask K H v ∧ ∀ H' p, Same H H' → H p = none → H' p = some (.lst (dueOf v)) → Q (.ref p) H'
theorem ok_L_due (T : Top K mg) : FnOk P w K mg base CX0 2 T.f__law_due T.d__law_due ["_law_what"] (sp_L_due K) := by
  have G__law_is_word : FnOk P w K mg base CX0 1 T.f__law_is_word T.d__law_is_word ["_law_what"] (sp_L_is_word K) := ok_L_is_word T
  refine T.F__law_due.ok scL_due (fun vs H Q E h => ?_) (fun cdv A outer s H vs Q E hr h => ?_)
  · obtain ⟨z, rfl, _⟩ := h
    rfl
  · obtain ⟨v, rfl, hv, q⟩ := h
    rcases hv with ⟨z, rfl, hz⟩ | ⟨hno, t, ht, hk⟩
    · -- from the place's answer on
      obtain ⟨t2, p2, q2⟩ : ∃ t, PSs (cxOf CX0 P w K mg base N_L_due "_law_due" (defScope s_L_due) T.f__law_due cdv A outer s H E).nox ((defBody s_L_due).drop 3) t ∧ ∀ (p : Addr) (H2 : Hp), Same H H2 → t { nx := fun _ H' => Q .non H', rt := Q } [some (.str z), some (.ref p), some (.bl (placeS z)), none, none] H2 := by
        refine ⟨_, (pss_cons (ps_setLc (own := [("_law_sign", 4)]) (i := 3) rfl scL_due.nd rfl rfl (sw_true rfl rfl rfl (by decide +kernel)) (pi_str (pv 0)) (blkOk_by (N := N_L_due) (sc := defScope s_L_due) (by decide +kernel)) (fun _ _ _ _ _ => (pg_name (i := 4) scL_due.nd rfl (.inl rfl))) (fun _ _ _ _ _ => pts_one (pt_cmpR op_notIn_sign (pv 4) pe_str (by rfl))) (fun _ _ _ _ _ => (pv 4)))
      (pss_one (ps_ret (pe_lst (pa_cons (pe_call G__law_is_word (hr.mono (by decide)) (by rfl) T.g__law_is_word T.F__law_is_word.kp T.b__law_is_word .nil pass0 (pa_cons (pv 0) pa_nil)) (pa_cons (pv 2) (pa_cons (pe_and (pe_cmpR (op_eqNil hr.units0) (pv 3) (pe_lst pa_nil) (nomark _)) (pe_and (pe_chain op_le op_le pe_int (pe_callB call_len_str (by rfl) T.m_len (by decide +kernel) (pa_cons (pv 0) pa_nil)) pe_int) (pe_one (pe_not (pe_m1 F.slot_str_startswith F.type_str_startswith mt_startswith (pv 0) pe_str))))) pa_nil))))))), fun p H2 s2 => ?_⟩
        refine ⟨.str z, rfl, z, rfl, fun D nD => lc_it walk_str (fun i H3 => Same H2 H3 ∧ H3 D = some (.lst ((oddL lawSigns (z.cps.toList.take i)).map fun c => V.str ⟨#[c]⟩))) ?_ (fun _ _ _ _ => trivial) ?_ ?_⟩
        · exact ⟨same_new nD, upd_same⟩
        · rintro i x H3 H4 hi ⟨s3, d3⟩ ⟨rfl, c, hc, rfl⟩
          have hc2 : z.cps.toList[i]? = some c := by rw [Array.getElem?_toList]; exact hc
          refine ⟨rfl, ?_⟩
          refine ⟨.str ⟨#[c]⟩, rfl, c, lawSigns, rfl, rfl, _, rfl, ite2 (fun e3 => ?_) (fun e3 => ?_)⟩
          · refine ⟨.str ⟨#[c]⟩, rfl, _, d3, ?_, ?_, ?_⟩
            · rw [List.length_map]
              exact small1000 (Nat.le_trans (oddL_len _ _) (by rw [List.length_take]; have : z.cps.toList.length = z.length := rfl; omega))
            · intro b o e4
              rw [upd_ne (ne_of_none e4 nD)]
              exact s3 _ _ e4
            · rw [upd_same, oddL_take hc2, if_pos e3, List.map_append]
              rfl
          · refine ⟨s3, ?_⟩
            rw [oddL_take hc2, if_neg e3, List.append_nil]
            exact d3
        · rintro H3 ⟨s3, d3⟩
          have e4 : z.cps.toList.take z.cps.size = z.cps.toList := List.take_of_length_le (Nat.le_of_eq rfl)
          rw [e4] at d3
          have fin : ∀ (b : Bool) (H4 : Hp), b = valueS z → Same H3 H4 → ∀ p, H4 p = none → Q (.ref p) (upd H4 p (.lst [.bl (nameS z), .bl (placeS z), .bl b])) := fun b H4 hb s4 p np => by
            subst hb
            exact q _ p (((s2.trans s3).trans s4).trans (same_new np)) ((s2.trans (s3.trans s4)).free np) upd_same
          refine ⟨.str z, rfl, z, rfl, hz, fun H4 s4 => ⟨.bl (placeS z), rfl, ?_⟩⟩
          refine ⟨.ref D, rfl, Nat.zero_le _, fun p2 np2 => ⟨D, p2, _, rfl, rfl, SqL.of (same_new np2 _ _ (s4 _ _ d3)), SqL.of upd_same, _, rfl, ?_⟩⟩
          have vo := value_of z
          have emp : ((oddL lawSigns z.cps.toList).map fun c => V.str ⟨#[c]⟩).isEmpty = (oddL lawSigns z.cps.toList).isEmpty := List.isEmpty_map
          rw [emp]
          have s5 : Same H3 (upd H4 p2 (.lst [])) := s4.trans (same_new np2)
          refine ite2 (fun e5 => ?_) (fun e5 => ?_)
          · rw [e5, Bool.true_and] at vo
            refine ⟨.str z, rfl, z, rfl, len1000 hz, _, _, rfl, rfl, _, rfl, ite2 (fun e6 => ?_) (fun e6 => ?_)⟩
            · rw [e6, Bool.true_and] at vo
              refine ⟨_, _, rfl, rfl, _, rfl, ite2 (fun e7 => ?_) (fun e7 => ?_)⟩
              · rw [e7, Bool.true_and] at vo
                exact ⟨.str z, rfl, ⟨z, rfl⟩, z, _, rfl, rfl, _, rfl, (by show 3 ≤ sizeLine; decide), fin _ _ vo.symm s5⟩
              · rw [eq_false_of_ne_true e7, Bool.false_and] at vo
                exact ⟨(by show 3 ≤ sizeLine; decide), fin _ _ vo.symm s5⟩
            · rw [eq_false_of_ne_true e6, Bool.false_and, Bool.false_and] at vo
              exact ⟨false, rfl, iteF ⟨(by show 3 ≤ sizeLine; decide), fin _ _ vo.symm s5⟩⟩
          · rw [eq_false_of_ne_true e5, Bool.false_and] at vo
            exact ⟨(by show 3 ≤ sizeLine; decide), fin _ _ vo.symm s5⟩
      refine ⟨_, (pss_cons (ps_if (pt_not (pt_val (pe_callB call_isi (by rfl) T.m_isinstance (by decide +kernel) (pa_cons (pv 0) (pa_cons (pe_bltn (v := .ty "str") (by rfl) T.m_str (by decide +kernel) rfl) pa_nil))))) (pss_one (ps_ret (pe_lst (pa_cons pe_bl (pa_cons pe_bl (pa_cons pe_bl pa_nil)))))) pss_nil)
      (pss_cons (ps_set (i := 1) scL_due.nd rfl (.inl rfl) (pe_m1 F.slot_str_split F.type_str_split mt_split (pv 0) pe_str))
      (pss_cons (ps_set (i := 2) scL_due.nd rfl (.inl rfl) (pe_and (pe_cmpR op_eq (pe_callB call_len_seq (by rfl) T.m_len (by decide +kernel) (pa_cons (pv 1) pa_nil)) pe_int (nomark _)) (pe_and (pe_call G__law_is_word (hr.mono (by decide)) (by rfl) T.g__law_is_word T.F__law_is_word.kp T.b__law_is_word .nil pass0 (pa_cons (pe_ix ix_list (pv 1) pe_int (fun _ _ => rfl)) pa_nil)) (pe_one (pe_call G__law_is_word (hr.mono (by decide)) (by rfl) T.g__law_is_word T.F__law_is_word.kp T.b__law_is_word .nil pass0 (pa_cons (pe_ix ix_list (pv 1) pe_int (fun _ _ => rfl)) pa_nil))))))
      p2))), ?_⟩
      refine ⟨.str z, rfl, _, _, _, _, true, rfl, ClsV.ty "str", .base (.str z), kit_ty (by decide +kernel), true, rfl, iteF ?_⟩
      refine ⟨.str z, rfl, ⟨z, rfl⟩, z, dot, rfl, rfl, rfl, Nat.le_trans (Nat.add_le_add_right hz 2) (by decide), fun p np => ?_⟩
      have po := place_of z
      have hshort := split_short z
      obtain ⟨parts, hparts⟩ : ∃ parts, parts = Txt.split z dot := ⟨_, rfl⟩
      rw [← hparts] at po hshort ⊢
      have s1 : Same H (upd H p (.lst (parts.map V.str))) := same_new np
      refine ⟨.ref p, rfl, p, _, rfl, .inl (SqL.of upd_same), rfl, _, rfl, ite2 (fun e => ?_) (fun e => ?_)⟩
      · have el : ((parts.map V.str).length : Int) = 2 := V.int.inj (of_decide_eq_true e)
        obtain ⟨a, b, rfl⟩ : ∃ a b, parts = [a, b] := by
          rw [List.length_map] at el
          match parts, el with
          | [a, b], _ => exact ⟨a, b, rfl⟩
          | [], el => simp at el
          | [_], el => simp at el
          | _ :: _ :: _ :: r, el => simp at el; omega
        refine ⟨.ref p, rfl, p, _, 0, .str a, rfl, rfl, SqL.of upd_same, atI_nat (j := 0) rfl, a, rfl, Nat.le_trans (hshort a (by simp)) hz, fun H2 s2 => ⟨_, rfl, ite2 (fun e2 => ?_) (fun e2 => ?_)⟩⟩
        · refine ⟨.ref p, rfl, p, _, 1, .str b, rfl, rfl, SqL.of (s2 _ _ upd_same), atI_nat (j := 1) rfl, b, rfl, Nat.le_trans (hshort b (by simp)) hz, fun H3 s3 => ?_⟩
          have := q2 p H3 ((s1.trans s2).trans s3)
          rw [po, show placeL [a, b] = (nameS a && nameS b) from rfl, e2, Bool.true_and] at this
          exact this
        · have := q2 p H2 (s1.trans s2)
          rw [po, show placeL [a, b] = (nameS a && nameS b) from rfl, eq_false_of_ne_true e2, Bool.false_and] at this
          exact this
      · have := q2 p _ s1
        have el : ¬ parts.length = 2 := fun x => e (decide_eq_true (by rw [List.length_map, x]; rfl))
        have pf : placeL parts = false := by
          match parts, el with
          | [], _ => rfl
          | [_], _ => rfl
          | [_, _], el => exact absurd rfl el
          | _ :: _ :: _ :: _, _ => rfl
        rw [po, pf] at this
        exact this
    · refine ⟨_, (pss_cons (ps_if (pt_not (pt_val (pe_callB call_isi (by rfl) T.m_isinstance (by decide +kernel) (pa_cons (pv 0) (pa_cons (pe_bltn (v := .ty "str") (by rfl) T.m_str (by decide +kernel) rfl) pa_nil))))) (pss_one (ps_ret (pe_lst (pa_cons pe_bl (pa_cons pe_bl (pa_cons pe_bl pa_nil)))))) pss_nil)
      (pss_cons (ps_set (i := 1) scL_due.nd rfl (.inl rfl) (pe_m1 F.slot_str_split F.type_str_split mt_split (pv 0) pe_str))
      (pss_cons (ps_set (i := 2) scL_due.nd rfl (.inl rfl) (pe_and (pe_cmpR op_eq (pe_callB call_len_seq (by rfl) T.m_len (by decide +kernel) (pa_cons (pv 1) pa_nil)) pe_int (nomark _)) (pe_and (pe_call G__law_is_word (hr.mono (by decide)) (by rfl) T.g__law_is_word T.F__law_is_word.kp T.b__law_is_word .nil pass0 (pa_cons (pe_ix ix_list (pv 1) pe_int (fun _ _ => rfl)) pa_nil)) (pe_one (pe_call G__law_is_word (hr.mono (by decide)) (by rfl) T.g__law_is_word T.F__law_is_word.kp T.b__law_is_word .nil pass0 (pa_cons (pe_ix ix_list (pv 1) pe_int (fun _ _ => rfl)) pa_nil))))))
      (pss_cons (ps_setLc (own := [("_law_sign", 4)]) (i := 3) rfl scL_due.nd rfl rfl (sw_true rfl rfl rfl (by decide +kernel)) (pi_str (pv 0)) (blkOk_by (N := N_L_due) (sc := defScope s_L_due) (by decide +kernel)) (fun _ _ _ _ _ => (pg_name (i := 4) scL_due.nd rfl (.inl rfl))) (fun _ _ _ _ _ => pts_one (pt_cmpR op_notIn_sign (pv 4) pe_str (by rfl))) (fun _ _ _ _ _ => (pv 4)))
      (pss_one (ps_ret (pe_lst (pa_cons (pe_call G__law_is_word (hr.mono (by decide)) (by rfl) T.g__law_is_word T.F__law_is_word.kp T.b__law_is_word .nil pass0 (pa_cons (pv 0) pa_nil)) (pa_cons (pv 2) (pa_cons (pe_and (pe_cmpR (op_eqNil hr.units0) (pv 3) (pe_lst pa_nil) (nomark _)) (pe_and (pe_chain op_le op_le pe_int (pe_callB call_len_str (by rfl) T.m_len (by decide +kernel) (pa_cons (pv 0) pa_nil)) pe_int) (pe_one (pe_not (pe_m1 F.slot_str_startswith F.type_str_startswith mt_startswith (pv 0) pe_str))))) pa_nil)))))))))), ?_⟩
      refine ⟨v, rfl, _, _, _, _, false, rfl, ClsV.ty "str", ht, kit_ty hk, false, rfl, iteT ?_⟩
      refine ⟨by decide, fun p np => q _ p (same_new np) np ?_⟩
      rw [upd_same]
      unfold dueOf
      rw [hno, hno, hno]
end
end K01

set_option Elab.async false
set_option linter.all false
set_option maxRecDepth 100000
namespace K01
open PySem PySem.Spec PyProof.Rows L2 My
/-! ### texts of at most n plain signs -/
structure Plain (n : Nat) (z : Str) : Prop where
  len : z.length ≤ n
  small : ∀ c ∈ TL.tl z, c < 128
theorem Plain.mono {n m : Nat} {z : Str} (h : Plain n z) (l : n ≤ m) : Plain m z := ⟨Nat.le_trans h.len l, h.small⟩
theorem len_tl (z : Str) : z.length = (TL.tl z).length := rfl
theorem Plain.app {n m : Nat} {a b : Str} (h : Plain n a) (g : Plain m b) : Plain (n + m) (a ++ b) := by
  have h1 := h.len
  have h2 := g.len
  refine ⟨?_, ?_⟩
  · rw [len_tl] at h1 h2 ⊢
    rw [TL.tl_append, List.length_append]
    omega
  · intro c hc
    rw [TL.tl_append] at hc
    rcases List.mem_append.mp hc with x | x
    · exact h.small c x
    · exact g.small c x
theorem Plain.cut {n : Nat} {z : Str} (h : Plain n z) (lo hi : Option Int) : Plain n (cutS z lo hi) := by
  have h1 := h.len
  constructor
  · rw [len_tl] at h1 ⊢
    show ((List.take _ (List.drop _ z.cps.toList)).toArray.toList).length ≤ n
    rw [List.length_take, List.length_drop]
    have : z.cps.toList.length = (TL.tl z).length := rfl
    omega
  · intro c hc
    have hc : c ∈ List.take (HT.sIx z.length z.length hi - HT.sIx z.length 0 lo) (List.drop (HT.sIx z.length 0 lo) z.cps.toList) := hc
    exact h.small c (List.mem_of_mem_drop (List.mem_of_mem_take hc))
theorem plain_joinL : ∀ {l : List Str}, (∀ y ∈ l, Plain 1 y) → (TL.joinL [] (l.map TL.tl)).length ≤ l.length ∧ ∀ c ∈ TL.joinL [] (l.map TL.tl), c < 128
  | [], _ => ⟨Nat.le_refl _, fun _ h => by cases h⟩
  | [y], h => ⟨(h y (by simp)).len, (h y (by simp)).small⟩
  | y :: y2 :: r, h => by
    have ih := plain_joinL (l := y2 :: r) fun z hz => h z (List.mem_cons_of_mem _ hz)
    have h1 := (h y (by simp)).len
    have h2 := (h y (by simp)).small
    show (TL.tl y ++ ([] ++ TL.joinL [] ((y2 :: r).map TL.tl))).length ≤ _ ∧ ∀ c ∈ TL.tl y ++ ([] ++ TL.joinL [] ((y2 :: r).map TL.tl)), c < 128
    rw [List.nil_append]
    constructor
    · rw [List.length_append, List.length_cons]
      have := ih.1
      rw [len_tl] at h1
      omega
    · intro c hc
      rcases List.mem_append.mp hc with x | x
      · exact h2 c x
      · exact ih.2 c x
theorem plain_join {l : List Str} (h : ∀ y ∈ l, Plain 1 y) : Plain l.length (Txt.join "" l) := by
  have e : TL.tl (Txt.join "" l) = TL.joinL [] (l.map TL.tl) := by rw [TL.join_eq, TL.tl_join]; rfl
  have q := plain_joinL h
  rw [← e] at q
  exact ⟨q.1, q.2⟩
theorem mem_joinL {S : List Nat} {c : Nat} {p : List Nat} : ∀ {ps : List (List Nat)}, p ∈ ps → c ∈ p → c ∈ TL.joinL S ps
  | [q], h, hc => by
    cases List.mem_singleton.mp h
    exact hc
  | q :: q2 :: r, h, hc => by
    show c ∈ q ++ (S ++ TL.joinL S (q2 :: r))
    rcases List.mem_cons.mp h with rfl | h
    · exact List.mem_append_left _ hc
    · exact List.mem_append_right _ (List.mem_append_right _ (mem_joinL h hc))
theorem Plain.part {n : Nat} {z a : Str} (h : Plain n z) (ha : a ∈ Txt.split z dot) : Plain n a := by
  refine ⟨Nat.le_trans (split_short z a ha) h.len, fun c hc => h.small c ?_⟩
  have e := PySem.StrLaws.join_split z dot
  rw [← e, TL.tl_join]
  exact mem_joinL (List.mem_map_of_mem ha) hc
theorem sum_len {l : List Str} (h : ∀ y ∈ l, Plain 1 y) : (l.map (·.length)).sum ≤ l.length := by
  induction l with
  | nil => exact Nat.le_refl _
  | cons y r ih =>
    have h1 := (h y (by simp)).len
    have h2 := ih fun z hz => h z (List.mem_cons_of_mem _ hz)
    rw [List.map_cons, List.sum_cons, List.length_cons]
    omega
/-! ### heaps of which the bag may have changed -/
theorem Kept.refl (b : Addr) (H : Hp) : Kept b H H := fun _ _ _ h => h
theorem Kept.trans {b : Addr} {H H1 H2 : Hp} (a : Kept b H H1) (c : Kept b H1 H2) : Kept b H H2 := fun x o h e => c x o h (a x o h e)
theorem Kept.same {b : Addr} {H H' : Hp} (h : Same H H') : Kept b H H' := fun x o _ e => h x o e
theorem Kept.new {b : Addr} {H : Hp} {p : Addr} {o : HO} (h : H p = none) : Kept b H (upd H p o) := Kept.same (same_new h)
theorem Kept.at {b : Addr} {H : Hp} {o : HO} : Kept b H (upd H b o) := fun x o h e => by
  rw [upd_ne h]
  exact e
theorem Bag.at {H : Hp} {b : Addr} {n m : Int} (n0 : 0 ≤ n) (m0 : 0 ≤ m) (m1 : m < 2147483648) : Bag (upd H b (.lst [.int n, .int m])) b := ⟨n, m, upd_same, n0, m0, m1⟩
theorem Bag.ne {H : Hp} {b p : Addr} (h : Bag H b) (hp : H p = none) : p ≠ b := by
  obtain ⟨n, m, e, _⟩ := h
  exact (ne_of_none e hp).symm
theorem Bag.new {H : Hp} {b p : Addr} {o : HO} (h : Bag H b) (hp : H p = none) : Bag (upd H p o) b := h.same (same_new hp)
theorem Kept.free {b p : Addr} {H H' : Hp} (k : Kept b H H') (hb : Bag H' b) (h : H' p = none) : H p = none := by
  have ne := hb.ne h
  cases e : H p with
  | none => rfl
  | some o =>
    rw [k p o ne e] at h
    cases h
/-- a comprehension of drawn texts of one sign -/
theorem lc_draw {n i : Nat} {te : TE} {vs : List Nat} {σ : L2.St} {H1 : Hp} {D b : Addr} {Qd : Hp → Prop} (hb : Bag H1 b) (nD : H1 D = none) (hn : n ≤ 1000) (hσ : ∀ x, wipe ((wipe σ vs).set i (some x)) vs = wipe σ vs)
    (hte : ∀ (x : V) (H3 : Hp) (Q' : V → Hp → Prop), Bag H3 b → (∀ y H4, Plain 1 y → Kept b H3 H4 → Bag H4 b → Q' (.str y) H4) → te ((wipe σ vs).set i (some x)) H3 Q')
    (hd : ∀ (ys : List Str) (H3 : Hp), ys.length = n → (∀ y ∈ ys, Plain 1 y) → Kept b H1 H3 → Bag H3 b → H3 D = some (.lst (ys.map V.str)) → Qd H3) :
    ∃ W : Nat → Nat → Hp → Prop, (∃ m, W 0 m (upd H1 D (.lst []))) ∧ ∀ j m H, W j m H →
      ((Itr 0 n).stop j H ∧ Qd H) ∨ ((Itr 0 n).go j H ∧ ∃ Nx : Hp → Prop, (∀ H', Nx H' → ∃ m', m' < m ∧ W (j + 1) m' H') ∧ ∀ x H', (Itr 0 n).yld j H x H' → gName i x (wipe σ vs) H' fun σ2 H2 => wipe σ2 vs = wipe σ vs ∧ tYes σ2 H2 fun c H3 =>
        if c = true then te σ2 H3 fun y H4 => ∃ acc, H4 D = some (.lst acc) ∧ acc.length < sizeLine ∧ Nx (upd H4 D (.lst (acc ++ [y]))) else Nx H3) := by
  refine lc_it walk_range (fun j H3 => ∃ ys : List Str, ys.length = j ∧ (∀ y ∈ ys, Plain 1 y) ∧ Kept b H1 H3 ∧ Bag H3 b ∧ H3 D = some (.lst (ys.map V.str))) ?_ (fun _ _ _ _ => trivial) ?_ ?_
  · exact ⟨[], rfl, (fun _ h => by cases h), Kept.new nD, hb.new nD, upd_same⟩
  · rintro j x H3 H4 hj ⟨ys, l, hp, k, hb3, d3⟩ ⟨rfl, rfl⟩
    refine ⟨hσ _, ?_⟩
    simp only [tYes, if_true]
    refine hte _ _ _ hb3 fun y H5 hy k5 b5 => ?_
    have nDb : D ≠ b := hb.ne nD
    have d5 := k5 D _ nDb d3
    refine ⟨_, d5, ?_, ys ++ [y], ?_, ?_, ?_, ?_, ?_⟩
    · rw [List.length_map]
      exact small1000 (by omega)
    · rw [List.length_append, l]
      rfl
    · intro z hz
      rcases List.mem_append.mp hz with x | x
      · exact hp z x
      · cases List.mem_singleton.mp x
        exact hy
    · intro x o hx e
      rw [upd_ne (ne_of_none e nD)]
      exact (k.trans k5) x o hx e
    · obtain ⟨n5, m5, e5, r5⟩ := b5
      exact ⟨n5, m5, by rw [upd_ne nDb.symm]; exact e5, r5⟩
    · rw [upd_same, List.map_append]
      rfl
  · rintro H3 ⟨ys, l, hp, k, hb3, d3⟩
    exact hd ys H3 l hp k hb3 d3
section
variable {P : Program} {w : World} {K : PySem.W.Frag} {mg : Str → Option Value} {base : Heap}
def sp_L_text (K : PySem.W.Frag) : Sp := fun vs H Q _ => ∃ (b : Addr) (most : Int), vs = [.ref b, .int most] ∧ Bag H b ∧ 0 ≤ most ∧ most ≤ 50 ∧ ∀ z H', Plain 50 z → Kept b H H' → Bag H' b → Q (.str z) H'
theorem ok_L_text (T : Top K mg) : FnOk P w K mg base CX0 2 T.f__law_text T.d__law_text ["_law_bag_here", "_law_most"] (sp_L_text K) := by
  have G__law_take : FnOk P w K mg base CX0 1 T.f__law_take T.d__law_take ["_law_bag_here", "_law_many"] (sp_L_take K) := ok_L_take T
  refine T.F__law_text.ok scL_text (fun vs H Q E h => ?_) (fun cdv A outer s H vs Q E hr h => ?_)
  · obtain ⟨b, most, rfl, _⟩ := h
    rfl
  · obtain ⟨b, most, rfl, hb, m0, m1, q⟩ := h
    refine ⟨_, (pss_cons (ps_set (i := 2) scL_text.nd rfl (.inr rfl) pe_str)
      (pss_one (ps_ret (pe_m1 F.slot_str_join F.type_str_join mt_join pe_str (pe_lc (own := [("_law_turn", 3)]) rfl scL_text.nd (pi_range1 (by rfl) T.m_range (pa_cons (pe_call G__law_take (hr.mono (by decide)) (by rfl) T.g__law_take T.F__law_take.kp T.b__law_take .nil pass0 (pa_cons (pv 0) (pa_cons (pe_op op_add (pv 1) pe_int) pa_nil))) pa_nil)) (blkOk_by (N := N_L_text) (sc := defScope s_L_text) (by decide +kernel)) (fun _ _ _ _ _ => (pg_name (i := 3) scL_text.nd rfl (.inl rfl))) (fun _ _ _ _ _ => pts_nil) (fun _ _ _ _ _ => (pe_ix ix_str (pv 2) (pe_call G__law_take (hr.mono (by decide)) (by rfl) T.g__law_take T.F__law_take.kp T.b__law_take .nil pass0 (pa_cons (pv 0) (pa_cons (pe_ix (r := rIxL K) ix_list (pe_lst (pa_cons pe_int (pa_cons pe_int pa_nil))) (pe_call G__law_take (hr.mono (by decide)) (by rfl) T.g__law_take T.F__law_take.kp T.b__law_take .nil pass0 (pa_cons (pv 0) (pa_cons pe_int pa_nil))) (fun _ _ => rfl)) pa_nil))) (fun _ _ => rfl)))))))), ?_⟩
    refine ⟨⟨_, rfl⟩, .ref b, rfl, .int most, rfl, most, 1, rfl, rfl, b, most + 1, rfl, hb, by omega, by omega, fun d n m d0 d1 n0 g0 g1 => ?_⟩
    refine ⟨d, rfl, by omega, by omega, fun D nD => lc_draw (n := d.toNat) (b := b) (Bag.at n0 g0 g1) nD (by omega) (fun _ => rfl) ?_ ?_⟩
    · intro x H3 Q' hb3 k
      refine ⟨.str "azbym09-.", rfl, .ref b, rfl, (by show 2 ≤ sizeLine; decide), fun l nl => ?_⟩
      refine ⟨.ref b, rfl, b, 2, rfl, hb3.new nl, by decide, by decide, fun d2 n2 m2 d20 d21 n20 m20 m21 => ?_⟩
      have nlb : l ≠ b := hb3.ne nl
      have hl : (upd (upd H3 l (.lst [.int 5, .int 9])) b (.lst [.int n2, .int m2])) l = some (.lst [.int 5, .int 9]) := by rw [upd_ne nlb, upd_same]
      obtain ⟨v, hv, v5⟩ : ∃ v : Int, atI [V.int 5, .int 9] d2 = some (.int v) ∧ (v = 5 ∨ v = 9) := by
        have : d2 = 0 ∨ d2 = 1 := by omega
        rcases this with rfl | rfl
        · exact ⟨5, rfl, .inl rfl⟩
        · exact ⟨9, rfl, .inr rfl⟩
      refine ⟨l, _, d2, .int v, rfl, rfl, SqL.of hl, hv, b, v, rfl, Bag.at n20 m20 m21, by omega, by omega, fun d3 n3 m3 d30 d31 n30 m30 m31 => ?_⟩
      have h9 : d3.toNat < ("azbym09-." : Str).cps.toList.length := by
        show d3.toNat < 9
        omega
      refine ⟨_, d3, ("azbym09-." : Str).cps.toList[d3.toNat], rfl, rfl, by decide, ?_, ?_⟩
      · have := atI_nat (j := d3.toNat) (List.getElem?_eq_getElem h9)
        rwa [show ((d3.toNat : Nat) : Int) = d3 by omega] at this
      refine k _ _ ⟨Nat.le_refl _, ?_⟩ ((Kept.new nl).trans (Kept.at.trans Kept.at)) (Bag.at n30 m30 m31)
      intro c hc
      have hc : c ∈ [("azbym09-." : Str).cps.toList[d3.toNat]] := hc
      rw [List.mem_singleton] at hc
      subst hc
      have all : ∀ c ∈ ("azbym09-." : Str).cps.toList, c < 128 := by decide
      exact all _ (List.getElem_mem h9)
    · intro ys H3 l hp k3 b3 d3
      have sl := sum_len hp
      refine ⟨_, D, ys, rfl, rfl, .inl (SqL.of d3), ?_, ?_⟩
      · show (ys.map (·.length)).sum + ys.length * 0 ≤ 16777216
        omega
      · exact q _ H3 ((plain_join hp).mono (by omega)) (Kept.at.trans k3) b3
/-! ### a text near those that are asked for -/
def sp_L_near (K : PySem.W.Frag) : Sp := fun vs H Q _ => ∃ b : Addr, vs = [.ref b] ∧ Bag H b ∧ ∀ z H', Plain 50 z → Kept b H H' → Bag H' b → Q (.str z) H'
/-- one of written texts of one sign -/
theorem of_signs {b : Addr} {H3 : Hp} {Q' : V → Hp → Prop} {cs : List Str} (hb3 : Bag H3 b) (hc : ∀ y ∈ cs, Plain 1 y) (h0 : cs ≠ []) (h1 : cs.length ≤ 1000) (k : ∀ y H4, Plain 1 y → Kept b H3 H4 → Bag H4 b → Q' (.str y) H4) (l : Addr) (nl : H3 l = none) :
    sp_L_of K ([.ref b, .ref l] ++ []) (upd H3 l (.lst (cs.map V.str))) Q' E0 := by
  refine ⟨b, l, cs.map V.str, rfl, hb3.new nl, upd_same, hb3.ne nl, by simpa using h0, by simpa using h1, fun v n m hv n0 m0 m1 => ?_⟩
  obtain ⟨y, hy, rfl⟩ := List.mem_map.mp hv
  exact k y _ (hc y hy) ((Kept.new nl).trans Kept.at) (Bag.at n0 m0 m1)
theorem plain_all {n : Nat} {cs : List Str} (h : (cs.all fun y => decide (y.length ≤ n) && y.cps.toList.all fun c => decide (c < 128)) = true) : ∀ y ∈ cs, Plain n y := fun y hy => by
  have h1 := List.all_eq_true.mp h y hy
  rw [Bool.and_eq_true] at h1
  exact ⟨of_decide_eq_true h1.1, fun c hc => of_decide_eq_true (List.all_eq_true.mp h1.2 c hc)⟩
theorem ok_L_near (T : Top K mg) : FnOk P w K mg base CX0 3 T.f__law_near T.d__law_near ["_law_bag_here"] (sp_L_near K) := by
  have G__law_take : FnOk P w K mg base CX0 1 T.f__law_take T.d__law_take ["_law_bag_here", "_law_many"] (sp_L_take K) := ok_L_take T
  have G__law_of : FnOk P w K mg base CX0 2 T.f__law_of T.d__law_of ["_law_bag_here", "_law_some"] (sp_L_of K) := ok_L_of T
  refine T.F__law_near.ok scL_near (fun vs H Q E h => ?_) (fun cdv A outer s H vs Q E hr h => ?_)
  · obtain ⟨b, rfl, _⟩ := h
    rfl
  · obtain ⟨b, rfl, hb, q⟩ := h
    have big : 1000 ≤ sizeLine := by decide
    refine ⟨_, (pss_cons (ps_set (i := 1) scL_near.nd rfl (.inl rfl) (pe_m1 F.slot_str_join F.type_str_join mt_join pe_str (pe_lc (own := [("_law_turn", 8)]) rfl scL_near.nd (pi_range1 (by rfl) T.m_range (pa_cons (pe_op op_add pe_int (pe_call G__law_take (hr.mono (by decide)) (by rfl) T.g__law_take T.F__law_take.kp T.b__law_take .nil pass0 (pa_cons (pv 0) (pa_cons pe_int pa_nil)))) pa_nil)) (blkOk_by (N := N_L_near) (sc := defScope s_L_near) (by decide +kernel)) (fun _ _ _ _ _ => (pg_name (i := 8) scL_near.nd rfl (.inl rfl))) (fun _ _ _ _ _ => pts_nil) (fun _ _ _ _ _ => (pe_call G__law_of (hr.mono (by decide)) (by rfl) T.g__law_of T.F__law_of.kp T.b__law_of .nil pass0 (pa_cons (pv 0) (pa_cons (pe_lst (pa_cons pe_str (pa_cons pe_str (pa_cons pe_str pa_nil)))) pa_nil)))))))
      (pss_cons (ps_set (i := 2) scL_near.nd rfl (.inl rfl) (pe_m1 F.slot_str_join F.type_str_join mt_join pe_str (pe_lc (own := [("_law_turn", 8)]) rfl scL_near.nd (pi_range1 (by rfl) T.m_range (pa_cons (pe_op op_add pe_int (pe_call G__law_take (hr.mono (by decide)) (by rfl) T.g__law_take T.F__law_take.kp T.b__law_take .nil pass0 (pa_cons (pv 0) (pa_cons pe_int pa_nil)))) pa_nil)) (blkOk_by (N := N_L_near) (sc := defScope s_L_near) (by decide +kernel)) (fun _ _ _ _ _ => (pg_name (i := 8) scL_near.nd rfl (.inl rfl))) (fun _ _ _ _ _ => pts_nil) (fun _ _ _ _ _ => (pe_call G__law_of (hr.mono (by decide)) (by rfl) T.g__law_of T.F__law_of.kp T.b__law_of .nil pass0 (pa_cons (pv 0) (pa_cons (pe_lst (pa_cons pe_str (pa_cons pe_str (pa_cons pe_str pa_nil)))) pa_nil)))))))
      (pss_cons (ps_set (i := 3) scL_near.nd rfl (.inl rfl) (pe_m1 F.slot_str_join F.type_str_join mt_join pe_str (pe_lc (own := [("_law_turn", 8)]) rfl scL_near.nd (pi_range1 (by rfl) T.m_range (pa_cons (pe_op op_add pe_int (pe_call G__law_take (hr.mono (by decide)) (by rfl) T.g__law_take T.F__law_take.kp T.b__law_take .nil pass0 (pa_cons (pv 0) (pa_cons pe_int pa_nil)))) pa_nil)) (blkOk_by (N := N_L_near) (sc := defScope s_L_near) (by decide +kernel)) (fun _ _ _ _ _ => (pg_name (i := 8) scL_near.nd rfl (.inl rfl))) (fun _ _ _ _ _ => pts_nil) (fun _ _ _ _ _ => (pe_call G__law_of (hr.mono (by decide)) (by rfl) T.g__law_of T.F__law_of.kp T.b__law_of .nil pass0 (pa_cons (pv 0) (pa_cons (pe_lst (pa_cons pe_str (pa_cons pe_str (pa_cons pe_str (pa_cons pe_str pa_nil))))) pa_nil)))))))
      (pss_cons (ps_set (i := 4) scL_near.nd rfl (.inl rfl) (pe_call G__law_of (hr.mono (by decide)) (by rfl) T.g__law_of T.F__law_of.kp T.b__law_of .nil pass0 (pa_cons (pv 0) (pa_cons (pe_lst (pa_cons (pv 1) (pa_cons (pe_op op_add_str (pe_op op_add_str (pv 1) pe_str) (pv 2)) (pa_cons (pv 3) pa_nil)))) pa_nil))))
      (pss_cons (ps_par (i := 5) (j := 6) (by rfl) scL_near.nd rfl rfl (by decide) rfl rfl (pa_cons (pe_call G__law_take (hr.mono (by decide)) (by rfl) T.g__law_take T.F__law_take.kp T.b__law_take .nil pass0 (pa_cons (pv 0) (pa_cons (pe_op op_add (pe_callB call_len_str (by rfl) T.m_len (by decide +kernel) (pa_cons (pv 4) pa_nil)) pe_int) pa_nil))) (pa_cons (pe_call G__law_of (hr.mono (by decide)) (by rfl) T.g__law_of T.F__law_of.kp T.b__law_of .nil pass0 (pa_cons (pv 0) (pa_cons (pe_lst (pa_cons pe_str (pa_cons pe_str (pa_cons pe_str (pa_cons pe_str (pa_cons pe_str (pa_cons pe_str (pa_cons pe_str (pa_cons pe_str (pa_cons pe_str (pa_cons pe_str pa_nil))))))))))) pa_nil))) pa_nil)) (by rfl))
      (pss_cons (ps_set (i := 7) scL_near.nd rfl (.inl rfl) (pe_call G__law_take (hr.mono (by decide)) (by rfl) T.g__law_take T.F__law_take.kp T.b__law_take .nil pass0 (pa_cons (pv 0) (pa_cons pe_int pa_nil))))
      (pss_cons (ps_if (pt_cmpR op_lt (pv 7) pe_int (nomark _)) (pss_one (ps_ret (pv 4))) pss_nil)
      (pss_one (ps_ret (pe_op op_add_str (pe_op op_add_str (pe_slice sl_str (pv 4) po_none (po_some (pv 5))) (pe_ix ix_list (pe_lst (pa_cons pe_str (pa_cons (pv 6) (pa_cons (pv 6) pa_nil)))) (pe_op op_sub (pv 7) pe_int) (fun _ _ => rfl))) (pe_slice sl_str (pv 4) (po_some (pe_op op_add (pv 5) (pe_ix ix_list (pe_lst (pa_cons pe_int (pa_cons pe_int (pa_cons pe_int pa_nil)))) (pe_op op_sub (pv 7) pe_int) (fun _ _ => rfl)))) po_none))))))))))), ?_⟩
    -- letters
    refine ⟨⟨_, rfl⟩, .ref b, rfl, b, 9, rfl, hb, by decide, by decide, fun d n m d0 d1 n0 g0 g1 => ⟨1, d, rfl, rfl, 1 + d, rfl, by omega, by omega, fun D nD => lc_draw (n := (1 + d).toNat) (b := b) (Bag.at n0 g0 g1) nD (by omega) (fun _ => rfl)
      (fun x H3 Q' hb3 k => ⟨.ref b, rfl, (by show 3 ≤ sizeLine; decide), fun l nl => of_signs (K := K) (cs := ["a", "k", "z"]) hb3 (plain_all (by decide)) (by simp) (by decide) k l nl⟩) (fun ys H3 ly hp k3 b3 d3 => ⟨_, D, ys, rfl, rfl, .inl (SqL.of d3), ?_, ?_⟩)⟩⟩
    · have sl := sum_len hp
      show (ys.map (·.length)).sum + ys.length * 0 ≤ 16777216
      omega
    have p1 : Plain 9 (Txt.join "" ys) := (plain_join hp).mono (by omega)
    have kk1 : Kept b H H3 := Kept.at.trans k3
    generalize Txt.join "" ys = z1 at p1
    clear k3 d3 hp ly n0 g0 g1 d0 d1
    -- lasts
    refine ⟨⟨_, rfl⟩, .ref b, rfl, b, 9, rfl, b3, by decide, by decide, fun d n m d0 d1 n0 g0 g1 => ⟨1, d, rfl, rfl, 1 + d, rfl, by omega, by omega, fun D nD => lc_draw (n := (1 + d).toNat) (b := b) (Bag.at n0 g0 g1) nD (by omega) (fun _ => rfl)
      (fun x H3 Q' hb3 k => ⟨.ref b, rfl, (by show 3 ≤ sizeLine; decide), fun l nl => of_signs (K := K) (cs := ["a", "q", "z"]) hb3 (plain_all (by decide)) (by simp) (by decide) k l nl⟩) (fun ys H4 ly hp k4 b4 d4 => ⟨_, D, ys, rfl, rfl, .inl (SqL.of d4), ?_, ?_⟩)⟩⟩
    · have sl := sum_len hp
      show (ys.map (·.length)).sum + ys.length * 0 ≤ 16777216
      omega
    have p2 : Plain 9 (Txt.join "" ys) := (plain_join hp).mono (by omega)
    have kk2 : Kept b H H4 := kk1.trans (Kept.at.trans k4)
    generalize Txt.join "" ys = z2 at p2
    clear k4 d4 hp ly n0 g0 g1 d0 d1
    -- digits
    refine ⟨⟨_, rfl⟩, .ref b, rfl, b, 13, rfl, b4, by decide, by decide, fun d n m d0 d1 n0 g0 g1 => ⟨1, d, rfl, rfl, 1 + d, rfl, by omega, by omega, fun D nD => lc_draw (n := (1 + d).toNat) (b := b) (Bag.at n0 g0 g1) nD (by omega) (fun _ => rfl)
      (fun x H3 Q' hb3 k => ⟨.ref b, rfl, (by show 4 ≤ sizeLine; decide), fun l nl => of_signs (K := K) (cs := ["0", "9", "-", "e"]) hb3 (plain_all (by decide)) (by simp) (by decide) k l nl⟩) (fun ys H5 ly hp k5 b5 d5 => ⟨_, D, ys, rfl, rfl, .inl (SqL.of d5), ?_, ?_⟩)⟩⟩
    · have sl := sum_len hp
      show (ys.map (·.length)).sum + ys.length * 0 ≤ 16777216
      omega
    have p3 : Plain 13 (Txt.join "" ys) := (plain_join hp).mono (by omega)
    have kk3 : Kept b H H5 := kk2.trans (Kept.at.trans k5)
    generalize Txt.join "" ys = z3 at p3
    clear k5 d5 hp ly n0 g0 g1 d0 d1
    -- one of three
    have pd : Plain 1 (".": Str) := ⟨by decide, by decide⟩
    have p12 : Plain 19 (z1 ++ "." ++ z2) := (p1.app pd).app p2
    have l1 := p1.len
    have l2 := p2.len
    have l3 := (p1.app pd).len
    refine ⟨.ref b, rfl, .str z1, rfl, .str z1, rfl, _, _, rfl, rfl, (by show z1.length + 1 ≤ sizeLine; omega), .str z2, rfl, _, _, rfl, rfl, (by omega), .str z3, rfl, (by show 3 ≤ sizeLine; decide), fun l nl => ?_⟩
    refine ⟨b, l, _, rfl, b5.new nl, upd_same, b5.ne nl, by simp, by show 3 ≤ 1000; decide, fun v n m hv n0 m0 m1 => ?_⟩
    obtain ⟨z, rfl, pz⟩ : ∃ z, v = .str z ∧ Plain 20 z := by
      rcases List.mem_cons.mp hv with rfl | hv
      · exact ⟨_, rfl, p1.mono (by decide)⟩
      rcases List.mem_cons.mp hv with rfl | hv
      · exact ⟨_, rfl, p12.mono (by decide)⟩
      cases List.mem_singleton.mp hv
      exact ⟨_, rfl, p3.mono (by decide)⟩
    have lz := pz.len
    have kk4 := (kk3.trans (Kept.new (o := .lst [.str z1, .str (z1 ++ "." ++ z2), .str z3]) nl)).trans (Kept.at (o := .lst [.int n, .int m]))
    have b6 := Bag.at (H := upd H5 l (.lst [.str z1, .str (z1 ++ "." ++ z2), .str z3])) (b := b) n0 m0 m1
    -- at, sign
    refine ⟨.ref b, rfl, .str z, rfl, z, rfl, by omega, _, 1, rfl, rfl, b, _, rfl, b6, by omega, by omega, fun a n2 m2 a0 a1 n20 m20 m21 => ?_⟩
    have b7 := Bag.at (H := upd (upd H5 l (.lst [.str z1, .str (z1 ++ "." ++ z2), .str z3])) b (.lst [.int n, .int m])) (b := b) n20 m20 m21
    refine ⟨.ref b, rfl, (by show 10 ≤ sizeLine; decide), fun l2 nl2 => of_signs (K := K) (cs := [" ", ".", "A", "_", "-", "0", "a", "#", "=", "\n"]) b7 (plain_all (by decide)) (by simp) (by decide) (fun y H8 py k8 b8 => ⟨_, _, rfl, ?_⟩) l2 nl2⟩
    have kk5 : Kept b H H8 := (kk4.trans Kept.at).trans k8
    -- way
    refine ⟨.ref b, rfl, b, 5, rfl, b8, by decide, by decide, fun d n9 m9 d0 d1 n90 m90 m91 => ?_⟩
    have b9 := Bag.at (H := H8) (b := b) n90 m90 m91
    have kk6 := kk5.trans (Kept.at (o := .lst [.int n9, .int m9]))
    refine ⟨.int d, rfl, d, 2, rfl, rfl, _, rfl, ite2 (fun e => ?_) (fun e => ?_)⟩
    · exact ⟨.str z, rfl, q _ _ (pz.mono (by decide)) kk6 b9⟩
    · have hd : ¬ d < 2 := fun x => e (decide_eq_true x)
      obtain ⟨s1, hs1, ps1⟩ : ∃ s1, atI [V.str "", .str y, .str y] (d - 2) = some (.str s1) ∧ Plain 1 s1 := by
        have : d = 2 ∨ d = 3 ∨ d = 4 := by omega
        rcases this with rfl | rfl | rfl
        · exact ⟨"", rfl, ⟨by decide, by decide⟩⟩
        · exact ⟨y, rfl, py⟩
        · exact ⟨y, rfl, py⟩
      obtain ⟨j, hj⟩ : ∃ j : Int, atI [V.int 1, .int 0, .int 1] (d - 2) = some (.int j) := by
        have : d = 2 ∨ d = 3 ∨ d = 4 := by omega
        rcases this with rfl | rfl | rfl
        · exact ⟨1, rfl⟩
        · exact ⟨0, rfl⟩
        · exact ⟨1, rfl⟩
      have c1 := pz.cut none (some a)
      have c2 := pz.cut (some (a + j)) none
      have ll1 := c1.len
      have ll2 := ps1.len
      have ll3 := (c1.app ps1).len
      have ll4 := c2.len
      refine ⟨.str z, rfl, .int a, rfl, a, rfl, z, rfl, by omega, .str y, rfl, .str y, rfl, (by show 3 ≤ sizeLine; decide), fun l3 nl3 => ?_⟩
      refine ⟨.int d, rfl, d, 2, rfl, rfl, l3, _, d - 2, .str s1, rfl, rfl, SqL.of upd_same, hs1, _, _, rfl, rfl, by omega, ?_⟩
      refine ⟨.str z, rfl, .int a, rfl, (by show 3 ≤ sizeLine; decide), fun l4 nl4 => ?_⟩
      refine ⟨.int d, rfl, d, 2, rfl, rfl, l4, _, d - 2, .int j, rfl, rfl, SqL.of upd_same, hj, a, j, rfl, rfl, a + j, rfl, z, rfl, by omega, _, _, rfl, rfl, by omega, ?_⟩
      exact q _ _ (((c1.app ps1).app c2).mono (by decide)) ((kk6.trans (Kept.new nl3)).trans (Kept.new nl4)) ((b9.new nl3).new nl4)
end
end K01

set_option Elab.async false
set_option linter.all false
set_option maxRecDepth 100000
namespace K01
open PySem PySem.Spec PyProof.Rows L2 My
/-! ### things that are asked about -/
/-- data that repr can show -/
structure Shows (d : PyData) : Prop where
  s : d.showable = true
  n : d.hasDict = false
  p : d.depth ≤ 8
  z : d.shown.length ≤ sizeLine
def Thing (K : PySem.W.Frag) (H : Hp) (v : V) : Prop := Ask K H v ∧ ∃ d, Dp K H v d ∧ Shows d
theorem shows_str {n : Nat} {z : Str} (h : Plain n z) (hn : n ≤ 1000) : Shows (.str z) := by
  refine ⟨rfl, rfl, Nat.zero_le _, ?_⟩
  have h1 := PySem.StrLaws.reprText_len z fun c hc => Nat.lt_trans (h.small c hc) (by decide)
  have h2 := h.len
  have h3 : (100000 : Nat) ≤ sizeLine := by decide
  show (reprText z).length ≤ sizeLine
  omega
theorem texts_show {l : List Str} (h : ∀ y ∈ l, Plain 50 y) : PyData.showableAll (l.map .str) = true ∧ PyData.hasDictAll (l.map .str) = false ∧ PyData.depthAll (l.map .str) = 0 ∧ PyData.leavesShortAll 8 (l.map .str) = true ∧ PyData.bulkAll (l.map .str) ≤ 51 * l.length := by
  induction l with
  | nil => exact ⟨rfl, rfl, rfl, rfl, Nat.le_refl _⟩
  | cons y r ih =>
    obtain ⟨h1, h2, h3, h4, h5⟩ := ih fun z hz => h z (List.mem_cons_of_mem _ hz)
    have hy := h y (by simp)
    have hl := hy.len
    refine ⟨?_, ?_, ?_, ?_, ?_⟩
    · show (true && PyData.showableAll (r.map .str)) = true
      rw [h1]; rfl
    · show (false || PyData.hasDictAll (r.map .str)) = false
      rw [h2]; rfl
    · show max 0 (PyData.depthAll (r.map .str)) = 0
      rw [h3]; rfl
    · show ((PyData.str y).leavesShort 8 && PyData.leavesShortAll 8 (r.map .str)) = true
      rw [h4, Bool.and_true]
      have : ∀ c ∈ y.cps.toList, c < 16 ^ 8 := fun c hc => Nat.lt_trans (hy.small c hc) (by decide)
      simpa only [PyData.leavesShort, List.all_eq_true, decide_eq_true_eq] using this
    · show y.cps.size + 1 + PyData.bulkAll (r.map .str) ≤ 51 * (r.length + 1)
      have : y.length = y.cps.size := rfl
      omega
theorem shows_list {l : List Str} (h : ∀ y ∈ l, Plain 50 y) (hl : l.length ≤ 1000) : Shows (.list (l.map .str)) := by
  obtain ⟨h1, h2, h3, h4, h5⟩ := texts_show h
  refine ⟨h1, h2, by show PyData.depthAll (l.map .str) + 1 ≤ 8; omega, ?_⟩
  have b := PyData.shown_le_bulk 8 (by decide) (.list (l.map .str)) h4
  have e : (PyData.list (l.map .str)).bulk = PyData.bulkAll (l.map .str) := rfl
  have h6 : (1000000 : Nat) ≤ sizeLine := by decide
  rw [e] at b
  omega
theorem shows_tuple {l : List Str} (h : ∀ y ∈ l, Plain 50 y) (hl : l.length ≤ 1000) : Shows (.tuple (l.map .str)) := by
  obtain ⟨h1, h2, h3, h4, h5⟩ := texts_show h
  refine ⟨h1, h2, by show PyData.depthAll (l.map .str) + 1 ≤ 8; omega, ?_⟩
  have b := PyData.shown_le_bulk 8 (by decide) (.tuple (l.map .str)) h4
  have e : (PyData.tuple (l.map .str)).bulk = PyData.bulkAll (l.map .str) := rfl
  have h6 : (1000000 : Nat) ≤ sizeLine := by decide
  rw [e] at b
  omega
theorem dp_strs {K : PySem.W.Frag} {H : Hp} : ∀ l : List Str, DpAll K H (l.map V.str) (l.map .str)
  | [] => .nil
  | y :: r => .cons (.str y) (dp_strs r)
section
variable {K : PySem.W.Frag} {H H' : Hp} {v : V}
mutual
theorem Dp.same (s : Same H H') : ∀ {v : V} {d : PyData}, Dp K H v d → Dp K H' v d
  | _, _, .non => .non
  | _, _, .bl b => .bl b
  | _, _, .int i => .int i
  | _, _, .str x => .str x
  | _, _, .lst h a => .lst (s.seq h) (DpAll.same s a)
  | _, _, .tup h a => .tup (by
      rcases h with (h | ⟨o, h⟩) | h
      · exact .inl (.inl (s _ _ h))
      · exact .inl (.inr ⟨o, s _ _ h⟩)
      · exact .inr h) (DpAll.same s a)
theorem DpAll.same (s : Same H H') : ∀ {vs : List V} {ds : List PyData}, DpAll K H vs ds → DpAll K H' vs ds
  | _, _, .nil => .nil
  | _, _, .cons h a => .cons (Dp.same s h) (DpAll.same s a)
end
end
/-- a kind that is told by values that stand in the heap, or by the value alone -/
inductive Kind (H : Hp) : V → String → Prop where
  | non : Kind H .non "NoneType"
  | bl (b : Bool) : Kind H (.bl b) "bool"
  | int (i : Int) : Kind H (.int i) "int"
  | lst {a : Addr} {xs : List V} (e : H a = some (.lst xs)) : Kind H (.ref a) "list"
  | tup {a : Addr} {xs : List V} (e : H a = some (.tup xs)) : Kind H (.ref a) "tuple"
theorem Kind.ask {K : PySem.W.Frag} {H : Hp} {v : V} {t : String} (k : Kind H v t) : Ask K H v := by
  cases k with
  | non => exact .inr ⟨fun _ => rfl, _, .base .non, by decide +kernel⟩
  | bl b => exact .inr ⟨fun _ => rfl, _, .base (.bl b), by decide +kernel⟩
  | int i => exact .inr ⟨fun _ => rfl, _, .base (.int i), by decide +kernel⟩
  | lst e => exact .inr ⟨fun _ => rfl, _, .base (.lst e), by decide +kernel⟩
  | tup e => exact .inr ⟨fun _ => rfl, _, .base (.tup e), by decide +kernel⟩
/-- asked about again, behind more -/
def Ask' (K : PySem.W.Frag) (H : Hp) (v : V) : Prop := (∃ z, v = .str z ∧ z.length ≤ 1000) ∨ ∃ t, Kind H v t
theorem Ask'.ask {K : PySem.W.Frag} {H : Hp} {v : V} (h : Ask' K H v) : Ask K H v := by
  rcases h with h | ⟨t, h⟩
  · exact .inl h
  · exact h.ask
theorem Ask'.same {K : PySem.W.Frag} {H H' : Hp} {v : V} (h : Ask' K H v) (s : Same H H') : Ask' K H' v := by
  rcases h with h | ⟨t, h⟩
  · exact .inl h
  · cases h with
    | non => exact .inr ⟨_, .non⟩
    | bl b => exact .inr ⟨_, .bl b⟩
    | int i => exact .inr ⟨_, .int i⟩
    | lst e => exact .inr ⟨_, .lst (s _ _ e)⟩
    | tup e => exact .inr ⟨_, .tup (s _ _ e)⟩
theorem step_new {H : Hp} {b p : Addr} {o : HO} (hb : Bag H b) (np : H p = none) : ∃ H2, upd H p o = H2 ∧ H2 p = some o ∧ Kept b H H2 ∧ Bag H2 b ∧ p ≠ b :=
  ⟨_, rfl, upd_same, Kept.new np, hb.new np, hb.ne np⟩
section
variable {P : Program} {w : World} {K : PySem.W.Frag} {mg : Str → Option Value} {base : Heap}
def sp_L_thing (K : PySem.W.Frag) : Sp := fun vs H Q _ => ∃ b : Addr, vs = [.ref b] ∧ Bag H b ∧ ∀ v d H', Ask' K H' v → Dp K H' v d → Shows d → Kept b H H' → Bag H' b → Q v H'
theorem ok_L_thing (T : Top K mg) : FnOk P w K mg base CX0 4 T.f__law_thing T.d__law_thing ["_law_bag_here"] (sp_L_thing K) := by
  have G__law_take : FnOk P w K mg base CX0 1 T.f__law_take T.d__law_take ["_law_bag_here", "_law_many"] (sp_L_take K) := ok_L_take T
  have G__law_text : FnOk P w K mg base CX0 2 T.f__law_text T.d__law_text ["_law_bag_here", "_law_most"] (sp_L_text K) := ok_L_text T
  have G__law_near : FnOk P w K mg base CX0 3 T.f__law_near T.d__law_near ["_law_bag_here"] (sp_L_near K) := ok_L_near T
  have G__law_of : FnOk P w K mg base CX0 2 T.f__law_of T.d__law_of ["_law_bag_here", "_law_some"] (sp_L_of K) := ok_L_of T
  refine T.F__law_thing.ok scL_thing (fun vs H Q E h => ?_) (fun cdv A outer s H vs Q E hr h => ?_)
  · obtain ⟨b, rfl, _⟩ := h
    rfl
  · obtain ⟨b, rfl, hb, q⟩ := h
    refine ⟨_, (pss_cons (ps_set (i := 1) scL_thing.nd rfl (.inl rfl) (pe_call G__law_take (hr.mono (by decide)) (by rfl) T.g__law_take T.F__law_take.kp T.b__law_take .nil pass0 (pa_cons (pv 0) (pa_cons pe_int pa_nil))))
      (pss_cons (ps_if (pt_cmpR op_lt (pv 1) pe_int (nomark _)) (pss_one (ps_ret (pe_call G__law_text (hr.mono (by decide)) (by rfl) T.g__law_text T.F__law_text.kp T.b__law_text .nil pass0 (pa_cons (pv 0) (pa_cons pe_int pa_nil))))) pss_nil)
      (pss_cons (ps_if (pt_cmpR op_lt (pv 1) pe_int (nomark _)) (pss_one (ps_ret (pe_call G__law_near (hr.mono (by decide)) (by rfl) T.g__law_near T.F__law_near.kp T.b__law_near .nil pass0 (pa_cons (pv 0) pa_nil)))) pss_nil)
      (pss_cons (ps_set (i := 2) scL_thing.nd rfl (.inl rfl) (pe_call G__law_near (hr.mono (by decide)) (by rfl) T.g__law_near T.F__law_near.kp T.b__law_near .nil pass0 (pa_cons (pv 0) pa_nil)))
      (pss_cons (ps_set (i := 3) scL_thing.nd rfl (.inl rfl) (pe_lst (pa_cons pe_non (pa_cons pe_bl (pa_cons pe_bl (pa_cons pe_int (pa_cons pe_int (pa_cons (pe_un un_neg pe_int) (pa_cons (pe_lst pa_nil) (pa_cons (pe_lst (pa_cons (pv 2) pa_nil)) (pa_cons (pe_tup (pa_cons (pv 2) pa_nil)) (pa_cons (pe_tup (pa_cons (pv 2) (pa_cons (pv 2) pa_nil))) (pa_cons (pe_m1 F.slot_str_split F.type_str_split mt_split (pv 2) pe_str) (pa_cons (pe_op op_pow pe_int pe_int) pa_nil))))))))))))))
      (pss_one (ps_ret (pe_call G__law_of (hr.mono (by decide)) (by rfl) T.g__law_of T.F__law_of.kp T.b__law_of .nil pass0 (pa_cons (pv 0) (pa_cons (pv 3) pa_nil)))))))))), ?_⟩
    refine ⟨.ref b, rfl, b, 6, rfl, hb, by decide, by decide, fun d n m d0 d1 n0 m0 m1 => ?_⟩
    have b1 := Bag.at (H := H) (b := b) n0 m0 m1
    have k1 := Kept.at (H := H) (b := b) (o := .lst [.int n, .int m])
    generalize upd H b (.lst [.int n, .int m]) = H1 at b1 k1
    refine ⟨.int d, rfl, d, 2, rfl, rfl, _, rfl, ite2 (fun e => ?_) (fun e => ?_)⟩
    · refine ⟨.ref b, rfl, b, 14, rfl, b1, by decide, by decide, fun z H2 pz k2 b2 => ?_⟩
      exact q _ _ _ (.inl ⟨z, rfl, Nat.le_trans pz.len (by decide)⟩) (.str z) (shows_str pz (by decide)) (k1.trans k2) b2
    refine ⟨.int d, rfl, d, 5, rfl, rfl, _, rfl, ite2 (fun e => ?_) (fun e => ?_)⟩
    · refine ⟨.ref b, rfl, b, rfl, b1, fun z H2 pz k2 b2 => ?_⟩
      exact q _ _ _ (.inl ⟨z, rfl, Nat.le_trans pz.len (by decide)⟩) (.str z) (shows_str pz (by decide)) (k1.trans k2) b2
    refine ⟨.ref b, rfl, b, rfl, b1, fun z H2 pz k2 b2 => ?_⟩
    have hz := pz.len
    refine ⟨1, rfl, Nat.zero_le _, fun l1 nl1 => ?_⟩
    obtain ⟨H3, e3, f3, k3, b3, ne3⟩ := step_new (o := .lst []) b2 nl1
    rw [e3]
    refine ⟨.str z, rfl, (by show 1 ≤ sizeLine; decide), fun l2 nl2 => ?_⟩
    obtain ⟨H4, e4, f4, k4, b4, ne4⟩ := step_new (o := .lst [.str z]) b3 nl2
    rw [e4]
    refine ⟨.str z, rfl, (by show 1 ≤ sizeLine; decide), fun t1 nt1 => ?_⟩
    obtain ⟨H5, e5, f5, k5, b5, ne5⟩ := step_new (o := .tup [.str z]) b4 nt1
    rw [e5]
    refine ⟨.str z, rfl, .str z, rfl, (by show 2 ≤ sizeLine; decide), fun t2 nt2 => ?_⟩
    obtain ⟨H6, e6, f6, k6, b6, ne6⟩ := step_new (o := .tup [.str z, .str z]) b5 nt2
    rw [e6]
    refine ⟨.str z, rfl, ⟨z, rfl⟩, z, dot, rfl, rfl, rfl, Nat.le_trans (Nat.add_le_add_right hz 2) (by decide), fun l3 nl3 => ?_⟩
    obtain ⟨H7, e7, f7, k7, b7, ne7⟩ := step_new (o := .lst ((Txt.split z dot).map V.str)) b6 nl3
    rw [e7]
    refine ⟨10, 19, rfl, rfl, ⟨by decide, by decide, by decide⟩, (by show 12 ≤ sizeLine; decide), fun L nL => ?_⟩
    obtain ⟨H8, e8, f8, k8, b8, ne8⟩ := step_new (b := b) b7 nL
    rw [e8]
    refine ⟨.ref b, rfl, .ref L, rfl, b, L, _, rfl, b8, f8, ne8, by simp, by show 12 ≤ 1000; decide, fun v n m hv n0 m0 m1 => ?_⟩
    have b9 := Bag.at (H := H8) (b := b) n0 m0 m1
    have k9 := Kept.at (H := H8) (b := b) (o := .lst [.int n, .int m])
    generalize upd H8 b (.lst [.int n, .int m]) = H9 at b9 k9
    have kk : Kept b H H9 := k1.trans (k2.trans (k3.trans (k4.trans (k5.trans (k6.trans (k7.trans (k8.trans k9)))))))
    have one : ∀ y ∈ [z], Plain 50 y := fun y hy => by cases List.mem_singleton.mp hy; exact pz
    have two : ∀ y ∈ [z, z], Plain 50 y := fun y hy => by
      rcases List.mem_cons.mp hy with rfl | hy
      · exact pz
      · cases List.mem_singleton.mp hy; exact pz
    have g1 : H9 l1 = some (.lst []) := (k4.trans (k5.trans (k6.trans (k7.trans (k8.trans k9))))) _ _ ne3 f3
    have g2 : H9 l2 = some (.lst [.str z]) := (k5.trans (k6.trans (k7.trans (k8.trans k9)))) _ _ ne4 f4
    have g3 : H9 t1 = some (.tup [.str z]) := (k6.trans (k7.trans (k8.trans k9))) _ _ ne5 f5
    have g4 : H9 t2 = some (.tup [.str z, .str z]) := (k7.trans (k8.trans k9)) _ _ ne6 f6
    have g5 : H9 l3 = some (.lst ((Txt.split z dot).map V.str)) := (k8.trans k9) _ _ ne7 f7
    simp only [List.mem_cons, List.not_mem_nil, or_false] at hv
    rcases hv with rfl | rfl | rfl | rfl | rfl | rfl | rfl | rfl | rfl | rfl | rfl | rfl
    · exact q _ _ _ (.inr ⟨_, .non⟩) .non ⟨rfl, rfl, by decide, by decide⟩ kk b9
    · exact q _ _ _ (.inr ⟨_, .bl _⟩) (.bl _) ⟨rfl, rfl, by decide, by decide⟩ kk b9
    · exact q _ _ _ (.inr ⟨_, .bl _⟩) (.bl _) ⟨rfl, rfl, by decide, by decide⟩ kk b9
    · exact q _ _ _ (.inr ⟨_, .int _⟩) (.int _) ⟨by decide +kernel, rfl, by decide, by decide +kernel⟩ kk b9
    · exact q _ _ _ (.inr ⟨_, .int _⟩) (.int _) ⟨by decide +kernel, rfl, by decide, by decide +kernel⟩ kk b9
    · exact q _ _ _ (.inr ⟨_, .int _⟩) (.int _) ⟨by decide +kernel, rfl, by decide, by decide +kernel⟩ kk b9
    · exact q _ _ _ (.inr ⟨_, .lst g1⟩) (.lst (SqL.of g1) (dp_strs [])) (shows_list (fun y hy => by cases hy) (by decide)) kk b9
    · exact q _ _ _ (.inr ⟨_, .lst g2⟩) (.lst (SqL.of g2) (dp_strs [z])) (shows_list one (by show 1 ≤ 1000; decide)) kk b9
    · exact q _ _ _ (.inr ⟨_, .tup g3⟩) (.tup (SqT.of g3) (dp_strs [z])) (shows_tuple one (by show 1 ≤ 1000; decide)) kk b9
    · exact q _ _ _ (.inr ⟨_, .tup g4⟩) (.tup (SqT.of g4) (dp_strs [z, z])) (shows_tuple two (by show 2 ≤ 1000; decide)) kk b9
    · exact q _ _ _ (.inr ⟨_, .lst g5⟩) (.lst (SqL.of g5) (dp_strs _)) (shows_list (fun y hy => pz.part hy) (Nat.le_trans (split_le z dot) (by omega))) kk b9
    · exact q _ _ _ (.inr ⟨_, .int _⟩) (.int _) ⟨by decide +kernel, rfl, by decide, by decide +kernel⟩ kk b9
end
end K01

set_option Elab.async false
set_option linter.all false
set_option maxRecDepth 100000
namespace K01
open PySem PySem.Spec PyProof.Rows L2 My
theorem shows_bools (a b c : Bool) : Shows (.list [.bool a, .bool b, .bool c]) := by
  cases a <;> cases b <;> cases c <;> exact ⟨by decide, by decide, by decide, by decide⟩
theorem dp_due {K : PySem.W.Frag} {H : Hp} {p : Addr} {v : V} (h : H p = some (.lst (dueOf v))) : Dp K H (.ref p) (.list [.bool (ofText nameS v), .bool (ofText placeS v), .bool (ofText valueS v)]) :=
  .lst (SqL.of h) (.cons (.bl _) (.cons (.bl _) (.cons (.bl _) .nil)))
section
variable {P : Program} {w : World} {K : PySem.W.Frag} {mg : Str → Option Value} {base : Heap}
def sp_L_alike (K : PySem.W.Frag) : Sp := fun vs H Q _ => ∃ (v : V) (p : Addr), vs = [v, .ref p] ∧ Ask' K H v ∧ H p = some (.lst (dueOf v)) ∧ ∀ H', Same H H' → Q (.bl true) H'
theorem ok_L_alike (T : Top K mg) : FnG P w K mg base 4 T.f__law_alike T.d__law_alike ["_law_what", "_law_due_here"] (sp_L_alike K) := by
  have G_is_value : FnOk P w K mg base CX0 2 T.f_is_value T.d_is_value ["thing"] (sp_is_value K) := ok_is_value T
  have G_is_place : FnOk P w K mg base CX0 3 T.f_is_place T.d_is_place ["thing"] (sp_is_place K) := ok_is_place T
  have G_is_name : FnOk P w K mg base CX0 2 T.f_is_name T.d_is_name ["thing"] (sp_is_name K) := ok_is_name T
  refine My.Fun.okG T.F__law_alike scL_alike (fun vs H Q E h => ?_) (fun cdv A outer s H vs Q E hr hgd h => ?_)
  · obtain ⟨v, p, rfl, _⟩ := h
    rfl
  · obtain ⟨v, p, rfl, hv, hp, q⟩ := h
    refine ⟨_, (pss_cons (ps_set (i := 2) scL_alike.nd rfl (.inl rfl) (pe_lst (pa_cons (pe_call G_is_name (hr.mono (by decide)) (by rfl) T.g_is_name T.F_is_name.kp T.b_is_name .nil pass0 (pa_cons (pv 0) pa_nil)) (pa_cons (pe_call G_is_place (hr.mono (by decide)) (by rfl) T.g_is_place T.F_is_place.kp T.b_is_place .nil pass0 (pa_cons (pv 0) pa_nil)) (pa_cons (pe_call G_is_value (hr.mono (by decide)) (by rfl) T.g_is_value T.F_is_value.kp T.b_is_value .nil pass0 (pa_cons (pv 0) pa_nil)) pa_nil)))))
      (pss_cons (ps_set (i := 3) scL_alike.nd rfl (.inl rfl) (pe_lst (pa_cons (pe_callK0 G_is_name (hr.mono (by decide)) (by rfl) T.g_is_name T.F_is_name.kp T.kb_is_name (pk_cons (pv 0) pk_nil)) (pa_cons (pe_callK0 G_is_place (hr.mono (by decide)) (by rfl) T.g_is_place T.F_is_place.kp T.kb_is_place (pk_cons (pv 0) pk_nil)) (pa_cons (pe_callK0 G_is_value (hr.mono (by decide)) (by rfl) T.g_is_value T.F_is_value.kp T.kb_is_value (pk_cons (pv 0) pk_nil)) pa_nil)))))
      (pss_one (ps_ret (pe_and (pe_cmpR op_eq (pe_callB (call_repr hgd hr.units) (by rfl) T.m_repr (by decide +kernel) (pa_cons (pv 2) pa_nil)) (pe_callB (call_repr hgd hr.units) (by rfl) T.m_repr (by decide +kernel) (pa_cons (pv 1) pa_nil)) (nomark _)) (pe_one (pe_cmpR op_eq (pe_callB (call_repr hgd hr.units) (by rfl) T.m_repr (by decide +kernel) (pa_cons (pv 3) pa_nil)) (pe_callB (call_repr hgd hr.units) (by rfl) T.m_repr (by decide +kernel) (pa_cons (pv 1) pa_nil)) (nomark _)))))))), ?_⟩
    refine ⟨v, rfl, v, rfl, hv.ask, fun H1 s1 => ⟨v, rfl, v, rfl, (hv.same s1).ask, fun H2 s2 => ⟨v, rfl, v, rfl, (hv.same (s1.trans s2)).ask, fun H3 s3 => ⟨(by show 3 ≤ sizeLine; decide), fun p1 np1 => ?_⟩⟩⟩⟩
    have t1 : Same H H3 := (s1.trans s2).trans s3
    have t2 : Same H (upd H3 p1 (.lst (dueOf v))) := t1.trans (same_new np1)
    refine ⟨v, rfl, v, rfl, (hv.same t2).ask, fun H4 s4 => ⟨v, rfl, v, rfl, (hv.same (t2.trans s4)).ask, fun H5 s5 => ⟨v, rfl, v, rfl, (hv.same ((t2.trans s4).trans s5)).ask, fun H6 s6 => ⟨(by show 3 ≤ sizeLine; decide), fun p2 np2 => ?_⟩⟩⟩⟩
    have t3 : Same (upd H3 p1 (.lst (dueOf v))) H6 := (s4.trans s5).trans s6
    have t4 : Same H6 (upd H6 p2 (.lst (dueOf v))) := same_new np2
    have e1 : (upd H6 p2 (.lst (dueOf v))) p1 = some (.lst (dueOf v)) := t4 _ _ (t3 _ _ upd_same)
    have e0 : (upd H6 p2 (.lst (dueOf v))) p = some (.lst (dueOf v)) := t4 _ _ (t3 _ _ (t2 _ _ hp))
    have e2 : (upd H6 p2 (.lst (dueOf v))) p2 = some (.lst (dueOf v)) := upd_same
    have sh := shows_bools (ofText nameS v) (ofText placeS v) (ofText valueS v)
    refine ⟨.ref p1, rfl, _, _, rfl, dp_due e1, sh.s, sh.n, sh.p, sh.z, .ref p, rfl, _, _, rfl, dp_due e0, sh.s, sh.n, sh.p, sh.z, rfl, _, rfl, ?_⟩
    rw [decide_eq_true rfl]
    refine iteT ?_
    refine ⟨.ref p2, rfl, _, _, rfl, dp_due e2, sh.s, sh.n, sh.p, sh.z, .ref p, rfl, _, _, rfl, dp_due e0, sh.s, sh.n, sh.p, sh.z, rfl, ?_⟩
    rw [decide_eq_true rfl]
    exact q _ ((t2.trans t3).trans t4)
/-! ### the law -/
def sp_law (K : PySem.W.Frag) : Sp := fun vs H Q _ => ∃ (a : Addr) (ns : List Int), vs = [.ref a] ∧ SqL K H a (ns.map V.int) ∧ ns.length ≤ 63 ∧ ∀ H', Q (.bl true) H'
/-- the script, read while a bag at p changes -/
def Held (K : PySem.W.Frag) (p a : Addr) (xs : List V) (H : Hp) : Prop := SqL K H a xs ∧ ∀ H', Kept p H H' → SqL K H' a xs
theorem held_of {K : PySem.W.Frag} {H H1 : Hp} {p a : Addr} {xs : List V} (h : SqL K H a xs) (s : Same H H1) (np : H p = none) : ∀ H', Kept p H1 H' → SqL K H' a xs := by
  intro H' k
  rcases h with (h | ⟨o, h⟩) | h
  · exact .inl (.inl (k _ _ (ne_of_none h np) (s _ _ h)))
  · exact .inl (.inr ⟨o, k _ _ (ne_of_none h np) (s _ _ h)⟩)
  · exact .inr h
def lastTexts : List Str := ["", "a", "abcdefgh", "abcdefghi", "a.b", "a.", ".b", "a.b.c", "-", "--", "a-", "0", ⟨(List.replicate 12 ("0" : Str).cps).foldl (· ++ ·) #[]⟩, ⟨(List.replicate 13 ("0" : Str).cps).foldl (· ++ ·) #[]⟩]
theorem ok_law (T : Top K mg) : FnG P w K mg base 5 T.f_law T.d_law ["_law_script"] (sp_law K) := by
  have G__law_bag : FnOk P w K mg base CX0 1 T.f__law_bag T.d__law_bag ["_law_script", "_law_at"] (sp_L_bag K) := ok_L_bag T
  have G__law_thing : FnOk P w K mg base CX0 4 T.f__law_thing T.d__law_thing ["_law_bag_here"] (sp_L_thing K) := ok_L_thing T
  have G__law_alike : FnG P w K mg base 4 T.f__law_alike T.d__law_alike ["_law_what", "_law_due_here"] (sp_L_alike K) := ok_L_alike T
  have G__law_due : FnOk P w K mg base CX0 2 T.f__law_due T.d__law_due ["_law_what"] (sp_L_due K) := ok_L_due T
  refine My.Fun.okG T.F_law sclaw (fun vs H Q E h => ?_) (fun cdv A outer s H vs Q E hr hgd h => ?_)
  · obtain ⟨a, ns, rfl, _⟩ := h
    rfl
  · obtain ⟨a, ns, rfl, hS, hl, q⟩ := h
    refine ⟨_, (pss_cons (ps_for PassesOwn.never rfl (pi_range1 (by rfl) T.m_range (pa_cons (pe_callB (call_max2 rfl) (by rfl) T.m_max (by decide +kernel) (pa_cons pe_int (pa_cons (pe_callB (call_min2 rfl) (by rfl) T.m_min (by decide +kernel) (pa_cons pe_int (pa_cons (pe_callB call_len_seq (by rfl) T.m_len (by decide +kernel) (pa_cons (pv 0) pa_nil)) pa_nil))) pa_nil))) pa_nil)) (pg_name (i := 1) sclaw.nd rfl (.inl rfl)) (pss_cons (ps_set (i := 2) sclaw.nd rfl (.inl rfl) (pe_call G__law_bag (hr.mono (by decide)) (by rfl) T.g__law_bag T.F__law_bag.kp T.b__law_bag .nil pass0 (pa_cons (pv 0) (pa_cons (pv 1) pa_nil))))
      (pss_one (ps_for PassesOwn.never rfl (pi_range1 (by rfl) T.m_range (pa_cons pe_int pa_nil)) (pg_name (i := 3) sclaw.nd rfl (.inl rfl)) (pss_cons (ps_set (i := 4) sclaw.nd rfl (.inl rfl) (pe_call G__law_thing (hr.mono (by decide)) (by rfl) T.g__law_thing T.F__law_thing.kp T.b__law_thing .nil pass0 (pa_cons (pv 2) pa_nil)))
      (pss_cons (ps_set (i := 5) sclaw.nd rfl (.inl rfl) (pe_callB (call_repr hgd hr.units) (by rfl) T.m_repr (by decide +kernel) (pa_cons (pv 4) pa_nil)))
      (pss_one (ps_if (PW.pt (pw_or (pt_not (pt_val (pe_callG G__law_alike hgd (hr.mono (by decide)) (by rfl) T.g__law_alike T.F__law_alike.kp T.b__law_alike (pa_cons (pv 4) (pa_cons (pe_call G__law_due (hr.mono (by decide)) (by rfl) T.g__law_due T.F__law_due.kp T.b__law_due .nil pass0 (pa_cons (pv 4) pa_nil)) pa_nil))))) (pw_or1 (pt_cmpR op_ne (pe_callB (call_repr hgd hr.units) (by rfl) T.m_repr (by decide +kernel) (pa_cons (pv 4) pa_nil)) (pv 5) (nomark _))))) (pss_one (ps_ret pe_bl)) pss_nil))))))))
      (pss_cons (ps_set (i := 6) sclaw.nd rfl (.inl rfl) (pe_lst (pa_cons pe_str (pa_cons pe_str (pa_cons pe_str (pa_cons pe_str (pa_cons pe_str (pa_cons pe_str (pa_cons pe_str (pa_cons pe_str (pa_cons pe_str (pa_cons pe_str (pa_cons pe_str (pa_cons pe_str (pa_cons (pe_op op_mulS pe_str pe_int) (pa_cons (pe_op op_mulS pe_str pe_int) pa_nil))))))))))))))))
      (pss_one (ps_ret (pe_cmpR op_eq (pe_callB call_len_seq (by rfl) T.m_len (by decide +kernel) (pa_cons (pe_lc (own := [("_law_one", 4)]) rfl sclaw.nd (pi_list (pv 6)) (blkOk_by (N := N_law) (sc := defScope s_law) (by decide +kernel)) (fun _ _ _ _ _ => (pg_name (i := 4) sclaw.nd rfl (.inl rfl))) (fun _ _ _ _ _ => pts_one (pt_val (pe_callG G__law_alike hgd (hr.mono (by decide)) (by rfl) T.g__law_alike T.F__law_alike.kp T.b__law_alike (pa_cons (pv 4) (pa_cons (pe_call G__law_due (hr.mono (by decide)) (by rfl) T.g__law_due T.F__law_due.kp T.b__law_due .nil pass0 (pa_cons (pv 4) pa_nil)) pa_nil))))) (fun _ _ _ _ _ => (pv 4))) pa_nil)) (pe_callB call_len_seq (by rfl) T.m_len (by decide +kernel) (pa_cons (pv 6) pa_nil)) (nomark _)))))), ?_⟩
    refine ⟨.ref a, rfl, a, _, rfl, .inl hS, _, _, rfl, _, _, rfl, ?_⟩
    obtain ⟨M, hM, M1, M4⟩ : ∃ M : Int, (if (if (((ns.map V.int).length : Nat) : Int) < 4 then (((ns.map V.int).length : Nat) : Int) else 4) > 1 then (if (((ns.map V.int).length : Nat) : Int) < 4 then (((ns.map V.int).length : Nat) : Int) else 4) else 1) = M ∧ 0 ≤ M ∧ M ≤ 4 := by
      refine ⟨_, rfl, ?_, ?_⟩
      · split <;> split <;> omega
      · split <;> split <;> omega
    refine ⟨M, congrArg (fun z => [V.int z]) hM, by omega, by omega, for_it walk_range (fun _ σ H3 => ∃ y1 y2 y3 y4 y5 y6, σ = [some (.ref a), y1, y2, y3, y4, y5, y6] ∧ SqL K H3 a (ns.map V.int)) ?_ (fun _ _ _ _ _ => trivial) ?_ ?_⟩
    · exact ⟨none, none, none, none, none, none, rfl, hS⟩
    · rintro i x σ H1 H1' hi ⟨y1, y2, y3, y4, y5, y6, rfl, hS1⟩ ⟨rfl, rfl⟩
      refine ⟨.ref a, rfl, .int (0 + (i : Int)), rfl, a, _, ns, rfl, hS1, hl, by omega, by omega, fun H2 p s2 np b2 => ?_⟩
      have hold := held_of hS1 s2 np
      refine ⟨40, rfl, by decide, by decide, for_it walk_range (fun _ σ H3 => ∃ y1 y3 y4 y5 y6, σ = [some (.ref a), y1, some (.ref p), y3, y4, y5, y6] ∧ Bag H3 p ∧ Kept p H2 H3) ?_ (fun _ _ _ _ _ => trivial) ?_ ?_⟩
      · exact ⟨_, _, _, _, _, rfl, b2, Kept.refl _ _⟩
      · rintro j x σ H3 H3' hj ⟨z1, z3, z4, z5, z6, rfl, b3, k3⟩ ⟨rfl, rfl⟩
        refine ⟨.ref p, rfl, p, rfl, b3, fun v d H4 hv hd sh k4 b4 => ?_⟩
        refine ⟨v, rfl, v, d, rfl, hd, sh.s, sh.n, sh.p, sh.z, ?_⟩
        refine ⟨v, rfl, v, rfl, v, rfl, hv.ask, fun H5 p5 s5 np5 d5 => ⟨v, p5, rfl, hv.same s5, d5, fun H6 s6 => ⟨true, rfl, iteF ?_⟩⟩⟩
        refine ⟨v, rfl, v, d, rfl, Dp.same (s5.trans s6) hd, sh.s, sh.n, sh.p, sh.z, .str d.shown, rfl, rfl, _, rfl, iteNS rfl ?_⟩
        exact ⟨_, _, _, _, _, rfl, b4.same (s5.trans s6), k3.trans (k4.trans (Kept.same (s5.trans s6)))⟩
      · rintro σ H3 ⟨z1, z3, z4, z5, z6, rfl, b3, k3⟩
        exact ⟨_, _, _, _, _, _, rfl, hold H3 k3⟩
    · rintro σ H3 ⟨y1, y2, y3, y4, y5, y6, rfl, hS3⟩
      refine ⟨("0" : Str), 12, rfl, rfl, by decide, by decide, by decide, by decide, by decide, by decide +kernel, ("0" : Str), 13, rfl, rfl, by decide, by decide, by decide, by decide, by decide, by decide +kernel, (by show 14 ≤ sizeLine; decide), fun L nL => ?_⟩
      have texts : ∀ v ∈ lastTexts.map V.str, Ask' K H3 v := fun v hv => by
        obtain ⟨z, hz, rfl⟩ := List.mem_map.mp hv
        have all : lastTexts.all (fun z => decide (z.length ≤ 1000)) = true := by decide +kernel
        exact .inl ⟨z, rfl, of_decide_eq_true (List.all_eq_true.mp all z hz)⟩
      have nolen : (lastTexts.map V.str).length = 14 := rfl
      refine ⟨.ref L, rfl, L, rfl, ⟨_, SqL.of upd_same⟩, fun D nD => lc_it (walk_list (xs := lastTexts.map V.str)) (fun i H4 => H4 L = some (.lst (lastTexts.map V.str)) ∧ H4 D = some (.lst ((lastTexts.map V.str).take i))) ?_ (fun _ _ _ h => SqL.of h.1) ?_ ?_⟩
      · have ne : L ≠ D := ne_of_none upd_same nD
        exact ⟨by rw [upd_ne ne]; exact upd_same, upd_same⟩
      · rintro i x H4 H4' hi ⟨hL, hD⟩ ⟨rfl, hx⟩
        have hv := texts x (List.mem_of_getElem? hx)
        have hv4 : ∀ H5, Ask' K H5 x := fun H5 => by
          obtain ⟨z, hz, rfl⟩ := List.mem_map.mp (List.mem_of_getElem? hx)
          rcases hv with ⟨z2, e2, l2⟩ | ⟨t, k⟩
          · exact .inl ⟨z2, e2, l2⟩
          · cases k
        refine ⟨rfl, ?_⟩
        refine ⟨x, rfl, x, rfl, x, rfl, (hv4 _).ask, fun H5 p5 s5 np5 d5 => ⟨x, p5, rfl, hv4 _, d5, fun H6 s6 => ⟨true, rfl, iteT ?_⟩⟩⟩
        have s := s5.trans s6
        have ne : L ≠ D := fun e => by
          subst e
          have z := hL.symm.trans hD
          have z2 := congrArg List.length (HO.lst.inj (Option.some.inj z))
          rw [List.length_take] at z2
          omega
        refine ⟨x, rfl, _, s _ _ hD, ?_, ?_, ?_⟩
        · rw [List.length_take]
          exact small1000 (by omega)
        · rw [upd_ne ne]
          exact s _ _ hL
        · rw [upd_same, List.take_add_one, hx]
          rfl
      · rintro H4 ⟨hL, hD⟩
        rw [List.take_of_length_le (Nat.le_refl _)] at hD
        refine ⟨D, _, rfl, .inl (SqL.of hD), .ref L, rfl, L, _, rfl, .inl (SqL.of hL), rfl, ?_⟩
        rw [decide_eq_true rfl]
        exact q _
end
end K01

set_option Elab.async false
set_option linter.all false
set_option maxRecDepth 100000
namespace K01
open PySem PySem.Spec PyProof.Rows L2 My
/-! ### the end -/
def top_mk {h : Heap} {K : PySem.W.Frag} {mg : Str → Option Value} (X : K.In h) (G : h.Ns mainGlobals mg)
    {f0 : Addr} {od0 an0 : Option Addr} {sl0 : Array (Option Value)} {oc0 kV0 dc0 pm0 cd0 ct0 : Value} (a0 : PySem.W.nsIn K mainGlobals "is_made_of" = some (some (.ref f0))) (l0 : K.lookup f0 = some ⟨oc0, od0, .func (PySem.W.fnOf "is_made_of" "is_made_of" (defArgs s_is_made_of) (defBody s_is_made_of) (defScope s_is_made_of) .none kV0 dc0 pm0 an0 cd0 ct0), sl0⟩) (c0 : PySem.W.codeIn K cd0 "is_made_of" = true) (k0 : PySem.W.keepIn K (.ref f0) = true)
    {f1 : Addr} {od1 an1 : Option Addr} {sl1 : Array (Option Value)} {oc1 kV1 dc1 pm1 cd1 ct1 : Value} (a1 : PySem.W.nsIn K mainGlobals "is_name" = some (some (.ref f1))) (l1 : K.lookup f1 = some ⟨oc1, od1, .func (PySem.W.fnOf "is_name" "is_name" (defArgs s_is_name) (defBody s_is_name) (defScope s_is_name) .none kV1 dc1 pm1 an1 cd1 ct1), sl1⟩) (c1 : PySem.W.codeIn K cd1 "is_name" = true) (k1 : PySem.W.keepIn K (.ref f1) = true)
    {f2 : Addr} {od2 an2 : Option Addr} {sl2 : Array (Option Value)} {oc2 kV2 dc2 pm2 cd2 ct2 : Value} (a2 : PySem.W.nsIn K mainGlobals "is_place" = some (some (.ref f2))) (l2 : K.lookup f2 = some ⟨oc2, od2, .func (PySem.W.fnOf "is_place" "is_place" (defArgs s_is_place) (defBody s_is_place) (defScope s_is_place) .none kV2 dc2 pm2 an2 cd2 ct2), sl2⟩) (c2 : PySem.W.codeIn K cd2 "is_place" = true) (k2 : PySem.W.keepIn K (.ref f2) = true)
    {f3 : Addr} {od3 an3 : Option Addr} {sl3 : Array (Option Value)} {oc3 kV3 dc3 pm3 cd3 ct3 : Value} (a3 : PySem.W.nsIn K mainGlobals "is_value" = some (some (.ref f3))) (l3 : K.lookup f3 = some ⟨oc3, od3, .func (PySem.W.fnOf "is_value" "is_value" (defArgs s_is_value) (defBody s_is_value) (defScope s_is_value) .none kV3 dc3 pm3 an3 cd3 ct3), sl3⟩) (c3 : PySem.W.codeIn K cd3 "is_value" = true) (k3 : PySem.W.keepIn K (.ref f3) = true)
    {f4 : Addr} {od4 an4 : Option Addr} {sl4 : Array (Option Value)} {oc4 kV4 dc4 pm4 cd4 ct4 : Value} (a4 : PySem.W.nsIn K mainGlobals "_law_bag" = some (some (.ref f4))) (l4 : K.lookup f4 = some ⟨oc4, od4, .func (PySem.W.fnOf "_law_bag" "_law_bag" (defArgs s_L_bag) (defBody s_L_bag) (defScope s_L_bag) .none kV4 dc4 pm4 an4 cd4 ct4), sl4⟩) (c4 : PySem.W.codeIn K cd4 "_law_bag" = true) (k4 : PySem.W.keepIn K (.ref f4) = true)
    {f5 : Addr} {od5 an5 : Option Addr} {sl5 : Array (Option Value)} {oc5 kV5 dc5 pm5 cd5 ct5 : Value} (a5 : PySem.W.nsIn K mainGlobals "_law_take" = some (some (.ref f5))) (l5 : K.lookup f5 = some ⟨oc5, od5, .func (PySem.W.fnOf "_law_take" "_law_take" (defArgs s_L_take) (defBody s_L_take) (defScope s_L_take) .none kV5 dc5 pm5 an5 cd5 ct5), sl5⟩) (c5 : PySem.W.codeIn K cd5 "_law_take" = true) (k5 : PySem.W.keepIn K (.ref f5) = true)
    {f6 : Addr} {od6 an6 : Option Addr} {sl6 : Array (Option Value)} {oc6 kV6 dc6 pm6 cd6 ct6 : Value} (a6 : PySem.W.nsIn K mainGlobals "_law_of" = some (some (.ref f6))) (l6 : K.lookup f6 = some ⟨oc6, od6, .func (PySem.W.fnOf "_law_of" "_law_of" (defArgs s_L_of) (defBody s_L_of) (defScope s_L_of) .none kV6 dc6 pm6 an6 cd6 ct6), sl6⟩) (c6 : PySem.W.codeIn K cd6 "_law_of" = true) (k6 : PySem.W.keepIn K (.ref f6) = true)
    {f7 : Addr} {od7 an7 : Option Addr} {sl7 : Array (Option Value)} {oc7 kV7 dc7 pm7 cd7 ct7 : Value} (a7 : PySem.W.nsIn K mainGlobals "_law_is_word" = some (some (.ref f7))) (l7 : K.lookup f7 = some ⟨oc7, od7, .func (PySem.W.fnOf "_law_is_word" "_law_is_word" (defArgs s_L_is_word) (defBody s_L_is_word) (defScope s_L_is_word) .none kV7 dc7 pm7 an7 cd7 ct7), sl7⟩) (c7 : PySem.W.codeIn K cd7 "_law_is_word" = true) (k7 : PySem.W.keepIn K (.ref f7) = true)
    {f8 : Addr} {od8 an8 : Option Addr} {sl8 : Array (Option Value)} {oc8 kV8 dc8 pm8 cd8 ct8 : Value} (a8 : PySem.W.nsIn K mainGlobals "_law_due" = some (some (.ref f8))) (l8 : K.lookup f8 = some ⟨oc8, od8, .func (PySem.W.fnOf "_law_due" "_law_due" (defArgs s_L_due) (defBody s_L_due) (defScope s_L_due) .none kV8 dc8 pm8 an8 cd8 ct8), sl8⟩) (c8 : PySem.W.codeIn K cd8 "_law_due" = true) (k8 : PySem.W.keepIn K (.ref f8) = true)
    {f9 : Addr} {od9 an9 : Option Addr} {sl9 : Array (Option Value)} {oc9 kV9 dc9 pm9 cd9 ct9 : Value} (a9 : PySem.W.nsIn K mainGlobals "_law_text" = some (some (.ref f9))) (l9 : K.lookup f9 = some ⟨oc9, od9, .func (PySem.W.fnOf "_law_text" "_law_text" (defArgs s_L_text) (defBody s_L_text) (defScope s_L_text) .none kV9 dc9 pm9 an9 cd9 ct9), sl9⟩) (c9 : PySem.W.codeIn K cd9 "_law_text" = true) (k9 : PySem.W.keepIn K (.ref f9) = true)
    {f10 : Addr} {od10 an10 : Option Addr} {sl10 : Array (Option Value)} {oc10 kV10 dc10 pm10 cd10 ct10 : Value} (a10 : PySem.W.nsIn K mainGlobals "_law_near" = some (some (.ref f10))) (l10 : K.lookup f10 = some ⟨oc10, od10, .func (PySem.W.fnOf "_law_near" "_law_near" (defArgs s_L_near) (defBody s_L_near) (defScope s_L_near) .none kV10 dc10 pm10 an10 cd10 ct10), sl10⟩) (c10 : PySem.W.codeIn K cd10 "_law_near" = true) (k10 : PySem.W.keepIn K (.ref f10) = true)
    {f11 : Addr} {od11 an11 : Option Addr} {sl11 : Array (Option Value)} {oc11 kV11 dc11 pm11 cd11 ct11 : Value} (a11 : PySem.W.nsIn K mainGlobals "_law_thing" = some (some (.ref f11))) (l11 : K.lookup f11 = some ⟨oc11, od11, .func (PySem.W.fnOf "_law_thing" "_law_thing" (defArgs s_L_thing) (defBody s_L_thing) (defScope s_L_thing) .none kV11 dc11 pm11 an11 cd11 ct11), sl11⟩) (c11 : PySem.W.codeIn K cd11 "_law_thing" = true) (k11 : PySem.W.keepIn K (.ref f11) = true)
    {f12 : Addr} {od12 an12 : Option Addr} {sl12 : Array (Option Value)} {oc12 kV12 dc12 pm12 cd12 ct12 : Value} (a12 : PySem.W.nsIn K mainGlobals "_law_alike" = some (some (.ref f12))) (l12 : K.lookup f12 = some ⟨oc12, od12, .func (PySem.W.fnOf "_law_alike" "_law_alike" (defArgs s_L_alike) (defBody s_L_alike) (defScope s_L_alike) .none kV12 dc12 pm12 an12 cd12 ct12), sl12⟩) (c12 : PySem.W.codeIn K cd12 "_law_alike" = true) (k12 : PySem.W.keepIn K (.ref f12) = true)
    {f13 : Addr} {od13 an13 : Option Addr} {sl13 : Array (Option Value)} {oc13 kV13 dc13 pm13 cd13 ct13 : Value} (a13 : PySem.W.nsIn K mainGlobals "law" = some (some (.ref f13))) (l13 : K.lookup f13 = some ⟨oc13, od13, .func (PySem.W.fnOf "law" "law" (defArgs s_law) (defBody s_law) (defScope s_law) .none kV13 dc13 pm13 an13 cd13 ct13), sl13⟩) (c13 : PySem.W.codeIn K cd13 "law" = true) (k13 : PySem.W.keepIn K (.ref f13) = true)
    {t0 : Tok} (q0 : PySem.W.nsIn K mainGlobals "LONGEST_NAME" = some (some (.int 8 t0)))
    {t1 : Tok} (q1 : PySem.W.nsIn K mainGlobals "LETTERS" = some (some (.str "abcdefghijklmnopqrstuvwxyz" t1)))
    {t2 : Tok} (q2 : PySem.W.nsIn K mainGlobals "LONGEST_VALUE" = some (some (.int 12 t2)))
    {t3 : Tok} (q3 : PySem.W.nsIn K mainGlobals "DIGITS" = some (some (.str "0123456789" t3)))
    (z0 : PySem.W.nsIn K mainGlobals "len" = some none)
    (z1 : PySem.W.nsIn K mainGlobals "isinstance" = some none)
    (z2 : PySem.W.nsIn K mainGlobals "str" = some none)
    (z3 : PySem.W.nsIn K mainGlobals "all" = some none)
    (z4 : PySem.W.nsIn K mainGlobals "enumerate" = some none)
    (z5 : PySem.W.nsIn K mainGlobals "int" = some none)
    (z6 : PySem.W.nsIn K mainGlobals "abs" = some none)
    (z7 : PySem.W.nsIn K mainGlobals "range" = some none)
    (z8 : PySem.W.nsIn K mainGlobals "repr" = some none)
    (z9 : PySem.W.nsIn K mainGlobals "max" = some none)
    (z10 : PySem.W.nsIn K mainGlobals "min" = some none) : Top K mg := {
    f_is_made_of := f0, d_is_made_of := _, F_is_made_of := fun_mk (st := s_is_made_of) l0 c0 k0, g_is_made_of := PySem.W.mg_of X G a0, b_is_made_of := (fun_mk (st := s_is_made_of) l0 c0 k0).binds (ps := ["thing", "characters", "most"]) fun _ _ _ _ _ _ us hl => match us, hl with | [_, _, _], _ => rfl,
    f_is_name := f1, d_is_name := _, F_is_name := fun_mk (st := s_is_name) l1 c1 k1, g_is_name := PySem.W.mg_of X G a1, b_is_name := (fun_mk (st := s_is_name) l1 c1 k1).binds (ps := ["thing"]) fun _ _ _ _ _ _ us hl => match us, hl with | [_], _ => rfl,
    kb_is_name := fun s ws _ hl => match ws, hl with | [_], _ => .of_eq rfl,
    f_is_place := f2, d_is_place := _, F_is_place := fun_mk (st := s_is_place) l2 c2 k2, g_is_place := PySem.W.mg_of X G a2, b_is_place := (fun_mk (st := s_is_place) l2 c2 k2).binds (ps := ["thing"]) fun _ _ _ _ _ _ us hl => match us, hl with | [_], _ => rfl,
    kb_is_place := fun s ws _ hl => match ws, hl with | [_], _ => .of_eq rfl,
    f_is_value := f3, d_is_value := _, F_is_value := fun_mk (st := s_is_value) l3 c3 k3, g_is_value := PySem.W.mg_of X G a3, b_is_value := (fun_mk (st := s_is_value) l3 c3 k3).binds (ps := ["thing"]) fun _ _ _ _ _ _ us hl => match us, hl with | [_], _ => rfl,
    kb_is_value := fun s ws _ hl => match ws, hl with | [_], _ => .of_eq rfl,
    f__law_bag := f4, d__law_bag := _, F__law_bag := fun_mk (st := s_L_bag) l4 c4 k4, g__law_bag := PySem.W.mg_of X G a4, b__law_bag := (fun_mk (st := s_L_bag) l4 c4 k4).binds (ps := ["_law_script", "_law_at"]) fun _ _ _ _ _ _ us hl => match us, hl with | [_, _], _ => rfl,
    f__law_take := f5, d__law_take := _, F__law_take := fun_mk (st := s_L_take) l5 c5 k5, g__law_take := PySem.W.mg_of X G a5, b__law_take := (fun_mk (st := s_L_take) l5 c5 k5).binds (ps := ["_law_bag_here", "_law_many"]) fun _ _ _ _ _ _ us hl => match us, hl with | [_, _], _ => rfl,
    f__law_of := f6, d__law_of := _, F__law_of := fun_mk (st := s_L_of) l6 c6 k6, g__law_of := PySem.W.mg_of X G a6, b__law_of := (fun_mk (st := s_L_of) l6 c6 k6).binds (ps := ["_law_bag_here", "_law_some"]) fun _ _ _ _ _ _ us hl => match us, hl with | [_, _], _ => rfl,
    f__law_is_word := f7, d__law_is_word := _, F__law_is_word := fun_mk (st := s_L_is_word) l7 c7 k7, g__law_is_word := PySem.W.mg_of X G a7, b__law_is_word := (fun_mk (st := s_L_is_word) l7 c7 k7).binds (ps := ["_law_what"]) fun _ _ _ _ _ _ us hl => match us, hl with | [_], _ => rfl,
    f__law_due := f8, d__law_due := _, F__law_due := fun_mk (st := s_L_due) l8 c8 k8, g__law_due := PySem.W.mg_of X G a8, b__law_due := (fun_mk (st := s_L_due) l8 c8 k8).binds (ps := ["_law_what"]) fun _ _ _ _ _ _ us hl => match us, hl with | [_], _ => rfl,
    f__law_text := f9, d__law_text := _, F__law_text := fun_mk (st := s_L_text) l9 c9 k9, g__law_text := PySem.W.mg_of X G a9, b__law_text := (fun_mk (st := s_L_text) l9 c9 k9).binds (ps := ["_law_bag_here", "_law_most"]) fun _ _ _ _ _ _ us hl => match us, hl with | [_, _], _ => rfl,
    f__law_near := f10, d__law_near := _, F__law_near := fun_mk (st := s_L_near) l10 c10 k10, g__law_near := PySem.W.mg_of X G a10, b__law_near := (fun_mk (st := s_L_near) l10 c10 k10).binds (ps := ["_law_bag_here"]) fun _ _ _ _ _ _ us hl => match us, hl with | [_], _ => rfl,
    f__law_thing := f11, d__law_thing := _, F__law_thing := fun_mk (st := s_L_thing) l11 c11 k11, g__law_thing := PySem.W.mg_of X G a11, b__law_thing := (fun_mk (st := s_L_thing) l11 c11 k11).binds (ps := ["_law_bag_here"]) fun _ _ _ _ _ _ us hl => match us, hl with | [_], _ => rfl,
    f__law_alike := f12, d__law_alike := _, F__law_alike := fun_mk (st := s_L_alike) l12 c12 k12, g__law_alike := PySem.W.mg_of X G a12, b__law_alike := (fun_mk (st := s_L_alike) l12 c12 k12).binds (ps := ["_law_what", "_law_due_here"]) fun _ _ _ _ _ _ us hl => match us, hl with | [_, _], _ => rfl,
    f_law := f13, d_law := _, F_law := fun_mk (st := s_law) l13 c13 k13, g_law := PySem.W.mg_of X G a13, b_law := (fun_mk (st := s_law) l13 c13 k13).binds (ps := ["_law_script"]) fun _ _ _ _ _ _ us hl => match us, hl with | [_], _ => rfl,
    t_LONGEST_NAME := t0, g_LONGEST_NAME := PySem.W.mg_of X G q0,
    t_LETTERS := t1, g_LETTERS := PySem.W.mg_of X G q1,
    t_LONGEST_VALUE := t2, g_LONGEST_VALUE := PySem.W.mg_of X G q2,
    t_DIGITS := t3, g_DIGITS := PySem.W.mg_of X G q3,
    m_len := PySem.W.mg_none_of X G z0,
    m_isinstance := PySem.W.mg_none_of X G z1,
    m_str := PySem.W.mg_none_of X G z2,
    m_all := PySem.W.mg_none_of X G z3,
    m_enumerate := PySem.W.mg_none_of X G z4,
    m_int := PySem.W.mg_none_of X G z5,
    m_abs := PySem.W.mg_none_of X G z6,
    m_range := PySem.W.mg_none_of X G z7,
    m_repr := PySem.W.mg_none_of X G z8,
    m_max := PySem.W.mg_none_of X G z9,
    m_min := PySem.W.mg_none_of X G z10 }
theorem all_mk {l : PySem.W.OpenLaw} {w : World} {K : PySem.W.Frag} {h : Heap} {mg : Str → Option Value} {fa : Addr} (X : K.In h) (G : h.Ns mainGlobals mg) (hfa : mg "law" = some (.ref fa))
    {f0 : Addr} {od0 an0 : Option Addr} {sl0 : Array (Option Value)} {oc0 kV0 dc0 pm0 cd0 ct0 : Value} (a0 : PySem.W.nsIn K mainGlobals "is_made_of" = some (some (.ref f0))) (l0 : K.lookup f0 = some ⟨oc0, od0, .func (PySem.W.fnOf "is_made_of" "is_made_of" (defArgs s_is_made_of) (defBody s_is_made_of) (defScope s_is_made_of) .none kV0 dc0 pm0 an0 cd0 ct0), sl0⟩) (c0 : PySem.W.codeIn K cd0 "is_made_of" = true) (k0 : PySem.W.keepIn K (.ref f0) = true)
    {f1 : Addr} {od1 an1 : Option Addr} {sl1 : Array (Option Value)} {oc1 kV1 dc1 pm1 cd1 ct1 : Value} (a1 : PySem.W.nsIn K mainGlobals "is_name" = some (some (.ref f1))) (l1 : K.lookup f1 = some ⟨oc1, od1, .func (PySem.W.fnOf "is_name" "is_name" (defArgs s_is_name) (defBody s_is_name) (defScope s_is_name) .none kV1 dc1 pm1 an1 cd1 ct1), sl1⟩) (c1 : PySem.W.codeIn K cd1 "is_name" = true) (k1 : PySem.W.keepIn K (.ref f1) = true)
    {f2 : Addr} {od2 an2 : Option Addr} {sl2 : Array (Option Value)} {oc2 kV2 dc2 pm2 cd2 ct2 : Value} (a2 : PySem.W.nsIn K mainGlobals "is_place" = some (some (.ref f2))) (l2 : K.lookup f2 = some ⟨oc2, od2, .func (PySem.W.fnOf "is_place" "is_place" (defArgs s_is_place) (defBody s_is_place) (defScope s_is_place) .none kV2 dc2 pm2 an2 cd2 ct2), sl2⟩) (c2 : PySem.W.codeIn K cd2 "is_place" = true) (k2 : PySem.W.keepIn K (.ref f2) = true)
    {f3 : Addr} {od3 an3 : Option Addr} {sl3 : Array (Option Value)} {oc3 kV3 dc3 pm3 cd3 ct3 : Value} (a3 : PySem.W.nsIn K mainGlobals "is_value" = some (some (.ref f3))) (l3 : K.lookup f3 = some ⟨oc3, od3, .func (PySem.W.fnOf "is_value" "is_value" (defArgs s_is_value) (defBody s_is_value) (defScope s_is_value) .none kV3 dc3 pm3 an3 cd3 ct3), sl3⟩) (c3 : PySem.W.codeIn K cd3 "is_value" = true) (k3 : PySem.W.keepIn K (.ref f3) = true)
    {f4 : Addr} {od4 an4 : Option Addr} {sl4 : Array (Option Value)} {oc4 kV4 dc4 pm4 cd4 ct4 : Value} (a4 : PySem.W.nsIn K mainGlobals "_law_bag" = some (some (.ref f4))) (l4 : K.lookup f4 = some ⟨oc4, od4, .func (PySem.W.fnOf "_law_bag" "_law_bag" (defArgs s_L_bag) (defBody s_L_bag) (defScope s_L_bag) .none kV4 dc4 pm4 an4 cd4 ct4), sl4⟩) (c4 : PySem.W.codeIn K cd4 "_law_bag" = true) (k4 : PySem.W.keepIn K (.ref f4) = true)
    {f5 : Addr} {od5 an5 : Option Addr} {sl5 : Array (Option Value)} {oc5 kV5 dc5 pm5 cd5 ct5 : Value} (a5 : PySem.W.nsIn K mainGlobals "_law_take" = some (some (.ref f5))) (l5 : K.lookup f5 = some ⟨oc5, od5, .func (PySem.W.fnOf "_law_take" "_law_take" (defArgs s_L_take) (defBody s_L_take) (defScope s_L_take) .none kV5 dc5 pm5 an5 cd5 ct5), sl5⟩) (c5 : PySem.W.codeIn K cd5 "_law_take" = true) (k5 : PySem.W.keepIn K (.ref f5) = true)
    {f6 : Addr} {od6 an6 : Option Addr} {sl6 : Array (Option Value)} {oc6 kV6 dc6 pm6 cd6 ct6 : Value} (a6 : PySem.W.nsIn K mainGlobals "_law_of" = some (some (.ref f6))) (l6 : K.lookup f6 = some ⟨oc6, od6, .func (PySem.W.fnOf "_law_of" "_law_of" (defArgs s_L_of) (defBody s_L_of) (defScope s_L_of) .none kV6 dc6 pm6 an6 cd6 ct6), sl6⟩) (c6 : PySem.W.codeIn K cd6 "_law_of" = true) (k6 : PySem.W.keepIn K (.ref f6) = true)
    {f7 : Addr} {od7 an7 : Option Addr} {sl7 : Array (Option Value)} {oc7 kV7 dc7 pm7 cd7 ct7 : Value} (a7 : PySem.W.nsIn K mainGlobals "_law_is_word" = some (some (.ref f7))) (l7 : K.lookup f7 = some ⟨oc7, od7, .func (PySem.W.fnOf "_law_is_word" "_law_is_word" (defArgs s_L_is_word) (defBody s_L_is_word) (defScope s_L_is_word) .none kV7 dc7 pm7 an7 cd7 ct7), sl7⟩) (c7 : PySem.W.codeIn K cd7 "_law_is_word" = true) (k7 : PySem.W.keepIn K (.ref f7) = true)
    {f8 : Addr} {od8 an8 : Option Addr} {sl8 : Array (Option Value)} {oc8 kV8 dc8 pm8 cd8 ct8 : Value} (a8 : PySem.W.nsIn K mainGlobals "_law_due" = some (some (.ref f8))) (l8 : K.lookup f8 = some ⟨oc8, od8, .func (PySem.W.fnOf "_law_due" "_law_due" (defArgs s_L_due) (defBody s_L_due) (defScope s_L_due) .none kV8 dc8 pm8 an8 cd8 ct8), sl8⟩) (c8 : PySem.W.codeIn K cd8 "_law_due" = true) (k8 : PySem.W.keepIn K (.ref f8) = true)
    {f9 : Addr} {od9 an9 : Option Addr} {sl9 : Array (Option Value)} {oc9 kV9 dc9 pm9 cd9 ct9 : Value} (a9 : PySem.W.nsIn K mainGlobals "_law_text" = some (some (.ref f9))) (l9 : K.lookup f9 = some ⟨oc9, od9, .func (PySem.W.fnOf "_law_text" "_law_text" (defArgs s_L_text) (defBody s_L_text) (defScope s_L_text) .none kV9 dc9 pm9 an9 cd9 ct9), sl9⟩) (c9 : PySem.W.codeIn K cd9 "_law_text" = true) (k9 : PySem.W.keepIn K (.ref f9) = true)
    {f10 : Addr} {od10 an10 : Option Addr} {sl10 : Array (Option Value)} {oc10 kV10 dc10 pm10 cd10 ct10 : Value} (a10 : PySem.W.nsIn K mainGlobals "_law_near" = some (some (.ref f10))) (l10 : K.lookup f10 = some ⟨oc10, od10, .func (PySem.W.fnOf "_law_near" "_law_near" (defArgs s_L_near) (defBody s_L_near) (defScope s_L_near) .none kV10 dc10 pm10 an10 cd10 ct10), sl10⟩) (c10 : PySem.W.codeIn K cd10 "_law_near" = true) (k10 : PySem.W.keepIn K (.ref f10) = true)
    {f11 : Addr} {od11 an11 : Option Addr} {sl11 : Array (Option Value)} {oc11 kV11 dc11 pm11 cd11 ct11 : Value} (a11 : PySem.W.nsIn K mainGlobals "_law_thing" = some (some (.ref f11))) (l11 : K.lookup f11 = some ⟨oc11, od11, .func (PySem.W.fnOf "_law_thing" "_law_thing" (defArgs s_L_thing) (defBody s_L_thing) (defScope s_L_thing) .none kV11 dc11 pm11 an11 cd11 ct11), sl11⟩) (c11 : PySem.W.codeIn K cd11 "_law_thing" = true) (k11 : PySem.W.keepIn K (.ref f11) = true)
    {f12 : Addr} {od12 an12 : Option Addr} {sl12 : Array (Option Value)} {oc12 kV12 dc12 pm12 cd12 ct12 : Value} (a12 : PySem.W.nsIn K mainGlobals "_law_alike" = some (some (.ref f12))) (l12 : K.lookup f12 = some ⟨oc12, od12, .func (PySem.W.fnOf "_law_alike" "_law_alike" (defArgs s_L_alike) (defBody s_L_alike) (defScope s_L_alike) .none kV12 dc12 pm12 an12 cd12 ct12), sl12⟩) (c12 : PySem.W.codeIn K cd12 "_law_alike" = true) (k12 : PySem.W.keepIn K (.ref f12) = true)
    {f13 : Addr} {od13 an13 : Option Addr} {sl13 : Array (Option Value)} {oc13 kV13 dc13 pm13 cd13 ct13 : Value} (a13 : PySem.W.nsIn K mainGlobals "law" = some (some (.ref f13))) (l13 : K.lookup f13 = some ⟨oc13, od13, .func (PySem.W.fnOf "law" "law" (defArgs s_law) (defBody s_law) (defScope s_law) .none kV13 dc13 pm13 an13 cd13 ct13), sl13⟩) (c13 : PySem.W.codeIn K cd13 "law" = true) (k13 : PySem.W.keepIn K (.ref f13) = true)
    {t0 : Tok} (q0 : PySem.W.nsIn K mainGlobals "LONGEST_NAME" = some (some (.int 8 t0)))
    {t1 : Tok} (q1 : PySem.W.nsIn K mainGlobals "LETTERS" = some (some (.str "abcdefghijklmnopqrstuvwxyz" t1)))
    {t2 : Tok} (q2 : PySem.W.nsIn K mainGlobals "LONGEST_VALUE" = some (some (.int 12 t2)))
    {t3 : Tok} (q3 : PySem.W.nsIn K mainGlobals "DIGITS" = some (some (.str "0123456789" t3)))
    (z0 : PySem.W.nsIn K mainGlobals "len" = some none)
    (z1 : PySem.W.nsIn K mainGlobals "isinstance" = some none)
    (z2 : PySem.W.nsIn K mainGlobals "str" = some none)
    (z3 : PySem.W.nsIn K mainGlobals "all" = some none)
    (z4 : PySem.W.nsIn K mainGlobals "enumerate" = some none)
    (z5 : PySem.W.nsIn K mainGlobals "int" = some none)
    (z6 : PySem.W.nsIn K mainGlobals "abs" = some none)
    (z7 : PySem.W.nsIn K mainGlobals "range" = some none)
    (z8 : PySem.W.nsIn K mainGlobals "repr" = some none)
    (z9 : PySem.W.nsIn K mainGlobals "max" = some none)
    (z10 : PySem.W.nsIn K mainGlobals "min" = some none) :
    ∃ fd : FuncData, (∀ (s : Shared) (v : Value), BindsTo s fd ⟨[v], []⟩ [("_law_script", v)]) ∧ ∀ base : Heap, K.In base → base.Ns mainGlobals mg → FnG l.prog w K mg base 5 fa fd ["_law_script"] (sp_law K) := by
  have e := hfa.symm.trans (PySem.W.mg_of X G a13)
  cases e
  exact ⟨_, fun s v => .of_eq rfl, fun base _ _ => ok_law (top_mk X G a0 l0 c0 k0 a1 l1 c1 k1 a2 l2 c2 k2 a3 l3 c3 k3 a4 l4 c4 k4 a5 l5 c5 k5 a6 l6 c6 k6 a7 l7 c7 k7 a8 l8 c8 k8 a9 l9 c9 k9 a10 l10 c10 k10 a11 l11 c11 k11 a12 l12 c12 k12 a13 l13 c13 k13 q0 q1 q2 q3 z0 z1 z2 z3 z4 z5 z6 z7 z8 z9 z10)⟩
end K01
open PySem PySem.W PyProof.Rows
set_option maxHeartbeats 0 in
theorem PySem.Challenge.cw_settingsmerge_k01_names_places_values_holds : PySem.Challenge.rw_settingsmerge_k01_names_places_values.Holds := by
  w_on; o_law; k_head; (case hw => w_witness2)
  k_fill
  refine My.walk_ofG (l := PySem.Challenge.rw_settingsmerge_k01_names_places_values) (n := 63) (k := 5) (x := "_law_script") (sp := fun w => K01.sp_law _) rfl (by decide) rfl ⟨rfl, by decide, by decide⟩ (fun w h Y => PySem.W.kIn_of Y) ?F (fun _ _ a ns hl _ hS => ⟨a, ns, rfl, hS, hl, fun _ => rfl⟩)
  case F =>
    intro w mg fa h KX G hmg
    refine' K01.all_mk KX G hmg ?a0 ?l0 ?c0 ?k0 ?a1 ?l1 ?c1 ?k1 ?a2 ?l2 ?c2 ?k2 ?a3 ?l3 ?c3 ?k3 ?a4 ?l4 ?c4 ?k4 ?a5 ?l5 ?c5 ?k5 ?a6 ?l6 ?c6 ?k6 ?a7 ?l7 ?c7 ?k7 ?a8 ?l8 ?c8 ?k8 ?a9 ?l9 ?c9 ?k9 ?a10 ?l10 ?c10 ?k10 ?a11 ?l11 ?c11 ?k11 ?a12 ?l12 ?c12 ?k12 ?a13 ?l13 ?c13 ?k13 ?q0 ?q1 ?q2 ?q3 ?z0 ?z1 ?z2 ?z3 ?z4 ?z5 ?z6 ?z7 ?z8 ?z9 ?z10
    (case a0 => k_is); (case l0 => k_is); (case c0 => k_is); (case k0 => k_is); (case a1 => k_is); (case l1 => k_is); (case c1 => k_is); (case k1 => k_is); (case a2 => k_is); (case l2 => k_is); (case c2 => k_is); (case k2 => k_is); (case a3 => k_is); (case l3 => k_is); (case c3 => k_is); (case k3 => k_is); (case a4 => k_is); (case l4 => k_is); (case c4 => k_is); (case k4 => k_is); (case a5 => k_is); (case l5 => k_is); (case c5 => k_is); (case k5 => k_is); (case a6 => k_is); (case l6 => k_is); (case c6 => k_is); (case k6 => k_is); (case a7 => k_is); (case l7 => k_is); (case c7 => k_is); (case k7 => k_is); (case a8 => k_is); (case l8 => k_is); (case c8 => k_is); (case k8 => k_is); (case a9 => k_is); (case l9 => k_is); (case c9 => k_is); (case k9 => k_is); (case a10 => k_is); (case l10 => k_is); (case c10 => k_is); (case k10 => k_is); (case a11 => k_is); (case l11 => k_is); (case c11 => k_is); (case k11 => k_is); (case a12 => k_is); (case l12 => k_is); (case c12 => k_is); (case k12 => k_is); (case a13 => k_is); (case l13 => k_is); (case c13 => k_is); (case k13 => k_is); (case q0 => k_is); (case q1 => k_is); (case q2 => k_is); (case q3 => k_is); (case z0 => k_is); (case z1 => k_is); (case z2 => k_is); (case z3 => k_is); (case z4 => k_is); (case z5 => k_is); (case z6 => k_is); (case z7 => k_is); (case z8 => k_is); (case z9 => k_is); (case z10 => k_is)


