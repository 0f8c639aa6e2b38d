import PyProof.Rows.All
import Wide.All
import OpenK.AllK
import Wide.FinOn
import HandS.ForMost
import HandS.AnyAll
import HandS.GenList
import HandS.ForExc
import HandS.Star
import HandS.IsInst
import HandS.ExcInit
import HandS.ExcField
import KE.DataEq
import HandS.Zip
import HandS.Strs
import HandS.SortInts
import HandS.Style
import HandS.Comp
import KE.KUnpackStar
import HandS.Walk
import HandS.More
import KE.GoesMore
import HandS.TupSets
import HandS.SortOrd
import HandS.Conv
import HandS.EndTab
import KE.KNestM
import HandS.HeadHook3
import PySem.Challenge.RW_dragtold_k07_turns
set_option Elab.async false
set_option linter.all false
set_option maxRecDepth 100000
set_option maxHeartbeats 8000000
/-! all(test for x in xs), the test by the layer's own rules (it may call defs) -/
namespace Dz
open PySem PySem.Spec PyProof.Rows L2 GxR GenW

/-- where the body of the generator expression runs -/
abbrev gcx (X : Cx) (s : Shared) (H : Hp) (scope : Scope) (cl : List (Str × Addr)) (C : Addr) (code : Value) (fp : List Addr) (A : Around) : Cx :=
  { X with
    A := A
    s_0 := s
    H_0 := H
    env := genEnv scope cl C code builtinsNs X.env
    outer := X.stack
    stack := genEnv scope cl C code builtinsNs X.env :: X.stack
    ex := fp
    fn := fun _ => false
    pn := []
    xe := fun _ _ => False }

section
variable {X : Cx} {pins : List (Addr × Obj)} {σ : L2.St} {H : Hp} {s : Shared}

theorem clo_at {cells : List (Str × Addr)} {names : List (Str × NameKind)} {y : Str} {c : Addr} (hy : (y, NameKind.free) ∈ names) (hc : cells.lookup y = some c) :
    (cloFrom cells names []).lookup y = some c := by
  obtain ⟨c1, e1⟩ := mem_lookup (cloFrom_has (cells := cells) (acc := []) hy)
  rcases cloFrom_mem (PySem.mem_of_lookup e1) with z | ⟨_, z⟩
  · cases z
  · rw [hc] at z
    rw [e1, z]
    rfl
theorem clo_of {cells : List (Str × Addr)} {names : List (Str × NameKind)} {y : Str} {c : Addr} (h : (cloFrom cells names []).lookup y = some c)
    (hf : ∀ z ∈ names, z.2 = .free → ∃ d, cells.lookup z.1 = some d) : cells.lookup y = some c := by
  rcases cloFrom_mem (PySem.mem_of_lookup h) with z | ⟨z1, z2⟩
  · cases z
  · obtain ⟨d, hd⟩ := hf _ z1 rfl
    have hd2 : cells.lookup y = some d := hd
    rw [hd2] at z2
    rw [hd2, z2]
    rfl

/-- the generator's body begins: its frame stands at C, its object at a -/
theorem gen_start {scope : Scope} {x : Str} {i : Nat} {fp : List Addr} {C a : Addr} {code it : Value} {A : Around} {go : Obj} {h1 : Heap} {g1 : Array GenState} {t1 : Nat} (I : Inv X pins σ H s) (hN : X.N.Nodup)
    (ok : BlkOk X.N X.env.scope scope [(x, i)]) (S : GenS X.env scope x) (hfp : ∀ b ∈ fp, FpOk X pins H b ∧ b < s.heap.objs.size) (hA : A.handled = none)
    (hfr : A.frames = some (genEnv scope (cloFrom X.env.cells scope.names []) C code builtinsNs X.env :: X.stack)) (hC : C = s.heap.objs.size)
    (hns : h1.Ns C (fun y => if y = (".0" : Str) then some it else none)) (keep : ∀ b o, s.heap.get? b = some o → h1.get? b = some o) (hg : AllBare g1)
    (ha : h1.get? a = some go) (hga : ∀ v, go.data ≠ .cell v) (hCa : C < a) :
    Inv (gcx X s H scope (cloFrom X.env.cells scope.names []) C code fp A) [(a, go)] (wipe σ [i]) H { s with heap := h1, gens := g1, toks := t1 } := by
  have hcl : ∀ y c, (cloFrom X.env.cells scope.names []).lookup y = some c → X.env.cells.lookup y = some c := fun y c h => clo_of h S.free
  have hlt : ∀ y c, X.env.cells.lookup y = some c → c < s.heap.objs.size := fun y c h => by
    obtain ⟨v, z⟩ := I.cell y c h
    exact z.lt
  have young : ∀ b, s.heap.objs.size ≤ b → H b = none := fun b hb => I.hok.fresh hb
  have nstk : ∀ b, s.heap.objs.size ≤ b → b ∉ frs X.stack := fun b hb hm => by
    rcases List.mem_cons.mp (I.stkSub b hm) with z | z
    · exact absurd (Nat.lt_of_lt_of_le I.lt hb) (by rw [z]; exact Nat.lt_irrefl _)
    · exact I.nofs hb z
  have okX : (gcx X s H scope (cloFrom X.env.cells scope.names []) C code fp A).Ok := by
    refine ⟨I.ok.mod, S.kind, I.ok.glob, rfl, Nat.le_of_eq hC.symm, fun y z c e1 e2 => ?_, fun y hy => ?_, fun y c z _ => ?_, fun _ => hA, hfr, .inr ⟨rfl, rfl⟩, fun b hb => ⟨?_, fun y c e z => ?_⟩, I.bs, Nat.le_trans I.ok.bsz I.sz, fun b o e hb => ?_, fun b hb z => ?_, I.stack, I.stkFree⟩
    · exact I.ok.inj y z c (hcl y c e1) (hcl z c e2)
    · have hy' : scope.names.lookup y = some .cell ∨ scope.names.lookup y = some .free := hy
      rcases hy' with k | k
      · exact absurd rfl (S.cell _ (PySem.mem_of_lookup k))
      · have hm := PySem.mem_of_lookup k
        obtain ⟨c, hc⟩ := S.free _ hm rfl
        exact ⟨c, clo_at hm hc⟩
    · cases z
    · show b ≠ C
      rw [hC]
      exact Nat.ne_of_lt (hfp b hb).2
    · exact (hfp b hb).1.2.2.2.2.1 y c (hcl y c e) z
    · rcases (hfp b hb).1.2.2.2.1 with z | z
      · exact I.ok.noex b o e z
      · have := I.ok.bs b o e
        exact absurd (Nat.lt_of_lt_of_le (Heap.lt_size this.1) z) (Nat.lt_irrefl _)
    · have hz : b ∈ frs X.stack := z
      rcases List.mem_cons.mp (I.stkSub b hz) with q | q
      · exact (hfp b hb).1.2.1 q
      · exact (hfp b hb).1.2.2.1 q
  have kC : ∀ c, c < s.heap.objs.size → c ≠ C := fun c h z => by
    rw [hC] at z
    rw [z] at h
    exact Nat.lt_irrefl _ h
  refine ⟨okX, rfl, hg, Un.kept keep, ⟨_, hns, fun j y v e1 e2 e3 => ?_⟩, fun y c e => ?_, young C (Nat.le_of_eq hC.symm), fun y c e => I.freeC y c (hcl y c e), fun p hp => ?_, I.hok.kept keep, by rw [wipe_length]; exact I.len⟩
  · obtain ⟨e4, e5⟩ := wipe_some e2
    have e1' : X.N[j]? = some y := e1
    have e3' : Vis scope y := e3
    rcases e3' with k | k | k
    · exfalso
      rcases ok.own _ (PySem.mem_of_lookup k) (.inl rfl) with z | z
      · have hx : y = x := by simpa using z
        have hi := ok.ix (x, i) (List.mem_singleton.mpr rfl)
        rw [hx] at e1'
        exact e5 (List.mem_singleton.mpr (nodup_ix hN e1' hi))
      · exact z (List.mem_of_getElem? e1')
    · exact absurd rfl (S.cell _ (PySem.mem_of_lookup k))
    · have hm := PySem.mem_of_lookup k
      obtain ⟨mX, _, hl⟩ := I.loc
      have kx := ok.free _ hm rfl
      have kx' : X.env.scope.names.lookup y = some .cell ∨ X.env.scope.names.lookup y = some .free := kx
      obtain ⟨u, r, l⟩ := hl j y v e1' e4 (.inr kx')
      refine ⟨u, r, .inr ⟨.inr k, ?_⟩⟩
      rcases l with ⟨kl, _⟩ | ⟨_, c, hc, hcell⟩
      · have kl' : X.env.scope.names.lookup y = some .local := kl
        rcases kx' with q | q <;> rw [q] at kl' <;> cases kl'
      · obtain ⟨o, ho, hd⟩ := hcell
        exact ⟨c, clo_at hm hc, o, keep c o ho, hd⟩
  · obtain ⟨v, o, ho, hd⟩ := I.cell y c (hcl y c e)
    exact ⟨v, o, keep c o ho, hd⟩
  · have hp' : p = (a, go) := List.mem_singleton.mp hp
    subst hp'
    have hs : s.heap.objs.size ≤ a := by rw [← hC]; exact Nat.le_of_lt hCa
    exact ⟨ha, young a hs, Nat.ne_of_gt hCa, nstk a hs, hga⟩
end

/-- between two turns the consumer leaves all but the table of generators -/
structure Idle (s s' : Shared) : Prop where
  heap : s'.heap = s.heap
  os : s'.os = s.os
  bare : AllBare s'.gens

section
variable {Xg : Cx} {a : Addr} {go : Obj} {σ0 : L2.St} {fp : List Addr} {tn : Nat → Heap → Prop} {n : Nat} {W : Nat → Hp → Prop} {TT FF : Hp → Prop}

/-- the generator stands before its turn j -/
def GSt (Xg : Cx) (a : Addr) (go : Obj) (σ0 : L2.St) (fp : List Addr) (tn : Nat → Heap → Prop) (j : Nat) (H : Hp) (s : Shared) : Prop :=
  Inv Xg [(a, go)] σ0 H s ∧ tn j s.heap ∧ ∀ b ∈ fp, H b = none
theorem GSt.idle {j : Nat} {H : Hp} {s s' : Shared} (h : GSt Xg a go σ0 fp tn j H s) (z : Idle s s') : GSt Xg a go σ0 fp tn j H s' := by
  obtain ⟨I, t, f⟩ := h
  have kp : ∀ b o, s.heap.get? b = some o → s'.heap.get? b = some o := fun b o e => by rw [z.heap]; exact e
  refine ⟨I.call' (ch := []) z.os (Un.kept kp) (I.hok.kept kp) z.bare fun b hb => absurd hb (by simp), by rw [z.heap]; exact t, f⟩

def GYp (Xg : Cx) (a : Addr) (go : Obj) (σ0 : L2.St) (fp : List Addr) (tn : Nat → Heap → Prop) (n : Nat) (W : Nat → Hp → Prop) (FF : Hp → Prop) : Protocol := fun m _ v s kap =>
  ∃ (j : Nat) (H : Hp) (b : Bool), j < n ∧ j + m = n ∧ v = .bool b ∧ GSt Xg a go σ0 fp tn (j + 1) H s ∧ (b = true → W (j + 1) H ∧ ∀ s', Idle s s' → kap (.send .none) s') ∧ (b = false → FF H)
def GRp (Xg : Cx) (a : Addr) (go : Obj) (σ0 : L2.St) (fp : List Addr) (TT : Hp → Prop) (m : Nat) (s : Shared) : Prop := m = 1 ∧ ∃ H, Inv Xg [(a, go)] σ0 H s ∧ TT H

theorem gen_loop {A : Around} {elt iter : Expr} {x : Str} {px pos : Pos} {scope : Scope} {it : Addr} {J : It} {i : Nat} {te : TE} (hc : Xg.calm = true) (hco : Xg.env.scope.isCoroutine = false)
    (hov : A.over (.compLoop (.GeneratorExp elt [⟨.Name x px, iter, [], 0⟩] scope pos) 0 (.ref it) .none Xg.env) [] = Xg.A)
    (T : Turn Xg.prog Xg.w Xg.K (.Name x px) J fp it tn) (pg : PG Xg (.Name x px) (gName i)) (he : PE Xg elt te) (hw0 : wipe σ0 [i] = σ0) (hfp : Xg.ex = fp) (hpn : Xg.pn = []) (hfa : a ∉ fp) (hxe : ∀ e s', Xg.xe e s' → False)
    (turn : ∀ j H, W j H → (j = n → J.stop j H ∧ TT H) ∧ (j < n → J.go j H ∧ ∀ y H', J.yld j H y H' → te (σ0.set i (some y)) H' fun v H2 => ∃ b, v = .bl b ∧ if b = true then W (j + 1) H2 else FF H2)) :
    ∀ (k j : Nat) (s₀ : Shared) (H : Hp) (s : Shared), n - j = k → j ≤ n → GSt Xg a go σ0 fp tn j H s → W j H →
      Seg (model Xg.prog Xg.w) A (fun m _ r s1 => r = .ok .next ∧ GRp Xg a go σ0 fp TT m s1) (GYp Xg a go σ0 fp tn n W FF) (k + 1) s₀ (.compLoop (.GeneratorExp elt [⟨.Name x px, iter, [], 0⟩] scope pos) 0 (.ref it) .none Xg.env)
        ((model Xg.prog Xg.w).den (.compLoop (.GeneratorExp elt [⟨.Name x px, iter, [], 0⟩] scope pos) 0 (.ref it) .none Xg.env)) [] s := by
  have stat : ∀ {ps : List (Addr × Obj)} {σ' : L2.St} {H' : Hp} {s' : Shared}, Inv Xg ps σ' H' s' → (∀ p ∈ ps, p.1 ∉ fp) → (∀ b ∈ fp, H' b = none) → ∀ b ∈ fp, FpOk Xg ps H' b := fun {ps σ' H' s'} I' hps hn b hb => by
    have hb' : b ∈ Xg.ex := by rw [hfp]; exact hb
    refine ⟨hn b hb, (I'.ok.exf b hb').1, I'.ok.exfs b hb', .inl hb', fun y c e => (I'.ok.exf b hb').2 y c e, fun p hp z => ?_⟩
    rw [hpn] at hp
    have hp' : p ∈ ps := by simpa using hp
    exact hps p hp' (by rw [z]; exact hb)
  have one : ∀ p ∈ [(a, go)], p.1 ∉ fp := fun p hp => by
    rw [List.mem_singleton.mp hp]
    exact hfa
  intro k
  induction k with
  | zero =>
    intro j s₀ H s hk hj ⟨I, st, fr⟩ w
    have e : j = n := by omega
    obtain ⟨stop, tt⟩ := (turn j H w).1 e
    show Seg _ A _ _ _ s₀ _ ((compTurn (.GeneratorExp elt [⟨.Name x px, iter, [], 0⟩] scope pos) 0 (.ref it) .none Xg.env).onRaise (leaving Xg.env)) [] s
    simp only [compTurn_gen, Sem.onRaise_eq_wrap]
    refine seg_bind_wrap (wpAny_standAt (seg_bind_wrap ?_))
    rw [hov]
    refine wpAny_mono (T.done Xg rfl rfl rfl hc j [(a, go)] s σ0 H _ I (stat I one fr) st stop) (fun r s1 h1 => ?_) fun _ _ z => z
    obtain ⟨hr, I1⟩ := h1
    subst hr
    exact seg_end (.ok .next) ⟨rfl, rfl, H, I1, tt⟩
  | succ k ih =>
    intro j s₀ H s hk hj ⟨I, st, fr⟩ w
    have hlt : j < n := by omega
    obtain ⟨go', step⟩ := (turn j H w).2 hlt
    show Seg _ A _ _ _ s₀ _ ((compTurn (.GeneratorExp elt [⟨.Name x px, iter, [], 0⟩] scope pos) 0 (.ref it) .none Xg.env).onRaise (leaving Xg.env)) [] s
    simp only [compTurn_gen, Sem.onRaise_eq_wrap]
    refine seg_bind_wrap (wpAny_standAt (seg_bind_wrap ?_))
    rw [hov]
    refine wpAny_mono (T.item Xg rfl rfl rfl hc j [(a, go)] s σ0 H (fun _ _ => False) I (stat I one fr) st go') (fun r s1 h1 => ?_) fun _ _ z => z.elim
    obtain ⟨u, hr, h1⟩ := h1
    subst hr
    refine seg_bind_wrap ?_
    rw [hov]
    refine wpAny_mono h1 (fun _ s2 h2 => ?_) fun _ _ z => z.elim
    obtain ⟨y, H2, I2, r2, y2, st2, fr2⟩ := h2
    have I2' := I2.pinned (stat I2 one fr2) (T.obj _ _ st2)
    refine seg_bind_wrap ?_
    rw [hov]
    have hy2 := step y H2 y2
    refine wpAny_mono (pg.run _ s2 σ0 H2 y u (fun σ3 H3 => σ3 = σ0.set i (some y) ∧ H3 = H2) I2' r2 ⟨rfl, rfl⟩) (fun _ s3 h3 => ?_) ?_
    · obtain ⟨σ3, H3, I3, e3, e4⟩ := h3
      subst e3 e4
      simp only [List.forIn_nil]
      refine seg_bind_wrap (wpAny_pure ?_)
      have hy : ∀ v, yieldOut Xg.env v = yieldValue v := fun v => by unfold yieldOut; simp only [hco, Bool.false_eq_true, if_false]
      simp only [if_true, hy, Sem.bind_eq_wrap', Sem.wrap_wrap]
      refine seg_wrap ?_
      rw [hov]
      refine wpAny_mono (he.run _ s3 _ _ _ I3 hy2) (fun v s4 h4 => ?_) fun e s' z => (hxe e s' z).elim
      obtain ⟨vv, H4, I4, r4, b, eb, q4⟩ := h4
      subst eb
      obtain rfl : v = Value.bool b := r4
      have pinAt : ∀ c ∈ fp, ∀ o, s2.heap.get? c = some o → s4.heap.get? c = some o ∧ H4 c = none := fun c hcm o e =>
        let z := I4.pin (c, o) (List.mem_append_right _ (List.mem_append_right _ (mem_pinsAt hcm e)))
        ⟨z.1, z.2.1⟩
      have st4 : tn (j + 1) s4.heap := T.keep _ _ _ st2 fun c hcm o e => (pinAt c hcm o e).1
      have I5 : Inv Xg [(a, go)] σ0 H4 s4 := I4.unpinned.weak (by rw [List.length_set]) fun m v e => by
        by_cases z : i = m
        · subst z
          rw [← hw0] at e
          exact absurd ((wipe_some e).2) (by simp)
        · rw [List.getElem?_set_ne z]
          exact e
      have G4 : GSt Xg a go σ0 fp tn (j + 1) H4 s4 := ⟨I5, st4, fun c hcm => by
        obtain ⟨o, e, _⟩ := T.obj _ _ st2 c hcm
        exact (pinAt c hcm o e).2⟩
      refine seg_at (seg_yield rfl rfl rfl ⟨j, H4, b, hlt, by omega, rfl, G4, fun hb => ?_, fun hb => ?_⟩)
      · subst hb
        have w4 : W (j + 1) H4 := by rw [if_pos rfl] at q4; exact q4
        refine ⟨w4, fun s5 z => ?_⟩
        exact seg_again rfl (ih (j + 1) s5 H4 s5 (by omega) hlt (G4.idle z) w4)
      · subst hb
        rw [if_neg (by decide)] at q4
        exact q4
    · exact fun e s' z => (hxe e s' z).elim

/-- .. from its start -/
theorem gen_begin {A : Around} {elt iter : Expr} {x : Str} {px pos : Pos} {scope : Scope} {it : Addr} {J : It} {i : Nat} {te : TE} (hc : Xg.calm = true) (hco : Xg.env.scope.isCoroutine = false)
    (hov : A.over (.compLoop (.GeneratorExp elt [⟨.Name x px, iter, [], 0⟩] scope pos) 0 (.ref it) .none Xg.env) [] = Xg.A) (hov1 : A.over (.compStart (.GeneratorExp elt [⟨.Name x px, iter, [], 0⟩] scope pos) 0 (.ref it) .none Xg.env) [] = Xg.A)
    (T : Turn Xg.prog Xg.w Xg.K (.Name x px) J fp it tn) (pg : PG Xg (.Name x px) (gName i)) (he : PE Xg elt te) (hw0 : wipe σ0 [i] = σ0) (hfp : Xg.ex = fp) (hpn : Xg.pn = []) (hfa : a ∉ fp) (hxe : ∀ e s', Xg.xe e s' → False)
    (turn : ∀ j H, W j H → (j = n → J.stop j H ∧ TT H) ∧ (j < n → J.go j H ∧ ∀ y H', J.yld j H y H' → te (σ0.set i (some y)) H' fun v H2 => ∃ b, v = .bl b ∧ if b = true then W (j + 1) H2 else FF H2))
    (s₀ : Shared) (H : Hp) (s : Shared) (G : GSt Xg a go σ0 fp tn 0 H s) (w : W 0 H) :
    Seg (model Xg.prog Xg.w) A (fun m _ r s1 => r = .ok .next ∧ GRp Xg a go σ0 fp TT m s1) (GYp Xg a go σ0 fp tn n W FF) (n + 1) s₀ (.compStart (.GeneratorExp elt [⟨.Name x px, iter, [], 0⟩] scope pos) 0 (.ref it) .none Xg.env)
      ((model Xg.prog Xg.w).den (.compStart (.GeneratorExp elt [⟨.Name x px, iter, [], 0⟩] scope pos) 0 (.ref it) .none Xg.env)) [] s := by
  have loop := gen_loop (n := n) (W := W) (TT := TT) (FF := FF) (s₀ := s₀) hc hco hov T pg he hw0 hfp hpn hfa hxe turn n 0 H s (Nat.sub_zero _) (Nat.zero_le _) G w
  show Seg _ A _ _ _ s₀ _ ((compStart (.GeneratorExp elt [⟨.Name x px, iter, [], 0⟩] scope pos) 0 (.ref it) .none Xg.env).onRaise (leaving Xg.env)) [] s
  unfold compStart
  simp only [Sem.onRaise_eq_wrap]
  show Seg _ A _ _ _ s₀ _ ((ask >>= _).wrap _ _ _ _) [] s
  refine seg_bind_wrap (wpAny_askSetting ?_)
  split
  · exact seg_again rfl loop
  · refine seg_bind_wrap (wpAny_rule ?_)
    first
      | (refine seg_bind_wrap (wpAny_standAt (seg_bind_wrap ?_)); rw [hov1]; exact T.self _ 0 s _ _ G.2.1 (seg_again rfl loop))
      | (show Seg _ A _ _ _ s₀ _ ((standAt iter.pos >>= _).wrap _ _ _ _) [] s; refine seg_bind_wrap (wpAny_standAt (seg_bind_wrap ?_)); rw [hov1]; exact T.self _ 0 s _ _ G.2.1 (seg_again rfl loop))

/-- what the consumer holds before turn j -/
def Held (A1 : Around) (Xg : Cx) (a : Addr) (g : Nat) (go : Obj) (σ0 : L2.St) (fp : List Addr) (tn : Nat → Heap → Prop) (n : Nat) (W : Nat → Hp → Prop) (TT FF : Hp → Prop) (j : Nat) (s : Shared) : Prop :=
  ∃ H gs, GSt Xg a go σ0 fp tn j H s ∧ s.gens[g]? = some gs ∧ ∀ s', Idle s s' → gs.Goes (model Xg.prog Xg.w) A1 (fun m _ r s1 => r = .ok .next ∧ GRp Xg a go σ0 fp TT m s1) (GYp Xg a go σ0 fp tn n W FF) (n - j + 1) (.send .none) s'

theorem idle_gen {s : Shared} {g : Nat} {x : GenState} (h : AllBare s.gens) (hx : x.bare = true) : Idle s (s.setGen g x) := ⟨rfl, rfl, allBare_setGen h hx⟩

theorem all_turns {A : Around} {g : Nat} {R : Result → Shared → Prop} (hh : A.handled = none) (hroom : A.depth < recursionLimit) (hgo : ∀ h : Heap, h.get? a = some go → h.IsGen a g)
    (hT : ∀ H s s', Inv Xg [(a, go)] σ0 H s → TT H → s'.os = s.os → AllBare s'.gens → (∀ b o, s.heap.get? b = some o → s'.heap.get? b = some o) → R (.ok (.ret (.bool true))) s')
    (hF : ∀ H s s', Inv Xg [(a, go)] σ0 H s → FF H → s'.os = s.os → AllBare s'.gens → (∀ b o, s.heap.get? b = some o → s'.heap.get? b = some o) → R (.ok (.ret (.bool false))) s') :
    ∀ (k j : Nat) (s : Shared), n - j = k → j ≤ n → Held A.in1.in1 Xg a g go σ0 fp tn n W TT FF j s → codeAny (model Xg.prog Xg.w) A (.builtin "all.loop" ⟨[.ref a], []⟩) R s := by
  have gen_at : ∀ {j : Nat} {H : Hp} {s : Shared}, GSt Xg a go σ0 fp tn j H s → s.heap.IsGen a g := fun {j H s} G => hgo _ (G.1.pin (a, go) (by simp)).1
  intro k
  induction k with
  | zero =>
    intro j s hk hj ⟨H, gs, G, hgs, hgg⟩
    have hgen := gen_at G
    have e : n - j = 0 := hk
    rw [e] at hgg
    refine codeAny_builtin F.entry_all_loop ?_
    rw [Around.under_plainId F.plain_all_loop _]
    show wpAny _ A.in1 (pyNext (.ref a) >>= _) _ _ s
    refine wpAny_bind (wpAny_pyNext_genexpQ (P := fun m _ s1 => GRp Xg a go σ0 fp TT m s1) hh G.1.nolimit hroom hgen hgs (hgg _ (idle_gen G.1.bare rfl)) (fun v s₁ gs' hb hv => ?_) (fun s₁ hp h' hk => ?_))
    · exfalso
      obtain ⟨j2, H2, b, e1, e2, _⟩ := hv
      omega
    · obtain ⟨_, H1, I1, t1⟩ := hp
      exact wpAny_bind (wpAny_rule (wpAny_pure (hT H1 s₁ _ I1 t1 rfl (allBare_setGen I1.bare rfl) hk)))
  | succ k ih =>
    intro j s hk hj ⟨H, gs, G, hgs, hgg⟩
    have hgen := gen_at G
    have e : n - j = k + 1 := hk
    rw [e] at hgg
    refine codeAny_builtin F.entry_all_loop ?_
    rw [Around.under_plainId F.plain_all_loop _]
    show wpAny _ A.in1 (pyNext (.ref a) >>= _) _ _ s
    have hgl : g + 1 ≤ s.gens.size := (Array.getElem?_eq_some_iff.mp hgs).1
    refine wpAny_bind (wpAny_gsz (n := g + 1) hgl (wpAny_pyNext_genexpQ (P := fun m _ s1 => GRp Xg a go σ0 fp TT m s1) hh G.1.nolimit hroom hgen hgs (hgg _ (idle_gen G.1.bare rfl)) (fun v s₁ gs' hb hv hsz => ?_) (fun s₁ hp h' hk => ?_)))
    · obtain ⟨j2, H2, b, e1, e2, ev, G2, ht, hf⟩ := hv
      subst ev
      have ej : j2 = j := by omega
      subst ej
      refine wpAny_bind (wpAny_holding (wpAny_truthy_bool (wpAny_bind (wpAny_letGo ?_))))
      cases b with
      | true =>
        obtain ⟨w2, kap⟩ := ht rfl
        simp only [if_true]
        refine wpAny_pure ⟨plainId_quiet F.plain_all_loop _, ih (j2 + 1) _ (by omega) e1 ⟨H2, gs', G2.idle (idle_gen G2.1.bare hb), ?_, fun s' z => ?_⟩⟩
        · refine setGen_at ?_
          rw [setGen_size] at hsz
          exact hsz
        · have e3 : n - (j2 + 1) + 1 = k + 1 := by omega
          rw [e3]
          exact kap s' ⟨z.heap, z.os, z.bare⟩
      | false =>
        simp only [Bool.false_eq_true, if_false]
        exact wpAny_bind (wpAny_rule (wpAny_pure (hF H2 s₁ _ G2.1 (hf rfl) rfl (allBare_setGen G2.1.bare hb) fun _ _ e => e)))
    · exfalso
      obtain ⟨e1, _⟩ := hp
      omega
end

/-- what the text of the generator expression's scope shows -/
structure GOk (scope : Scope) (x : Str) : Prop where
  kind : scope.kind = .function
  co : scope.isCoroutine = false
  cell : ∀ y ∈ scope.names, y.2 ≠ .cell
  dot : scope.names.lookup (".0" : Str) = some NameKind.local
  loc : scope.names.lookup x = some .local

section
variable {X : Cx}
/-- all(e for x in ..): W before each turn; the test's answer true leads to W again, false to the end -/
def tAllG (P : Addr) (wi : TI) (te : TE) (i : Nat) : TE := fun σ H Q => wi σ H fun J H1 => TabG H1 P ∧ ∀ H2, Tabbed P H1 H2 → ∃ (n : Nat) (W : Nat → Hp → Prop), W 0 H2 ∧
  ∀ j H, W j H → (j = n → J.stop j H ∧ Q (.bl true) H) ∧ (j < n → J.go j H ∧ ∀ y H', J.yld j H y H' → te ((wipe σ [i]).set i (some y)) H' fun v H3 => ∃ b, v = .bl b ∧ if b = true then W (j + 1) H3 else Q (.bl false) H3)

theorem over_same {A : Around} {e : Expr} {g : List Comprehension} {scope : Scope} {pos : Pos} {it : Value} {env : Env} :
    A.over (.compStart (.GeneratorExp e g scope pos) 0 it .none env) [] = A.over (.compLoop (.GeneratorExp e g scope pos) 0 it .none env) [] := rfl
theorem over_frames {A : Around} {e : Expr} {g : List Comprehension} {scope : Scope} {pos : Pos} {it : Value} {env : Env} {l : List Env} (h : A.frames = some l) :
    (A.over (.compLoop (.GeneratorExp e g scope pos) 0 it .none env) []).frames = some (env :: l) := by
  show pushEnvs [env] (pushEnvs [] A.frames) = some (env :: l)
  rw [h]
  rfl
theorem over_room {A : Around} {e : Expr} {g : List Comprehension} {scope : Scope} {pos : Pos} {it : Value} {env : Env} {k : Nat} (h : Room (k + 1) A) :
    Room k (A.in1.in1.over (.compLoop (.GeneratorExp e g scope pos) 0 it .none env) []) := by
  refine ⟨h.hd, ?_, ?_⟩
  · have := h.dp
    show A.depth + 0 + 1 + 3 * k + 5 < recursionLimit
    omega
  · have := h.un
    show A.units + 1 + 1 + 0 + 3 + 16 * k + 200 < cLine
    omega

theorem pe_allG {c P : Addr} {elt iter : Expr} {x : Str} {px p pos gpos : Pos} {scope : Scope} {i k : Nat} {wi : TI} {te : TE} (hc : X.calm = true) (hr : Room (k + 1) X.A) (hN : X.N.Nodup) (hg : Gl X "all") (hm : X.mg "all" = none)
    (TB : TabB X.base X.mg c P) (hcode : X.env.code = .ref c) (ok : BlkOk X.N X.env.scope scope [(x, i)]) (go : GOk scope x) (hi : PI X (.Name x px) iter wi)
    (he : ∀ (s : Shared) (H : Hp) (cl : List (Str × Addr)) (C : Addr) (code : Value) (fp : List Addr) (A' : Around), Room k A' → PE (gcx X s H scope cl C code fp A') elt te)
    (hs : ∀ v, genFold iter X.env v = pure v := by intro _; rfl)
    (hst : starEach [.GeneratorExp elt [⟨.Name x px, iter, [], 0⟩] scope gpos] X.env = (false, eval (.GeneratorExp elt [⟨.Name x px, iter, [], 0⟩] scope gpos) X.env) :: starEach [] X.env := by rfl) :
    PE X (.Call (.Name "all" p) [.GeneratorExp elt [⟨.Name x px, iter, [], 0⟩] scope gpos] [] pos) (tAllG P wi te i) := by
  refine ⟨fun pins s σ H Q I h => ?_⟩
  have hfree : ∀ y ∈ scope.names, y.2 = .free → ∃ d, X.env.cells.lookup y.1 = some d := fun y hy e => by
    rcases ok.free y hy e with q | q
    · exact I.ok.has _ (.inl q)
    · exact I.ok.has _ (.inr q)
  have S : GenS X.env scope x := ⟨go.kind, go.co, go.cell, go.dot, go.loc, hfree⟩
  refine wpAny_Call_Name_kw (ld_blt I hg hm (show bootBuiltins "all" = some (.builtin "all") by decide +kernel) ?_)
  refine PyProof.Rows.callWith_builtin1 ?_ hst (by rfl)
  rw [hst]
  show wpAny _ _ (spliced ((false, eval (.GeneratorExp elt [⟨.Name x px, iter, [], 0⟩] scope gpos) X.env) :: backTo pos (starEach [] X.env))) _ _ s
  refine Calls.spliced_cons ?_
  refine wpAny_GeneratorExp_make S.co (closure_ok S.free) S.cell S.dot S.kind (by have := hr.dp; omega) ?_ hs
  refine thn (hi.run pins s σ H _ I h) fun xv s1 hx => thn hx fun itv s2 h2 => ?_
  obtain ⟨it, fp, tn, J, H2, e, I2, T, st2, f2, ⟨ps, hP, htr⟩, q⟩ := h2
  subst e
  refine ⟨I2.nolimit, ?_⟩
  have hPs : s2.heap.get? P = some { cls := .none, data := .fields ps } := I2.hok P _ hP
  have cd : PySem.W.CodeHd s2.heap c P := TB.code.keeps fun b u e => I2.bk b u e
  -- behind the code object: the table at P may have grown
  have cont : ∀ (code : Value) (h3 : Heap) (tk : Nat) (more : Array Value), Heap.ExtBut P s2.heap h3 → s2.heap.objs.size ≤ h3.objs.size → h3.get? P = some { cls := .none, data := .fields (ps ++ more) } → TriplesOk (ps ++ more).toList →
      wpAny (model X.prog X.w) X.A (builtinsFor X.env.globals X.env.builtins) (fun bi s₄ =>
        ∀ h', h'.Ns s₄.heap.objs.size (fun y => if y = ".0" then some (.ref it) else none) → Heap.SameBut s₄.heap.objs.size (s₄.heap.push { cls := .type "frame", data := .dict #[] }) h' →
          wpAny (model X.prog X.w) X.A (spliced (backTo pos (starEach [] X.env))) (fun us s5 => wpAny (model X.prog X.w) X.A (call (.builtin "all") (.ref h'.objs.size :: us)) (EP X pins σ Q) X.xe s5) X.xe { s₄ with
            gens := s₄.gens.push (.fresh (.compStart (.GeneratorExp elt [⟨.Name x px, iter, [], 0⟩] scope gpos) 0 (.ref it) .none (genEnv scope (cloFrom X.env.cells scope.names []) s₄.heap.objs.size code bi X.env))),
            toks := s₄.toks + 1 + 1 + 1,
            heap := h'.push { cls := .type "generator", data := .fields #[.int s₄.gens.size 0, .str "<genexpr>" (s₄.toks + 1), .str (X.env.qual ++ "<genexpr>") (s₄.toks + 1 + 1)] } }) X.xe { s2 with heap := h3, toks := tk } := by
    intro code h3 tk more hx3 hsz hP3 htr3
    obtain ⟨bm, ob, e1, e2, e3, e4, e5, e6, e7, e8⟩ := TB.bm
    have keep3 : ∀ b u, b ≠ P → s2.heap.get? b = some u → h3.get? b = some u := fun b u hb e => hx3 b u hb e
    have nsG : h3.Ns mainGlobals X.mg := by
      obtain ⟨o, es, ep, ho, r⟩ := I2.mod.glob.keeps I2.bk
      exact ⟨o, es, ep, hx3 _ _ TB.gP ho, r⟩
    refine wpAny_builtinsFor (m := X.mg) (by rw [I2.ok.glob]; exact nsG) e1 e2 (keep3 _ _ e4 (I2.bk _ _ e5)) e6 e7 e8 ?_
    intro h' hns' hsb
    refine Calls.spliced_nil ?_
    have hsz' : h'.objs.size = h3.objs.size + 1 := by rw [hsb.1]; exact Heap.size_push ..
    -- the caller's state, the table grown
    have I4 : Inv X pins σ (upd H2 P (.tbl (ps ++ more))) { s2 with heap := h3, gens := s2.gens, drawn := s2.drawn, toks := tk } := inv_tab I2 hP keep3 hP3 I2.bare
    obtain ⟨n, W, w0, turn⟩ := q (upd H2 P (.tbl (ps ++ more))) ⟨⟨ps ++ more, upd_same, htr3⟩, fun b hb => upd_ne hb⟩
    generalize hHn : upd H2 P (.tbl (ps ++ more)) = Hn at I4 w0
    have fpP : ∀ b ∈ fp, b ≠ P := fun b hb z => by
      have := (f2 b hb).1
      rw [z, hP] at this
      cases this
    have hfp : ∀ b ∈ fp, FpOk X pins Hn b ∧ b < h3.objs.size := fun b hb => by
      refine ⟨⟨?_, (f2 b hb).2⟩, ?_⟩
      · rw [← hHn, upd_ne (fpP b hb)]
        exact (f2 b hb).1
      · obtain ⟨o, ho, _⟩ := T.obj _ _ st2 b hb
        exact Nat.lt_of_lt_of_le (Heap.lt_size ho) hsz
    have kp : ∀ (go : Obj) (b : Addr) (o : Obj), h3.get? b = some o → (h'.push go).get? b = some o := fun go b o e => by
      refine Heap.get?_push_of_some _ ?_
      rw [hsb.2 b (Nat.ne_of_lt (Heap.lt_size e))]
      exact Heap.get?_push_of_some _ e
    have main : ∀ (go : Obj) (nm qn : Value) (tk2 : Nat), go.cls = .type "generator" → go.data = .fields #[.int s2.gens.size 0, nm, qn] → go.slots = #[] → (h'.push go).get? h'.objs.size = some go →
        wpAny (model X.prog X.w) X.A (call (.builtin "all") [.ref h'.objs.size]) (EP X pins σ Q) X.xe { s2 with
          gens := s2.gens.push (.fresh (.compStart (.GeneratorExp elt [⟨.Name x px, iter, [], 0⟩] scope gpos) 0 (.ref it) .none (genEnv scope (cloFrom X.env.cells scope.names []) h3.objs.size code builtinsNs X.env)))
          toks := tk2
          heap := h'.push go } := by
      intro gob nm qn tk2 gc gd gs0 gat
      have fr0 := over_frames (A := X.A.in1.in1) (e := elt) (g := [⟨.Name x px, iter, [], 0⟩]) (scope := scope) (pos := gpos) (it := .ref it) (env := genEnv scope (cloFrom X.env.cells scope.names []) h3.objs.size code builtinsNs X.env) (show X.A.in1.in1.frames = some X.stack from I2.ok.frames)
      have rm0 := over_room (A := X.A) (e := elt) (g := [⟨.Name x px, iter, [], 0⟩]) (scope := scope) (pos := gpos) (it := .ref it) (env := genEnv scope (cloFrom X.env.cells scope.names []) h3.objs.size code builtinsNs X.env) hr
      generalize hA' : X.A.in1.in1.over (.compLoop (.GeneratorExp elt [⟨.Name x px, iter, [], 0⟩] scope gpos) 0 (.ref it) .none (genEnv scope (cloFrom X.env.cells scope.names []) h3.objs.size code builtinsNs X.env)) [] = A' at fr0 rm0
      have J0 := gen_start (x := x) (i := i) (fp := fp) (C := h3.objs.size) (a := h'.objs.size) (code := code) (it := .ref it) (A := A') (go := gob) (h1 := h'.push gob) (g1 := s2.gens.push (.fresh (.compStart (.GeneratorExp elt [⟨.Name x px, iter, [], 0⟩] scope gpos) 0 (.ref it) .none (genEnv scope (cloFrom X.env.cells scope.names []) h3.objs.size code builtinsNs X.env)))) (t1 := tk2)
        I4 hN ok S hfp rm0.hd fr0 rfl (hns'.push gob) (kp gob) (I2.bare.push rfl) gat (fun v z => by rw [gd] at z; cases z) (by rw [hsz']; exact Nat.lt_succ_self _)
      have st0 : tn 0 (h'.push gob) := T.keep _ _ _ st2 fun b hb o e => kp gob b o (keep3 b o (fpP b hb) e)
      have nfp : ∀ b ∈ fp, Hn b = none := fun b hb => (hfp b hb).1.1
      have hfa : h'.objs.size ∉ fp := fun z => by
        have := (hfp _ z).2
        rw [hsz'] at this
        exact absurd (Nat.lt_of_succ_lt this) (Nat.lt_irrefl _)
      have back : ∀ (H9 : Hp) (s8 s9 : Shared) (b : Bool), Inv (gcx X { s2 with heap := h3, gens := s2.gens, drawn := s2.drawn, toks := tk } Hn scope (cloFrom X.env.cells scope.names []) h3.objs.size code fp A') [(h'.objs.size, gob)] (wipe σ [i]) H9 s8 →
          Q (.bl b) H9 → s9.os = s8.os → AllBare s9.gens → (∀ c o, s8.heap.get? c = some o → s9.heap.get? c = some o) → EP X pins σ Q (.bool b) s9 := fun H9 s8 s9 b I8 q8 ho hb9 k9 => by
        have os8 : s8.os = s2.os := I8.os
        have un8 : Un (frs X.stack) fp Hn H9 h3 s8.heap := I8.base
        have I9 : Inv X pins σ H9 s9 := I4.call' (ch := fp) (ho.trans os8) (un8.trans (Un.kept k9)) (I8.hok.kept k9) hb9 fun c hc9 => by
          obtain ⟨_, z1, z2, z3, z4, z5⟩ := (hfp c hc9).1
          exact ⟨z3, z1, z4, z5⟩
        exact ⟨.bl b, H9, I9, rfl, q8⟩
      refine call_function_tree F.kind_all F.plain_all F.entry_all (F.args_all1 _) ?_
      unfold Builtin.«all»
      refine wpAny_bind (m := oneArg "all" _) (wpAny_pure ?_)
      have isg : ∀ h : Heap, h.get? h'.objs.size = some gob → h.IsGen h'.objs.size s2.gens.size := fun h e => ⟨gob, nm, qn, e, gc, gd, gs0⟩
      refine wpAny_bind (wpAny_pyIter_gen (isg _ gat) ?_)
      refine wpAny_pure ⟨plainId_quiet F.plain_all_loop _, ?_⟩
      refine all_turns (Xg := gcx X { s2 with heap := h3, gens := s2.gens, drawn := s2.drawn, toks := tk } Hn scope (cloFrom X.env.cells scope.names []) h3.objs.size code fp A') (a := h'.objs.size) (go := gob) (σ0 := wipe σ [i]) (fp := fp) (tn := tn) (n := n) (W := W)
        (TT := fun H9 => Q (.bl true) H9) (FF := fun H9 => Q (.bl false) H9) hr.hd (by have := hr.dp; omega) isg (fun H9 s8 s9 I8 q8 ho hb9 k9 => back H9 s8 s9 true I8 q8 ho hb9 k9) (fun H9 s8 s9 I8 q8 ho hb9 k9 => back H9 s8 s9 false I8 q8 ho hb9 k9)
        n 0 _ (Nat.sub_zero _) (Nat.zero_le _) ⟨Hn, _, ⟨J0, st0, nfp⟩, Array.getElem?_push_size .., fun s' z => ?_⟩
      refine ⟨rfl, ?_⟩
      have ww : wipe (wipe σ [i]) [i] = wipe σ [i] := by
        show (σ.set i none).set i none = σ.set i none
        rw [List.set_set]
      have G' : GSt (gcx X { s2 with heap := h3, gens := s2.gens, drawn := s2.drawn, toks := tk } Hn scope (cloFrom X.env.cells scope.names []) h3.objs.size code fp A') h'.objs.size gob (wipe σ [i]) fp tn 0 Hn s' := GSt.idle ⟨J0, st0, nfp⟩ z
      have px0 : PG (gcx X { s2 with heap := h3, gens := s2.gens, drawn := s2.drawn, toks := tk } Hn scope (cloFrom X.env.cells scope.names []) h3.objs.size code fp A') (.Name x px) (gName i) := pg_name hN (ok.ix (x, i) (List.mem_singleton.mpr rfl)) (.inl go.loc) (.inr go.loc)
      exact gen_begin (Xg := gcx X { s2 with heap := h3, gens := s2.gens, drawn := s2.drawn, toks := tk } Hn scope (cloFrom X.env.cells scope.names []) h3.objs.size code fp A') (A := X.A.in1.in1) (s₀ := s') hc go.co hA' (over_same.trans hA') T px0 (he _ _ _ _ _ _ _ rm0) ww rfl rfl hfa (fun _ _ z => z) turn Hn s' G' w0
    exact main _ _ _ _ rfl rfl rfl (Heap.get?_push_size _ rfl)
  cases hf : codeAmong gpos ps.toList with
  | none =>
    refine wpAny_genexprCodeX hcode (cd.code hPs htr) (cd.tab hPs) hf fun c' h' tk hx3 hge hlt hco' _ htab' _ => ?_
    obtain ⟨o1, vs, f1, tf, fl, tg, inF, tx, tt, op, _, _, _, _, _, _, _, _, _, htr', _⟩ := hco'
    exact cont _ h' tk _ hx3 (Nat.le_trans hge (Nat.le_of_lt hlt)) htab'.2 htr'
  | some cv =>
    refine wpAny_genexprCode_hit hcode (cd.code hPs htr) hf ?_
    have e0 : ps ++ #[] = ps := Array.append_empty
    exact cont cv s2.heap s2.toks #[] (Heap.ExtBut.refl _ _) (Nat.le_refl _) (by rw [e0]; exact hPs) (by rw [e0]; exact htr)
end
end Dz


/-! What a program does, told over data: the frozen part B of the heap holds data, the part O is owned and may change; tables of code objects stand at T -/
namespace Dz
open PySem PySem.Spec PyProof.Rows L2 GxR

/-- data -/
inductive D where
  | non | bl (b : Bool) | int (i : Int) | str (x : Str)
  | lst (ds : List D) | tup (ds : List D) | kst (ds : List D)
  | ins (C : Addr) (fs : List (Str × D))
  | dic (kvs : List (Key × D))

mutual
/-- the value v is the data d, in the heap H -/
inductive Rp (K : PySem.W.Frag) (H : Hp) : V → D → Prop
  | non : Rp K H .non .non
  | bl (b : Bool) : Rp K H (.bl b) (.bl b)
  | int (i : Int) : Rp K H (.int i) (.int i)
  | str (x : Str) : Rp K H (.str x) (.str x)
  | lst {a : Addr} {xs : List V} {ds : List D} : H a = some (.lst xs) → RpAll K H xs ds → Rp K H (.ref a) (.lst ds)
  | kst {a : Addr} {xs : List V} {ds : List D} : SqL K H a xs → RpAll K H xs ds → Rp K H (.ref a) (.kst ds)
  | tup {a : Addr} {xs : List V} {ds : List D} : SqT K H a xs → RpAll K H xs ds → Rp K H (.ref a) (.tup ds)
  | ins {a C dx : Addr} {fs : List (Str × V)} {fd : List (Str × D)} : H a = some (.ins C dx fs) → RpFs K H fs fd → Rp K H (.ref a) (.ins C fd)
  | dic {a : Addr} {kvs : List (Key × V)} {kd : List (Key × D)} : H a = some (.dK kvs) → RpKs K H kvs kd → Rp K H (.ref a) (.dic kd)
inductive RpAll (K : PySem.W.Frag) (H : Hp) : List V → List D → Prop
  | nil : RpAll K H [] []
  | cons {v : V} {vs : List V} {d : D} {ds : List D} : Rp K H v d → RpAll K H vs ds → RpAll K H (v :: vs) (d :: ds)
inductive RpFs (K : PySem.W.Frag) (H : Hp) : List (Str × V) → List (Str × D) → Prop
  | nil : RpFs K H [] []
  | cons {f : Str} {v : V} {d : D} {fs : List (Str × V)} {fd : List (Str × D)} : Rp K H v d → RpFs K H fs fd → RpFs K H ((f, v) :: fs) ((f, d) :: fd)
inductive RpKs (K : PySem.W.Frag) (H : Hp) : List (Key × V) → List (Key × D) → Prop
  | nil : RpKs K H [] []
  | cons {k : Key} {v : V} {d : D} {fs : List (Key × V)} {fd : List (Key × D)} : Rp K H v d → RpKs K H fs fd → RpKs K H ((k, v) :: fs) ((k, d) :: fd)
end

theorem same_t {K : PySem.W.Frag} {H H' : Hp} {a : Addr} {xs : List V} (e : Same H H') (h : SqT K H a xs) : SqT K H' a xs := by
  rcases h with (h | ⟨o, h⟩) | h
  · exact .inl (.inl (e _ _ h))
  · exact .inl (.inr ⟨o, e _ _ h⟩)
  · exact .inr h

section
variable {K : PySem.W.Frag} {H H' : Hp}
mutual
theorem Rp.mono (e : Same H H') : ∀ {v : V} {d : D}, Rp K H v d → Rp K H' v d
  | _, _, .non => .non
  | _, _, .bl b => .bl b
  | _, _, .int i => .int i
  | _, _, .str x => .str x
  | _, _, .lst h r => .lst (e _ _ h) (RpAll.mono e r)
  | _, _, .kst h r => .kst (e.seq h) (RpAll.mono e r)
  | _, _, .tup h r => .tup (same_t e h) (RpAll.mono e r)
  | _, _, .ins h r => .ins (e _ _ h) (RpFs.mono e r)
  | _, _, .dic h r => .dic (e _ _ h) (RpKs.mono e r)
theorem RpAll.mono (e : Same H H') : ∀ {vs : List V} {ds : List D}, RpAll K H vs ds → RpAll K H' vs ds
  | _, _, .nil => .nil
  | _, _, .cons h r => .cons (Rp.mono e h) (RpAll.mono e r)
theorem RpFs.mono (e : Same H H') : ∀ {vs : List (Str × V)} {ds : List (Str × D)}, RpFs K H vs ds → RpFs K H' vs ds
  | _, _, .nil => .nil
  | _, _, .cons h r => .cons (Rp.mono e h) (RpFs.mono e r)
theorem RpKs.mono (e : Same H H') : ∀ {vs : List (Key × V)} {ds : List (Key × D)}, RpKs K H vs ds → RpKs K H' vs ds
  | _, _, .nil => .nil
  | _, _, .cons h r => .cons (Rp.mono e h) (RpKs.mono e r)
end
theorem RpAll.length : ∀ {vs : List V} {ds : List D}, RpAll K H vs ds → vs.length = ds.length
  | _, _, .nil => rfl
  | _, _, .cons _ r => congrArg Nat.succ r.length
theorem RpAll.get : ∀ {vs : List V} {ds : List D} {i : Nat} {d : D}, RpAll K H vs ds → ds[i]? = some d → ∃ v, vs[i]? = some v ∧ Rp K H v d
  | _, _, 0, _, .cons h _, e => by
    cases e
    exact ⟨_, rfl, h⟩
  | _, _, i + 1, _, .cons _ r, e => r.get (i := i) (by simpa using e)
theorem RpAll.getV : ∀ {vs : List V} {ds : List D} {i : Nat} {v : V}, RpAll K H vs ds → vs[i]? = some v → ∃ d, ds[i]? = some d ∧ Rp K H v d
  | _, _, 0, _, .cons h _, e => by
    cases e
    exact ⟨_, rfl, h⟩
  | _, _, i + 1, _, .cons _ r, e => r.getV (i := i) (by simpa using e)
theorem RpAll.append : ∀ {vs ws : List V} {ds es : List D}, RpAll K H vs ds → RpAll K H ws es → RpAll K H (vs ++ ws) (ds ++ es)
  | _, _, _, _, .nil, s => s
  | _, _, _, _, .cons h r, s => .cons h (r.append s)
theorem RpAll.take : ∀ {vs : List V} {ds : List D} (n : Nat), RpAll K H vs ds → RpAll K H (vs.take n) (ds.take n)
  | _, _, 0, _ => .nil
  | _, _, _ + 1, .nil => .nil
  | _, _, n + 1, .cons h r => .cons h (r.take n)
theorem RpAll.drop : ∀ {vs : List V} {ds : List D} (n : Nat), RpAll K H vs ds → RpAll K H (vs.drop n) (ds.drop n)
  | _, _, 0, r => r
  | _, _, _ + 1, .nil => .nil
  | _, _, n + 1, .cons _ r => r.drop n
theorem RpAll.reverse : ∀ {vs : List V} {ds : List D}, RpAll K H vs ds → RpAll K H vs.reverse ds.reverse
  | _, _, .nil => .nil
  | _, _, .cons h r => by
    rw [List.reverse_cons, List.reverse_cons]
    exact r.reverse.append (.cons h .nil)
theorem RpAll.set {v : V} {d : D} (h : Rp K H v d) : ∀ {vs : List V} {ds : List D} (i : Nat), RpAll K H vs ds → RpAll K H (vs.set i v) (ds.set i d)
  | _, _, _, .nil => .nil
  | _, _, 0, .cons _ r => .cons h r
  | _, _, i + 1, .cons g r => .cons g (r.set h i)
theorem RpAll.map {α : Type} {f : α → V} {g : α → D} (h : ∀ x, Rp K H (f x) (g x)) : ∀ xs : List α, RpAll K H (xs.map f) (xs.map g)
  | [] => .nil
  | x :: xs => .cons (h x) (RpAll.map h xs)
theorem RpFs.get {f : Str} {d : D} : ∀ {fs : List (Str × V)} {fd : List (Str × D)}, RpFs K H fs fd → fd.lookup f = some d → ∃ v, fs.lookup f = some v ∧ Rp K H v d
  | _, _, .cons (f := g) h r, e => by
    rw [List.lookup_cons] at e ⊢
    cases hb : f == g with
    | true =>
      rw [hb] at e
      cases e
      exact ⟨_, rfl, h⟩
    | false =>
      rw [hb] at e
      exact r.get e
theorem RpKs.get {k : Key} {d : D} : ∀ {fs : List (Key × V)} {fd : List (Key × D)}, RpKs K H fs fd → (fd.find? fun kv => decide (kv.1 = k)).map (·.2) = some d → ∃ v, valV fs k = some v ∧ Rp K H v d
  | _, _, .cons (k := g) (v := v) h r, e => by
    by_cases hb : g = k
    · rw [List.find?_cons_of_pos (by simpa using hb)] at e
      cases e
      exact ⟨_, valV_pos hb, h⟩
    · rw [List.find?_cons_of_neg (by simpa using hb)] at e
      obtain ⟨w, h1, h2⟩ := r.get e
      exact ⟨w, (valV_neg hb).trans h1, h2⟩
end

/-- what a slot holds: nothing that is known | data | this very value (an owned object's address) -/
inductive Slot where
  | no | dat (d : D) | val (v : V)
def SlotOk (K : PySem.W.Frag) (B : Hp) : Option V → Slot → Prop
  | _, .no => True
  | some v, .dat d => Rp K B v d
  | some v, .val w => v = w
  | none, _ => False
theorem SlotOk.mono {K : PySem.W.Frag} {B B' : Hp} (e : Same B B') : ∀ {o : Option V} {s : Slot}, SlotOk K B o s → SlotOk K B' o s
  | _, .no, _ => True.intro
  | some v, .dat d, h => Rp.mono e h
  | some v, .val w, h => h
  | none, .dat _, h => h.elim
  | none, .val _, h => h.elim
/-- values: data, or owned objects -/
inductive Args (K : PySem.W.Frag) (B : Hp) : List V → List Slot → Prop
  | nil : Args K B [] []
  | cons {v : V} {s : Slot} {vs : List V} {ss : List Slot} : SlotOk K B (some v) s → Args K B vs ss → Args K B (v :: vs) (s :: ss)
theorem Args.mono {K : PySem.W.Frag} {B B' : Hp} (e : Same B B') : ∀ {vs : List V} {ss : List Slot}, Args K B vs ss → Args K B' vs ss
  | _, _, .nil => .nil
  | _, _, .cons h r => .cons (h.mono e) (r.mono e)
theorem Args.length {K : PySem.W.Frag} {B : Hp} : ∀ {vs : List V} {ss : List Slot}, Args K B vs ss → vs.length = ss.length
  | _, _, .nil => rfl
  | _, _, .cons _ r => congrArg Nat.succ r.length
theorem Args.append {K : PySem.W.Frag} {B : Hp} : ∀ {vs ws : List V} {ss ts : List Slot}, Args K B vs ss → Args K B ws ts → Args K B (vs ++ ws) (ss ++ ts)
  | _, _, _, _, .nil, r => r
  | _, _, _, _, .cons h q, r => .cons h (q.append r)
theorem Args.get {K : PySem.W.Frag} {B : Hp} : ∀ {vs : List V} {ss : List Slot} {i : Nat} {s : Slot}, Args K B vs ss → ss[i]? = some s → ∃ v, vs[i]? = some v ∧ SlotOk K B (some v) s
  | _, _, 0, _, .cons h _, e => by
    cases e
    exact ⟨_, rfl, h⟩
  | _, _, i + 1, _, .cons _ r, e => r.get (i := i) (by simpa using e)
theorem Args.set {K : PySem.W.Frag} {B : Hp} {v : V} {s : Slot} (h : SlotOk K B (some v) s) : ∀ {vs : List V} {ss : List Slot} (i : Nat), Args K B vs ss → Args K B (vs.set i v) (ss.set i s)
  | _, _, _, .nil => .nil
  | _, _, 0, .cons _ r => .cons h r
  | _, _, i + 1, .cons g r => .cons g (r.set h i)
theorem Args.dropLast {K : PySem.W.Frag} {B : Hp} : ∀ {vs : List V} {ss : List Slot}, Args K B vs ss → Args K B vs.dropLast ss.dropLast
  | _, _, .nil => .nil
  | _, _, .cons h .nil => .nil
  | _, _, .cons h (.cons g r) => .cons h (Args.dropLast (.cons g r))
/-- all of them data -/
theorem Args.all {K : PySem.W.Frag} {B : Hp} : ∀ {vs : List V} {ds : List D}, Args K B vs (ds.map .dat) → RpAll K B vs ds
  | _, [], .nil => .nil
  | _, _ :: _, .cons h r => .cons h (Args.all r)
theorem Args.of {K : PySem.W.Frag} {B : Hp} : ∀ {vs : List V} {ds : List D}, RpAll K B vs ds → Args K B vs (ds.map .dat)
  | _, _, .nil => .nil
  | _, _, .cons h r => .cons h (Args.of r)

/-- an owned object -/
inductive OD where
  | lst (ss : List Slot) | ins (C : Addr) (fs : List (Str × Slot)) | dic (kvs : List (Key × Slot))
inductive FsOk (K : PySem.W.Frag) (B : Hp) : List (Str × V) → List (Str × Slot) → Prop
  | nil : FsOk K B [] []
  | cons {f : Str} {v : V} {s : Slot} {fs : List (Str × V)} {ss : List (Str × Slot)} : SlotOk K B (some v) s → FsOk K B fs ss → FsOk K B ((f, v) :: fs) ((f, s) :: ss)
inductive KsOk (K : PySem.W.Frag) (B : Hp) : List (Key × V) → List (Key × Slot) → Prop
  | nil : KsOk K B [] []
  | cons {f : Key} {v : V} {s : Slot} {fs : List (Key × V)} {ss : List (Key × Slot)} : SlotOk K B (some v) s → KsOk K B fs ss → KsOk K B ((f, v) :: fs) ((f, s) :: ss)
theorem FsOk.mono {K : PySem.W.Frag} {B B' : Hp} (e : Same B B') : ∀ {vs : List (Str × V)} {ss : List (Str × Slot)}, FsOk K B vs ss → FsOk K B' vs ss
  | _, _, .nil => .nil
  | _, _, .cons h r => .cons (h.mono e) (r.mono e)
theorem KsOk.mono {K : PySem.W.Frag} {B B' : Hp} (e : Same B B') : ∀ {vs : List (Key × V)} {ss : List (Key × Slot)}, KsOk K B vs ss → KsOk K B' vs ss
  | _, _, .nil => .nil
  | _, _, .cons h r => .cons (h.mono e) (r.mono e)
theorem FsOk.length {K : PySem.W.Frag} {B : Hp} : ∀ {vs : List (Str × V)} {ss : List (Str × Slot)}, FsOk K B vs ss → vs.length = ss.length
  | _, _, .nil => rfl
  | _, _, .cons _ r => congrArg Nat.succ r.length
theorem KsOk.length {K : PySem.W.Frag} {B : Hp} : ∀ {vs : List (Key × V)} {ss : List (Key × Slot)}, KsOk K B vs ss → vs.length = ss.length
  | _, _, .nil => rfl
  | _, _, .cons _ r => congrArg Nat.succ r.length
theorem FsOk.get {K : PySem.W.Frag} {B : Hp} {f : Str} {s : Slot} : ∀ {fs : List (Str × V)} {ss : List (Str × Slot)}, FsOk K B fs ss → ss.lookup f = some s → ∃ v, fs.lookup f = some v ∧ SlotOk K B (some v) s
  | _, _, .cons (f := g) h r, e => by
    rw [List.lookup_cons] at e ⊢
    cases hb : f == g with
    | true =>
      rw [hb] at e
      cases e
      exact ⟨_, rfl, h⟩
    | false =>
      rw [hb] at e
      exact r.get e
/-- a field stored -/
def putS (f : Str) (s : Slot) : List (Str × Slot) → List (Str × Slot)
  | [] => [(f, s)]
  | (g, t) :: r => if g = f then (g, s) :: r else (g, t) :: putS f s r
theorem FsOk.put {K : PySem.W.Frag} {B : Hp} {f : Str} {v : V} {s : Slot} (h : SlotOk K B (some v) s) : ∀ {fs : List (Str × V)} {ss : List (Str × Slot)}, FsOk K B fs ss → FsOk K B (putF f v fs) (putS f s ss)
  | _, _, .nil => .cons h .nil
  | _, _, .cons (f := g) q r => by
    unfold putF putS
    by_cases e : g = f
    · rw [if_pos e, if_pos e]
      exact .cons h r
    · rw [if_neg e, if_neg e]
      exact .cons q (r.put h)
theorem FsOk.all {K : PySem.W.Frag} {B : Hp} : ∀ {vs : List (Str × V)} {ds : List (Str × D)}, FsOk K B vs (ds.map fun p => (p.1, .dat p.2)) → RpFs K B vs ds
  | _, [], .nil => .nil
  | _, _ :: _, .cons h r => .cons h (FsOk.all r)
theorem KsOk.all {K : PySem.W.Frag} {B : Hp} : ∀ {vs : List (Key × V)} {ds : List (Key × D)}, KsOk K B vs (ds.map fun p => (p.1, .dat p.2)) → RpKs K B vs ds
  | _, [], .nil => .nil
  | _, _ :: _, .cons h r => .cons h (KsOk.all r)
/-- the object o is as od tells -/
def OdOk (K : PySem.W.Frag) (B : Hp) : HO → OD → Prop
  | .lst vs, .lst ss => Args K B vs ss
  | .ins C _ fs, .ins C' ss => C = C' ∧ FsOk K B fs ss
  | .dK kvs, .dic ss => KsOk K B kvs ss
  | _, _ => False
theorem OdOk.mono {K : PySem.W.Frag} {B B' : Hp} (e : Same B B') : ∀ {o : HO} {od : OD}, OdOk K B o od → OdOk K B' o od := fun {o od} h => by
  cases o with
  | lst vs => cases od <;> first | exact Args.mono e h | exact h.elim
  | ins C dx fs => cases od <;> first | exact ⟨h.1, FsOk.mono e h.2⟩ | exact h.elim
  | dK kvs => cases od <;> first | exact KsOk.mono e h | exact h.elim
  | _ => cases od <;> exact h.elim
abbrev OH := Addr → Option OD
def put (O : OH) (a : Addr) (o : OD) : OH := fun b => if b = a then some o else O b
theorem put_same {O : OH} {a : Addr} {o : OD} : put O a o a = some o := if_pos rfl
theorem put_ne {O : OH} {a b : Addr} {o : OD} (h : b ≠ a) : put O a o b = O b := if_neg h
theorem put_put {O : OH} {a : Addr} {o u : OD} : put (put O a o) a u = put O a u := by
  funext b
  unfold put
  split <;> rfl
theorem put_self {O : OH} {a : Addr} {o : OD} (h : O a = some o) : put O a o = O := by
  funext b
  unfold put
  split
  · rename_i z
    rw [z, h]
  · rfl
/-- without what is owned at a -/
def cut (O : OH) (a : Addr) : OH := fun b => if b = a then none else O b
theorem cut_same {O : OH} {a : Addr} : cut O a a = none := if_pos rfl
theorem cut_ne {O : OH} {a b : Addr} (h : b ≠ a) : cut O a b = O b := if_neg h
theorem cut_put {O : OH} {a : Addr} {o : OD} (h : O a = none) : cut (put O a o) a = O := by
  funext b
  unfold cut put
  split
  · rename_i z
    rw [z, h]
  · rfl

/-- what stands where -/
structure At (T : List Addr) (K : PySem.W.Frag) (B : Hp) (O : OH) (H : Hp) : Prop where
  base : Same B H
  own : ∀ a o, O a = some o → B a = none ∧ ∃ u, H a = some u ∧ OdOk K B u o
  nt : ∀ P ∈ T, B P = none ∧ O P = none
  tabs : ∀ P ∈ T, TabG H P
/-- what a piece of the program leaves -/
structure Post (T : List Addr) (K : PySem.W.Frag) (B : Hp) (O : OH) (H : Hp) (B' : Hp) (O' : OH) (H' : Hp) : Prop where
  at' : At T K B' O' H'
  bb : Same B B'
  new : ∀ a, H a ≠ none → O a = none → B' a = B a
  own : ∀ a, O' a ≠ none → O a ≠ none ∨ H a = none
  fr : ∀ a o, H a = some o → O a = none → a ∉ T → H' a = some o
  dom : ∀ a, H a ≠ none → H' a ≠ none
/-- nothing is owned -/
abbrev O0 : OH := fun _ => none

section
variable {T : List Addr} {K : PySem.W.Frag} {B : Hp} {O : OH} {H B1 : Hp} {O1 : OH} {H1 B2 : Hp} {O2 : OH} {H2 : Hp}
theorem ne_some {α β : Type} {f : α → Option β} {a : α} {o : β} (h : f a = some o) : f a ≠ none := fun z => by
  rw [h] at z
  cases z
theorem some_ne {α β : Type} {f : α → Option β} {a : α} (h : f a ≠ none) : ∃ o, f a = some o := by
  cases e : f a with
  | none => exact absurd e h
  | some o => exact ⟨o, rfl⟩
theorem At.ownH (h : At T K B O H) {a : Addr} {o : OD} (e : O a = some o) : H a ≠ none := by
  obtain ⟨_, u, hu, _⟩ := h.own a o e
  exact ne_some hu
theorem Post.refl (h : At T K B O H) : Post T K B O H B O H := ⟨h, Same.refl B, fun _ _ _ => rfl, fun _ z => .inl z, fun _ _ e _ _ => e, fun _ z => z⟩
theorem Post.keepO (p : Post T K B O H B1 O1 H1) {a : Addr} (h : H a ≠ none) (ho : O a = none) : O1 a = none := by
  cases e : O1 a with
  | none => rfl
  | some o =>
    rcases p.own a (ne_some e) with z | z
    · exact absurd ho z
    · exact absurd z h
theorem Post.trans (p : Post T K B O H B1 O1 H1) (q : Post T K B1 O1 H1 B2 O2 H2) : Post T K B O H B2 O2 H2 where
  at' := q.at'
  bb := p.bb.trans q.bb
  new := fun a h ho => (q.new a (p.dom a h) (p.keepO h ho)).trans (p.new a h ho)
  own := fun a h => by
    rcases q.own a h with z | z
    · exact p.own a z
    · refine .inr ?_
      cases e : H a with
      | none => rfl
      | some o => exact absurd z (p.dom a (ne_some e))
  fr := fun a o h ho ht => q.fr a o (p.fr a o h ho ht) (p.keepO (ne_some h) ho) ht
  dom := fun a h => q.dom a (p.dom a h)
theorem Post.free (p : Post T K B O H B1 O1 H1) {a : Addr} (h : H1 a = none) : H a = none := by
  cases e : H a with
  | none => rfl
  | some o => exact absurd h (p.dom a (ne_some e))
theorem At.noB (h : At T K B O H) {a : Addr} (n : H a = none) : B a = none := by
  cases q : B a with
  | none => rfl
  | some v => exact absurd n (ne_some (h.base a v q))
theorem At.noO (h : At T K B O H) {a : Addr} (n : H a = none) : O a = none := by
  cases q : O a with
  | none => rfl
  | some v => exact absurd n (h.ownH q)
theorem upd_dom {H : Hp} {a b : Addr} {o : HO} (h : H b ≠ none) : upd H a o b ≠ none := by
  by_cases z : b = a
  · subst z
    rw [upd_same]
    exact fun q => by cases q
  · rw [upd_ne z]
    exact h
/-- something that is neither frozen nor owned is laid -/
theorem Post.laid (h : At T K B O H) {a : Addr} {o : HO} (n : H a = none) : Post T K B O H B O (upd H a o) where
  at' :=
    { base := fun b u e => by rw [upd_ne (ne_of_none (h.base b u e) n)]; exact h.base b u e
      own := fun b u e => by
        obtain ⟨e1, v, e2, e3⟩ := h.own b u e
        exact ⟨e1, v, by rw [upd_ne (ne_of_none e2 n)]; exact e2, e3⟩
      nt := h.nt
      tabs := fun P hP => by
        obtain ⟨ps, e, t⟩ := h.tabs P hP
        exact ⟨ps, by rw [upd_ne (ne_of_none e n)]; exact e, t⟩ }
  bb := Same.refl B
  new := fun _ _ _ => rfl
  own := fun b hb => .inl hb
  fr := fun b u e _ _ => by rw [upd_ne (ne_of_none e n)]; exact e
  dom := fun b hb => upd_dom hb
/-- a new object, frozen at once -/
theorem Post.made (h : At T K B O H) {a : Addr} {o : HO} (n : H a = none) : Post T K B O H (upd B a o) O (upd H a o) where
  at' :=
    { base := fun b u e => by
        by_cases z : b = a
        · subst z
          rw [upd_same] at e ⊢
          exact e
        · rw [upd_ne z] at e ⊢
          exact h.base b u e
      own := fun b u e => by
        obtain ⟨e1, v, e2, e3⟩ := h.own b u e
        have z : b ≠ a := ne_of_none e2 n
        exact ⟨by rw [upd_ne z]; exact e1, v, by rw [upd_ne z]; exact e2, e3.mono fun c w q => by rw [upd_ne (ne_of_none (h.base c w q) n)]; exact q⟩
      nt := fun P hP => by
        obtain ⟨ps, e, _⟩ := h.tabs P hP
        have z : P ≠ a := ne_of_none e n
        rw [upd_ne z]
        exact h.nt P hP
      tabs := fun P hP => by
        obtain ⟨ps, e, t⟩ := h.tabs P hP
        exact ⟨ps, by rw [upd_ne (ne_of_none e n)]; exact e, t⟩ }
  bb := fun b u e => by rw [upd_ne (ne_of_none (h.base b u e) n)]; exact e
  new := fun b hb _ => by
    have z : b ≠ a := fun q => hb (by rw [q]; exact n)
    rw [upd_ne z]
  own := fun b hb => .inl hb
  fr := fun b u e _ _ => by rw [upd_ne (ne_of_none e n)]; exact e
  dom := fun b hb => upd_dom hb
/-- a new object, owned -/
theorem Post.madeO (h : At T K B O H) {a : Addr} {o : HO} {od : OD} (n : H a = none) (k : OdOk K B o od) : Post T K B O H B (put O a od) (upd H a o) where
  at' :=
    { base := fun b u e => by rw [upd_ne (ne_of_none (h.base b u e) n)]; exact h.base b u e
      own := fun b u e => by
        by_cases z : b = a
        · subst z
          rw [put_same] at e
          cases e
          exact ⟨h.noB n, o, upd_same, k⟩
        · rw [put_ne z] at e
          obtain ⟨e1, v, e2, e3⟩ := h.own b u e
          exact ⟨e1, v, by rw [upd_ne z]; exact e2, e3⟩
      nt := fun P hP => by
        obtain ⟨ps, e, _⟩ := h.tabs P hP
        rw [put_ne (ne_of_none e n)]
        exact h.nt P hP
      tabs := fun P hP => by
        obtain ⟨ps, e, t⟩ := h.tabs P hP
        exact ⟨ps, by rw [upd_ne (ne_of_none e n)]; exact e, t⟩ }
  bb := Same.refl B
  new := fun _ _ _ => rfl
  own := fun b hb => by
    by_cases z : b = a
    · subst z
      exact .inr n
    · rw [put_ne z] at hb
      exact .inl hb
  fr := fun b u e _ _ => by rw [upd_ne (ne_of_none e n)]; exact e
  dom := fun b hb => upd_dom hb
theorem At.notT (h : At T K B O H) {a : Addr} {o : OD} (e : O a = some o) : a ∉ T := fun z => by
  have := (h.nt a z).2
  rw [e] at this
  cases this
/-- an owned object changes -/
theorem Post.put (h : At T K B O H) {a : Addr} {o od : OD} {u : HO} (e : O a = some o) (k : OdOk K B u od) : Post T K B O H B (put O a od) (upd H a u) where
  at' :=
    { base := fun b v q => by
        have z : b ≠ a := fun z => by
          rw [z, (h.own a o e).1] at q
          cases q
        rw [upd_ne z]
        exact h.base b v q
      own := fun b v q => by
        by_cases z : b = a
        · subst z
          rw [put_same] at q
          cases q
          exact ⟨(h.own b o e).1, u, upd_same, k⟩
        · rw [put_ne z] at q
          obtain ⟨e1, v, e2, e3⟩ := h.own b v q
          exact ⟨e1, v, by rw [upd_ne z]; exact e2, e3⟩
      nt := fun P hP => by
        have z : P ≠ a := fun z => h.notT e (by rw [← z]; exact hP)
        rw [put_ne z]
        exact h.nt P hP
      tabs := fun P hP => by
        obtain ⟨ps, q, t⟩ := h.tabs P hP
        have z : P ≠ a := fun z => h.notT e (by rw [← z]; exact hP)
        exact ⟨ps, by rw [upd_ne z]; exact q, t⟩ }
  bb := Same.refl B
  new := fun _ _ _ => rfl
  own := fun b hb => by
    by_cases z : b = a
    · subst z
      exact .inl (ne_some e)
    · rw [put_ne z] at hb
      exact .inl hb
  fr := fun b v q ho _ => by
    have z : b ≠ a := fun z => by
      rw [z, e] at ho
      cases ho
    rw [upd_ne z]
    exact q
  dom := fun b hb => upd_dom hb
/-- an owned object is frozen -/
theorem Post.freeze (h : At T K B O H) {a : Addr} {o : OD} {u : HO} (e : O a = some o) (eu : H a = some u) : Post T K B O H (upd B a u) (cut O a) H where
  at' :=
    { base := fun b v q => by
        by_cases z : b = a
        · subst z
          rw [upd_same] at q
          cases q
          exact eu
        · rw [upd_ne z] at q
          exact h.base b v q
      own := fun b v q => by
        have z : b ≠ a := fun z => by
          rw [z, cut_same] at q
          cases q
        rw [cut_ne z] at q
        obtain ⟨e1, v, e2, e3⟩ := h.own b v q
        refine ⟨by rw [upd_ne z]; exact e1, v, e2, e3.mono fun c w q => ?_⟩
        have zc : c ≠ a := fun zc => by
          rw [zc, (h.own a o e).1] at q
          cases q
        rw [upd_ne zc]
        exact q
      nt := fun P hP => by
        have z : P ≠ a := fun z => h.notT e (by rw [← z]; exact hP)
        rw [upd_ne z, cut_ne z]
        exact h.nt P hP
      tabs := h.tabs }
  bb := fun b v q => by
    have z : b ≠ a := fun z => by
      rw [z, (h.own a o e).1] at q
      cases q
    rw [upd_ne z]
    exact q
  new := fun b _ ho => by
    have z : b ≠ a := fun z => by
      rw [z, e] at ho
      cases ho
    rw [upd_ne z]
  own := fun b hb => by
    by_cases z : b = a
    · subst z
      exact .inl (ne_some e)
    · rw [cut_ne z] at hb
      exact .inl hb
  fr := fun _ _ q _ _ => q
  dom := fun _ q => q
/-- a piece that owns nothing, where something is owned -/
theorem Post.frame0 (h : At T K B O H) (p : Post T K B O0 H B1 O0 H1) : Post T K B O H B1 O H1 where
  at' :=
    { base := p.at'.base
      own := fun a o e => by
        obtain ⟨e1, u, e2, e3⟩ := h.own a o e
        exact ⟨(p.new a (ne_some e2) rfl).trans e1, u, p.fr a u e2 rfl (h.notT e), e3.mono p.bb⟩
      nt := fun P hP => ⟨(p.at'.nt P hP).1, (h.nt P hP).2⟩
      tabs := p.at'.tabs }
  bb := p.bb
  new := fun a ha _ => p.new a ha rfl
  own := fun a ha => .inl ha
  fr := fun a o e _ ht => p.fr a o e rfl ht
  dom := p.dom
theorem At.no (h : At T K B O H) : At T K B O0 H := ⟨h.base, (fun _ _ e => by cases e), fun P hP => ⟨(h.nt P hP).1, rfl⟩, h.tabs⟩
/-- a table has grown -/
theorem Post.tabbed (h : At T K B O H) {P : Addr} (hP : P ∈ T) (t : Tabbed P H H1) : Post T K B O H B O H1 where
  at' :=
    { base := fun b u e => by
        have z : b ≠ P := fun z => by
          rw [z, (h.nt P hP).1] at e
          cases e
        rw [t.2 b z]
        exact h.base b u e
      own := fun b u e => by
        have z : b ≠ P := fun z => h.notT e (by rw [z]; exact hP)
        obtain ⟨e1, v, e2, e3⟩ := h.own b u e
        exact ⟨e1, v, by rw [t.2 b z]; exact e2, e3⟩
      nt := h.nt
      tabs := fun Q hQ => by
        by_cases z : Q = P
        · rw [z]
          exact t.1
        · obtain ⟨ps, e, tr⟩ := h.tabs Q hQ
          exact ⟨ps, by rw [t.2 Q z]; exact e, tr⟩ }
  bb := Same.refl B
  new := fun _ _ _ => rfl
  own := fun _ z => .inl z
  fr := fun b u e _ ht => by rw [t.2 b fun z => ht (by rw [z]; exact hP)]; exact e
  dom := fun b hb => by
    by_cases z : b = P
    · obtain ⟨ps, e, _⟩ := t.1
      rw [z, e]
      exact fun q => by cases q
    · rw [t.2 b z]
      exact hb
end
end Dz

namespace Dz
open PySem PySem.Spec PyProof.Rows L2 GxR

/-- the slots hold what ρ says -/
inductive Env (K : PySem.W.Frag) (B : Hp) : L2.St → List Slot → Prop
  | nil : Env K B [] []
  | cons {o : Option V} {s : Slot} {σ : L2.St} {ρ : List Slot} : SlotOk K B o s → Env K B σ ρ → Env K B (o :: σ) (s :: ρ)
section
variable {K : PySem.W.Frag} {B B' : Hp}
theorem Env.mono (e : Same B B') : ∀ {σ : L2.St} {ρ : List Slot}, Env K B σ ρ → Env K B' σ ρ
  | _, _, .nil => .nil
  | _, _, .cons h r => .cons (h.mono e) (r.mono e)
theorem Env.get : ∀ {σ : L2.St} {ρ : List Slot} {i : Nat} {s : Slot}, Env K B σ ρ → ρ[i]? = some s → ∃ o, σ[i]? = some o ∧ SlotOk K B o s
  | _, _, 0, _, .cons h _, e => by
    cases e
    exact ⟨_, rfl, h⟩
  | _, _, i + 1, _, .cons _ r, e => r.get (i := i) (by simpa using e)
theorem Env.set {o : Option V} {s : Slot} (h : SlotOk K B o s) : ∀ {σ : L2.St} {ρ : List Slot} (i : Nat), Env K B σ ρ → Env K B (σ.set i o) (ρ.set i s)
  | _, _, _, .nil => .nil
  | _, _, 0, .cons _ r => .cons h r
  | _, _, i + 1, .cons g r => .cons g (r.set h i)
theorem Env.wipe1 (i : Nat) {σ : L2.St} {ρ : List Slot} (e : Env K B σ ρ) : Env K B (σ.set i none) (ρ.set i .no) := Env.set (o := none) (s := .no) (show SlotOk K B none .no from True.intro) i e
theorem Env.length : ∀ {σ : L2.St} {ρ : List Slot}, Env K B σ ρ → σ.length = ρ.length
  | _, _, .nil => rfl
  | _, _, .cons _ r => congrArg Nat.succ r.length
end
theorem Env.of_args {K : PySem.W.Frag} {B : Hp} (k : Nat) : ∀ {vs : List V} {ss : List Slot}, Args K B vs ss → Env K B (vs.map some ++ List.replicate k none) (ss ++ List.replicate k .no)
  | _, _, .nil => by
    induction k with
    | zero => exact .nil
    | succ k ih => exact .cons True.intro ih
  | _, _, .cons h r => .cons h (Env.of_args k r)

/-! ### judgements -/
/-- the expression's own wish -/
def WE (X : Cx) (e : Expr) : TE := fun σ H Q => ∀ (pins : List (Addr × Obj)) (s : Shared), L2.Inv X pins σ H s → wpAny (model X.prog X.w) X.A (eval e X.env) (EP X pins σ Q) X.xe s
def WT (X : Cx) (e : Expr) : TT := fun σ H Q => ∀ (pins : List (Addr × Obj)) (s : Shared), L2.Inv X pins σ H s → wpAny (model X.prog X.w) X.A (isTrue e X.env (eval e X.env)) (TP X pins σ Q) X.xe s
def WW (X : Cx) (e : Expr) : TT := fun σ H Q => ∀ (whole : Sem Value) (pins : List (Addr × Obj)) (s : Shared), L2.Inv X pins σ H s → wpAny (model X.prog X.w) X.A (isTrue e X.env whole) (TP X pins σ Q) X.xe s
def WA (X : Cx) (es : List Expr) : TA := fun σ H Q => ∀ (pos : Pos) (pins : List (Addr × Obj)) (s : Shared), L2.Inv X pins σ H s → wpAny (model X.prog X.w) X.A (spliced (backTo pos (starEach es X.env))) (AP X pins σ Q) X.xe s
def WS (X : Cx) (st : Stmt) : TS := fun D σ H => ∀ (pins : List (Addr × Obj)) (s : Shared), L2.Inv X pins σ H s → wpAny (model X.prog X.w) X.A (exec st X.env) (SP X pins D) X.xe s
def WSs (X : Cx) (st : List Stmt) : TS := fun D σ H => ∀ (pins : List (Addr × Obj)) (s : Shared), L2.Inv X pins σ H s → wpAny (model X.prog X.w) X.A (execs st X.env) (SP X pins D) X.xe s
theorem pe_we {X : Cx} {e : Expr} : PE X e (WE X e) := ⟨fun pins s σ H Q I h => h pins s I⟩
theorem pt_wt {X : Cx} {e : Expr} : PT X e (WT X e) := ⟨fun pins s σ H Q I h => h pins s I⟩
theorem pw_ww {X : Cx} {e : Expr} : PW X e (WW X e) := ⟨fun wh pins s σ H Q I h => h wh pins s I⟩
theorem pa_wa {X : Cx} {es : List Expr} : PA X es (WA X es) := ⟨fun pos pins s σ H Q I h => h pos pins s I⟩
theorem ps_ws {X : Cx} {st : Stmt} : PS X st (WS X st) := ⟨fun pins s σ H D I h => h pins s I⟩
theorem pss_wss {X : Cx} {st : List Stmt} : PSs X st (WSs X st) := ⟨fun pins s σ H D I h => h pins s I⟩
theorem we_of {X : Cx} {e : Expr} {t : TE} (h : PE X e t) {σ : L2.St} {H : Hp} {Q : VK} (q : t σ H Q) : WE X e σ H Q := fun pins s I => h.run pins s σ H Q I q
theorem wt_of {X : Cx} {e : Expr} {t : TT} (h : PT X e t) {σ : L2.St} {H : Hp} {Q : Bool → Hp → Prop} (q : t σ H Q) : WT X e σ H Q := fun pins s I => h.run pins s σ H Q I q
theorem ww_of {X : Cx} {e : Expr} {t : TT} (h : PW X e t) {σ : L2.St} {H : Hp} {Q : Bool → Hp → Prop} (q : t σ H Q) : WW X e σ H Q := fun wh pins s I => h.run wh pins s σ H Q I q
theorem wa_of {X : Cx} {es : List Expr} {t : TA} (h : PA X es t) {σ : L2.St} {H : Hp} {Q : List V → Hp → Prop} (q : t σ H Q) : WA X es σ H Q := fun pos pins s I => h.run pos pins s σ H Q I q
theorem ws_of {X : Cx} {st : Stmt} {t : TS} (h : PS X st t) {σ : L2.St} {H : Hp} {D : Ends} (q : t D σ H) : WS X st D σ H := fun pins s I => h.run pins s σ H D I q
theorem wss_of {X : Cx} {st : List Stmt} {t : TS} (h : PSs X st t) {σ : L2.St} {H : Hp} {D : Ends} (q : t D σ H) : WSs X st D σ H := fun pins s I => h.run pins s σ H D I q

section
variable (T : List Addr) (X : Cx)
/-- the expression e, where the slots hold ρ and O is owned, gives the data d, and O' is owned -/
structure DE (e : Expr) (ρ : List Slot) (O : OH) (d : D) (O' : OH) : Prop where
  run : ∀ (σ : L2.St) (B H : Hp), Env X.K B σ ρ → At T X.K B O H → ∀ Q : VK, (∀ v B' H', Post T X.K B O H B' O' H' → Rp X.K B' v d → Q v H') → WE X e σ H Q
/-- .. any slot -/
structure DV (e : Expr) (ρ : List Slot) (O : OH) (d : Slot) (O' : OH) : Prop where
  run : ∀ (σ : L2.St) (B H : Hp), Env X.K B σ ρ → At T X.K B O H → ∀ Q : VK, (∀ v B' H', Post T X.K B O H B' O' H' → SlotOk X.K B' (some v) d → Q v H') → WE X e σ H Q
structure DT (e : Expr) (ρ : List Slot) (O : OH) (b : Bool) (O' : OH) : Prop where
  run : ∀ (σ : L2.St) (B H : Hp), Env X.K B σ ρ → At T X.K B O H → ∀ Q : Bool → Hp → Prop, (∀ B' H', Post T X.K B O H B' O' H' → Q b H') → WT X e σ H Q
structure DW (e : Expr) (ρ : List Slot) (O : OH) (b : Bool) (O' : OH) : Prop where
  run : ∀ (σ : L2.St) (B H : Hp), Env X.K B σ ρ → At T X.K B O H → ∀ Q : Bool → Hp → Prop, (∀ B' H', Post T X.K B O H B' O' H' → Q b H') → WW X e σ H Q
structure DA (es : List Expr) (ρ : List Slot) (O : OH) (ss : List Slot) (O' : OH) : Prop where
  run : ∀ (σ : L2.St) (B H : Hp), Env X.K B σ ρ → At T X.K B O H → ∀ Q : List V → Hp → Prop, (∀ vs B' H', Post T X.K B O H B' O' H' → Args X.K B' vs ss → Q vs H') → WA X es σ H Q
end
instance {T : List Addr} {X : Cx} {e : Expr} {ρ : List Slot} {O : OH} {d : D} {O' : OH} : CoeFun (DE T X e ρ O d O') fun _ => ∀ (σ : L2.St) (B H : Hp), Env X.K B σ ρ → At T X.K B O H → ∀ Q : VK, (∀ v B' H', Post T X.K B O H B' O' H' → Rp X.K B' v d → Q v H') → WE X e σ H Q := ⟨DE.run⟩
instance {T : List Addr} {X : Cx} {e : Expr} {ρ : List Slot} {O : OH} {d : Slot} {O' : OH} : CoeFun (DV T X e ρ O d O') fun _ => ∀ (σ : L2.St) (B H : Hp), Env X.K B σ ρ → At T X.K B O H → ∀ Q : VK, (∀ v B' H', Post T X.K B O H B' O' H' → SlotOk X.K B' (some v) d → Q v H') → WE X e σ H Q := ⟨DV.run⟩
instance {T : List Addr} {X : Cx} {e : Expr} {ρ : List Slot} {O : OH} {b : Bool} {O' : OH} : CoeFun (DT T X e ρ O b O') fun _ => ∀ (σ : L2.St) (B H : Hp), Env X.K B σ ρ → At T X.K B O H → ∀ Q : Bool → Hp → Prop, (∀ B' H', Post T X.K B O H B' O' H' → Q b H') → WT X e σ H Q := ⟨DT.run⟩
instance {T : List Addr} {X : Cx} {e : Expr} {ρ : List Slot} {O : OH} {b : Bool} {O' : OH} : CoeFun (DW T X e ρ O b O') fun _ => ∀ (σ : L2.St) (B H : Hp), Env X.K B σ ρ → At T X.K B O H → ∀ Q : Bool → Hp → Prop, (∀ B' H', Post T X.K B O H B' O' H' → Q b H') → WW X e σ H Q := ⟨DW.run⟩
instance {T : List Addr} {X : Cx} {es : List Expr} {ρ : List Slot} {O : OH} {ss : List Slot} {O' : OH} : CoeFun (DA T X es ρ O ss O') fun _ => ∀ (σ : L2.St) (B H : Hp), Env X.K B σ ρ → At T X.K B O H → ∀ Q : List V → Hp → Prop, (∀ vs B' H', Post T X.K B O H B' O' H' → Args X.K B' vs ss → Q vs H') → WA X es σ H Q := ⟨DA.run⟩

section
variable {T : List Addr} {X : Cx} {ρ : List Slot} {O O1 O2 O3 : OH} {e a b : Expr} {pos : Pos} {d x y z : D}
theorem DV.de (h : DV T X e ρ O (.dat d) O1) : DE T X e ρ O d O1 := .mk h.run
theorem DE.dv (h : DE T X e ρ O d O1) : DV T X e ρ O (.dat d) O1 := .mk h.run
/-- an expression by its reading -/
theorem de_of {t : TE} (h : PE X e t) (ht : ∀ (σ : L2.St) (B H : Hp), Env X.K B σ ρ → At T X.K B O H → ∀ Q : VK, (∀ v B' H', Post T X.K B O H B' O1 H' → Rp X.K B' v d → Q v H') → t σ H Q) : DE T X e ρ O d O1 :=
  .mk fun σ B H hE hA Q q => we_of h (ht σ B H hE hA Q q)
theorem de_c {v : V} (h : PE X e (tC v)) (r : ∀ B : Hp, Rp X.K B v d) : DE T X e ρ O d O :=
  de_of h fun σ B H hE hA Q q => q v B H (Post.refl hA) (r B)
theorem de_int {i : Int} {j pos} : DE T X (.Constant (.int i) j pos) ρ O (.int i) O := de_c pe_int fun _ => .int i
theorem de_str {i : Str} {j pos} : DE T X (.Constant (.str i) j pos) ρ O (.str i) O := de_c pe_str fun _ => .str i
theorem de_bl {i : Bool} {j pos} : DE T X (.Constant (.bool i) j pos) ρ O (.bl i) O := de_c pe_bl fun _ => .bl i
theorem de_non {j pos} : DE T X (.Constant .none j pos) ρ O .non O := de_c pe_non fun _ => .non
/-- a name of the def -/
theorem dv_var {s : Slot} (i : Nat) {n : Str} (h : ρ[i]? = some s) (hs : s ≠ .no := by intro z; cases z) (hN : X.N[i]? = some n := by rfl) (hv : Vis X.env.scope n := by first | exact Or.inl rfl | exact Or.inr (Or.inl rfl) | exact Or.inr (Or.inr rfl))
    (hd : (n == ("__debug__" : Str)) = false := by decide) (hcd : (n == ("__classdict__" : Str)) = false := by decide) : DV T X (.Name n pos) ρ O s O := by
  refine .mk fun σ B H hE hA Q q => ?_
  obtain ⟨o, e1, e2⟩ := hE.get h
  cases o with
  | none => cases s <;> first | exact e2.elim | exact absurd rfl hs
  | some v => exact we_of (pe_var hN hv hd hcd) ⟨v, e1, q v B H (Post.refl hA) e2⟩
theorem de_var (i : Nat) {n : Str} (h : ρ[i]? = some (.dat d) := by rfl) (hN : X.N[i]? = some n := by rfl) (hv : Vis X.env.scope n := by first | exact Or.inl rfl | exact Or.inr (Or.inl rfl) | exact Or.inr (Or.inr rfl))
    (hd : (n == ("__debug__" : Str)) = false := by decide) (hcd : (n == ("__classdict__" : Str)) = false := by decide) : DE T X (.Name n pos) ρ O d O := (dv_var i h (by intro z; cases z) hN hv hd hcd).de
/-- a module's constant -/
theorem de_glob {n : Str} {v : V} {u : Value} (hm : X.mg n = some u) (r : RelV v u) (rp : ∀ B : Hp, Rp X.K B v d) (hg : Gl X n := by rfl) (hd : (n == ("__debug__" : Str)) = false := by decide) : DE T X (.Name n pos) ρ O d O :=
  de_c (pe_glob hg hm r hd) rp

/-- two parts, from the left -/
theorem two {R : V → V → Hp → Prop} {σ : L2.St} {B H : Hp} (ha : DE T X a ρ O x O1) (hb : DE T X b ρ O1 y O2) (hE : Env X.K B σ ρ) (hA : At T X.K B O H)
    (k : ∀ v w B' H', Post T X.K B O H B' O2 H' → Rp X.K B' v x → Rp X.K B' w y → R v w H') : WE X a σ H fun v H1 => WE X b σ H1 fun w H2 => R v w H2 :=
  ha σ B H hE hA _ fun v B1 H1 p1 r1 => hb σ B1 H1 (hE.mono p1.bb) p1.at' _ fun w B2 H2 p2 r2 => k v w B2 H2 (p1.trans p2) (r1.mono p2.bb) r2
/-- an operator by values -/
def ROp (T : List Addr) (X : Cx) (r : R2) (O : OH) (x y z : D) (O' : OH) : Prop := ∀ (v w : V) (B H : Hp), At T X.K B O H → Rp X.K B v x → Rp X.K B w y → ∀ Q : VK, (∀ u B' H', Post T X.K B O H B' O' H' → Rp X.K B' u z → Q u H') → r v w H Q
theorem de_op {op : Operator} {r : R2} (ho : OpR X (binaryOp op) r) (ha : DE T X a ρ O x O1) (hb : DE T X b ρ O1 y O2) (hr : ROp T X r O2 x y z O3) : DE T X (.BinOp a op b pos) ρ O z O3 :=
  de_of (pe_op ho pe_we pe_we) fun σ B H hE hA Q q => two ha hb hE hA fun v w B' H' p rv rw' => hr v w B' H' p.at' rv rw' Q fun u B2 H2 p2 => q u B2 H2 (p.trans p2)
theorem de_cmp {op : CmpOp} {r : R2} (ho : OpR X (compareOp op) r) (hm : behindInMarks op b = false) (ha : DE T X a ρ O x O1) (hb : DE T X b ρ O1 y O2) (hr : ROp T X r O2 x y z O3) : DE T X (.Compare a [op] [b] pos) ρ O z O3 :=
  de_of (pe_cmpR ho pe_we pe_we hm) fun σ B H hE hA Q q => two ha hb hE hA fun v w B' H' p rv rw' => hr v w B' H' p.at' rv rw' Q fun u B2 H2 p2 => q u B2 H2 (p.trans p2)
theorem dt_cmp {op : CmpOp} {r : R2} {k : Bool} (ho : OpR X (compareOp op) r) (hm : behindInMarks op b = false) (ha : DE T X a ρ O x O1) (hb : DE T X b ρ O1 y O2) (hr : ROp T X r O2 x y (.bl k) O3) : DT T X (.Compare a [op] [b] pos) ρ O k O3 :=
  .mk fun σ B H hE hA Q q => wt_of (pt_cmpR ho pe_we pe_we hm) (two ha hb hE hA fun v w B' H' p rv rw' => hr v w B' H' p.at' rv rw' _ fun u B2 H2 p2 ru => by
    cases ru
    exact ⟨k, rfl, q B2 H2 (p.trans p2)⟩)
/-- the operators on ints -/
theorem rop_I0 {f : Int → Int → V} {i j : Int} (h : ∀ B, Rp X.K B (f i j) z) : ROp T X (rI0 f) O (.int i) (.int j) z O := fun v w B H hA rv rw' Q q => by
  cases rv
  cases rw'
  exact ⟨i, j, rfl, rfl, q _ B H (Post.refl hA) (h B)⟩
theorem rop_I {C : Int → Int → Prop} {f : Int → Int → V} {i j : Int} (hc : C i j) (h : ∀ B, Rp X.K B (f i j) z) : ROp T X (rI C f) O (.int i) (.int j) z O := fun v w B H hA rv rw' Q q => by
  cases rv
  cases rw'
  exact ⟨i, j, rfl, rfl, hc, q _ B H (Post.refl hA) (h B)⟩
section
variable {i j : Int}
theorem de_add (ha : DE T X a ρ O (.int i) O1) (hb : DE T X b ρ O1 (.int j) O2) : DE T X (.BinOp a .Add b pos) ρ O (.int (i + j)) O2 := de_op op_add ha hb (rop_I0 fun _ => .int _)
theorem de_sub (ha : DE T X a ρ O (.int i) O1) (hb : DE T X b ρ O1 (.int j) O2) : DE T X (.BinOp a .Sub b pos) ρ O (.int (i - j)) O2 := de_op op_sub ha hb (rop_I0 fun _ => .int _)
theorem de_mul (hc : CMul i j) (ha : DE T X a ρ O (.int i) O1) (hb : DE T X b ρ O1 (.int j) O2) : DE T X (.BinOp a .Mult b pos) ρ O (.int (i * j)) O2 := de_op op_mul ha hb (rop_I hc fun _ => .int _)
theorem de_mod (hc : 0 < j) (ha : DE T X a ρ O (.int i) O1) (hb : DE T X b ρ O1 (.int j) O2) : DE T X (.BinOp a .Mod b pos) ρ O (.int (i % j)) O2 := de_op op_mod ha hb (rop_I hc fun _ => .int _)
theorem de_fdiv (hc : CDiv i j) (ha : DE T X a ρ O (.int i) O1) (hb : DE T X b ρ O1 (.int j) O2) : DE T X (.BinOp a .FloorDiv b pos) ρ O (.int (i / j)) O2 := de_op op_fdiv ha hb (rop_I hc fun _ => .int _)
theorem de_pow (hc : CPow i j) (ha : DE T X a ρ O (.int i) O1) (hb : DE T X b ρ O1 (.int j) O2) : DE T X (.BinOp a .Pow b pos) ρ O (.int (i ^ j.toNat)) O2 := de_op op_pow ha hb (rop_I hc fun _ => .int _)
theorem de_shr (hc : 0 ≤ j) (ha : DE T X a ρ O (.int i) O1) (hb : DE T X b ρ O1 (.int j) O2) : DE T X (.BinOp a .RShift b pos) ρ O (.int (i / 2 ^ j.toNat)) O2 := de_op op_shr ha hb (rop_I hc fun _ => .int _)
theorem de_lt (ha : DE T X a ρ O (.int i) O1) (hb : DE T X b ρ O1 (.int j) O2) : DE T X (.Compare a [.Lt] [b] pos) ρ O (.bl (decide (i < j))) O2 := de_cmp op_lt (nomark _) ha hb (rop_I0 fun _ => .bl _)
theorem de_le (ha : DE T X a ρ O (.int i) O1) (hb : DE T X b ρ O1 (.int j) O2) : DE T X (.Compare a [.LtE] [b] pos) ρ O (.bl (decide (i ≤ j))) O2 := de_cmp op_le (nomark _) ha hb (rop_I0 fun _ => .bl _)
theorem de_gt (ha : DE T X a ρ O (.int i) O1) (hb : DE T X b ρ O1 (.int j) O2) : DE T X (.Compare a [.Gt] [b] pos) ρ O (.bl (decide (j < i))) O2 := de_cmp op_gt (nomark _) ha hb (rop_I0 fun _ => .bl _)
theorem de_ge (ha : DE T X a ρ O (.int i) O1) (hb : DE T X b ρ O1 (.int j) O2) : DE T X (.Compare a [.GtE] [b] pos) ρ O (.bl (decide (j ≤ i))) O2 := de_cmp op_ge (nomark _) ha hb (rop_I0 fun _ => .bl _)
theorem dt_lt (ha : DE T X a ρ O (.int i) O1) (hb : DE T X b ρ O1 (.int j) O2) : DT T X (.Compare a [.Lt] [b] pos) ρ O (decide (i < j)) O2 := dt_cmp op_lt (nomark _) ha hb (rop_I0 fun _ => .bl _)
theorem dt_le (ha : DE T X a ρ O (.int i) O1) (hb : DE T X b ρ O1 (.int j) O2) : DT T X (.Compare a [.LtE] [b] pos) ρ O (decide (i ≤ j)) O2 := dt_cmp op_le (nomark _) ha hb (rop_I0 fun _ => .bl _)
theorem dt_gt (ha : DE T X a ρ O (.int i) O1) (hb : DE T X b ρ O1 (.int j) O2) : DT T X (.Compare a [.Gt] [b] pos) ρ O (decide (j < i)) O2 := dt_cmp op_gt (nomark _) ha hb (rop_I0 fun _ => .bl _)
theorem dt_ge (ha : DE T X a ρ O (.int i) O1) (hb : DE T X b ρ O1 (.int j) O2) : DT T X (.Compare a [.GtE] [b] pos) ρ O (decide (j ≤ i)) O2 := dt_cmp op_ge (nomark _) ha hb (rop_I0 fun _ => .bl _)
end
end
end Dz

namespace Dz
open PySem PySem.Spec PyProof.Rows L2 GxR

/-! ### data as the library's data -/
mutual
def D.py : D → PyData
  | .non => .none
  | .bl b => .bool b
  | .int i => .int i
  | .str x => .str x
  | .lst ds => .list (D.pys ds)
  | .tup ds => .tuple (D.pys ds)
  | .ins _ _ => .dict []
  | .kst _ => .dict []
  | .dic _ => .dict []
def D.pys : List D → List PyData
  | [] => []
  | d :: ds => d.py :: D.pys ds
end
mutual
/-- no object but lists and tuples, at most n deep -/
def D.ok : Nat → D → Bool
  | _, .non => true
  | _, .bl _ => true
  | _, .int _ => true
  | _, .str _ => true
  | 0, _ => false
  | n + 1, .lst ds => D.oks n ds
  | n + 1, .tup ds => D.oks n ds
  | _, .ins _ _ => false
  | _, .kst _ => false
  | _, .dic _ => false
def D.oks : Nat → List D → Bool
  | _, [] => true
  | n, d :: ds => D.ok n d && D.oks n ds
end
theorem oks_all : ∀ (n : Nat) (ds : List D), D.oks n ds = ds.all (D.ok n)
  | _, [] => by rw [D.oks]; rfl
  | n, d :: ds => by rw [D.oks, List.all_cons, oks_all n ds]
theorem pys_map : ∀ ds : List D, D.pys ds = ds.map D.py
  | [] => by rw [D.pys]; rfl
  | d :: ds => by rw [D.pys, List.map_cons, pys_map ds]
theorem ok_lst {n : Nat} {ds : List D} (h : ∀ d ∈ ds, D.ok n d = true) : D.ok (n + 1) (.lst ds) = true := by
  rw [D.ok, oks_all, List.all_eq_true]
  exact h
theorem ok_tup {n : Nat} {ds : List D} (h : ∀ d ∈ ds, D.ok n d = true) : D.ok (n + 1) (.tup ds) = true := by
  rw [D.ok, oks_all, List.all_eq_true]
  exact h
mutual
theorem ok_plain : ∀ (n : Nat) (d : D), D.ok n d = true → d.py.plain = true ∧ d.py.depth ≤ n
  | n, .non, _ => ⟨rfl, Nat.zero_le _⟩
  | n, .bl _, _ => ⟨rfl, Nat.zero_le _⟩
  | n, .int _, _ => ⟨rfl, Nat.zero_le _⟩
  | n, .str _, _ => ⟨rfl, Nat.zero_le _⟩
  | 0, .lst _, h => by simp [D.ok] at h
  | 0, .tup _, h => by simp [D.ok] at h
  | n + 1, .lst ds, h => by
    have h' : D.oks n ds = true := by simpa [D.ok] using h
    obtain ⟨h1, h2⟩ := oks_plain n ds h'
    rw [D.py, PyData.plain, PyData.depth]
    exact ⟨h1, Nat.succ_le_succ h2⟩
  | n + 1, .tup ds, h => by
    have h' : D.oks n ds = true := by simpa [D.ok] using h
    obtain ⟨h1, h2⟩ := oks_plain n ds h'
    rw [D.py, PyData.plain, PyData.depth]
    exact ⟨h1, Nat.succ_le_succ h2⟩
  | n, .ins _ _, h => by cases n <;> simp [D.ok] at h
  | n, .dic _, h => by cases n <;> simp [D.ok] at h
  | n, .kst _, h => by cases n <;> simp [D.ok] at h
theorem oks_plain : ∀ (n : Nat) (ds : List D), D.oks n ds = true → PyData.plainAll (D.pys ds) = true ∧ PyData.depthAll (D.pys ds) ≤ n
  | n, [], _ => by
    rw [D.pys, PyData.plainAll, PyData.depthAll]
    exact ⟨rfl, Nat.zero_le _⟩
  | n, d :: ds, h => by
    rw [D.oks, Bool.and_eq_true] at h
    obtain ⟨a1, a2⟩ := ok_plain n d h.1
    obtain ⟨b1, b2⟩ := oks_plain n ds h.2
    rw [D.pys, PyData.plainAll, PyData.depthAll, a1, b1]
    exact ⟨rfl, Nat.max_le.mpr ⟨a2, b2⟩⟩
end
mutual
theorem Rp.dp {K : PySem.W.Frag} {H : Hp} : ∀ {v : V} {d : D} (n : Nat), Rp K H v d → D.ok n d = true → Dp K H v d.py
  | _, _, _, .non, _ => .non
  | _, _, _, .bl b, _ => .bl b
  | _, _, _, .int i, _ => .int i
  | _, _, _, .str x, _ => .str x
  | _, _, 0, .lst h r, z => by simp [D.ok] at z
  | _, _, n + 1, .lst h r, z => .lst (SqL.of h) (RpAll.dp n r (by simpa [D.ok] using z))
  | _, _, 0, .tup h r, z => by simp [D.ok] at z
  | _, _, n + 1, .tup h r, z => .tup h (RpAll.dp n r (by simpa [D.ok] using z))
  | _, _, n, .ins h r, z => by cases n <;> simp [D.ok] at z
  | _, _, n, .dic h r, z => by cases n <;> simp [D.ok] at z
  | _, _, n, .kst h r, z => by cases n <;> simp [D.ok] at z
theorem RpAll.dp {K : PySem.W.Frag} {H : Hp} : ∀ {vs : List V} {ds : List D} (n : Nat), RpAll K H vs ds → D.oks n ds = true → DpAll K H vs (D.pys ds)
  | _, _, _, .nil, _ => .nil
  | _, _, n, .cons h r, z => by
    rw [D.oks, Bool.and_eq_true] at z
    exact .cons (Rp.dp n h z.1) (RpAll.dp n r z.2)
end
/-- == of data -/
def deq (x y : D) : Bool := PyData.eqv x.py y.py
theorem deq_refl {n : Nat} {d : D} (h : D.ok n d = true) : deq d d = true := SeqAt.eqv_refl_plain d.py (ok_plain n d h).1

/-- == and != of data at most 32 deep -/
def rEqO (K : PySem.W.Frag) : R2 := fun x y H Q => ∃ d e : D, Rp K H x d ∧ Rp K H y e ∧ D.ok 32 d = true ∧ D.ok 32 e = true ∧ Q (.bl (deq d e)) H
def rNeO (K : PySem.W.Frag) : R2 := fun x y H Q => ∃ d e : D, Rp K H x d ∧ Rp K H y e ∧ D.ok 32 d = true ∧ D.ok 32 e = true ∧ Q (.bl (!deq d e)) H
def rInO (K : PySem.W.Frag) (neg : Bool) : R2 := fun x y H Q => ∃ (d : D) (ds : List D), Rp K H x d ∧ (Rp K H y (.lst ds) ∨ Rp K H y (.tup ds)) ∧ D.ok 32 d = true ∧ D.oks 32 ds = true ∧ Q (.bl (if neg then !ds.any (fun z => deq z d) else ds.any fun z => deq z d)) H
section
variable {X : Cx}
theorem min_room {A : Around} {a b : Nat} (h : a ≤ 32) (hu : A.units + 64 < cLine) : A.units + min a b < cLine := by
  have : min a b ≤ a := Nat.min_le_left _ _
  omega
theorem op_eqO (hu : X.A.units + 64 < cLine) : OpR X (compareOp .Eq) (rEqO X.K) := fun pins s σ H x y v u Q I rx ry h => by
  obtain ⟨d, e, hd, he, od, oe, q⟩ := h
  obtain ⟨as, r1⟩ := Dp.reads I d.py x v (hd.dp 32 od) rx
  obtain ⟨bs, r2⟩ := Dp.reads I e.py y u (he.dp 32 oe) ry
  exact SeqAt.eq_plain r1 r2 (ok_plain _ _ od).1 (ok_plain _ _ oe).1 (min_room (ok_plain _ _ od).2 hu) ⟨.bl _, H, I, rfl, q⟩
theorem op_neO (hu : X.A.units + 64 < cLine) : OpR X (compareOp .NotEq) (rNeO X.K) := fun pins s σ H x y v u Q I rx ry h => by
  obtain ⟨d, e, hd, he, od, oe, q⟩ := h
  obtain ⟨as, r1⟩ := Dp.reads I d.py x v (hd.dp 32 od) rx
  obtain ⟨bs, r2⟩ := Dp.reads I e.py y u (he.dp 32 oe) ry
  exact SeqAt.ne_plain r1 r2 (ok_plain _ _ od).1 (ok_plain _ _ oe).1 (min_room (ok_plain _ _ od).2 hu) ⟨.bl _, H, I, rfl, q⟩
theorem any_pys (d : D) : ∀ ds : List D, ((D.pys ds).any fun y => PyData.eqv y d.py) = ds.any fun z => deq z d
  | [] => by rw [D.pys]; rfl
  | e :: ds => by
    rw [D.pys, List.any_cons, List.any_cons, any_pys d ds]
    rfl
theorem op_inO (hu : X.A.units + 64 < cLine) : OpR X (compareOp .In) (rInO X.K false) := fun pins s σ H x y v u Q I rx ry h => by
  obtain ⟨d, ds, hd, he, od, oe, q⟩ := h
  obtain ⟨as, r1⟩ := Dp.reads I d.py x v (hd.dp 32 od) rx
  obtain ⟨p1, p2⟩ := oks_plain _ _ oe
  have room : X.A.units + 1 + min (PyData.depthAll (D.pys ds)) d.py.depth < cLine := by
    have : min (PyData.depthAll (D.pys ds)) d.py.depth ≤ 32 := Nat.le_trans (Nat.min_le_left _ _) p2
    omega
  rcases he with he | he
  · obtain ⟨bs, r2⟩ := Dp.reads I _ y u (he.dp 33 (by rw [D.ok]; exact oe)) ry
    rw [D.py] at r2
    refine SeqAt.in_list_data r2 r1 p1 (ok_plain _ _ od).1 room ⟨.bl _, H, I, rfl, ?_⟩
    rw [any_pys]
    exact q
  · obtain ⟨bs, r2⟩ := Dp.reads I _ y u (he.dp 33 (by rw [D.ok]; exact oe)) ry
    rw [D.py] at r2
    refine SeqAt.in_tuple_data r2 r1 p1 (ok_plain _ _ od).1 room ⟨.bl _, H, I, rfl, ?_⟩
    rw [any_pys]
    exact q
theorem op_notInO (hu : X.A.units + 64 < cLine) : OpR X (compareOp .NotIn) (rInO X.K true) := fun pins s σ H x y v u Q I rx ry h => by
  obtain ⟨d, ds, hd, he, od, oe, q⟩ := h
  obtain ⟨as, r1⟩ := Dp.reads I d.py x v (hd.dp 32 od) rx
  obtain ⟨p1, p2⟩ := oks_plain _ _ oe
  have room : X.A.units + 1 + min (PyData.depthAll (D.pys ds)) d.py.depth < cLine := by
    have : min (PyData.depthAll (D.pys ds)) d.py.depth ≤ 32 := Nat.le_trans (Nat.min_le_left _ _) p2
    omega
  rcases he with he | he
  · obtain ⟨bs, r2⟩ := Dp.reads I _ y u (he.dp 33 (by rw [D.ok]; exact oe)) ry
    rw [D.py] at r2
    refine SeqAt.notIn_list_data r2 r1 p1 (ok_plain _ _ od).1 room ⟨.bl _, H, I, rfl, ?_⟩
    rw [any_pys]
    exact q
  · obtain ⟨bs, r2⟩ := Dp.reads I _ y u (he.dp 33 (by rw [D.ok]; exact oe)) ry
    rw [D.py] at r2
    refine SeqAt.notIn_tuple_data r2 r1 p1 (ok_plain _ _ od).1 room ⟨.bl _, H, I, rfl, ?_⟩
    rw [any_pys]
    exact q
end

section
variable {T : List Addr} {X : Cx} {ρ : List Slot} {O O1 O2 O3 : OH} {e a b c : Expr} {rest : List Expr} {pos : Pos} {d x y z : D} {p q : Bool}
theorem rop_eqO (hx : D.ok 32 x = true) (hy : D.ok 32 y = true) : ROp T X (rEqO X.K) O x y (.bl (deq x y)) O := fun v w B H hA rv rw' Q q => ⟨x, y, rv.mono hA.base, rw'.mono hA.base, hx, hy, q _ B H (Post.refl hA) (.bl _)⟩
theorem rop_neO (hx : D.ok 32 x = true) (hy : D.ok 32 y = true) : ROp T X (rNeO X.K) O x y (.bl (!deq x y)) O := fun v w B H hA rv rw' Q q => ⟨x, y, rv.mono hA.base, rw'.mono hA.base, hx, hy, q _ B H (Post.refl hA) (.bl _)⟩
theorem rop_inL {ds : List D} (neg : Bool) (hx : D.ok 32 x = true) (hy : D.oks 32 ds = true) : ROp T X (rInO X.K neg) O x (.lst ds) (.bl (if neg then !ds.any (fun z => deq z x) else ds.any fun z => deq z x)) O :=
  fun v w B H hA rv rw' Q q => ⟨x, ds, rv.mono hA.base, .inl (rw'.mono hA.base), hx, hy, q _ B H (Post.refl hA) (.bl _)⟩
theorem rop_inT {ds : List D} (neg : Bool) (hx : D.ok 32 x = true) (hy : D.oks 32 ds = true) : ROp T X (rInO X.K neg) O x (.tup ds) (.bl (if neg then !ds.any (fun z => deq z x) else ds.any fun z => deq z x)) O :=
  fun v w B H hA rv rw' Q q => ⟨x, ds, rv.mono hA.base, .inr (rw'.mono hA.base), hx, hy, q _ B H (Post.refl hA) (.bl _)⟩
theorem de_eq {k : Nat} (hr : Room k X.A) (hx : D.ok 32 x = true) (hy : D.ok 32 y = true) (ha : DE T X a ρ O x O1) (hb : DE T X b ρ O1 y O2) : DE T X (.Compare a [.Eq] [b] pos) ρ O (.bl (deq x y)) O2 := de_cmp (op_eqO hr.units) (nomark _) ha hb (rop_eqO hx hy)
theorem de_ne {k : Nat} (hr : Room k X.A) (hx : D.ok 32 x = true) (hy : D.ok 32 y = true) (ha : DE T X a ρ O x O1) (hb : DE T X b ρ O1 y O2) : DE T X (.Compare a [.NotEq] [b] pos) ρ O (.bl (!deq x y)) O2 := de_cmp (op_neO hr.units) (nomark _) ha hb (rop_neO hx hy)
theorem dt_eq {k : Nat} (hr : Room k X.A) (hx : D.ok 32 x = true) (hy : D.ok 32 y = true) (ha : DE T X a ρ O x O1) (hb : DE T X b ρ O1 y O2) : DT T X (.Compare a [.Eq] [b] pos) ρ O (deq x y) O2 := dt_cmp (op_eqO hr.units) (nomark _) ha hb (rop_eqO hx hy)
theorem dt_ne {k : Nat} (hr : Room k X.A) (hx : D.ok 32 x = true) (hy : D.ok 32 y = true) (ha : DE T X a ρ O x O1) (hb : DE T X b ρ O1 y O2) : DT T X (.Compare a [.NotEq] [b] pos) ρ O (!deq x y) O2 := dt_cmp (op_neO hr.units) (nomark _) ha hb (rop_neO hx hy)
theorem de_inL {k : Nat} {ds : List D} (hr : Room k X.A) (hx : D.ok 32 x = true) (hy : D.oks 32 ds = true) (ha : DE T X a ρ O x O1) (hb : DE T X b ρ O1 (.lst ds) O2) (hm : behindInMarks .In b = false := by rfl) : DE T X (.Compare a [.In] [b] pos) ρ O (.bl (ds.any fun z => deq z x)) O2 := de_cmp (op_inO hr.units) hm ha hb (rop_inL false hx hy)
theorem de_inT {k : Nat} {ds : List D} (hr : Room k X.A) (hx : D.ok 32 x = true) (hy : D.oks 32 ds = true) (ha : DE T X a ρ O x O1) (hb : DE T X b ρ O1 (.tup ds) O2) (hm : behindInMarks .In b = false := by rfl) : DE T X (.Compare a [.In] [b] pos) ρ O (.bl (ds.any fun z => deq z x)) O2 := de_cmp (op_inO hr.units) hm ha hb (rop_inT false hx hy)
theorem dt_inL {k : Nat} {ds : List D} (hr : Room k X.A) (hx : D.ok 32 x = true) (hy : D.oks 32 ds = true) (ha : DE T X a ρ O x O1) (hb : DE T X b ρ O1 (.lst ds) O2) (hm : behindInMarks .In b = false := by rfl) : DT T X (.Compare a [.In] [b] pos) ρ O (ds.any fun z => deq z x) O2 := dt_cmp (op_inO hr.units) hm ha hb (rop_inL false hx hy)
theorem dt_inT {k : Nat} {ds : List D} (hr : Room k X.A) (hx : D.ok 32 x = true) (hy : D.oks 32 ds = true) (ha : DE T X a ρ O x O1) (hb : DE T X b ρ O1 (.tup ds) O2) (hm : behindInMarks .In b = false := by rfl) : DT T X (.Compare a [.In] [b] pos) ρ O (ds.any fun z => deq z x) O2 := dt_cmp (op_inO hr.units) hm ha hb (rop_inT false hx hy)
theorem dt_ninL {k : Nat} {ds : List D} (hr : Room k X.A) (hx : D.ok 32 x = true) (hy : D.oks 32 ds = true) (ha : DE T X a ρ O x O1) (hb : DE T X b ρ O1 (.lst ds) O2) (hm : behindInMarks .NotIn b = false := by rfl) : DT T X (.Compare a [.NotIn] [b] pos) ρ O (!ds.any fun z => deq z x) O2 := dt_cmp (op_notInO hr.units) hm ha hb (rop_inL true hx hy)
theorem dt_ninT {k : Nat} {ds : List D} (hr : Room k X.A) (hx : D.ok 32 x = true) (hy : D.oks 32 ds = true) (ha : DE T X a ρ O x O1) (hb : DE T X b ρ O1 (.tup ds) O2) (hm : behindInMarks .NotIn b = false := by rfl) : DT T X (.Compare a [.NotIn] [b] pos) ρ O (!ds.any fun z => deq z x) O2 := dt_cmp (op_notInO hr.units) hm ha hb (rop_inT true hx hy)
/-- is None, is not None -/
def D.isNon : D → Bool
  | .non => true
  | _ => false
theorem Rp.isNon {K : PySem.W.Frag} {H : Hp} {v : V} {d : D} (r : Rp K H v d) : decide (v = .non) = d.isNon := by
  cases r <;> first | rfl | exact decide_eq_false fun z => by cases z
theorem rop_isN : ROp T X (fun x y H Q => y = .non ∧ Q (.bl (decide (x = .non))) H) O x .non (.bl x.isNon) O := fun v w B H hA rv rw' Q q => by
  cases rw'
  exact ⟨rfl, q _ B H (Post.refl hA) (by rw [rv.isNon]; exact .bl _)⟩
theorem rop_notN : ROp T X (fun x y H Q => y = .non ∧ Q (.bl (!decide (x = .non))) H) O x .non (.bl (!x.isNon)) O := fun v w B H hA rv rw' Q q => by
  cases rw'
  exact ⟨rfl, q _ B H (Post.refl hA) (by rw [rv.isNon]; exact .bl _)⟩
theorem de_isN (ha : DE T X a ρ O x O1) (hb : DE T X b ρ O1 .non O2) : DE T X (.Compare a [.Is] [b] pos) ρ O (.bl x.isNon) O2 := de_cmp op_isN (nomark _) ha hb rop_isN
theorem de_notN (ha : DE T X a ρ O x O1) (hb : DE T X b ρ O1 .non O2) : DE T X (.Compare a [.IsNot] [b] pos) ρ O (.bl (!x.isNon)) O2 := de_cmp op_notN (nomark _) ha hb rop_notN
theorem dt_isN (ha : DE T X a ρ O x O1) (hb : DE T X b ρ O1 .non O2) : DT T X (.Compare a [.Is] [b] pos) ρ O x.isNon O2 := dt_cmp op_isN (nomark _) ha hb rop_isN
theorem dt_notN (ha : DE T X a ρ O x O1) (hb : DE T X b ρ O1 .non O2) : DT T X (.Compare a [.IsNot] [b] pos) ρ O (!x.isNon) O2 := dt_cmp op_notN (nomark _) ha hb rop_notN

/-! ### and, or, not, if else -/
theorem de_one {op} (ha : DE T X a ρ O x O1) : DE T X (.BoolOp op [a] pos) ρ O x O1 := de_of (pe_one pe_we) fun σ B H hE hA Q q => ha σ B H hE hA Q q
theorem de_and (ha : DE T X a ρ O (.bl p) O1) (hb : p = true → DE T X (.BoolOp .And (b :: rest) pos) ρ O1 (.bl q) O1) : DE T X (.BoolOp .And (a :: b :: rest) pos) ρ O (.bl (p && q)) O1 :=
  de_of (pe_and pe_we pe_we) fun σ B H hE hA Q k => ha σ B H hE hA _ fun v B1 H1 p1 r1 => by
    cases r1
    refine ⟨p, rfl, ?_⟩
    cases p with
    | false => exact k _ B1 H1 p1 (.bl false)
    | true => exact hb rfl σ B1 H1 (hE.mono p1.bb) p1.at' Q fun w B2 H2 p2 r2 => k w B2 H2 (p1.trans p2) r2
theorem de_or (ha : DE T X a ρ O (.bl p) O1) (hb : p = false → DE T X (.BoolOp .Or (b :: rest) pos) ρ O1 (.bl q) O1) : DE T X (.BoolOp .Or (a :: b :: rest) pos) ρ O (.bl (p || q)) O1 :=
  de_of (pe_or pe_we pe_we) fun σ B H hE hA Q k => ha σ B H hE hA _ fun v B1 H1 p1 r1 => by
    cases r1
    refine ⟨p, rfl, ?_⟩
    cases p with
    | true => exact k _ B1 H1 p1 (.bl true)
    | false => exact hb rfl σ B1 H1 (hE.mono p1.bb) p1.at' Q fun w B2 H2 p2 r2 => k w B2 H2 (p1.trans p2) r2
theorem de_not (ha : DE T X a ρ O (.bl p) O1) : DE T X (.UnaryOp .Not a pos) ρ O (.bl (!p)) O1 :=
  de_of (pe_not pe_we) fun σ B H hE hA Q k => ha σ B H hE hA _ fun v B1 H1 p1 r1 => by
    cases r1
    exact ⟨p, rfl, k _ B1 H1 p1 (.bl _)⟩
/-- tests -/
theorem dt_of {t : TT} (h : PT X e t) (ht : ∀ (σ : L2.St) (B H : Hp), Env X.K B σ ρ → At T X.K B O H → ∀ Q : Bool → Hp → Prop, (∀ B' H', Post T X.K B O H B' O1 H' → Q p H') → t σ H Q) : DT T X e ρ O p O1 :=
  .mk fun σ B H hE hA Q q => wt_of h (ht σ B H hE hA Q q)
theorem dt_val (ha : DE T X e ρ O (.bl p) O1) (he : ∀ whole, isTrue e X.env whole = (do let v ← whole; standAt e.pos; holding [v] (truthy v)) := by intro _; rfl) : DT T X e ρ O p O1 :=
  dt_of (pt_val pe_we he) fun σ B H hE hA Q k => ha σ B H hE hA _ fun v B1 H1 p1 r1 => by
    cases r1
    exact ⟨p, rfl, k B1 H1 p1⟩
theorem dt_not (ha : DT T X a ρ O p O1) : DT T X (.UnaryOp .Not a pos) ρ O (!p) O1 :=
  dt_of (pt_not pt_wt) fun σ B H hE hA Q k => ha σ B H hE hA _ fun B1 H1 p1 => k B1 H1 p1
theorem DW.dt (h : DW T X e ρ O p O1) : DT T X e ρ O p O1 := .mk fun σ B H hE hA Q q pins s I => h σ B H hE hA Q q _ pins s I
theorem dw_of {t : TT} (h : PW X e t) (ht : ∀ (σ : L2.St) (B H : Hp), Env X.K B σ ρ → At T X.K B O H → ∀ Q : Bool → Hp → Prop, (∀ B' H', Post T X.K B O H B' O1 H' → Q p H') → t σ H Q) : DW T X e ρ O p O1 :=
  .mk fun σ B H hE hA Q q => ww_of h (ht σ B H hE hA Q q)
theorem dw_and1 (ha : DT T X a ρ O p O1) : DW T X (.BoolOp .And [a] pos) ρ O p O1 := dw_of (pw_and1 pt_wt) fun σ B H hE hA Q k => ha σ B H hE hA Q k
theorem dw_or1 (ha : DT T X a ρ O p O1) : DW T X (.BoolOp .Or [a] pos) ρ O p O1 := dw_of (pw_or1 pt_wt) fun σ B H hE hA Q k => ha σ B H hE hA Q k
theorem dw_and (ha : DT T X a ρ O p O1) (hb : p = true → DW T X (.BoolOp .And (b :: rest) pos) ρ O1 q O1) : DW T X (.BoolOp .And (a :: b :: rest) pos) ρ O (p && q) O1 :=
  dw_of (pw_and pt_wt pw_ww) fun σ B H hE hA Q k => ha σ B H hE hA _ fun B1 H1 p1 => by
    cases p with
    | false => exact k B1 H1 p1
    | true => exact fun wh pins s I => hb rfl σ B1 H1 (hE.mono p1.bb) p1.at' Q (fun B2 H2 p2 => k B2 H2 (p1.trans p2)) wh pins s I
theorem dw_or (ha : DT T X a ρ O p O1) (hb : p = false → DW T X (.BoolOp .Or (b :: rest) pos) ρ O1 q O1) : DW T X (.BoolOp .Or (a :: b :: rest) pos) ρ O (p || q) O1 :=
  dw_of (pw_or pt_wt pw_ww) fun σ B H hE hA Q k => ha σ B H hE hA _ fun B1 H1 p1 => by
    cases p with
    | true => exact k B1 H1 p1
    | false => exact fun wh pins s I => hb rfl σ B1 H1 (hE.mono p1.bb) p1.at' Q (fun B2 H2 p2 => k B2 H2 (p1.trans p2)) wh pins s I
theorem de_if (hc : DT T X c ρ O p O1) (h1 : p = true → DE T X a ρ O1 d O2) (h2 : p = false → DE T X b ρ O1 d O2) : DE T X (.IfExp c a b pos) ρ O d O2 :=
  de_of (pe_ifExp pt_wt pe_we pe_we) fun σ B H hE hA Q k => hc σ B H hE hA _ fun B1 H1 p1 => by
    cases p with
    | true => exact h1 rfl σ B1 H1 (hE.mono p1.bb) p1.at' Q fun v B2 H2 p2 r2 => k v B2 H2 (p1.trans p2) r2
    | false => exact h2 rfl σ B1 H1 (hE.mono p1.bb) p1.at' Q fun v B2 H2 p2 r2 => k v B2 H2 (p1.trans p2) r2

/-! ### arguments, displays -/
variable {es : List Expr} {s : Slot} {ss : List Slot} {ds : List D}
theorem da_of {t : TA} (h : PA X es t) (ht : ∀ (σ : L2.St) (B H : Hp), Env X.K B σ ρ → At T X.K B O H → ∀ Q : List V → Hp → Prop, (∀ vs B' H', Post T X.K B O H B' O1 H' → Args X.K B' vs ss → Q vs H') → t σ H Q) : DA T X es ρ O ss O1 :=
  .mk fun σ B H hE hA Q q => wa_of h (ht σ B H hE hA Q q)
theorem da_nil : DA T X [] ρ O [] O := da_of pa_nil fun σ B H hE hA Q k => k [] B H (Post.refl hA) .nil
theorem da_cons (ha : DV T X e ρ O s O1) (hr : DA T X es ρ O1 ss O2) (hs : starEach (e :: es) X.env = (false, eval e X.env) :: starEach es X.env := by rfl) : DA T X (e :: es) ρ O (s :: ss) O2 :=
  da_of (pa_cons pe_we pa_wa hs) fun σ B H hE hA Q k => ha σ B H hE hA _ fun v B1 H1 p1 r1 => hr σ B1 H1 (hE.mono p1.bb) p1.at' _ fun vs B2 H2 p2 r2 => k (v :: vs) B2 H2 (p1.trans p2) (.cons (r1.mono p2.bb) r2)
theorem da_one (ha : DV T X e ρ O s O1) (hs : starEach [e] X.env = (false, eval e X.env) :: starEach [] X.env := by rfl) : DA T X [e] ρ O [s] O1 := da_cons ha da_nil hs
/-- *e in a display -/
theorem da_starT {x1 : Pos} (ha : DE T X e ρ O (.tup ds) O1) (hr : DA T X es ρ O1 ss O2) (hs : starEach (.Starred e x1 :: es) X.env = (true, eval e X.env) :: starEach es X.env := by rfl) : DA T X (.Starred e x1 :: es) ρ O (ds.map .dat ++ ss) O2 :=
  da_of (StX.pa_star pe_we pa_wa hs) fun σ B H hE hA Q k => ha σ B H hE hA _ fun v B1 H1 p1 r1 => by
    cases r1 with
    | tup h r => exact ⟨_, _, rfl, .inl (same_t p1.at'.base h), hr σ B1 H1 (hE.mono p1.bb) p1.at' _ fun vs B2 H2 p2 r2 => k _ B2 H2 (p1.trans p2) (((Args.of r).mono p2.bb).append r2)⟩
theorem da_starL {x1 : Pos} (ha : DE T X e ρ O (.lst ds) O1) (hr : DA T X es ρ O1 ss O2) (hs : starEach (.Starred e x1 :: es) X.env = (true, eval e X.env) :: starEach es X.env := by rfl) : DA T X (.Starred e x1 :: es) ρ O (ds.map .dat ++ ss) O2 :=
  da_of (StX.pa_star pe_we pa_wa hs) fun σ B H hE hA Q k => ha σ B H hE hA _ fun v B1 H1 p1 r1 => by
    cases r1 with
    | lst h r => exact ⟨_, _, rfl, .inr (SqL.of (p1.at'.base _ _ h)), hr σ B1 H1 (hE.mono p1.bb) p1.at' _ fun vs B2 H2 p2 r2 => k _ B2 H2 (p1.trans p2) (((Args.of r).mono p2.bb).append r2)⟩
theorem de_tup {x1} (ha : DA T X es ρ O (ds.map .dat) O1) (hl : ds.length ≤ 10000 := by decide) : DE T X (.Tuple es x1 pos) ρ O (.tup ds) O1 :=
  de_of (pe_tup pa_wa) fun σ B H hE hA Q k => ha σ B H hE hA _ fun vs B1 H1 p1 r1 => ⟨by rw [r1.all.length]; exact Nat.le_trans hl (by decide), fun p hp =>
    k (.ref p) (upd B1 p (.tup vs)) _ (p1.trans (Post.made p1.at' hp)) (.tup (.inl (.inl upd_same)) (r1.all.mono (Post.made p1.at' (o := .tup vs) hp).bb))⟩
theorem de_lst (ha : DA T X es ρ O (ds.map .dat) O1) (hl : ds.length ≤ 10000 := by decide) : DE T X (.List es pos) ρ O (.lst ds) O1 :=
  de_of (pe_lst pa_wa) fun σ B H hE hA Q k => ha σ B H hE hA _ fun vs B1 H1 p1 r1 => ⟨by rw [r1.all.length]; exact Nat.le_trans hl (by decide), fun p hp =>
    k (.ref p) (upd B1 p (.lst vs)) _ (p1.trans (Post.made p1.at' hp)) (.lst upd_same (r1.all.mono (Post.made p1.at' (o := .lst vs) hp).bb))⟩

/-! ### items, attributes -/
theorem atI_rp {K : PySem.W.Frag} {B : Hp} {vs : List V} {ds : List D} {i : Int} (r : RpAll K B vs ds) (h : atI ds i = some d) : ∃ v, atI vs i = some v ∧ Rp K B v d := by
  unfold atI at h ⊢
  rw [r.length]
  cases e : ixN ds.length i with
  | none =>
    rw [e] at h
    cases h
  | some j =>
    rw [e] at h
    exact r.get h
theorem de_ixL {i : Int} (ha : DE T X a ρ O (.lst ds) O1) (hb : DE T X b ρ O1 (.int i) O2) (h : atI ds i = some d) (hs : PlainIx b := by intro _ _; rfl) : DE T X (.Subscript a b pos) ρ O d O2 :=
  de_of (pe_ix ix_list pe_we pe_we hs) fun σ B H hE hA Q k => two ha hb hE hA fun v w B' H' p rv rw' => by
    cases rv with
    | lst hq r =>
      cases rw'
      obtain ⟨u, h1, h2⟩ := atI_rp r h
      exact ⟨_, _, i, u, rfl, rfl, SqL.of (p.at'.base _ _ hq), h1, k u B' H' p h2⟩
theorem de_ixK {i : Int} (ha : DE T X a ρ O (.kst ds) O1) (hb : DE T X b ρ O1 (.int i) O2) (h : atI ds i = some d) (hs : PlainIx b := by intro _ _; rfl) : DE T X (.Subscript a b pos) ρ O d O2 :=
  de_of (pe_ix ix_list pe_we pe_we hs) fun σ B H hE hA Q k => two ha hb hE hA fun v w B' H' p rv rw' => by
    cases rv with
    | kst hq r =>
      cases rw'
      obtain ⟨u, h1, h2⟩ := atI_rp r h
      exact ⟨_, _, i, u, rfl, rfl, p.at'.base.seq hq, h1, k u B' H' p h2⟩
theorem de_ixT {i : Int} (ha : DE T X a ρ O (.tup ds) O1) (hb : DE T X b ρ O1 (.int i) O2) (h : atI ds i = some d) (hs : PlainIx b := by intro _ _; rfl) : DE T X (.Subscript a b pos) ρ O d O2 :=
  de_of (pe_ix ix_tup pe_we pe_we hs) fun σ B H hE hA Q k => two ha hb hE hA fun v w B' H' p rv rw' => by
    cases rv with
    | tup hq r =>
      cases rw'
      obtain ⟨u, h1, h2⟩ := atI_rp r h
      exact ⟨_, _, i, u, rfl, rfl, same_t p.at'.base hq, h1, k u B' H' p h2⟩
/-- a field of a frozen instance -/
theorem de_fld {C : Addr} {f : Str} {fd : List (Str × D)} (cl : Cls X.K C) (na : NoAttr X.K C f) (ha : DE T X e ρ O (.ins C fd) O1) (h : fd.lookup f = some d) (hb : attributeBase e f X.env (eval e X.env) = eval e X.env := by rfl) : DE T X (.Attribute e f pos) ρ O d O1 :=
  de_of (pe_fld pe_we hb) fun σ B H hE hA Q k => ha σ B H hE hA _ fun v B1 H1 p1 r1 => by
    cases r1 with
    | ins hq r =>
      obtain ⟨u, h1, h2⟩ := r.get h
      exact ⟨_, C, _, _, u, rfl, p1.at'.base _ _ hq, cl, na, h1, k u B1 H1 p1 h2⟩
/-- a frozen dict's item -/
theorem de_dget {k : Nat} {kd : List (Key × D)} (hr : Room k X.A) {key : Key} {kx : D} (ha : DE T X a ρ O (.dic kd) O1) (hb : DE T X b ρ O1 kx O2) (hk : ∀ B v, Rp X.K B v kx → v = kV key) (h : (kd.find? fun kv => decide (kv.1 = key)).map (·.2) = some d) (hs : NoSl b := by intro _ _; rfl) :
    DE T X (.Subscript a b pos) ρ O d O2 :=
  de_of (pe_dget (hu_of hr) pe_we pe_we hs) fun σ B H hE hA Q q => two ha hb hE hA fun v w B' H' p rv rw' => by
    cases rv with
    | dic hq r =>
      obtain ⟨u, h1, h2⟩ := r.get h
      have e := hk B' w rw'
      subst e
      refine ⟨_, u, rfl, ?_, q u B' H' p h2⟩
      rw [← h1]
      exact DGet.k (p.at'.base _ _ hq)

/-! ### calls -/
/-- a def's promise: by P, from its arguments and what is owned to its answer and what is owned -/
def spF (T : List Addr) (K : PySem.W.Frag) (P : List Slot → OH → D → OH → Prop) : Sp := fun vs H Q _ => ∃ ss B O d O', P ss O d O' ∧ Args K B vs ss ∧ At T K B O H ∧ ∀ v B' H', Post T K B O H B' O' H' → Rp K B' v d → Q v H'
theorem de_call {CX : CXT} {k : Nat} {f : Addr} {fd : FuncData} {ps : List Str} {P : List Slot → OH → D → OH → Prop} {E : XK} {n : Str} {p : Pos} (F : FnOk X.prog X.w X.K X.mg X.base CX k f fd ps (spF T X.K P)) (hr : Room k X.A) (hm : X.mg n = some (.ref f)) (hk : PySem.W.keepIn X.K (.ref f) = true) (hb : Binds X.K fd ps []) (hx : Passes CX X E)
    (ha : DA T X (e :: es) ρ O ss O1) (h : P ss O1 d O2) (hg : Gl X n := by rfl) (hdb : (n == ("__debug__" : Str)) = false := by decide) (hs : starEach (e :: es) X.env = (false, eval e X.env) :: starEach es X.env := by rfl) (hpl : (backTo pos (starEach es X.env)).any (·.1) = false := by rfl) :
    DE T X (.Call (.Name n p) (e :: es) [] pos) ρ O d O2 :=
  de_of (pe_call F hr hg hm hk hb .nil hx pa_wa hdb hs hpl) fun σ B H hE hA Q q => ha σ B H hE hA _ fun vs B1 H1 p1 r1 => by
    show spF T X.K P (vs ++ []) H1 Q E
    rw [List.append_nil]
    exact ⟨ss, B1, O1, d, O2, h, r1, p1.at', fun v B2 H2 p2 r2 => q v B2 H2 (p1.trans p2) r2⟩
theorem de_call0 {CX : CXT} {k : Nat} {f : Addr} {fd : FuncData} {ps : List Str} {P : List Slot → OH → D → OH → Prop} {E : XK} {n : Str} {p : Pos} (F : FnOk X.prog X.w X.K X.mg X.base CX k f fd ps (spF T X.K P)) (hr : Room k X.A) (hm : X.mg n = some (.ref f)) (hk : PySem.W.keepIn X.K (.ref f) = true) (hb : Binds X.K fd ps []) (hx : Passes CX X E)
    (h : P [] O d O2) (hg : Gl X n := by rfl) (hdb : (n == ("__debug__" : Str)) = false := by decide) :
    DE T X (.Call (.Name n p) [] [] pos) ρ O d O2 :=
  de_of (pe_call0 F hr hg hm hk hb .nil hx hdb) fun σ B H hE hA Q q => by
    show spF T X.K P ([] ++ []) H Q E
    exact ⟨[], B, O, d, O2, h, .nil, hA, fun v B2 H2 p2 r2 => q v B2 H2 p2 r2⟩
end
end Dz

namespace Dz
open PySem PySem.Spec PyProof.Rows L2 GxR

theorem set_same {α : Type} : ∀ {l : List α} {i : Nat} {x : α}, l[i]? = some x → l.set i x = l
  | _ :: _, 0, _, h => by
    cases h
    rfl
  | a :: l, i + 1, x, h => congrArg (a :: ·) (set_same (l := l) (i := i) (by simpa using h))

/-! ### statements -/
/-- what may stand behind a statement: the slots and what is owned; an answer; the reason of the program's own error -/
structure DEn where
  nx : List Slot → OH → Prop
  rt : Slot → OH → Prop
  bk : List Slot → OH → Prop := fun _ _ => False
  ct : List Slot → OH → Prop := fun _ _ => False
  ex : D → OH → Prop := fun _ _ => False
structure Link (T : List Addr) (K : PySem.W.Frag) (CE : Addr) (B : Hp) (O : OH) (H : Hp) (E : DEn) (Dn : Ends) (W : WX) : Prop where
  nx : ∀ ρ O' σ B' H', E.nx ρ O' → Post T K B O H B' O' H' → Env K B' σ ρ → Dn.nx σ H'
  rt : ∀ s O' v B' H', E.rt s O' → Post T K B O H B' O' H' → SlotOk K B' (some v) s → Dn.rt v H'
  bk : ∀ ρ O' σ B' H', E.bk ρ O' → Post T K B O H B' O' H' → Env K B' σ ρ → Dn.bk σ H'
  ct : ∀ ρ O' σ B' H', E.ct ρ O' → Post T K B O H B' O' H' → Env K B' σ ρ → Dn.ct σ H'
  ex : ∀ r O' v dd σ B' H', E.ex r O' → Post T K B O H B' O' H' → H' dd = some (.xd [(("reason" : Str), v)]) → Rp K B' v r → W (.ref CE) (some dd) σ H'
section
variable (T : List Addr) (X : Cx) (CE : Addr)
structure D1 (st : Stmt) (ρ : List Slot) (O : OH) (E : DEn) : Prop where
  run : ∀ (σ : L2.St) (B H : Hp), Env X.K B σ ρ → At T X.K B O H → ∀ (Dn : Ends) (W : WX), Takes X W → Link T X.K CE B O H E Dn W → WS X st Dn σ H
structure DS (st : List Stmt) (ρ : List Slot) (O : OH) (E : DEn) : Prop where
  run : ∀ (σ : L2.St) (B H : Hp), Env X.K B σ ρ → At T X.K B O H → ∀ (Dn : Ends) (W : WX), Takes X W → Link T X.K CE B O H E Dn W → WSs X st Dn σ H
end
instance {T : List Addr} {X : Cx} {CE : Addr} {st : Stmt} {ρ : List Slot} {O : OH} {E : DEn} : CoeFun (D1 T X CE st ρ O E) fun _ => ∀ (σ : L2.St) (B H : Hp), Env X.K B σ ρ → At T X.K B O H → ∀ (Dn : Ends) (W : WX), Takes X W → Link T X.K CE B O H E Dn W → WS X st Dn σ H := ⟨D1.run⟩
instance {T : List Addr} {X : Cx} {CE : Addr} {st : List Stmt} {ρ : List Slot} {O : OH} {E : DEn} : CoeFun (DS T X CE st ρ O E) fun _ => ∀ (σ : L2.St) (B H : Hp), Env X.K B σ ρ → At T X.K B O H → ∀ (Dn : Ends) (W : WX), Takes X W → Link T X.K CE B O H E Dn W → WSs X st Dn σ H := ⟨DS.run⟩
section
variable {T : List Addr} {X : Cx} {CE : Addr} {ρ ρ' : List Slot} {O O1 O2 O3 : OH} {e a b c : Expr} {pos pos' : Pos} {d x y z : D} {p q : Bool} {E : DEn} {s : Slot} {ss : List Slot} {ds : List D} {rest body : List Stmt} {st : Stmt}
theorem Link.step {K : PySem.W.Frag} {B H B1 H1 : Hp} {Dn : Ends} {W : WX} (l : Link T K CE B O H E Dn W) (po : Post T K B O H B1 O1 H1) : Link T K CE B1 O1 H1 E Dn W where
  nx := fun ρ O' σ B' H' h q e => l.nx ρ O' σ B' H' h (po.trans q) e
  rt := fun ρ O' σ B' H' h q e => l.rt ρ O' σ B' H' h (po.trans q) e
  bk := fun ρ O' σ B' H' h q e => l.bk ρ O' σ B' H' h (po.trans q) e
  ct := fun ρ O' σ B' H' h q e => l.ct ρ O' σ B' H' h (po.trans q) e
  ex := fun r O' v dd σ B' H' h q e1 e2 => l.ex r O' v dd σ B' H' h (po.trans q) e1 e2
theorem ds_nil (h : E.nx ρ O) : DS T X CE [] ρ O E := .mk fun σ B H hE hA Dn W tk l => wss_of pss_nil (l.nx ρ O σ B H h (Post.refl hA) hE)
theorem ds_one (h : D1 T X CE st ρ O E) : DS T X CE [st] ρ O E := .mk fun σ B H hE hA Dn W tk l => wss_of (pss_one ps_ws) (h σ B H hE hA Dn W tk l)
theorem ds_cons (h : D1 T X CE st ρ O { E with nx := fun ρ' O' => DS T X CE rest ρ' O' E }) : DS T X CE (st :: rest) ρ O E := .mk fun σ B H hE hA Dn W tk l => by
  refine wss_of (pss_cons ps_ws pss_wss) ?_
  refine h σ B H hE hA { Dn with nx := WSs X rest Dn } W tk ⟨fun ρ' O' σ' B' H' k po e => ?_, l.rt, l.bk, l.ct, l.ex⟩
  exact k σ' B' H' e po.at' Dn W tk (l.step po)
/-- weaker ends -/
theorem DS.imp {E' : DEn} (h : DS T X CE body ρ O E) (h1 : ∀ ρ O, E.nx ρ O → E'.nx ρ O) (h2 : ∀ s O, E.rt s O → E'.rt s O) (h3 : ∀ ρ O, E.bk ρ O → E'.bk ρ O) (h4 : ∀ ρ O, E.ct ρ O → E'.ct ρ O) (h5 : ∀ r O, E.ex r O → E'.ex r O) : DS T X CE body ρ O E' :=
  .mk fun σ B H hE hA Dn W tk l => h σ B H hE hA Dn W tk ⟨fun _ _ _ _ _ k => l.nx _ _ _ _ _ (h1 _ _ k), fun _ _ _ _ _ k => l.rt _ _ _ _ _ (h2 _ _ k), fun _ _ _ _ _ k => l.bk _ _ _ _ _ (h3 _ _ k), fun _ _ _ _ _ k => l.ct _ _ _ _ _ (h4 _ _ k), fun _ _ _ _ _ _ _ k => l.ex _ _ _ _ _ _ _ (h5 _ _ k)⟩
theorem d1_pass (h : E.nx ρ O) : D1 T X CE (.Pass pos) ρ O E := .mk fun σ B H hE hA Dn W tk l => ws_of ps_pass (l.nx ρ O σ B H h (Post.refl hA) hE)
theorem d1_break (h : E.bk ρ O) : D1 T X CE (.Break pos) ρ O E := .mk fun σ B H hE hA Dn W tk l => ws_of ps_break (l.bk ρ O σ B H h (Post.refl hA) hE)
theorem d1_continue (h : E.ct ρ O) : D1 T X CE (.Continue pos) ρ O E := .mk fun σ B H hE hA Dn W tk l => ws_of ps_continue (l.ct ρ O σ B H h (Post.refl hA) hE)
theorem d1_set (i : Nat) {n : Str} (he : DV T X e ρ O s O1) (h : E.nx (ρ.set i s) O1) (hN : X.N.Nodup) (hi : X.N[i]? = some n := by rfl) (hx : Loc X.env.scope n := by first | exact Or.inl rfl | exact Or.inr rfl) (hs : swapsWith e (some (.Name n pos')) pos.line X.env = pure false := by rfl)
    (hf : X.fn n = true ∨ X.env.scope.names.lookup n = some .local := by first | exact .inl rfl | exact .inr rfl) : D1 T X CE (.Assign [.Name n pos'] e pos) ρ O E :=
  .mk fun σ B H hE hA Dn W tk l => ws_of (ps_set hN hi hx pe_we hs hf) (he σ B H hE hA _ fun v B1 H1 p1 r1 => l.nx _ _ _ B1 H1 h p1 ((hE.mono p1.bb).set r1 i))
theorem d1_ret (he : DV T X e ρ O s O1) (h : E.rt s O1) : D1 T X CE (.Return (some e) pos) ρ O E :=
  .mk fun σ B H hE hA Dn W tk l => ws_of (ps_ret pe_we) (he σ B H hE hA _ fun v B1 H1 p1 r1 => l.rt _ _ v B1 H1 h p1 r1)
theorem d1_retN (h : E.rt (.dat .non) O) : D1 T X CE (.Return none pos) ρ O E :=
  .mk fun σ B H hE hA Dn W tk l => ws_of ps_retN (l.rt _ _ .non B H h (Post.refl hA) .non)
theorem d1_if (hc : DT T X c ρ O p O1) (h1 : p = true → DS T X CE body ρ O1 E) (h2 : p = false → DS T X CE rest ρ O1 E) : D1 T X CE (.If c body rest pos) ρ O E :=
  .mk fun σ B H hE hA Dn W tk l => ws_of (ps_if pt_wt pss_wss pss_wss) (hc σ B H hE hA _ fun B1 H1 p1 => by
    cases p with
    | true => exact h1 rfl σ B1 H1 (hE.mono p1.bb) p1.at' Dn W tk (l.step p1)
    | false => exact h2 rfl σ B1 H1 (hE.mono p1.bb) p1.at' Dn W tk (l.step p1))
theorem d1_expr (he : DV T X e ρ O s O1) (h : E.nx ρ O1) (hs : swapsWith e none pos.line X.env = pure false := by rfl) : D1 T X CE (.Expr e pos) ρ O E :=
  .mk fun σ B H hE hA Dn W tk l => ws_of (ps_expr pe_we hs) (he σ B H hE hA _ fun v B1 H1 p1 r1 => l.nx _ _ _ B1 H1 h p1 (hE.mono p1.bb))
theorem d1_doc {t : Str} {j} (h : E.nx ρ O) : D1 T X CE (.Expr (.Constant (.str t) j pos) pos') ρ O E := .mk fun σ B H hE hA Dn W tk l => ws_of ps_doc (l.nx ρ O σ B H h (Post.refl hA) hE)
/-- a list display given to a name, owned -/
theorem d1_own (i : Nat) {n : Str} {es : List Expr} {lp : Pos} (ha : DA T X es ρ O ss O1) (h : ∀ p, O1 p = none → E.nx (ρ.set i (.val (.ref p))) (put O1 p (.lst ss))) (hN : X.N.Nodup) (hl : ss.length ≤ 10000 := by decide) (hi : X.N[i]? = some n := by rfl) (hx : Loc X.env.scope n := by first | exact Or.inl rfl | exact Or.inr rfl)
    (hs : swapsWith (.List es lp) (some (.Name n pos')) pos.line X.env = pure false := by rfl) (hf : X.fn n = true ∨ X.env.scope.names.lookup n = some .local := by first | exact .inl rfl | exact .inr rfl) : D1 T X CE (.Assign [.Name n pos'] (.List es lp) pos) ρ O E :=
  .mk fun σ B H hE hA Dn W tk l => ws_of (ps_set hN hi hx (pe_lst pa_wa) hs hf) (ha σ B H hE hA _ fun vs B1 H1 p1 r1 => ⟨by rw [r1.length]; exact Nat.le_trans hl (by decide), fun p hp =>
    have po := Post.madeO (o := .lst vs) (od := .lst ss) p1.at' hp r1
    l.nx _ _ _ B1 _ (h p (p1.at'.noO hp)) (p1.trans po) ((hE.mono p1.bb).set (s := .val (.ref p)) (show SlotOk X.K B1 (some (.ref p)) (.val (.ref p)) from rfl) i)⟩)
/-- what is owned by the name in slot i becomes data -/
theorem ds_freeze (i : Nat) {a : Addr} (hi : ρ[i]? = some (.val (.ref a))) (ho : O a = some (.lst (ds.map .dat))) (h : DS T X CE body (ρ.set i (.dat (.lst ds))) (cut O a) E) : DS T X CE body ρ O E := .mk fun σ B H hE hA Dn W tk l => by
  obtain ⟨_, u, hu, ok⟩ := hA.own a _ ho
  cases u <;> try exact ok.elim
  rename_i vs
  have po := Post.freeze hA ho hu
  obtain ⟨o, e1, e2⟩ := hE.get hi
  have hE' := (hE.mono po.bb).set (o := some (.ref a)) (s := .dat (.lst ds)) (show SlotOk X.K (upd B a (.lst vs)) (some (.ref a)) (.dat (.lst ds)) from .lst upd_same ((Args.all ok).mono po.bb)) i
  have eo : o = some (.ref a) := by
    cases o with
    | none => exact e2.elim
    | some v => exact congrArg some e2
  subst eo
  have es : σ.set i (some (.ref a)) = σ := set_same e1
  rw [es] at hE'
  exact h σ _ H hE' po.at' Dn W tk (l.step po)
/-- x.append(e), x owned -/
theorem d1_append (i : Nat) {n : Str} {a : Addr} {apos npos : Pos} {s0 : List Slot} (hi : ρ[i]? = some (.val (.ref a))) (h0 : O a = some (.lst s0)) (he : DV T X e ρ O s O1) (ho : O1 a = some (.lst ss)) (hl : ss.length < 100000) (h : E.nx ρ (put O1 a (.lst (ss ++ [s]))))
    (pe : PE X (.Call (.Attribute (.Name n npos) "append" apos) [e] [] pos) (tBM X.K "list" rAppend (tVar i) (tCons (WE X e) tNil)) := by exact pe_bm PySem.F.plainAttrs_list PySem.F.slot_list_append PySem.F.type_list_append mt_append (pv _) (pa_cons pe_we pa_nil)) (hs : swapsWith (.Call (.Attribute (.Name n npos) "append" apos) [e] [] pos) none pos'.line X.env = pure false := by rfl) :
    D1 T X CE (.Expr (.Call (.Attribute (.Name n npos) "append" apos) [e] [] pos) pos') ρ O E := .mk fun σ B H hE hA Dn W tk l => by
  refine ws_of (ps_expr pe hs) ?_
  obtain ⟨o, e1, e2⟩ := hE.get hi
  cases o with
  | none => exact e2.elim
  | some v =>
    have ev : v = .ref a := e2
    subst ev
    obtain ⟨_, u0, hu0, ok0⟩ := hA.own a _ h0
    cases u0 <;> try exact ok0.elim
    refine ⟨_, e1, .inl ⟨rfl, _, SqL.of hu0⟩, ?_⟩
    refine he σ B H hE hA _ fun w B1 H1 p1 r1 => ?_
    obtain ⟨_, u, hu, ok⟩ := p1.at'.own a _ ho
    cases u <;> try exact ok.elim
    rename_i vs
    have lv : vs.length = ss.length := Args.length ok
    have po := Post.put (u := .lst (vs ++ [w])) (od := .lst (ss ++ [s])) p1.at' ho (Args.append ok (.cons r1 .nil))
    exact ⟨a, vs, w, rfl, rfl, hu, by rw [lv]; exact Nat.lt_of_lt_of_le hl (by decide), l.nx _ _ _ B1 _ h (p1.trans po) (hE.mono p1.bb)⟩
/-- x.extend(e), x owned, e a list -/
theorem d1_extend (i : Nat) {n : Str} {a : Addr} {apos npos : Pos} {s0 : List Slot} (hi : ρ[i]? = some (.val (.ref a))) (h0 : O a = some (.lst s0)) (he : DE T X e ρ O (.lst ds) O1) (ho : O1 a = some (.lst ss)) (hl : ss.length + ds.length ≤ 100000) (h : E.nx ρ (put O1 a (.lst (ss ++ ds.map .dat))))
    (pe : PE X (.Call (.Attribute (.Name n npos) "extend" apos) [e] [] pos) (tBM X.K "list" rExtend (tVar i) (tCons (WE X e) tNil)) := by exact pe_bm PySem.F.plainAttrs_list PySem.F.slot_list_extend PySem.F.type_list_extend mt_extend (pv _) (pa_cons pe_we pa_nil)) (hs : swapsWith (.Call (.Attribute (.Name n npos) "extend" apos) [e] [] pos) none pos'.line X.env = pure false := by rfl) :
    D1 T X CE (.Expr (.Call (.Attribute (.Name n npos) "extend" apos) [e] [] pos) pos') ρ O E := .mk fun σ B H hE hA Dn W tk l => by
  refine ws_of (ps_expr pe hs) ?_
  obtain ⟨o, e1, e2⟩ := hE.get hi
  cases o with
  | none => exact e2.elim
  | some v =>
    have ev : v = .ref a := e2
    subst ev
    obtain ⟨_, u0, hu0, ok0⟩ := hA.own a _ h0
    cases u0 <;> try exact ok0.elim
    refine ⟨_, e1, .inl ⟨rfl, _, SqL.of hu0⟩, ?_⟩
    refine he σ B H hE hA _ fun w B1 H1 p1 r1 => ?_
    obtain ⟨_, u, hu, ok⟩ := p1.at'.own a _ ho
    cases u <;> try exact ok.elim
    rename_i vs
    have lv : vs.length = ss.length := Args.length ok
    cases r1
    rename_i b ws hb0 rb
    have hb := p1.at'.base _ _ hb0
    have po := Post.put (u := .lst (vs ++ ws)) (od := .lst (ss ++ ds.map .dat)) p1.at' ho (Args.append ok (Args.of rb))
    exact ⟨a, b, vs, ws, rfl, rfl, hu, hb, by rw [lv, rb.length]; exact Nat.le_trans hl (by decide), l.nx _ _ _ B1 _ h (p1.trans po) (hE.mono p1.bb)⟩
/-- o[i] = e, o owned by a name -/
theorem d1_setitem (i : Nat) {n : Str} {a : Addr} {npos spos : Pos} {k : Int} {j : Nat} (hi : ρ[i]? = some (.val (.ref a))) (he : DV T X e ρ O s O1) (hb : DE T X b ρ O1 (.int k) O2) (ho : O2 a = some (.lst ss)) (hj : ixN ss.length k = some j) (h : E.nx ρ (put O2 a (.lst (ss.set j s))))
    (pn : PE X (.Name n npos) (tVar i) := by exact pv _)
    (hsub : ∀ v, assign (.Subscript (.Name n npos) b spos) X.env v = (do
      let ov ← holding [v] (eval (.Name n npos) X.env)
      let iv ← holding [v, ov] (eval b X.env)
      standAt spos
      holding [v, ov, iv] (setItem ov iv v)
      release [v, ov, iv] []) := by intro _; rfl)
    (h1 : swapsWithSole [.Subscript (.Name n npos) b spos] e pos.line X.env = pure false := by rfl) (h2 : swappedStores [.Subscript (.Name n npos) b spos] e X.env = pure none := by rfl) (h3 : (assignEach [.Subscript (.Name n npos) b spos] X.env).map (·.2) = [assign (.Subscript (.Name n npos) b spos) X.env] := by rfl) :
    D1 T X CE (.Assign [.Subscript (.Name n npos) b spos] e pos) ρ O E := .mk fun σ B H hE hA Dn W tk l => by
  refine ws_of (ps_asg pe_we (pg_sub pn pe_we set_list hsub) h1 h2 h3) ?_
  refine he σ B H hE hA _ fun w B1 H1 p1 r1 => ?_
  obtain ⟨o, e1, e2⟩ := (hE.mono p1.bb).get hi
  cases o with
  | none => exact e2.elim
  | some v =>
    have ev : v = .ref a := e2
    subst ev
    refine ⟨_, e1, ?_⟩
    refine hb σ B1 H1 (hE.mono p1.bb) p1.at' _ fun iv B2 H2 p2 r2 => ?_
    cases r2
    obtain ⟨_, u, hu, ok⟩ := p2.at'.own a _ ho
    cases u <;> try exact ok.elim
    rename_i vs
    have lv : vs.length = ss.length := Args.length ok
    have po := Post.put (u := .lst (vs.set j w)) (od := .lst (ss.set j s)) p2.at' ho (Args.set (r1.mono p2.bb) j ok)
    exact ⟨a, vs, k, j, rfl, rfl, hu, by rw [lv]; exact hj, l.nx _ _ _ B2 _ h ((p1.trans p2).trans po) ((hE.mono p1.bb).mono p2.bb)⟩
/-- reading an owned list: x[i], len(x) -/
theorem dv_ixO (i : Nat) {n : Str} {a : Addr} {npos : Pos} {k : Int} (hi : ρ[i]? = some (.val (.ref a))) (hb : DE T X b ρ O (.int k) O1) (ho : O1 a = some (.lst ss)) (h : atI ss k = some s) (pn : PE X (.Name n npos) (tVar i) := by exact pv _) (hs : PlainIx b := by intro _ _; rfl) :
    DV T X (.Subscript (.Name n npos) b pos) ρ O s O1 := .mk fun σ B H hE hA Q q => by
  refine we_of (pe_ix ix_list pn pe_we hs) ?_
  obtain ⟨o, e1, e2⟩ := hE.get hi
  cases o with
  | none => exact e2.elim
  | some v =>
    have ev : v = .ref a := e2
    subst ev
    refine ⟨_, e1, ?_⟩
    refine hb σ B H hE hA _ fun iv B2 H2 p2 r2 => ?_
    cases r2
    obtain ⟨_, u, hu, ok⟩ := p2.at'.own a _ ho
    cases u <;> try exact ok.elim
    rename_i vs
    unfold atI at h
    cases ek : ixN ss.length k with
    | none =>
      rw [ek] at h
      cases h
    | some j =>
      rw [ek] at h
      obtain ⟨w, h1, h2⟩ := Args.get ok h
      refine ⟨a, vs, k, w, rfl, rfl, SqL.of hu, ?_, q w B2 H2 p2 h2⟩
      unfold atI
      rw [Args.length ok, ek]
      exact h1

/-! ### targets of several names -/
/-- names, from the left -/
inductive Names (X : Cx) : List Expr → List Nat → Prop
  | nil : Names X [] []
  | cons {n : Str} {p : Pos} {i : Nat} {es : List Expr} {is : List Nat} : X.N[i]? = some n → Loc X.env.scope n → (X.fn n = true ∨ X.env.scope.names.lookup n = some .local) → (assignEach (.Name n p :: es) X.env).map (·.2) = assign (.Name n p) X.env :: (assignEach es X.env).map (·.2) →
      Names X es is → Names X (.Name n p :: es) (i :: is)
/-- the slots behind the stores -/
def setAll (ρ : List Slot) : List Nat → List Slot → List Slot
  | i :: is, s :: ss => setAll (ρ.set i s) is ss
  | _, _ => ρ
theorem pgs_names (hN : X.N.Nodup) {es : List Expr} {is : List Nat} (h : Names X es is) : PGs X es (fun vs σ H Q => vs.length = is.length ∧ Q (List.foldl (fun σ (p : Nat × V) => σ.set p.1 (some p.2)) σ (is.zip vs)) H) := by
  induction h with
  | nil =>
    refine ⟨fun pins s σ H vs us Q I r h => ?_⟩
    obtain ⟨h1, h2⟩ := h
    have e : vs = [] := List.length_eq_zero_iff.mp h1
    subst e
    exact pgs_nil.run pins s σ H [] us Q I r ⟨rfl, h2⟩
  | cons h1 h2 h3 h4 _ ih =>
    refine ⟨fun pins s σ H vs us Q I r h => ?_⟩
    obtain ⟨k1, k2⟩ := h
    cases vs with
    | nil => cases k1
    | cons v vs =>
      exact (pgs_cons (pg_name hN h1 h2 h3) ih h4).run pins s σ H (v :: vs) us Q I r ⟨v, vs, rfl, Nat.succ.inj k1, k2⟩
theorem Env.setAll {K : PySem.W.Frag} {B : Hp} : ∀ (is : List Nat) {σ : L2.St} {ρ : List Slot} {vs : List V} {ss : List Slot}, Env K B σ ρ → Args K B vs ss → Env K B (List.foldl (fun σ (p : Nat × V) => σ.set p.1 (some p.2)) σ (is.zip vs)) (Dz.setAll ρ is ss)
  | [], σ, ρ, vs, ss, e, _ => by
    rw [List.zip_nil_left]
    cases ss <;> exact e
  | i :: is, σ, ρ, _, _, e, .nil => e
  | i :: is, σ, ρ, v :: vs, s :: ss, e, .cons h r => by
    show Env K B (List.foldl _ (σ.set i (some v)) (is.zip vs)) (Dz.setAll (ρ.set i s) is ss)
    exact Env.setAll is (e.set h i) r
/-- a, b, .. = e, e a tuple -/
theorem d1_unpack {es : List Expr} {k : Nat} {tp : Pos} {is : List Nat} (he : DE T X e ρ O (.tup ds) O1) (hl : ds.length = is.length) (hn : Names X es is) (h : E.nx (setAll ρ is (ds.map .dat)) O1) (hN : X.N.Nodup) (hc : X.calm = true := by rfl)
    (g1 : (assignEach es X.env).length = is.length := by rfl) (g2 : (assignEach es X.env).findIdx? (·.1) = none := by rfl) (h1 : swapsWithSole [.Tuple es k tp] e pos.line X.env = pure false := by rfl) (h2 : swappedStores [.Tuple es k tp] e X.env = pure none := by rfl) (h3 : (assignEach [.Tuple es k tp] X.env).map (·.2) = [assign (.Tuple es k tp) X.env] := by rfl) :
    D1 T X CE (.Assign [.Tuple es k tp] e pos) ρ O E := .mk fun σ B H hE hA Dn W tk l => by
  refine ws_of (ps_asg pe_we (pg_tup hc (pgs_names hN hn) g1 g2) h1 h2 h3) ?_
  refine he σ B H hE hA _ fun w B1 H1 p1 r1 => ?_
  cases r1 with
  | tup hq r =>
    have e1 : _ = is.length := r.length.trans hl
    exact ⟨_, _, rfl, same_t p1.at'.base hq, e1, e1, l.nx _ _ _ B1 H1 h p1 (Env.setAll is (hE.mono p1.bb) (Args.of r))⟩

/-! ### for -/
theorem d1_forL (i : Nat) {n : Str} {np : Pos} (I : Nat → List Slot → OH → Prop) (he : DE T X e ρ O (.lst ds) O1) (h0 : I 0 ρ O1) (hN : X.N.Nodup)
    (hs : ∀ j d ρ' O', ds[j]? = some d → I j ρ' O' → DS T X CE body (ρ'.set i (.dat d)) O' { E with nx := I (j + 1), ct := I (j + 1), bk := E.nx }) (hd : ∀ ρ' O', I ds.length ρ' O' → E.nx ρ' O')
    (hp : PassesOwn (model X.prog X.w) X.A X.env X.xe) (hc : X.calm = true := by rfl) (hi : X.N[i]? = some n := by rfl) (hx : Loc X.env.scope n := by first | exact Or.inl rfl | exact Or.inr rfl) (hf : X.fn n = true ∨ X.env.scope.names.lookup n = some .local := by first | exact .inl rfl | exact .inr rfl)
    (hfold : ∀ x, foldedSetIterable e X.env x = pure x := by intro _; rfl) :
    D1 T X CE (.For (.Name n np) e body [] pos) ρ O E := .mk fun σ B H hE hA Dn W tk l => by
  refine ws_of (ps_for hp hc (pi_list pe_we) (pg_name hN hi hx hf) pss_wss hfold) ?_
  refine he σ B H hE hA _ fun v B1 H1 p1 r1 => ?_
  cases r1 with
  | lst hq r =>
    rename_i a xs
    refine ⟨a, rfl, ⟨xs, SqL.of (p1.at'.base _ _ hq)⟩, for_list (K := X.K) (a := a) (xs := xs) (fun j σ' H' => ∃ ρ' O' B', I j ρ' O' ∧ Post T X.K B O H B' O' H' ∧ Same B1 B' ∧ Env X.K B' σ' ρ') ⟨ρ, O1, B1, h0, p1, Same.refl _, hE.mono p1.bb⟩ (fun j σ' H' _ ⟨_, _, B', _, po, sb, _⟩ => SqL.of (po.at'.base _ _ (sb _ _ hq))) ?_ ?_⟩
    · rintro j y σ' H' hj ⟨ρ', O', B', hI, po, sb, hE'⟩
      obtain ⟨d, hd1, hd2⟩ := r.getV hj
      refine hs j d ρ' O' hd1 hI _ B' H' (hE'.set (o := some y) (s := .dat d) (show SlotOk X.K B' (some y) (.dat d) from hd2.mono sb) i) po.at' _ W tk ?_
      have l' := l.step po
      exact ⟨fun ρ2 O2 σ2 B2 H2 h p2 e2 => ⟨ρ2, O2, B2, h, po.trans p2, sb.trans p2.bb, e2⟩, l'.rt, l'.nx, fun ρ2 O2 σ2 B2 H2 h p2 e2 => ⟨ρ2, O2, B2, h, po.trans p2, sb.trans p2.bb, e2⟩, l'.ex⟩
    · rintro σ' H' ⟨ρ', O', B', hI, po, sb, hE'⟩
      rw [r.length] at hI
      exact l.nx _ _ _ B' H' (hd ρ' O' hI) po hE'
theorem d1_forT (i : Nat) {n : Str} {np : Pos} (I : Nat → List Slot → OH → Prop) (he : DE T X e ρ O (.tup ds) O1) (h0 : I 0 ρ O1) (hN : X.N.Nodup)
    (hs : ∀ j d ρ' O', ds[j]? = some d → I j ρ' O' → DS T X CE body (ρ'.set i (.dat d)) O' { E with nx := I (j + 1), ct := I (j + 1), bk := E.nx }) (hd : ∀ ρ' O', I ds.length ρ' O' → E.nx ρ' O')
    (hp : PassesOwn (model X.prog X.w) X.A X.env X.xe) (hc : X.calm = true := by rfl) (hi : X.N[i]? = some n := by rfl) (hx : Loc X.env.scope n := by first | exact Or.inl rfl | exact Or.inr rfl) (hf : X.fn n = true ∨ X.env.scope.names.lookup n = some .local := by first | exact .inl rfl | exact .inr rfl)
    (hfold : ∀ x, foldedSetIterable e X.env x = pure x := by intro _; rfl) :
    D1 T X CE (.For (.Name n np) e body [] pos) ρ O E := .mk fun σ B H hE hA Dn W tk l => by
  refine ws_of (ps_for hp hc (pi_tup pe_we) (pg_name hN hi hx hf) pss_wss hfold) ?_
  refine he σ B H hE hA _ fun v B1 H1 p1 r1 => ?_
  cases r1 with
  | tup hq r =>
    rename_i a xs
    refine ⟨a, rfl, ⟨xs, same_t p1.at'.base hq⟩, for_tup (K := X.K) (a := a) (xs := xs) (fun j σ' H' => ∃ ρ' O' B', I j ρ' O' ∧ Post T X.K B O H B' O' H' ∧ Same B1 B' ∧ Env X.K B' σ' ρ') ⟨ρ, O1, B1, h0, p1, Same.refl _, hE.mono p1.bb⟩ (fun j σ' H' _ ⟨_, _, B', _, po, sb, _⟩ => same_t po.at'.base (same_t sb hq)) ?_ ?_⟩
    · rintro j y σ' H' hj ⟨ρ', O', B', hI, po, sb, hE'⟩
      obtain ⟨d, hd1, hd2⟩ := r.getV hj
      refine hs j d ρ' O' hd1 hI _ B' H' (hE'.set (o := some y) (s := .dat d) (show SlotOk X.K B' (some y) (.dat d) from hd2.mono sb) i) po.at' _ W tk ?_
      have l' := l.step po
      exact ⟨fun ρ2 O2 σ2 B2 H2 h p2 e2 => ⟨ρ2, O2, B2, h, po.trans p2, sb.trans p2.bb, e2⟩, l'.rt, l'.nx, fun ρ2 O2 σ2 B2 H2 h p2 e2 => ⟨ρ2, O2, B2, h, po.trans p2, sb.trans p2.bb, e2⟩, l'.ex⟩
    · rintro σ' H' ⟨ρ', O', B', hI, po, sb, hE'⟩
      rw [r.length] at hI
      exact l.nx _ _ _ B' H' (hd ρ' O' hI) po hE'
/-- for n in range(e) -/
theorem d1_forR (i : Nat) {n : Str} {np rp : Pos} {m : Int} (I : Nat → List Slot → OH → Prop) (he : DE T X e ρ O (.int m) O1) (hm : -(2 ^ 62) ≤ m ∧ m < 2 ^ 62) (h0 : I 0 ρ O1) (hN : X.N.Nodup)
    (hs : ∀ (j : Nat) ρ' O', (j : Int) < m → I j ρ' O' → DS T X CE body (ρ'.set i (.dat (.int (j : Int)))) O' { E with nx := I (j + 1), ct := I (j + 1), bk := E.nx }) (hd : ∀ ρ' O', I m.toNat ρ' O' → E.nx ρ' O')
    (hmg : X.mg "range" = none) (hp : PassesOwn (model X.prog X.w) X.A X.env X.xe) (hg : Gl X "range" := by rfl) (hc : X.calm = true := by rfl) (hi : X.N[i]? = some n := by rfl) (hx : Loc X.env.scope n := by first | exact Or.inl rfl | exact Or.inr rfl) (hf : X.fn n = true ∨ X.env.scope.names.lookup n = some .local := by first | exact .inl rfl | exact .inr rfl)
    (h1 : starEach [e] X.env = [(false, eval e X.env)] := by rfl) (hfold : ∀ x, foldedSetIterable (.Call (.Name "range" rp) [e] [] pos') X.env x = pure x := by intro _; rfl) :
    D1 T X CE (.For (.Name n np) (.Call (.Name "range" rp) [e] [] pos') body [] pos) ρ O E := .mk fun σ B H hE hA Dn W tk l => by
  refine ws_of (ps_for hp hc (pi_range1 hg hmg (pa_cons pe_we pa_nil h1) h1) (pg_name hN hi hx hf) pss_wss hfold) ?_
  refine he σ B H hE hA _ fun v B1 H1 p1 r1 => ?_
  cases r1
  refine ⟨m, rfl, hm.1, hm.2, for_range (fun j σ' H' => ∃ ρ' O' B', I j ρ' O' ∧ Post T X.K B O H B' O' H' ∧ Env X.K B' σ' ρ') ⟨ρ, O1, B1, h0, p1, hE.mono p1.bb⟩ ?_ ?_⟩
  · rintro j σ' H' hj ⟨ρ', O', B', hI, po, hE'⟩
    have e0 : (0 : Int) + (j : Int) = (j : Int) := Int.zero_add _
    rw [e0]
    refine hs j ρ' O' (by omega) hI _ B' H' (hE'.set (o := some (.int j)) (s := .dat (.int j)) (show SlotOk X.K B' (some (.int j)) (.dat (.int j)) from .int _) i) po.at' _ W tk ?_
    have l' := l.step po
    exact ⟨fun ρ2 O2 σ2 B2 H2 h p2 e2 => ⟨ρ2, O2, B2, h, po.trans p2, e2⟩, l'.rt, l'.nx, fun ρ2 O2 σ2 B2 H2 h p2 e2 => ⟨ρ2, O2, B2, h, po.trans p2, e2⟩, l'.ex⟩
  · rintro σ' H' ⟨ρ', O', B', hI, po, hE'⟩
    exact l.nx _ _ _ B' H' (hd ρ' O' hI) po hE'
/-- for n in range(a, b) -/
theorem d1_forR2 (i : Nat) {n : Str} {np rp : Pos} {lo m : Int} (I : Nat → List Slot → OH → Prop) (ha : DE T X a ρ O (.int lo) O1) (hb : DE T X b ρ O1 (.int m) O2) (hm : -(2 ^ 62) ≤ lo ∧ lo < 2 ^ 62 ∧ -(2 ^ 62) ≤ m ∧ m < 2 ^ 62) (h0 : I 0 ρ O2) (hN : X.N.Nodup)
    (hs : ∀ (j : Nat) ρ' O', lo + (j : Int) < m → I j ρ' O' → DS T X CE body (ρ'.set i (.dat (.int (lo + (j : Int))))) O' { E with nx := I (j + 1), ct := I (j + 1), bk := E.nx }) (hd : ∀ ρ' O', I (m - lo).toNat ρ' O' → E.nx ρ' O')
    (hmg : X.mg "range" = none) (hp : PassesOwn (model X.prog X.w) X.A X.env X.xe) (hg : Gl X "range" := by rfl) (hc : X.calm = true := by rfl) (hi : X.N[i]? = some n := by rfl) (hx : Loc X.env.scope n := by first | exact Or.inl rfl | exact Or.inr rfl) (hf : X.fn n = true ∨ X.env.scope.names.lookup n = some .local := by first | exact .inl rfl | exact .inr rfl)
    (h1 : starEach [a, b] X.env = [(false, eval a X.env), (false, eval b X.env)] := by rfl) (h2 : starEach [b] X.env = [(false, eval b X.env)] := by rfl) (hfold : ∀ x, foldedSetIterable (.Call (.Name "range" rp) [a, b] [] pos') X.env x = pure x := by intro _; rfl) :
    D1 T X CE (.For (.Name n np) (.Call (.Name "range" rp) [a, b] [] pos') body [] pos) ρ O E := .mk fun σ B H hE hA Dn W tk l => by
  refine ws_of (ps_for hp hc (pi_range2 hg hmg (pa_cons pe_we (pa_cons pe_we pa_nil (by rw [h2]; rfl)) (by rw [h1, h2])) h1 h2) (pg_name hN hi hx hf) pss_wss hfold) ?_
  refine two ha hb hE hA fun v w B1 H1 p1 r1 r2 => ?_
  cases r1
  cases r2
  refine ⟨lo, m, rfl, hm, for_range (fun j σ' H' => ∃ ρ' O' B', I j ρ' O' ∧ Post T X.K B O H B' O' H' ∧ Env X.K B' σ' ρ') ⟨ρ, O2, B1, h0, p1, hE.mono p1.bb⟩ ?_ ?_⟩
  · rintro j σ' H' hj ⟨ρ', O', B', hI, po, hE'⟩
    refine hs j ρ' O' (by omega) hI _ B' H' (hE'.set (o := some (.int (lo + j))) (s := .dat (.int (lo + j))) (show SlotOk X.K B' (some (.int (lo + j))) (.dat (.int (lo + j))) from .int _) i) po.at' _ W tk ?_
    have l' := l.step po
    exact ⟨fun ρ2 O2 σ2 B2 H2 h p2 e2 => ⟨ρ2, O2, B2, h, po.trans p2, e2⟩, l'.rt, l'.nx, fun ρ2 O2 σ2 B2 H2 h p2 e2 => ⟨ρ2, O2, B2, h, po.trans p2, e2⟩, l'.ex⟩
  · rintro σ' H' ⟨ρ', O', B', hI, po, hE'⟩
    exact l.nx _ _ _ B' H' (hd ρ' O' hI) po hE'
end
end Dz

namespace Dz
open PySem PySem.Spec PyProof.Rows L2 GxR
/-- the context of a def's body that lets no exception out -/
abbrev bx (P : Program) (w : World) (K : PySem.W.Frag) (mg : Str → Option Value) (base : Heap) (N : List Str) (qual : Str) (st : Stmt) (f : Addr) (cdv : Value) (A : Around) (outer : List PySem.Env) (s : Shared) (H : Hp) (E : XK) : Cx :=
  (cxOf CX0 P w K mg base N qual (defScope st) f cdv A outer s H E).nox
/-- .. that may -/
abbrev bxX (P : Program) (w : World) (K : PySem.W.Frag) (mg : Str → Option Value) (base : Heap) (N : List Str) (qual : Str) (st : Stmt) (f : Addr) (cdv : Value) (A : Around) (outer : List PySem.Env) (s : Shared) (H : Hp) (E : XK) : Cx :=
  cxOf (L2.CX P w) P w K mg base N qual (defScope st) f cdv A outer s H E
/-- a def with its code object's value told -/
structure FunC (K : PySem.W.Frag) (x qual : Str) (st : Stmt) (f : Addr) (fd : FuncData) (cdv : Value) : Prop where
  ex : ∃ (oc : Value) (od : Option Addr) (kV doc pm : Value) (an : Option Addr) (ct : Value) (osl : Array (Option Value)),
    fd = PySem.W.fnOf x qual (defArgs st) (defBody st) (defScope st) .none kV doc pm an cdv ct ∧ K.lookup f = some ⟨oc, od, .func fd, osl⟩ ∧ PySem.W.codeIn K cdv qual = true
  kp : PySem.W.keepIn K (.ref f) = true
section
variable {P : Program} {w : World} {K : PySem.W.Frag} {mg : Str → Option Value} {base : Heap} {T : List Addr} {CE : Addr}
theorem FunC.binds {x qual : Str} {st : Stmt} {f : Addr} {fd : FuncData} {ps : List Str} {cdv : Value} (F : FunC K x qual st f fd cdv)
    (h : ∀ (kV doc pm : Value) (an : Option Addr) (cdv ct : Value) (us : List Value), us.length = ps.length → bindArgs (PySem.W.fnOf x qual (defArgs st) (defBody st) (defScope st) .none kV doc pm an cdv ct) ⟨us, []⟩ = pure (ps.zip us)) : L2.Binds K fd ps [] := by
  obtain ⟨oc, od, kV, doc, pm, an, ct, osl, rfl, lk, hcd⟩ := F.ex
  exact .all (h kV doc pm an cdv ct)
/-- a def by its body, over data -/
theorem fn_ok {x qual : Str} {st : Stmt} {f : Addr} {fd : FuncData} {cdv : Value} {N ps : List Str} {k : Nat} {R : List Slot → OH → D → OH → Prop} (F : FunC K x qual st f fd cdv) (S : FnScope N ps (defScope st))
    (hlen : ∀ ss O d O', R ss O d O' → ss.length = ps.length)
    (body : ∀ (A : Around) (outer : List PySem.Env) (s : Shared) (H : Hp) (E : XK) (ss : List Slot) (O : OH) (d : D) (O' : OH), Room k (A.deeper (envOfC qual (defScope st) s.heap.objs.size f cdv)) → R ss O d O' →
      DS T (bx P w K mg base N qual st f cdv A outer s H E) CE (defBody st) (ss ++ List.replicate (N.length - ss.length) .no) O { nx := fun _ o => d = .non ∧ o = O', rt := fun s o => s = .dat d ∧ o = O' }) :
    FnOk P w K mg base CX0 (k + 1) f fd ps (spF T K R) := by
  obtain ⟨oc, od, kV, doc, pm, an, ct, osl, rfl, lk, hcd⟩ := F.ex
  refine fn_of lk hcd S (fun vs H Q E h => ?_) fun A outer s H vs Q E hr hsp => ?_
  · obtain ⟨ss, B, O, d, O', h1, h2, _⟩ := h
    rw [h2.length]
    exact hlen _ _ _ _ h1
  · obtain ⟨ss, B, O, d, O', h1, h2, h3, h4⟩ := hsp
    have hb := body A outer s H E ss O d O' hr h1
    refine ⟨WSs (bx P w K mg base N qual st f cdv A outer s H E) (defBody st), PSs.nox pss_wss, ?_⟩
    have e1 : L2.start N vs = vs.map some ++ List.replicate (N.length - ss.length) none := by
      unfold L2.start
      rw [h2.length]
    rw [e1]
    refine hb _ B H (Env.of_args _ h2) h3 _ (fun _ _ _ _ => False) takes0 ⟨fun ρ O2 σ B2 H2 q po _ => ?_, fun s' O2 v B2 H2 q po r => ?_, fun _ _ _ _ _ q => q.elim, fun _ _ _ _ _ q => q.elim, fun _ _ _ _ _ _ _ q => q.elim⟩
    · obtain ⟨q1, q2⟩ := q
      subst q1 q2
      exact h4 .non B2 H2 po .non
    · obtain ⟨q1, q2⟩ := q
      subst q1 q2
      exact h4 v B2 H2 po r
end
end Dz

/-! len(set(xs)): texts or ints, some of them twice -/
namespace DzS
open PySem PySem.Spec PyProof.Rows
section
variable {K : Type} [DecidableEq K]
/-- what a set of the first i items has, in the order met -/
def gm (kk : Nat → K) : Nat → List K
  | 0 => []
  | i + 1 => if kk i ∈ gm kk i then gm kk i else gm kk i ++ [kk i]
theorem gm_len (kk : Nat → K) : ∀ i, (gm kk i).length ≤ i
  | 0 => Nat.le_refl _
  | i + 1 => by
    have := gm_len kk i
    unfold gm
    split
    · omega
    · rw [List.length_append, List.length_singleton]; omega
theorem gm_mem (kk : Nat → K) (i : Nat) (k : K) : decide (k ∈ gm kk (i + 1)) = (decide (k ∈ gm kk i) || decide (k = kk i)) := by
  rw [gm]
  split
  · rename_i h
    by_cases e : k = kk i
    · subst e; simp [h]
    · simp [e]
  · simp only [List.mem_append, List.mem_singleton, Bool.decide_or]
theorem gm_succ_len (kk : Nat → K) (i : Nat) : (gm kk (i + 1)).length = if decide (kk i ∈ gm kk i) = true then (gm kk i).length else (gm kk i).length + 1 := by
  rw [gm]
  by_cases h : kk i ∈ gm kk i
  · rw [if_pos h, if_pos (decide_eq_true h)]
  · rw [if_neg h, if_neg (by simpa using h), List.length_append, List.length_singleton]
/-- the same by the list -/
def dd (xs : List K) : List K := xs.foldl (fun s x => if x ∈ s then s else s ++ [x]) []
theorem gm_dd (x0 : K) (xs : List K) : ∀ i, i ≤ xs.length → gm (fun j => xs.getD j x0) i = dd (xs.take i)
  | 0, _ => rfl
  | i + 1, h => by
    have hlt : i < xs.length := h
    rw [gm, gm_dd x0 xs i (Nat.le_of_lt hlt), List.take_add_one, List.getElem?_eq_getElem hlt]
    unfold dd
    rw [List.foldl_append]
    have e : xs.getD i x0 = xs[i] := by rw [List.getD_eq_getElem?_getD, List.getElem?_eq_getElem hlt]; rfl
    rw [e]
    rfl
variable {prog : Program} {w : World} {knd : KeyKind prog w K}
theorem setOf_congr {h : Heap} {a : Addr} {S S' : K → Bool} {n n' : Nat} (hS : h.SetOf knd a S n) (e : ∀ k, S k = S' k) (en : n = n') : h.SetOf knd a S' n' := by
  have : S = S' := funext e
  subst this; subst en; exact hS
variable {A : Around} {R : Result → Shared → Prop} {I : Addr} {fp wr : List Addr} {G : Array GenState → Array GenState → Prop} {n : Nat} {P : Nat → Value → Prop} {St : Nat → Shared → Prop}
theorem loopG (W : WalksS prog w A.in1 I fp wr G n P St) (S : Addr) (zSf : S ∉ fp) (kk : Nat → K) (hval : ∀ i v, P i v → knd.is (kk i) v = true ∧ v.scannable = true) (hb : n + 1 < scanBound) :
    ∀ (k i : Nat) (s : Shared), n - i = k → i ≤ n → St i s →
      s.heap.SetOf knd S (fun k' => decide (k' ∈ gm kk i)) (gm kk i).length →
      (∀ s', Moved (S :: wr) G s s' → s'.heap.SetOf knd S (fun k' => decide (k' ∈ gm kk n)) (gm kk n).length → R (.ok (.ret .none)) s') →
      codeAny (model prog w) A (.builtin "set.update.loop" ⟨[.ref S, .ref I], []⟩) R s := by
  have zSw : S ∉ wr := fun h => zSf (W.sub _ h)
  have qSub : ∀ b ∈ wr, b ∈ S :: wr := fun b hb => List.mem_cons_of_mem _ hb
  intro k
  induction k with
  | zero =>
    intro i s hk hi st1 hS hR
    have atN : i = n := by omega
    subst atN
    refine codeAny_builtin PyProof.Rows.F.entry_set_update_loop ?_
    rw [Around.under_plainId PyProof.Rows.F.plain_set_update_loop _]
    show wpAny _ A.in1 (pyNext (.ref I) >>= _) _ _ s
    refine wpAny_bind (W.done s _ _ st1 fun s' mv => ?_)
    show wpAny _ A.in1 (ret Value.none) _ _ s'
    obtain ⟨o, es, ep, t, ho, rest⟩ := hS
    exact wpAny_pure (hR s' (mv.mono qSub) ⟨o, es, ep, t, mv.heap S _ zSw ho, rest⟩)
  | succ k ih =>
    intro i s hk hi st1 hS hR
    have ltI : i < n := by omega
    refine codeAny_builtin PyProof.Rows.F.entry_set_update_loop ?_
    rw [Around.under_plainId PyProof.Rows.F.plain_set_update_loop _]
    show wpAny _ A.in1 (pyNext (.ref I) >>= _) _ _ s
    refine wpAny_bind (W.item i s _ _ ltI st1 fun v s' hPv st2 mv => ?_)
    obtain ⟨hv, hsc⟩ := hval i v hPv
    have nS' : s'.heap.SetOf knd S (fun k' => decide (k' ∈ gm kk i)) (gm kk i).length := by
      obtain ⟨o, es, ep, tb, ho, rest⟩ := hS
      exact ⟨o, es, ep, tb, mv.heap S _ zSw ho, rest⟩
    show wpAny _ A.in1 (holding [v] (setAdd S v) >>= _) _ _ s'
    refine wpAny_bind (wpAny_holding ?_)
    unfold setAdd
    refine wpAny_holding ?_
    refine wpAny_bind (knd.pyHash (k := kk i) hv ?_)
    have room : (gm kk i).length + 1 < scanBound := by have := gm_len kk i; omega
    refine wpAny_setAddHashed_of (knd := knd) (s := { s' with toks := s'.toks + 1 }) hv hsc nS' room fun h' sbe nS2 => ?_
    have nSi : h'.SetOf knd S (fun k' => decide (k' ∈ gm kk (i + 1))) (gm kk (i + 1)).length :=
      setOf_congr nS2 (fun k' => (gm_mem kk i k').symm) (gm_succ_len kk i).symm
    refine wpAny_pure ⟨plainId_quiet PyProof.Rows.F.plain_set_update_loop _, ih (i + 1) _ (by omega) ltI (W.frame _ s' _ _ st2 (Nat.le_succ _) fun b hb o e => ?_) nSi fun s'' mv2 nS4 => ?_⟩
    · rw [sbe.2 b (fun h : b = S => zSf (by rw [← h]; exact hb))]; exact e
    · refine hR s'' (Moved.trans W.gtrans ((mv.mono qSub).then_heap (Nat.le_succ _) fun b o hb e => ?_) mv2) nS4
      rw [sbe.2 b (fun h : b = S => hb (by rw [h]; exact List.mem_cons_self))]; exact e
end

section
variable {K : Type} [DecidableEq K] {prog : Program} {w : World} {knd : KeyKind prog w K} {A : Around} {E : Value → Shared → Prop} {s : Shared}
set_option maxHeartbeats 6400000 in
theorem call_set_seqG {l : Addr} {items : Array Value} {kk : Nat → K} {Q : Value → Shared → Prop}
    (hh : A.handled = none) (hl : s.heap.IsList l items ∨ s.heap.IsTuple l items) (hi : ∀ (i : Nat) (v : Value), items[i]? = some v → knd.is (kk i) v = true ∧ v.scannable = true) (hb : items.size + 1 < scanBound)
    (h : ∀ (h' : Heap) (tk : Nat), h'.SetOf knd s.heap.objs.size (fun k' => decide (k' ∈ gm kk items.size)) (gm kk items.size).length →
      (∀ b o, b < s.heap.objs.size → s.heap.get? b = some o → h'.get? b = some o) → Q (.ref s.heap.objs.size) { s with heap := h', toks := tk }) :
    wpAny (model prog w) A (call (.type "set") [.ref l]) Q E s := by
  obtain ⟨c, qTl, qMro⟩ := PySem.F.called_set.mro
  have qMade := PySem.F.called_set.made
  have qSub := PySem.F.called_set.sub
  refine wpAny_call (codeAny_of_tree ?_)
  show wpAny _ _ (callAny (.type "set") _) _ _ _
  refine wpAny_pure ⟨Code.quiet_builtin _ (by decide +kernel), codeAny_builtin PySem.F.entry_type_call ?_⟩
  rw [Around.under_plain (weight_type_call_type "set" [.ref l] []) rfl]
  have u1 := PySem.F.called_set.notType
  have u2 := PySem.F.called_set.canCreate
  have qTc := PySem.F.typeCall_set_1 (.ref l)
  repeat any_goals first | assumption | wp_step
  refine codeAny_mono (code_set_new_1 (.ref l) (E := E) (Q₁ := fun ob0 s₁ => ∃ lg : Bool, ob0 = .ref s.heap.objs.size ∧ s₁ = { s with heap := s.heap.push { cls := .type "set", dict := none, data := .set #[] 0 (.fresh 0 0 lg) } }) fun lg => ⟨lg, rfl, rfl⟩) fun r s₁ hr => ?_
  cases r with
  | error e => exact hr
  | ok fl =>
    cases fl with
    | ret ob0 =>
      obtain ⟨lg, rfl, rfl⟩ := hr
      have hS : (s.heap.push { cls := .type "set", dict := none, data := .set #[] 0 (.fresh 0 0 lg) }).get? s.heap.objs.size = some { cls := .type "set", dict := none, data := .set #[] 0 (.fresh 0 0 lg) } := Heap.get?_push_size _ rfl
      have zT : Shared.TypeIs { s with heap := s.heap.push { cls := .type "set", dict := none, data := .set #[] 0 (.fresh 0 0 lg) } } (.ref s.heap.objs.size) "set" := ⟨_, hS, rfl⟩
      have zLi := PySem.F.called_set.init.lookup
      have zBi := PySem.F.called_set.init.bind (.ref s.heap.objs.size)
      repeat any_goals first | assumption | wp_step
      refine codeAny_mono (codeAny_call_builtin (R := wants (fun r s₂ => r = .none ∧ ∃ h' tk, s₂ = { s with heap := h', toks := tk } ∧
          h'.SetOf knd s.heap.objs.size (fun k' => decide (k' ∈ gm kk items.size)) (gm kk items.size).length ∧
          (∀ b o, b < s.heap.objs.size → s.heap.get? b = some o → h'.get? b = some o)) E) PySem.F.called_set.init.plain PySem.F.entry_set_init (check_set_init_1 zT ?_)) fun r₂ s₂ hr₂ => ?_
      · have fin : ∀ (I : Addr) (it : Obj) (hI : I = (s.heap.push { cls := .type "set", dict := none, data := .set #[] 0 (.fresh 0 0 lg) }).objs.size) (A2 : Around) (R2 : Result → Shared → Prop)
            (fp : List Addr) (P2 : Nat → Value → Prop) (St2 : Nat → Shared → Prop)
            (W : WalksS prog w A2.in1 I fp [I] (fun g g' => g' = g) items.size P2 St2) (zSf : s.heap.objs.size ∉ fp) (hv : ∀ i v, P2 i v → items[i]? = some v)
            (st0 : St2 0 { s with heap := ((s.heap.push { cls := .type "set", dict := none, data := .set #[] 0 (.fresh 0 0 lg) }).push it) })
            (hR : ∀ h' tk', h'.SetOf knd s.heap.objs.size (fun k' => decide (k' ∈ gm kk items.size)) (gm kk items.size).length →
              (∀ b o, b < s.heap.objs.size → s.heap.get? b = some o → h'.get? b = some o) → R2 (.ok (.ret .none)) { s with heap := h', toks := tk' }),
            codeAny (model prog w) A2 (.builtin "set.update.loop" ⟨[.ref s.heap.objs.size, .ref I], []⟩) R2 { s with heap := ((s.heap.push { cls := .type "set", dict := none, data := .set #[] 0 (.fresh 0 0 lg) }).push it) } := by
          intro I it hI A2 R2 fp P2 St2 W zSf hv st0 hR
          refine loopG (knd := knd) W s.heap.objs.size zSf kk (fun i v hp => hi i v (hv i v hp)) hb (items.size - 0) 0 _ (by omega) (Nat.zero_le _) st0 ?_ ?_
          · have hget : ((s.heap.push { cls := .type "set", dict := none, data := .set #[] 0 (.fresh 0 0 lg) }).push it).get? s.heap.objs.size
                = some { cls := .type "set", dict := none, data := .set #[] 0 (.fresh 0 0 lg) } := Heap.get?_push_of_some _ hS
            exact setOf_congr ((PyProof.Rows.setObjOf_fresh (knd := knd) lg).setOf hget (by unfold scanBound; omega)) (fun _ => rfl) rfl
          · intro s' mv nS'
            obtain ⟨h', g', d', tk', os'⟩ := s'
            have yg : g' = s.gens := mv.gens
            have yd : d' = s.drawn := mv.drawn
            have yo : os' = s.os := mv.os
            subst yg; subst yd; subst yo
            refine hR h' tk' nS' fun b o hb e => ?_
            have y1 : b ≠ s.heap.objs.size := Nat.ne_of_lt hb
            have y2 : b ≠ I := by
              rw [hI, Heap.size_push]; exact Nat.ne_of_lt (Nat.lt_succ_of_lt hb)
            exact mv.heap b o (by simp only [List.mem_cons, List.mem_singleton, List.not_mem_nil, or_false, not_or]; exact ⟨y1, y2⟩) (Heap.get?_push_of_some _ (Heap.get?_push_of_some _ e))
        rcases hl with hl | hl
        · obtain ⟨wl, zOl, zCl, zNl, zDl⟩ := hl
          obtain ⟨oo1, oo2, oo3, oo4⟩ := wl
          simp only at zCl zDl
          subst zCl; subst zDl
          have zOl2 : (s.heap.push { cls := .type "set", dict := none, data := .set #[] 0 (.fresh 0 0 lg) }).get? l = some { cls := .type "list", dict := oo2, data := .seq items zNl, slots := oo4 } := Heap.get?_push_of_some _ zOl
          have zA1 := PySem.F.sub_list_set
          have zA2 := PySem.F.sub_list_frozenset
          have zNe : (Value.type "list" == Value.type "dict") = false := by decide
          have zL1 : (s.heap.push { cls := .type "set", dict := none, data := .set #[] 0 (.fresh 0 0 lg) }).IsList l items := ⟨_, zOl2, rfl, zNl, rfl⟩
          unfold Builtin.«set.__init__» noKeywords Builtin.Frozenset.updateFrom
          generalize zPi : pyIter = zP
          wp_walk
          subst zPi
          refine wpAny_pyIter_list zL1 ?_
          refine wpAny_bind (wpAny_runValue ?_)
          have zLs : l < s.heap.objs.size := Heap.lt_size zOl
          have zH3 : A.in1.in1.in1.handled = none := by simp [hh]
          have zNi : l ≠ (s.heap.push { cls := .type "set", dict := none, data := .set #[] 0 (.fresh 0 0 lg) }).objs.size := by
            rw [Heap.size_push]; exact Nat.ne_of_lt (Nat.lt_succ_of_lt zLs)
          have zSf : s.heap.objs.size ∉ [(s.heap.push { cls := .type "set", dict := none, data := .set #[] 0 (.fresh 0 0 lg) }).objs.size, l] := by
            rw [Heap.size_push]; simp only [List.mem_cons, List.mem_singleton, List.not_mem_nil, or_false, not_or]
            exact ⟨Nat.ne_of_lt (Nat.lt_succ_self _), Nat.ne_of_gt zLs⟩
          refine fin _ _ rfl _ _ _ _ _ ((Walks.list zH3 _ l zNi items).toS) zSf (fun i v h => h) ⟨⟨_, Heap.get?_push_size _ rfl, rfl, rfl⟩, (zL1.push _)⟩ fun h' tk' nS' hk' => ?_
          show wpAny _ _ _ _ _ _
          refine wpAny_pure ?_
          show wpAny _ _ (ret Value.none) _ _ _
          exact wpAny_pure ⟨rfl, h', tk', rfl, nS', hk'⟩
        · obtain ⟨wl, zOl, zCl, zNl, zDl⟩ := hl
          obtain ⟨oo1, oo2, oo3, oo4⟩ := wl
          simp only at zCl zDl
          subst zCl; subst zDl
          have zOl2 : (s.heap.push { cls := .type "set", dict := none, data := .set #[] 0 (.fresh 0 0 lg) }).get? l = some { cls := .type "tuple", dict := oo2, data := .seq items zNl, slots := oo4 } := Heap.get?_push_of_some _ zOl
          have zA1 := PySem.F.sub_tuple_set
          have zA2 := PySem.F.sub_tuple_frozenset
          have zNe : (Value.type "tuple" == Value.type "dict") = false := by decide
          have zL1 : (s.heap.push { cls := .type "set", dict := none, data := .set #[] 0 (.fresh 0 0 lg) }).IsTuple l items := ⟨_, zOl2, rfl, zNl, rfl⟩
          unfold Builtin.«set.__init__» noKeywords Builtin.Frozenset.updateFrom
          generalize zPi : pyIter = zP
          wp_walk
          subst zPi
          refine wpAny_pyIter_tuple zL1 ?_
          refine wpAny_bind (wpAny_runValue ?_)
          have zLs : l < s.heap.objs.size := Heap.lt_size zOl
          have zH3 : A.in1.in1.in1.handled = none := by simp [hh]
          have zNi : l ≠ (s.heap.push { cls := .type "set", dict := none, data := .set #[] 0 (.fresh 0 0 lg) }).objs.size := by
            rw [Heap.size_push]; exact Nat.ne_of_lt (Nat.lt_succ_of_lt zLs)
          have zSf : s.heap.objs.size ∉ [(s.heap.push { cls := .type "set", dict := none, data := .set #[] 0 (.fresh 0 0 lg) }).objs.size, l] := by
            rw [Heap.size_push]; simp only [List.mem_cons, List.mem_singleton, List.not_mem_nil, or_false, not_or]
            exact ⟨Nat.ne_of_lt (Nat.lt_succ_self _), Nat.ne_of_gt zLs⟩
          refine fin _ _ rfl _ _ _ _ _ ((Walks.tuple zH3 _ l zNi items).toS) zSf (fun i v h => h) ⟨⟨_, Heap.get?_push_size _ rfl, rfl, rfl⟩, (zL1.push _)⟩ fun h' tk' nS' hk' => ?_
          show wpAny _ _ _ _ _ _
          refine wpAny_pure ?_
          show wpAny _ _ (ret Value.none) _ _ _
          exact wpAny_pure ⟨rfl, h', tk', rfl, nS', hk'⟩
      · cases r₂ with
        | error e => exact hr₂
        | ok fl₂ =>
          cases fl₂ with
          | ret r =>
            obtain ⟨rfl, h', tk, rfl, nS', hk'⟩ := hr₂
            repeat any_goals first | assumption | wp_step
            exact h _ _ nS' hk'
          | _ => exact hr₂.elim
    | _ => exact hr.elim
end
end DzS

namespace Dz
open PySem PySem.Spec PyProof.Rows L2 GxR
section
variable {T : List Addr} {X : Cx} {ρ : List Slot} {O O1 O2 O3 : OH} {e a b c : Expr} {es rest : List Expr} {pos p0 : Pos} {d x y z : D} {s : Slot} {ss : List Slot} {ds ds' : List D}

/-- a built-in function's rule over data -/
def BOp (T : List Addr) (X : Cx) (r : List V → Hp → VK → Prop) (O : OH) (ss : List Slot) (d : D) : Prop := ∀ (vs : List V) (B H : Hp), At T X.K B O H → Args X.K B vs ss → ∀ Q : VK, (∀ u B' H', Post T X.K B O H B' O H' → Rp X.K B' u d → Q u H') → r vs H Q
theorem de_B {id : String} {n : Str} {r : List V → Hp → VK → Prop} (hc : CallR X (.builtin id) r) (ha : DA T X (e :: es) ρ O ss O1) (hr : BOp T X r O1 ss d) (hm : X.mg n = none) (hv : bootBuiltins n = some (.builtin id)) (hg : Gl X n := by rfl) (hn : n ≠ "__name__" := by decide) (hdb : (n == ("__debug__" : Str)) = false := by decide)
    (he : starEach (e :: es) X.env = (false, eval e X.env) :: starEach es X.env := by rfl) (hpl : (backTo pos (starEach es X.env)).any (·.1) = false := by rfl) : DE T X (.Call (.Name n p0) (e :: es) [] pos) ρ O d O1 :=
  de_of (pe_callB hc hg hm hv pa_wa hn hdb he hpl) fun σ B H hE hA Q q => ha σ B H hE hA _ fun vs B1 H1 p1 r1 => hr vs B1 H1 p1.at' r1 _ fun u B2 H2 p2 r2 => q u B2 H2 (p1.trans p2) r2
theorem de_Ty {id : String} {n : Str} {r : List V → Hp → VK → Prop} (hc : CallR X (.type id) r) (ha : DA T X (e :: es) ρ O ss O1) (hr : BOp T X r O1 ss d) (hm : X.mg n = none) (hv : bootBuiltins n = some (.type id)) (hg : Gl X n := by rfl) (hn : n ≠ "__name__" := by decide) (hdb : (n == ("__debug__" : Str)) = false := by decide)
    (he : starEach (e :: es) X.env = (false, eval e X.env) :: starEach es X.env := by rfl) (hpl : (backTo pos (starEach es X.env)).any (·.1) = false := by rfl) : DE T X (.Call (.Name n p0) (e :: es) [] pos) ρ O d O1 :=
  de_of (pe_callTy hc hg hm hv pa_wa hn hdb he hpl) fun σ B H hE hA Q q => ha σ B H hE hA _ fun vs B1 H1 p1 r1 => hr vs B1 H1 p1.at' r1 _ fun u B2 H2 p2 r2 => q u B2 H2 (p1.trans p2) r2
theorem args1 {K : PySem.W.Frag} {B : Hp} {vs : List V} {s : Slot} (h : Args K B vs [s]) : ∃ v, vs = [v] ∧ SlotOk K B (some v) s := by
  cases h with
  | cons h r =>
    cases r
    exact ⟨_, rfl, h⟩

/-! ### len, int, abs -/
abbrev LenR (X : Cx) : List V → Hp → VK → Prop := fun xs H Q => ∃ p ys, xs = [.ref p] ∧ (SqL X.K H p ys ∨ SqT X.K H p ys) ∧ Q (.int ys.length) H
theorem bop_lenL : BOp T X (LenR X) O [.dat (.lst ds)] (.int ds.length) := fun vs B H hA hv Q q => by
  obtain ⟨v, rfl, r⟩ := args1 hv
  cases (show Rp X.K B v (.lst ds) from r) with
  | lst h r => exact ⟨_, _, rfl, .inl (SqL.of (hA.base _ _ h)), by rw [r.length]; exact q _ B H (Post.refl hA) (.int _)⟩
theorem bop_lenK : BOp T X (LenR X) O [.dat (.kst ds)] (.int ds.length) := fun vs B H hA hv Q q => by
  obtain ⟨v, rfl, r⟩ := args1 hv
  cases (show Rp X.K B v (.kst ds) from r) with
  | kst h r => exact ⟨_, _, rfl, .inl (hA.base.seq h), by rw [r.length]; exact q _ B H (Post.refl hA) (.int _)⟩
theorem bop_lenT : BOp T X (LenR X) O [.dat (.tup ds)] (.int ds.length) := fun vs B H hA hv Q q => by
  obtain ⟨v, rfl, r⟩ := args1 hv
  cases (show Rp X.K B v (.tup ds) from r) with
  | tup h r => exact ⟨_, _, rfl, .inr (same_t hA.base h), by rw [r.length]; exact q _ B H (Post.refl hA) (.int _)⟩
theorem bop_lenO {p : Addr} (ho : O p = some (.lst ss)) : BOp T X (LenR X) O [.val (.ref p)] (.int ss.length) := fun vs B H hA hv Q q => by
  obtain ⟨v, rfl, r⟩ := args1 hv
  have ev : v = .ref p := r
  subst ev
  obtain ⟨_, u, hu, ok⟩ := hA.own p _ ho
  cases u <;> try exact ok.elim
  exact ⟨_, _, rfl, .inl (SqL.of hu), by rw [Args.length ok]; exact q _ B H (Post.refl hA) (.int _)⟩
section
variable (hm : X.mg "len" = none)
include hm
theorem de_lenL (ha : DE T X e ρ O (.lst ds) O1) (hg : Gl X "len" := by rfl) (he : starEach [e] X.env = (false, eval e X.env) :: starEach [] X.env := by rfl) : DE T X (.Call (.Name "len" p0) [e] [] pos) ρ O (.int ds.length) O1 := de_B call_len_seq (da_one ha.dv he) bop_lenL hm boot_len hg (by decide) (by decide) he
theorem de_lenK (ha : DE T X e ρ O (.kst ds) O1) (hg : Gl X "len" := by rfl) (he : starEach [e] X.env = (false, eval e X.env) :: starEach [] X.env := by rfl) : DE T X (.Call (.Name "len" p0) [e] [] pos) ρ O (.int ds.length) O1 := de_B call_len_seq (da_one ha.dv he) bop_lenK hm boot_len hg (by decide) (by decide) he
theorem de_lenT (ha : DE T X e ρ O (.tup ds) O1) (hg : Gl X "len" := by rfl) (he : starEach [e] X.env = (false, eval e X.env) :: starEach [] X.env := by rfl) : DE T X (.Call (.Name "len" p0) [e] [] pos) ρ O (.int ds.length) O1 := de_B call_len_seq (da_one ha.dv he) bop_lenT hm boot_len hg (by decide) (by decide) he
theorem de_lenO {p : Addr} (ha : DV T X e ρ O (.val (.ref p)) O1) (ho : O1 p = some (.lst ss)) (hg : Gl X "len" := by rfl) (he : starEach [e] X.env = (false, eval e X.env) :: starEach [] X.env := by rfl) : DE T X (.Call (.Name "len" p0) [e] [] pos) ρ O (.int ss.length) O1 := de_B call_len_seq (da_one ha he) (bop_lenO ho) hm boot_len hg (by decide) (by decide) he
end
theorem de_intI {i : Int} (hm : X.mg "int" = none) (ha : DE T X e ρ O (.int i) O1) (hg : Gl X "int" := by rfl) (he : starEach [e] X.env = (false, eval e X.env) :: starEach [] X.env := by rfl) : DE T X (.Call (.Name "int" p0) [e] [] pos) ρ O (.int i) O1 :=
  de_Ty call_int1 (da_one ha.dv he) (fun vs B H hA hv Q q => by
    obtain ⟨v, rfl, r⟩ := args1 hv
    cases (show Rp X.K B v (.int i) from r)
    exact .inl ⟨i, rfl, q _ B H (Post.refl hA) (.int i)⟩) hm boot_int hg (by decide) (by decide) he
theorem de_intB {k : Bool} (hm : X.mg "int" = none) (ha : DE T X e ρ O (.bl k) O1) (hg : Gl X "int" := by rfl) (he : starEach [e] X.env = (false, eval e X.env) :: starEach [] X.env := by rfl) : DE T X (.Call (.Name "int" p0) [e] [] pos) ρ O (.int (if k then 1 else 0)) O1 :=
  de_Ty call_int1 (da_one ha.dv he) (fun vs B H hA hv Q q => by
    obtain ⟨v, rfl, r⟩ := args1 hv
    cases (show Rp X.K B v (.bl k) from r)
    exact .inr ⟨k, rfl, q _ B H (Post.refl hA) (.int _)⟩) hm boot_int hg (by decide) (by decide) he
theorem de_abs {i : Int} (hm : X.mg "abs" = none) (ha : DE T X e ρ O (.int i) O1) (hg : Gl X "abs" := by rfl) (he : starEach [e] X.env = (false, eval e X.env) :: starEach [] X.env := by rfl) : DE T X (.Call (.Name "abs" p0) [e] [] pos) ρ O (.int (if i < 0 then -i else i)) O1 :=
  de_B call_abs (da_one ha.dv he) (fun vs B H hA hv Q q => by
    obtain ⟨v, rfl, r⟩ := args1 hv
    cases (show Rp X.K B v (.int i) from r)
    exact ⟨i, rfl, q _ B H (Post.refl hA) (.int _)⟩) hm boot_abs hg (by decide) (by decide) he

/-! ### list(x), tuple(x), sorted(x) -/
theorem de_listL (hm : X.mg "list" = none) (ha : DE T X e ρ O (.lst ds) O1) (hg : Gl X "list" := by rfl) (he : starEach [e] X.env = (false, eval e X.env) :: starEach [] X.env := by rfl) : DE T X (.Call (.Name "list" p0) [e] [] pos) ρ O (.lst ds) O1 :=
  de_Ty call_list_of (da_one ha.dv he) (fun vs B H hA hv Q q => by
    obtain ⟨v, rfl, r⟩ := args1 hv
    cases (show Rp X.K B v (.lst ds) from r) with
    | lst h r => exact ⟨_, _, rfl, .inl (SqL.of (hA.base _ _ h)), fun l hl => q _ _ _ (Post.made (o := .lst _) hA hl) (.lst upd_same (r.mono (Post.made (o := .lst _) hA hl).bb))⟩) hm boot_list hg (by decide) (by decide) he
theorem de_listT (hm : X.mg "list" = none) (ha : DE T X e ρ O (.tup ds) O1) (hg : Gl X "list" := by rfl) (he : starEach [e] X.env = (false, eval e X.env) :: starEach [] X.env := by rfl) : DE T X (.Call (.Name "list" p0) [e] [] pos) ρ O (.lst ds) O1 :=
  de_Ty call_list_of (da_one ha.dv he) (fun vs B H hA hv Q q => by
    obtain ⟨v, rfl, r⟩ := args1 hv
    cases (show Rp X.K B v (.tup ds) from r) with
    | tup h r => exact ⟨_, _, rfl, .inr (same_t hA.base h), fun l hl => q _ _ _ (Post.made (o := .lst _) hA hl) (.lst upd_same (r.mono (Post.made (o := .lst _) hA hl).bb))⟩) hm boot_list hg (by decide) (by decide) he
theorem de_tupleL (hm : X.mg "tuple" = none) (ha : DE T X e ρ O (.lst ds) O1) (hg : Gl X "tuple" := by rfl) (he : starEach [e] X.env = (false, eval e X.env) :: starEach [] X.env := by rfl) : DE T X (.Call (.Name "tuple" p0) [e] [] pos) ρ O (.tup ds) O1 :=
  de_Ty call_tuple_of (da_one ha.dv he) (fun vs B H hA hv Q q => by
    obtain ⟨v, rfl, r⟩ := args1 hv
    cases (show Rp X.K B v (.lst ds) from r) with
    | lst h r => exact ⟨_, _, rfl, .inl ⟨SqL.of (hA.base _ _ h), fun l hl => q _ _ _ (Post.made (o := .tup _) hA hl) (.tup (SqT.of upd_same) (r.mono (Post.made (o := .tup _) hA hl).bb))⟩⟩) hm boot_tuple hg (by decide) (by decide) he
theorem de_tupleT (hm : X.mg "tuple" = none) (ha : DE T X e ρ O (.tup ds) O1) (hg : Gl X "tuple" := by rfl) (he : starEach [e] X.env = (false, eval e X.env) :: starEach [] X.env := by rfl) : DE T X (.Call (.Name "tuple" p0) [e] [] pos) ρ O (.tup ds) O1 :=
  de_Ty call_tuple_of (da_one ha.dv he) (fun vs B H hA hv Q q => by
    obtain ⟨v, rfl, r⟩ := args1 hv
    cases (show Rp X.K B v (.tup ds) from r) with
    | tup h r => exact ⟨_, _, rfl, .inr ⟨same_t hA.base h, q _ B H (Post.refl hA) (.tup h r)⟩⟩) hm boot_tuple hg (by decide) (by decide) he
/-- ints in order -/
def srt (ns : List Int) : List Int := ns.mergeSort fun a b => decide (a ≤ b)
theorem srt_eq {ns ns' : List Int} (hp : ns'.Perm ns) (hs : ns'.Pairwise (· ≤ ·)) : ns' = srt ns := by
  refine List.Perm.eq_of_pairwise (le := fun a b : Int => a ≤ b) (fun a b _ _ h1 h2 => Int.le_antisymm h1 h2) hs ?_ (hp.trans (List.mergeSort_perm ns _).symm)
  have h := List.pairwise_mergeSort (le := fun a b : Int => decide (a ≤ b)) (fun a b c h1 h2 => decide_eq_true (Int.le_trans (of_decide_eq_true h1) (of_decide_eq_true h2))) (fun a b => by
    rcases Int.le_total a b with h | h
    · rw [decide_eq_true h]; rfl
    · rw [decide_eq_true h, Bool.or_true]) ns
  exact h.imp fun h => of_decide_eq_true h
theorem rp_ints {K : PySem.W.Frag} {B : Hp} : ∀ {vs : List V} {ns : List Int}, RpAll K B vs (ns.map .int) → vs = ns.map V.int
  | _, [], .nil => rfl
  | _, n :: ns, .cons h r => by
    cases h
    rw [rp_ints r]
    rfl
theorem rp_strs {K : PySem.W.Frag} {B : Hp} : ∀ {vs : List V} {ns : List Str}, RpAll K B vs (ns.map .str) → vs = ns.map V.str
  | _, [], .nil => rfl
  | _, n :: ns, .cons h r => by
    cases h
    rw [rp_strs r]
    rfl
theorem ints_rp {K : PySem.W.Frag} {B : Hp} (ns : List Int) : RpAll K B (ns.map V.int) (ns.map .int) := RpAll.map (fun i => .int i) ns
theorem de_sorted {ns : List Int} (hm : X.mg "sorted" = none) (ha : DE T X e ρ O (.lst (ns.map .int)) O1) (hv : bootBuiltins "sorted" = some (.builtin "sorted") := by decide +kernel) (hg : Gl X "sorted" := by rfl) (he : starEach [e] X.env = (false, eval e X.env) :: starEach [] X.env := by rfl) : DE T X (.Call (.Name "sorted" p0) [e] [] pos) ρ O (.lst ((srt ns).map .int)) O1 :=
  de_B cr_sortedI (da_one ha.dv he) (fun vs B H hA hv Q q => by
    obtain ⟨v, rfl, r⟩ := args1 hv
    cases (show Rp X.K B v (.lst (ns.map .int)) from r) with
    | lst h r =>
      have e := rp_ints r
      subst e
      refine ⟨_, ns, rfl, SqL.of (hA.base _ _ h), fun ns' l hp hs hl => ?_⟩
      have e := srt_eq hp hs
      subst e
      exact q _ _ _ (Post.made (o := .lst _) hA hl) (.lst upd_same (ints_rp _))) hm hv hg (by decide) (by decide) he

/-! ### isinstance -/
/-- the type of a data, told as the library does -/
inductive DTy : D → String → Prop
  | non : DTy .non "NoneType"
  | bl (b : Bool) : DTy (.bl b) "bool"
  | int (i : Int) : DTy (.int i) "int"
  | str (x : Str) : DTy (.str x) "str"
  | lst (ds : List D) : DTy (.lst ds) "list"
  | tup (ds : List D) : DTy (.tup ds) "tuple"
  | dic (kd : List (Key × D)) : DTy (.dic kd) "dict"
theorem Rp.tyX {K : PySem.W.Frag} {B H : Hp} {v : V} {d : D} {t : String} (e : Same B H) (r : Rp K B v d) (h : DTy d t) : TyX K H v (.type t) := by
  cases h with
  | non => cases r; exact .base .non
  | bl b => cases r; exact .base (.bl b)
  | int i => cases r; exact .base (.int i)
  | str x => cases r; exact .base (.str x)
  | lst ds => cases r with
    | lst h _ => exact .base (.lst (e _ _ h))
  | tup ds => cases r with
    | tup h _ =>
      rcases h with (h | ⟨o, h⟩) | ⟨o, its, n, h1, h2, _⟩
      · exact .base (.tup (e _ _ h))
      · exact .fTuple (e _ _ h)
      · exact .kTuple h1 h2
  | dic kd => cases r with
    | dic h _ => exact .base (.dK (e _ _ h))
theorem de_isi {t u : String} {n : Str} {k : Bool} {p1 : Pos} (hm : X.mg "isinstance" = none) (hm2 : X.mg n = none) (hu : bootBuiltins n = some (.type u)) (ha : DE T X e ρ O d O1) (ht : DTy d t) (hk : kitB t u = some k) (hv : bootBuiltins "isinstance" = some (.builtin "isinstance") := by decide +kernel) (hg : Gl X "isinstance" := by rfl) (hg2 : Gl X n := by rfl) (hn : n ≠ "__name__" := by decide) (hdb : (n == ("__debug__" : Str)) = false := by decide)
    (he : starEach [e, .Name n p1] X.env = (false, eval e X.env) :: starEach [.Name n p1] X.env := by rfl) (he2 : starEach [.Name n p1] X.env = (false, eval (.Name n p1) X.env) :: starEach [] X.env := by rfl) (hpl : (backTo pos (starEach [.Name n p1] X.env)).any (·.1) = false := by rfl) :
    DE T X (.Call (.Name "isinstance" p0) [e, .Name n p1] [] pos) ρ O (.bl k) O1 :=
  de_of (pe_callB call_isi hg hm hv (pa_cons pe_we (pa_cons (pe_bltn hg2 hm2 hu (show RelV (.ty u) (.type u) from rfl) hn hdb) pa_nil he2) he) (by decide) (by decide) he hpl) fun σ B H hE hA Q q => ha σ B H hE hA _ fun v B1 H1 p1 r1 =>
    ⟨v, .ty u, .type t, .type u, k, rfl, .ty u, r1.tyX p1.at'.base ht, kit_ty hk, q _ B1 H1 p1 (.bl k)⟩
/-- isinstance(x, (T, U)) -/
theorem de_isi2 {t u u' : String} {n n' : Str} {k : Bool} {p1 p2 p3 : Pos} {x1} (hm : X.mg "isinstance" = none) (hm2 : X.mg n = none) (hu : bootBuiltins n = some (.type u)) (hm3 : X.mg n' = none) (hu3 : bootBuiltins n' = some (.type u')) (ha : DE T X e ρ O d O1) (ht : DTy d t) {k1 k2 : Bool} (hk : kitB t u = some k1) (hk2 : kitB t u' = some k2) (hkk : (k1 || k2) = k)
    (hv : bootBuiltins "isinstance" = some (.builtin "isinstance") := by decide +kernel) (hg : Gl X "isinstance" := by rfl) (hg2 : Gl X n := by rfl) (hg3 : Gl X n' := by rfl) (hn : n ≠ "__name__" := by decide) (hdb : (n == ("__debug__" : Str)) = false := by decide) (hn3 : n' ≠ "__name__" := by decide) (hdb3 : (n' == ("__debug__" : Str)) = false := by decide)
    (he : starEach [e, .Tuple [.Name n p1, .Name n' p2] x1 p3] X.env = (false, eval e X.env) :: starEach [.Tuple [.Name n p1, .Name n' p2] x1 p3] X.env := by rfl) (he2 : starEach [.Tuple [.Name n p1, .Name n' p2] x1 p3] X.env = (false, eval (.Tuple [.Name n p1, .Name n' p2] x1 p3) X.env) :: starEach [] X.env := by rfl) (hpl : (backTo pos (starEach [.Tuple [.Name n p1, .Name n' p2] x1 p3] X.env)).any (·.1) = false := by rfl)
    (he3 : starEach [.Name n p1, .Name n' p2] X.env = (false, eval (.Name n p1) X.env) :: starEach [.Name n' p2] X.env := by rfl) (he4 : starEach [.Name n' p2] X.env = (false, eval (.Name n' p2) X.env) :: starEach [] X.env := by rfl) :
    DE T X (.Call (.Name "isinstance" p0) [e, .Tuple [.Name n p1, .Name n' p2] x1 p3] [] pos) ρ O (.bl k) O1 :=
  de_of (pe_callB call_isiT hg hm hv (pa_cons pe_we (pa_cons (pe_tup (pa_cons (pe_bltn hg2 hm2 hu (show RelV (.ty u) (.type u) from rfl) hn hdb) (pa_cons (pe_bltn hg3 hm3 hu3 (show RelV (.ty u') (.type u') from rfl) hn3 hdb3) pa_nil he4) he3)) pa_nil he2) he) (by decide) (by decide) he hpl) fun σ B H hE hA Q q => ha σ B H hE hA _ fun v B1 H1 p1 r1 => by
    refine ⟨(by show 2 ≤ sizeLine; decide), fun p hp => ?_⟩
    have po := Post.laid (o := .tup [.ty u, .ty u']) p1.at' hp
    refine ⟨v, p, _, .type t, [.type u, .type u'], k, rfl, upd_same, .cons (.ty u) (.cons (.ty u') .nil), r1.tyX po.at'.base ht, ?_, q _ B1 _ (p1.trans po) (.bl k)⟩
    subst hkk
    exact kitAny_cons (kit_ty hk) (fun z => by subst z; exact kitAny_cons (kit_ty hk2) (fun z => by subst z; exact kitAny_nil) (fun z => by subst z; rfl)) (fun z => by subst z; rfl)

/-! ### list + list, list * int, tuple + tuple, x[::-1] -/
theorem de_catL (ha : DE T X a ρ O (.lst ds) O1) (hb : DE T X b ρ O1 (.lst ds') O2) (hl : ds.length + ds'.length ≤ 100000) : DE T X (.BinOp a .Add b pos) ρ O (.lst (ds ++ ds')) O2 :=
  de_op op_cat ha hb fun v w B H hA rv rw' Q q => by
    cases rv with
    | lst h r =>
      cases rw' with
      | lst h' r' =>
        refine ⟨_, _, _, _, rfl, rfl, hA.base _ _ h, hA.base _ _ h', by rw [r.length, r'.length]; exact Nat.le_trans hl (by decide), fun p hp => ?_⟩
        exact q _ _ _ (Post.made (o := .lst _) hA hp) (.lst upd_same ((r.append r').mono (Post.made (o := .lst _) hA hp).bb))
theorem de_catT (ha : DE T X a ρ O (.tup ds) O1) (hb : DE T X b ρ O1 (.tup ds') O2) (h0 : ds ≠ []) (hl : ds.length + ds'.length ≤ 100000) : DE T X (.BinOp a .Add b pos) ρ O (.tup (ds ++ ds')) O2 :=
  de_op op_catT ha hb fun v w B H hA rv rw' Q q => by
    cases rv with
    | tup h r =>
      cases rw' with
      | tup h' r' =>
        refine ⟨_, _, _, _, rfl, rfl, same_t hA.base h, same_t hA.base h', fun z => h0 ?_, by rw [r.length, r'.length]; exact Nat.le_trans hl (by decide), fun z => ?_, fun z p hp => ?_⟩
        · subst z
          cases r
          rfl
        · subst z
          cases r'
          rw [List.append_nil] at q
          exact q _ B H (Post.refl hA) (.tup h r)
        · exact q _ _ _ (Post.made (o := .tup _) hA hp) (.tup (SqT.of upd_same) ((r.append r').mono (Post.made (o := .tup _) hA hp).bb))
/-- n times -/
def timesD (n : Nat) (ds : List D) : List D := (List.replicate n ds).flatten
theorem rp_times {K : PySem.W.Frag} {B : Hp} {vs : List V} {ds : List D} (r : RpAll K B vs ds) : ∀ n : Nat, RpAll K B (List.replicate n vs).flatten (timesD n ds)
  | 0 => .nil
  | n + 1 => by
    unfold timesD
    rw [List.replicate_succ, List.replicate_succ, List.flatten_cons, List.flatten_cons]
    exact r.append (rp_times r n)
theorem de_rep {k : Int} (ha : DE T X a ρ O (.lst ds) O1) (hb : DE T X b ρ O1 (.int k) O2) (hk : k ≤ 100000) (hk0 : 0 ≤ k) (hl : ds.length * k.toNat ≤ 100000) : DE T X (.BinOp a .Mult b pos) ρ O (.lst (timesD k.toNat ds)) O2 :=
  de_op op_rep ha hb fun v w B H hA rv rw' Q q => by
    cases rv with
    | lst h r =>
      cases rw'
      refine ⟨_, k, _, rfl, rfl, hA.base _ _ h, by omega, by omega, by rw [r.length]; exact Nat.le_trans hl (by decide), fun p hp => ?_⟩
      exact q _ _ _ (Post.made (o := .lst _) hA hp) (.lst upd_same ((rp_times r _).mono (Post.made (o := .lst _) hA hp).bb))
theorem de_rev {k : Nat} {p1 p2 p3 : Pos} (ha : DE T X e ρ O (.lst ds) O1) : DE T X (.Subscript e (.Slice none none (some (.UnaryOp .USub (.Constant (.int 1) k p1) p2)) p3) pos) ρ O (.lst ds.reverse) O1 :=
  de_of (pe_revL pe_we) fun σ B H hE hA Q q => ha σ B H hE hA _ fun v B1 H1 p1 r1 => by
    cases r1 with
    | lst h r => exact ⟨_, _, rfl, SqL.of (p1.at'.base _ _ h), fun p hp => q _ _ _ (p1.trans (Post.made (o := .lst _) p1.at' hp)) (.lst upd_same (r.reverse.mono (Post.made (o := .lst _) p1.at' hp).bb))⟩

end

/-! ### len(set(x)) -/
/-- how many a set of these would have -/
inductive SetLen : List V → Nat → Prop
  | int (ns : List Int) : SetLen (ns.map V.int) (DzS.dd ns).length
  | str (ns : List Str) : SetLen (ns.map V.str) (DzS.dd ns).length
def tLenSetG (K : PySem.W.Frag) (ta : TE) : TE := fun σ H Q => ta σ H fun x H1 => ∃ (l : Addr) (xs : List V) (n : Nat), x = .ref l ∧ (SqL K H1 l xs ∨ SqT K H1 l xs) ∧ SetLen xs n ∧ xs.length ≤ 4000 ∧ Q (.int (n : Nat)) H1
theorem pe_lenSetG {X : Cx} {a : Expr} {ta : TE} {p p2 q pos : Pos} (hg : Gl X "len") (hm : X.mg "len" = none) (hg2 : Gl X "set") (hm2 : X.mg "set" = none) (ha : PE X a ta) (hc : X.calm = true := by rfl)
    (na : starEach [a] X.env = (false, eval a X.env) :: starEach [] X.env := by rfl) : PE X (.Call (.Name "len" p) [.Call (.Name "set" p2) [a] [] q] [] pos) (tLenSetG X.K ta) := by
  refine ⟨fun pins s σ H Q I h => ?_⟩
  refine Call_ (ld_blt I hg hm boot_len ?_)
  refine PyProof.Rows.callWith_builtin1 (PyProof.Rows.args_cons ?_ rfl) rfl rfl
  refine Call_ (ld_blt I hg2 hm2 boot_set ?_)
  refine PyProof.Rows.callWith_type1 (PyProof.Rows.args_cons (thn (ha.run pins s σ H _ I h) fun v s1 ⟨x, H1, I1, r1, q1⟩ => PyProof.Rows.args_nil ?_) na) na rfl
  obtain ⟨l, xs, n, rfl, hq, hs, hl, q1⟩ := q1
  cases r1
  have any : ∀ (K : Type) (_ : DecidableEq K) (knd : KeyKind X.prog X.w K) (kk : Nat → K) (its : List Value), xs.length = its.length → (s1.heap.IsList l its.toArray ∨ s1.heap.IsTuple l its.toArray) → (DzS.gm kk its.length).length = n →
      (∀ (i : Nat) (v : Value), its[i]? = some v → knd.is (kk i) v = true ∧ v.scannable = true) →
      wpAny (model X.prog X.w) X.A (call (.type "set") [.ref l]) (fun v s₂ => wpAny (model X.prog X.w) X.A (spliced (backTo pos (starEach [] X.env))) (fun vs s₂ => wpAny (model X.prog X.w) X.A (call (.builtin "len") (v :: vs)) (EP X pins σ Q) X.xe s₂) X.xe s₂) X.xe s1 := by
    intro K _ knd kk its e1 hil en hk
    have hlen : its.toArray.size = its.length := List.size_toArray
    refine DzS.call_set_seqG (knd := knd) (kk := kk) (I1.ok.hd hc) hil (fun i v hv => hk i v (by simpa using hv)) (by rw [hlen, ← e1]; unfold scanBound; omega) fun h' tk hS hk' => ?_
    refine PyProof.Rows.args_nil ?_
    rw [hlen, en] at hS
    obtain ⟨o, es, ep, t, ho, hex, hd, _, _, hb, hf, hn⟩ := hS
    have I2 : Inv X pins σ H1 { s1 with heap := h', toks := tk } := I1.kept fun b o e => hk' b o (Heap.lt_size e) e
    have hn2 : n ≤ its.length := by rw [← en]; exact DzS.gm_len kk _
    exact call_len_set ho hex hd hf (by rw [hn] <;> omega) ⟨.int n, H1, I2.tok _, ⟨_, by rw [hn]⟩, q1⟩
  have both : ∃ its : List Value, Vals xs its ∧ (s1.heap.IsList l its.toArray ∨ s1.heap.IsTuple l its.toArray) := by
    rcases hq with hq | hq
    · obtain ⟨its, r, pl, hz⟩ := I1.list hq
      exact ⟨its, r, .inl pl.isList⟩
    · obtain ⟨its, r, pl, hz⟩ := I1.tuple hq
      exact ⟨its, r, .inr pl⟩
  obtain ⟨its, r, hil⟩ := both
  cases hs with
  | int ns =>
    have e1 : (ns.map V.int).length = its.length := r.length
    have e2 : ns.length = its.length := by rw [← e1, List.length_map]
    refine any Int _ (PySem.intKind X.prog X.w) (fun i => ns.getD i 0) its e1 hil (by rw [← e2, DzS.gm_dd _ _ _ (Nat.le_refl _), List.take_length]) fun i v hv => ?_
    obtain ⟨t, rfl⟩ := PyProof.Rows.IntsAre.int_at (RZ.intsAre_vals r) i v hv
    exact ⟨intKind_is _ _ _ _, rfl⟩
  | str ns =>
    have e1 : (ns.map V.str).length = its.length := r.length
    have e2 : ns.length = its.length := by rw [← e1, List.length_map]
    refine any Str _ (PySem.strKind X.prog X.w) (fun i => ns.getD i Str.empty) its e1 hil (by rw [← e2, DzS.gm_dd _ _ _ (Nat.le_refl _), List.take_length]) fun i v hv => ?_
    obtain ⟨t, rfl⟩ := SS.strs_at (strsAre_of r) i v hv
    exact ⟨strKind_is _ _ _ _, rfl⟩
section
variable {T : List Addr} {X : Cx} {ρ : List Slot} {O O1 O2 O3 : OH} {e : Expr} {p p2 q pos : Pos} {ds : List D}
/-- .. over data -/
inductive SetLenD : List D → Nat → Prop
  | int (ns : List Int) : SetLenD (ns.map .int) (DzS.dd ns).length
  | str (ns : List Str) : SetLenD (ns.map .str) (DzS.dd ns).length
theorem SetLenD.v {K : PySem.W.Frag} {B : Hp} {vs : List V} {ds : List D} {n : Nat} (h : SetLenD ds n) (r : RpAll K B vs ds) : SetLen vs n := by
  cases h with
  | int ns => rw [rp_ints r]; exact .int ns
  | str ns => rw [rp_strs r]; exact .str ns
theorem de_lenSetL {n : Nat} (hm : X.mg "len" = none) (hm2 : X.mg "set" = none) (ha : DE T X e ρ O (.lst ds) O1) (hs : SetLenD ds n) (hl : ds.length ≤ 4000) (hg : Gl X "len" := by rfl) (hg2 : Gl X "set" := by rfl) (hc : X.calm = true := by rfl) (na : starEach [e] X.env = (false, eval e X.env) :: starEach [] X.env := by rfl) :
    DE T X (.Call (.Name "len" p) [.Call (.Name "set" p2) [e] [] q] [] pos) ρ O (.int n) O1 :=
  de_of (pe_lenSetG hg hm hg2 hm2 pe_we hc na) fun σ B H hE hA Q k => ha σ B H hE hA _ fun v B1 H1 p1 r1 => by
    cases r1 with
    | lst h r => exact ⟨_, _, n, rfl, .inl (SqL.of (p1.at'.base _ _ h)), hs.v r, by rw [r.length]; exact hl, k _ B1 H1 p1 (.int _)⟩
theorem de_lenSetT {n : Nat} (hm : X.mg "len" = none) (hm2 : X.mg "set" = none) (ha : DE T X e ρ O (.tup ds) O1) (hs : SetLenD ds n) (hl : ds.length ≤ 4000) (hg : Gl X "len" := by rfl) (hg2 : Gl X "set" := by rfl) (hc : X.calm = true := by rfl) (na : starEach [e] X.env = (false, eval e X.env) :: starEach [] X.env := by rfl) :
    DE T X (.Call (.Name "len" p) [.Call (.Name "set" p2) [e] [] q] [] pos) ρ O (.int n) O1 :=
  de_of (pe_lenSetG hg hm hg2 hm2 pe_we hc na) fun σ B H hE hA Q k => ha σ B H hE hA _ fun v B1 H1 p1 r1 => by
    cases r1 with
    | tup h r => exact ⟨_, _, n, rfl, .inr (same_t p1.at'.base h), hs.v r, by rw [r.length]; exact hl, k _ B1 H1 p1 (.int _)⟩
end
end Dz

namespace Dz
open PySem PySem.Spec PyProof.Rows L2 GxR

/-! ### something new that is not owned yet -/
section
variable {T : List Addr} {K : PySem.W.Frag} {B B1 : Hp} {O O1 : OH} {H H1 : Hp} {a : Addr} {o u : HO}
theorem At.newT (h : At T K B O H) (n : H a = none) : a ∉ T := fun z => by
  obtain ⟨ps, e, _⟩ := h.tabs a z
  rw [e] at n
  cases n
/-- it is written -/
theorem Post.over (hA : At T K B O H) (n : H a = none) (p : Post T K B O H B1 O1 H1) (b1 : B1 a = none) (o1 : O1 a = none) : Post T K B O H B1 O1 (upd H1 a o) where
  at' :=
    { base := fun b u e => by
        have z : b ≠ a := fun z => by
          rw [z, b1] at e
          cases e
        rw [upd_ne z]
        exact p.at'.base b u e
      own := fun b u e => by
        have z : b ≠ a := fun z => by
          rw [z, o1] at e
          cases e
        obtain ⟨e1, v, e2, e3⟩ := p.at'.own b u e
        exact ⟨e1, v, by rw [upd_ne z]; exact e2, e3⟩
      nt := p.at'.nt
      tabs := fun P hP => by
        obtain ⟨ps, e, t⟩ := p.at'.tabs P hP
        have z : P ≠ a := fun z => hA.newT n (by rw [← z]; exact hP)
        exact ⟨ps, by rw [upd_ne z]; exact e, t⟩ }
  bb := p.bb
  new := p.new
  own := p.own
  fr := fun b u e ho ht => by
    rw [upd_ne (ne_of_none e n)]
    exact p.fr b u e ho ht
  dom := fun b hb => upd_dom (p.dom b hb)
/-- it is frozen -/
theorem Post.ice (hA : At T K B O H) (n : H a = none) (p : Post T K B O H B1 O1 H1) (b1 : B1 a = none) (o1 : O1 a = none) (e1 : H1 a = some o) : Post T K B O H (upd B1 a o) O1 H1 where
  at' :=
    { base := fun b u e => by
        by_cases z : b = a
        · subst z
          rw [upd_same] at e
          cases e
          exact e1
        · rw [upd_ne z] at e
          exact p.at'.base b u e
      own := fun b u e => by
        have z : b ≠ a := fun z => by
          rw [z, o1] at e
          cases e
        obtain ⟨q1, v, q2, q3⟩ := p.at'.own b u e
        refine ⟨by rw [upd_ne z]; exact q1, v, q2, q3.mono fun c w q => ?_⟩
        have zc : c ≠ a := fun zc => by
          rw [zc, b1] at q
          cases q
        rw [upd_ne zc]
        exact q
      nt := fun P hP => by
        have z : P ≠ a := fun z => hA.newT n (by rw [← z]; exact hP)
        rw [upd_ne z]
        exact p.at'.nt P hP
      tabs := p.at'.tabs }
  bb := p.bb.trans fun c w q => by
    have zc : c ≠ a := fun zc => by
      rw [zc, b1] at q
      cases q
    rw [upd_ne zc]
    exact q
  new := fun b hb ho => by
    rw [upd_ne (fun z => hb (by rw [z]; exact n))]
    exact p.new b hb ho
  own := p.own
  fr := p.fr
  dom := p.dom
end

/-! ### [e for x in xs if t] -/
/-- the list so far -/
def LcI (T : List Addr) (K : PySem.W.Frag) (B : Hp) (O : OH) (H : Hp) (a : Addr) (I : Nat → List D → OH → Prop) (j : Nat) (H' : Hp) : Prop :=
  ∃ B' O' acc xs, I j acc O' ∧ Post T K B O H B' O' H' ∧ B' a = none ∧ O' a = none ∧ H' a = some (.lst xs) ∧ RpAll K B' xs acc ∧ acc.length ≤ j
section
variable {T : List Addr} {K : PySem.W.Frag} {B : Hp} {O : OH} {H : Hp} {a : Addr} {I : Nat → List D → OH → Prop}
theorem LcI.start (hA : At T K B O H) (n : H a = none) (h : I 0 [] O) : LcI T K B O H a I 0 (upd H a (.lst [])) :=
  ⟨B, O, [], [], h, Post.over hA n (Post.refl hA) (hA.noB n) (hA.noO n), hA.noB n, hA.noO n, upd_same, .nil, Nat.le_refl _⟩
theorem LcI.fin {j : Nat} {H' : Hp} {Q : VK} {out : List D} {Oo : OH} (hA : At T K B O H) (n : H a = none) (h : LcI T K B O H a I j H') (ho : ∀ acc O', I j acc O' → acc = out ∧ O' = Oo)
    (q : ∀ v B' H', Post T K B O H B' Oo H' → Rp K B' v (.lst out) → Q v H') : Q (.ref a) H' := by
  obtain ⟨B', O', acc, xs, h1, h2, h3, h4, h5, h6, _⟩ := h
  obtain ⟨e1, e2⟩ := ho acc O' h1
  subst e1 e2
  have po := Post.ice hA n h2 h3 h4 h5
  exact q (.ref a) _ H' po (.lst upd_same (h6.mono fun c w q => by
    have zc : c ≠ a := fun zc => by
      rw [zc, h3] at q
      cases q
    rw [upd_ne zc]
    exact q))
end
/-- the slots of a block at its start -/
abbrev blkX (X : Cx) (scope : Scope) (s : Shared) (H : Hp) (C : Addr) (cl : List (Str × Addr)) (fp : List Addr) : Cx := X.blk s H scope (compEnvC scope cl C X.env) fp
/-- the judgements hold in the block, wherever it starts -/
def DEb (T : List Addr) (X : Cx) (scope : Scope) (e : Expr) (ρ : List Slot) (O : OH) (d : D) (O' : OH) : Prop := ∀ (s : Shared) (H : Hp) (C : Addr) (cl : List (Str × Addr)) (fp : List Addr), DE T (blkX X scope s H C cl fp) e ρ O d O'
/-- the tests of a comprehension -/
def DIfs (T : List Addr) (X : Cx) (scope : Scope) (ifs : List Expr) (ρ : List Slot) (O : OH) (b : Bool) (O' : OH) : Prop :=
  ∀ (σ : L2.St) (B H : Hp), Env X.K B σ ρ → At T X.K B O H → ∀ Q : Bool → Hp → Prop, (∀ B' H', Post T X.K B O H B' O' H' → Q b H') →
    ∀ (s0 : Shared) (H0 : Hp) (C : Addr) (cl : List (Str × Addr)) (fp : List Addr) (pins : List (Addr × Obj)) (s : Shared), L2.Inv (blkX X scope s0 H0 C cl fp) pins σ H s →
    wpAny (model X.prog X.w) X.A (forIn ifs true fun c r => if r = true then do let ok ← isTrue c (blkX X scope s0 H0 C cl fp).env (eval c (blkX X scope s0 H0 C cl fp).env); pure (ForInStep.yield ok) else pure (ForInStep.yield r)) (TP (blkX X scope s0 H0 C cl fp) pins σ Q) (fun _ _ => False) s
section
variable {T : List Addr} {X : Cx} {scope : Scope} {ρ : List Slot} {O O1 O2 : OH} {c elt iter : Expr} {ifs : List Expr} {b : Bool} {d : D}
theorem difs_nil : DIfs T X scope [] ρ O true O := fun σ B H hE hA Q q s0 H0 C cl fp pins s I => pts_nil.run pins s σ H Q I (q B H (Post.refl hA))
theorem difs_one (h : ∀ (s : Shared) (H : Hp) (C : Addr) (cl : List (Str × Addr)) (fp : List Addr), DT T (blkX X scope s H C cl fp) c ρ O b O1) : DIfs T X scope [c] ρ O b O1 := fun σ B H hE hA Q q s0 H0 C cl fp pins s I =>
  (pts_one pt_wt).run pins s σ H Q I (h s0 H0 C cl fp σ B H hE hA Q q)
/-- the readings of the parts, in every block -/
def TTb (X : Cx) (scope : Scope) (ifs : List Expr) : TT := fun σ H Q => ∀ (s0 : Shared) (H0 : Hp) (C : Addr) (cl : List (Str × Addr)) (fp : List Addr) (pins : List (Addr × Obj)) (s : Shared), L2.Inv (blkX X scope s0 H0 C cl fp) pins σ H s →
    wpAny (model X.prog X.w) X.A (forIn ifs true fun c r => if r = true then do let ok ← isTrue c (blkX X scope s0 H0 C cl fp).env (eval c (blkX X scope s0 H0 C cl fp).env); pure (ForInStep.yield ok) else pure (ForInStep.yield r)) (TP (blkX X scope s0 H0 C cl fp) pins σ Q) (fun _ _ => False) s
theorem ptsb (s : Shared) (H : Hp) (C : Addr) (cl : List (Str × Addr)) (fp : List Addr) : PTs (blkX X scope s H C cl fp) ifs (TTb X scope ifs) := ⟨fun pins s' σ H' Q I h => h s H C cl fp pins s' I⟩
def TEb (X : Cx) (scope : Scope) (e : Expr) : TE := fun σ H Q => ∀ (s0 : Shared) (H0 : Hp) (C : Addr) (cl : List (Str × Addr)) (fp : List Addr), WE (blkX X scope s0 H0 C cl fp) e σ H Q
theorem peb {e : Expr} (s : Shared) (H : Hp) (C : Addr) (cl : List (Str × Addr)) (fp : List Addr) : PE (blkX X scope s H C cl fp) e (TEb X scope e) := ⟨fun pins s' σ H' Q I h => h s H C cl fp pins s' I⟩

/-- a turn: the tests, then the element -/
def LcTurn (T : List Addr) (X : Cx) (scope : Scope) (ifs : List Expr) (elt : Expr) (I : Nat → List D → OH → Prop) (j : Nat) (ρ' : List Slot) (acc : List D) (O : OH) : Prop :=
  ∃ b O2, DIfs T X scope ifs ρ' O b O2 ∧ (b = true → ∃ y O3, DEb T X scope elt ρ' O2 y O3 ∧ I (j + 1) (acc ++ [y]) O3) ∧ (b = false → I (j + 1) acc O2)
variable {B H H0 : Hp} {a : Addr} {I : Nat → List D → OH → Prop}
theorem lc_turn {σ : L2.St} {j i : Nat} {v : V} {Hj : Hp} (hA : At T X.K B O H) (n : H a = none) (hj : j < 100000) (hE : Env X.K B σ ρ)
    (hv : ∀ B', Same B B' → Rp X.K B' v d)
    (ht : ∀ acc O', I j acc O' → LcTurn T X scope ifs elt I j (ρ.set i (.dat d)) acc O') (h : LcI T X.K B O H a I j Hj) :
    gName i v (wipe σ [i]) Hj fun σ2 H2 => wipe σ2 [i] = wipe σ [i] ∧ TTb X scope ifs σ2 H2 fun b H3 =>
      if b = true then TEb X scope elt σ2 H3 fun y H4 => ∃ acc, H4 a = some (.lst acc) ∧ acc.length < sizeLine ∧ LcI T X.K B O H a I (j + 1) (upd H4 a (.lst (acc ++ [y]))) else LcI T X.K B O H a I (j + 1) H3 := by
  obtain ⟨B', O', acc, xs, h1, h2, h3, h4, h5, h6, h7⟩ := h
  have e1 : wipe σ [i] = σ.set i none := rfl
  show wipe ((wipe σ [i]).set i (some v)) [i] = wipe σ [i] ∧ _
  have e2 : (wipe σ [i]).set i (some v) = σ.set i (some v) := by rw [e1, List.set_set]
  rw [e2]
  refine ⟨by show (σ.set i (some v)).set i none = σ.set i none; rw [List.set_set], ?_⟩
  have hE' : Env X.K B' (σ.set i (some v)) (ρ.set i (.dat d)) := (hE.mono h2.bb).set (o := some v) (s := .dat d) (hv B' h2.bb) i
  have ha : Hj a ≠ none := by rw [h5]; exact fun z => by cases z
  obtain ⟨b, O2, t1, t2, t3⟩ := ht acc O' h1
  refine t1 _ B' Hj hE' h2.at' _ fun B2 H2 p2 => ?_
  have k1 : B2 a = none := by rw [p2.new a ha h4]; exact h3
  have k2 : O2 a = none := p2.keepO ha h4
  have k3 : H2 a = some (.lst xs) := p2.fr a _ h5 h4 (hA.newT n)
  cases b with
  | false =>
    rw [if_neg (by decide)]
    exact ⟨B2, O2, acc, xs, t3 rfl, h2.trans p2, k1, k2, k3, h6.mono p2.bb, Nat.le_succ_of_le h7⟩
  | true =>
    rw [if_pos rfl]
    obtain ⟨y, O3, t4, t5⟩ := t2 rfl
    intro s0 H0 C cl fp
    refine t4 s0 H0 C cl fp _ B2 H2 (hE'.mono p2.bb) p2.at' _ fun w B3 H3 p3 r3 => ?_
    have ha2 : H2 a ≠ none := by rw [k3]; exact fun z => by cases z
    have m1 : B3 a = none := by rw [p3.new a ha2 k2]; exact k1
    have m2 : O3 a = none := p3.keepO ha2 k2
    have m3 : H3 a = some (.lst xs) := p3.fr a _ k3 k2 (hA.newT n)
    refine ⟨xs, m3, ?_, B3, O3, acc ++ [y], xs ++ [w], t5, Post.over hA n ((h2.trans p2).trans p3) m1 m2, m1, m2, upd_same, ((h6.mono p2.bb).mono p3.bb).append (.cons r3 .nil), ?_⟩
    · rw [h6.length]
      have : (100000 : Nat) ≤ sizeLine := by decide
      omega
    · rw [List.length_append, List.length_singleton]
      omega

variable {np pos : Pos} {ds out : List D} {n : Str} {own : List (Str × Nat)}
theorem de_lcL (i : Nat) (he : DE T X iter ρ O (.lst ds) O1) (I : Nat → List D → OH → Prop) (h0 : I 0 [] O1) (ht : ∀ j d acc O', ds[j]? = some d → I j acc O' → LcTurn T X scope ifs elt I j (ρ.set i (.dat d)) acc O') (hd : ∀ acc O', I ds.length acc O' → acc = out ∧ O' = O2)
    (hl : ds.length ≤ 100000) (hN : X.N.Nodup) (ok : BlkOk X.N X.env.scope scope [(n, i)]) (hi : X.N[i]? = some n := by rfl) (hx : ∀ (s : Shared) (H : Hp) (C : Addr) (cl : List (Str × Addr)) (fp : List Addr), Loc (blkX X scope s H C cl fp).env.scope n := by first | exact fun _ _ _ _ _ => Or.inl rfl | exact fun _ _ _ _ _ => Or.inr rfl)
    (hf : ∀ (s : Shared) (H : Hp) (C : Addr) (cl : List (Str × Addr)) (fp : List Addr), (blkX X scope s H C cl fp).fn n = true ∨ (blkX X scope s H C cl fp).env.scope.names.lookup n = some .local := by first | exact fun _ _ _ _ _ => .inl rfl | exact fun _ _ _ _ _ => .inr rfl) (hc : X.calm = true := by rfl) (hs : ∀ x, foldedSetIterable iter X.env x = pure x := by intro _; rfl) :
    DE T X (.ListComp elt [⟨.Name n np, iter, ifs, 0⟩] scope pos) ρ O (.lst out) O2 :=
  de_of (pe_lc hc hN (pi_list pe_we) ok (fun s H C cl fp => pg_name hN hi (hx s H C cl fp) (hf s H C cl fp)) ptsb peb hs) fun σ B H hE hA Q q => he σ B H hE hA _ fun v B1 H1 p1 r1 => by
    cases r1 with
    | lst hq r =>
      rename_i l xs
      refine ⟨l, rfl, ⟨xs, SqL.of (p1.at'.base _ _ hq)⟩, fun a na => ?_⟩
      have hA1 := p1.at'
      refine lc_list (K := X.K) (xs := xs) (a := l) (fun j H' => LcI T X.K B1 O1 H1 a I j H') (LcI.start hA1 na h0) (fun j H' _ h => ?_) (fun j x H' hj h => ?_) (fun H' h => ?_)
      · obtain ⟨B', _, _, _, _, h2, _⟩ := h
        exact SqL.of (h2.at'.base _ _ (h2.bb _ _ hq))
      · obtain ⟨d, hd1, hd2⟩ := r.getV hj
        have hjl : j < ds.length := by
          rw [← r.length]
          exact (List.getElem?_eq_some_iff.mp hj).1
        exact lc_turn hA1 na (Nat.lt_of_lt_of_le hjl hl) (hE.mono p1.bb) (fun B' sb => hd2.mono sb) (fun acc O' hI => ht j d acc O' hd1 hI) h
      · rw [r.length] at h
        exact LcI.fin hA1 na h hd fun v B2 H2 p2 r2 => q v B2 H2 (p1.trans p2) r2
theorem de_lcT (i : Nat) (he : DE T X iter ρ O (.tup ds) O1) (I : Nat → List D → OH → Prop) (h0 : I 0 [] O1) (ht : ∀ j d acc O', ds[j]? = some d → I j acc O' → LcTurn T X scope ifs elt I j (ρ.set i (.dat d)) acc O') (hd : ∀ acc O', I ds.length acc O' → acc = out ∧ O' = O2)
    (hl : ds.length ≤ 100000) (hN : X.N.Nodup) (ok : BlkOk X.N X.env.scope scope [(n, i)]) (hi : X.N[i]? = some n := by rfl) (hx : ∀ (s : Shared) (H : Hp) (C : Addr) (cl : List (Str × Addr)) (fp : List Addr), Loc (blkX X scope s H C cl fp).env.scope n := by first | exact fun _ _ _ _ _ => Or.inl rfl | exact fun _ _ _ _ _ => Or.inr rfl)
    (hf : ∀ (s : Shared) (H : Hp) (C : Addr) (cl : List (Str × Addr)) (fp : List Addr), (blkX X scope s H C cl fp).fn n = true ∨ (blkX X scope s H C cl fp).env.scope.names.lookup n = some .local := by first | exact fun _ _ _ _ _ => .inl rfl | exact fun _ _ _ _ _ => .inr rfl) (hc : X.calm = true := by rfl) (hs : ∀ x, foldedSetIterable iter X.env x = pure x := by intro _; rfl) :
    DE T X (.ListComp elt [⟨.Name n np, iter, ifs, 0⟩] scope pos) ρ O (.lst out) O2 :=
  de_of (pe_lc hc hN (pi_tup pe_we) ok (fun s H C cl fp => pg_name hN hi (hx s H C cl fp) (hf s H C cl fp)) ptsb peb hs) fun σ B H hE hA Q q => he σ B H hE hA _ fun v B1 H1 p1 r1 => by
    cases r1 with
    | tup hq r =>
      rename_i l xs
      refine ⟨l, rfl, ⟨xs, same_t p1.at'.base hq⟩, fun a na => ?_⟩
      have hA1 := p1.at'
      refine lc_tup (K := X.K) (xs := xs) (a := l) (fun j H' => LcI T X.K B1 O1 H1 a I j H') (LcI.start hA1 na h0) (fun j H' _ h => ?_) (fun j x H' hj h => ?_) (fun H' h => ?_)
      · obtain ⟨B', _, _, _, _, h2, _⟩ := h
        exact same_t h2.at'.base (same_t h2.bb hq)
      · obtain ⟨d, hd1, hd2⟩ := r.getV hj
        have hjl : j < ds.length := by
          rw [← r.length]
          exact (List.getElem?_eq_some_iff.mp hj).1
        exact lc_turn hA1 na (Nat.lt_of_lt_of_le hjl hl) (hE.mono p1.bb) (fun B' sb => hd2.mono sb) (fun acc O' hI => ht j d acc O' hd1 hI) h
      · rw [r.length] at h
        exact LcI.fin hA1 na h hd fun v B2 H2 p2 r2 => q v B2 H2 (p1.trans p2) r2
/-- over range(m) -/
theorem de_lcR (i : Nat) {m : Int} {rp : Pos} {pos' : Pos} {e : Expr} (he : DE T X e ρ O (.int m) O1) (I : Nat → List D → OH → Prop) (h0 : I 0 [] O1) (ht : ∀ (j : Nat) acc O', (j : Int) < m → I j acc O' → LcTurn T X scope ifs elt I j (ρ.set i (.dat (.int (j : Int)))) acc O') (hd : ∀ acc O', I m.toNat acc O' → acc = out ∧ O' = O2)
    (hl : m ≤ 100000) (hl0 : -100000 ≤ m) (hmg : X.mg "range" = none) (hN : X.N.Nodup) (ok : BlkOk X.N X.env.scope scope [(n, i)]) (hg : Gl X "range" := by rfl) (hi : X.N[i]? = some n := by rfl) (hx : ∀ (s : Shared) (H : Hp) (C : Addr) (cl : List (Str × Addr)) (fp : List Addr), Loc (blkX X scope s H C cl fp).env.scope n := by first | exact fun _ _ _ _ _ => Or.inl rfl | exact fun _ _ _ _ _ => Or.inr rfl)
    (hf : ∀ (s : Shared) (H : Hp) (C : Addr) (cl : List (Str × Addr)) (fp : List Addr), (blkX X scope s H C cl fp).fn n = true ∨ (blkX X scope s H C cl fp).env.scope.names.lookup n = some .local := by first | exact fun _ _ _ _ _ => .inl rfl | exact fun _ _ _ _ _ => .inr rfl) (hc : X.calm = true := by rfl) (h1 : starEach [e] X.env = [(false, eval e X.env)] := by rfl) (hs : ∀ x, foldedSetIterable (.Call (.Name "range" rp) [e] [] pos') X.env x = pure x := by intro _; rfl) :
    DE T X (.ListComp elt [⟨.Name n np, .Call (.Name "range" rp) [e] [] pos', ifs, 0⟩] scope pos) ρ O (.lst out) O2 :=
  de_of (pe_lc hc hN (pi_range1 hg hmg (pa_cons pe_we pa_nil h1) h1) ok (fun s H C cl fp => pg_name hN hi (hx s H C cl fp) (hf s H C cl fp)) ptsb peb hs) fun σ B H hE hA Q q => he σ B H hE hA _ fun v B1 H1 p1 r1 => by
    cases r1
    refine ⟨m, rfl, by omega, by omega, fun a na => ?_⟩
    have hA1 := p1.at'
    refine lc_range (fun j H' => LcI T X.K B1 O1 H1 a I j H') (LcI.start hA1 na h0) (fun j H' hj h => ?_) (fun H' h => ?_)
    · have e0 : (0 : Int) + (j : Int) = (j : Int) := Int.zero_add _
      rw [e0]
      exact lc_turn hA1 na (by omega) (hE.mono p1.bb) (fun B' sb => .int _) (fun acc O' hI => ht j acc O' (by omega) hI) h
    · exact LcI.fin hA1 na h hd fun v B2 H2 p2 r2 => q v B2 H2 (p1.trans p2) r2
/-- a list by a function of its items: f none leaves an item out -/
theorem lc_pure {i : Nat} {f : D → Option D} (h : ∀ d ∈ ds, (∃ y, f d = some y ∧ DIfs T X scope ifs (ρ.set i (.dat d)) O true O ∧ DEb T X scope elt (ρ.set i (.dat d)) O y O) ∨ (f d = none ∧ DIfs T X scope ifs (ρ.set i (.dat d)) O false O)) :
    ∀ j d acc O', ds[j]? = some d → (acc = (ds.take j).filterMap f ∧ O' = O) → LcTurn T X scope ifs elt (fun j acc O' => acc = (ds.take j).filterMap f ∧ O' = O) j (ρ.set i (.dat d)) acc O' := by
  rintro j d acc O' hj ⟨e1, e2⟩
  subst e2
  have et : ds.take (j + 1) = ds.take j ++ [d] := by rw [List.take_add_one, hj]; rfl
  rcases h d (List.mem_of_getElem? hj) with ⟨y, h1, h2, h3⟩ | ⟨h1, h2⟩
  · refine ⟨true, O', h2, (fun _ => ⟨y, O', h3, ?_, rfl⟩), fun z => by cases z⟩
    rw [et, List.filterMap_append, e1]
    simp [h1]
  · refine ⟨false, O', h2, (fun z => by cases z), fun _ => ⟨?_, rfl⟩⟩
    rw [et, List.filterMap_append, e1]
    simp [h1]
end
end Dz

namespace Dz
open PySem PySem.Spec PyProof.Rows L2 GxR
/-- the generator's item, wherever it runs -/
def DEg (T : List Addr) (X : Cx) (scope : Scope) (k : Nat) (e : Expr) (ρ : List Slot) (O : OH) (d : D) (O' : OH) : Prop :=
  ∀ (s : Shared) (H : Hp) (cl : List (Str × Addr)) (C : Addr) (code : Value) (fp : List Addr) (A' : Around), Room k A' → DE T (gcx X s H scope cl C code fp A') e ρ O d O'
def TEg (X : Cx) (scope : Scope) (k : Nat) (e : Expr) : TE := fun σ H Q => ∀ (s : Shared) (H0 : Hp) (cl : List (Str × Addr)) (C : Addr) (code : Value) (fp : List Addr) (A' : Around), Room k A' → WE (gcx X s H0 scope cl C code fp A') e σ H Q
section
variable {T : List Addr} {X : Cx} {scope : Scope} {ρ : List Slot} {O O1 O2 : OH} {elt iter : Expr} {ds : List D} {x : Str} {px p pos gpos : Pos} {k : Nat} {c P : Addr}
theorem peg {e : Expr} (s : Shared) (H : Hp) (cl : List (Str × Addr)) (C : Addr) (code : Value) (fp : List Addr) (A' : Around) (hr : Room k A') : PE (gcx X s H scope cl C code fp A') e (TEg X scope k e) := ⟨fun pins s' σ H' Q I h => h s H cl C code fp A' hr pins s' I⟩
theorem all_turn {σ : L2.St} {B H : Hp} {i j : Nat} {f : D → Bool} {d : D} {v : V} {Q : VK} {Hj : Hp} (hE : Env X.K B σ ρ) (hd1 : ds[j]? = some d) (hv : ∀ B', Same B B' → Rp X.K B' v d)
    (he : DEg T X scope k elt (ρ.set i (.dat d)) O (.bl (f d)) O) (q : ∀ v B' H', Post T X.K B O H B' O H' → Rp X.K B' v (.bl (ds.all f)) → Q v H')
    (w : ∃ B', Post T X.K B O H B' O Hj ∧ (ds.take j).all f = true) :
    TEg X scope k elt ((wipe σ [i]).set i (some v)) Hj fun v H3 => ∃ b, v = .bl b ∧ if b = true then (∃ B', Post T X.K B O H B' O H3 ∧ (ds.take (j + 1)).all f = true) else Q (.bl false) H3 := by
  obtain ⟨B', po, ha⟩ := w
  have e2 : (wipe σ [i]).set i (some v) = σ.set i (some v) := by show (σ.set i none).set i (some v) = _; rw [List.set_set]
  rw [e2]
  intro s0 H0 cl C code fp A' hr
  have hE' : Env X.K B' (σ.set i (some v)) (ρ.set i (.dat d)) := (hE.mono po.bb).set (o := some v) (s := .dat d) (hv B' po.bb) i
  refine he s0 H0 cl C code fp A' hr _ B' Hj hE' po.at' _ fun w B2 H2 p2 r2 => ?_
  cases r2
  refine ⟨f d, rfl, ?_⟩
  cases hf : f d with
  | true =>
    rw [if_pos rfl]
    refine ⟨B2, po.trans p2, ?_⟩
    rw [List.take_add_one, hd1, List.all_append, ha]
    simp [hf]
  | false =>
    rw [if_neg (by decide)]
    have e : ds.all f = false := by
      rw [Bool.eq_false_iff]
      intro z
      rw [List.all_eq_true] at z
      rw [z d (List.mem_of_getElem? hd1)] at hf
      cases hf
    exact q _ B2 H2 (po.trans p2) (by rw [e]; exact .bl false)
theorem de_allL (i : Nat) {f : D → Bool} (hr : Room (k + 1) X.A) (hP : P ∈ T) (TB : TabB X.base X.mg c P) (hcode : X.env.code = .ref c) (hN : X.N.Nodup) (hm : X.mg "all" = none) (ok : BlkOk X.N X.env.scope scope [(x, i)]) (go : GOk scope x)
    (hi : DE T X iter ρ O (.lst ds) O1) (he : ∀ d ∈ ds, DEg T X scope k elt (ρ.set i (.dat d)) O1 (.bl (f d)) O1) (hg : Gl X "all" := by rfl) (hc : X.calm = true := by rfl) (hs : ∀ v, genFold iter X.env v = pure v := by intro _; rfl)
    (hst : starEach [.GeneratorExp elt [⟨.Name x px, iter, [], 0⟩] scope gpos] X.env = (false, eval (.GeneratorExp elt [⟨.Name x px, iter, [], 0⟩] scope gpos) X.env) :: starEach [] X.env := by rfl) :
    DE T X (.Call (.Name "all" p) [.GeneratorExp elt [⟨.Name x px, iter, [], 0⟩] scope gpos] [] pos) ρ O (.bl (ds.all f)) O1 :=
  de_of (pe_allG hc hr hN hg hm TB hcode ok go (pi_list pe_we) peg hs hst) fun σ B H hE hA Q q => hi σ B H hE hA _ fun v B1 H1 p1 r1 => by
    cases r1 with
    | lst hq r =>
      rename_i l xs
      refine ⟨l, rfl, ⟨xs, SqL.of (p1.at'.base _ _ hq)⟩, p1.at'.tabs P hP, fun H2 tb => ?_⟩
      have p2 := Post.tabbed p1.at' hP tb
      refine ⟨ds.length, fun j H' => ∃ B', Post T X.K B1 O1 H1 B' O1 H' ∧ (ds.take j).all f = true, ⟨B1, p2, rfl⟩, fun j H' w => ⟨fun e => ?_, fun hj => ?_⟩⟩
      · obtain ⟨B', po, ha⟩ := w
        subst e
        rw [List.take_length] at ha
        have hq' := SqL.of (K := X.K) (po.at'.base _ _ (po.bb _ _ hq))
        exact ⟨⟨xs, hq', by rw [r.length]; exact Nat.le_refl _⟩, q _ B' H' (p1.trans po) (by rw [ha]; exact .bl true)⟩
      · obtain ⟨B', po, ha⟩ := w
        have hq' := SqL.of (K := X.K) (po.at'.base _ _ (po.bb _ _ hq))
        have hjx : j < xs.length := by rw [r.length]; exact hj
        refine ⟨⟨xs, xs[j], hq', List.getElem?_eq_getElem hjx⟩, fun y H'' hy => ?_⟩
        obtain ⟨e, hy⟩ := hy
        subst e
        obtain ⟨d, hd1, hd2⟩ := r.getV (hy xs hq')
        exact all_turn (hE.mono p1.bb) hd1 (fun B' sb => hd2.mono sb) (he d (List.mem_of_getElem? hd1)) (fun v B' H' p2 r2 => q v B' H' (p1.trans p2) r2) ⟨B', po, ha⟩
theorem de_allT (i : Nat) {f : D → Bool} (hr : Room (k + 1) X.A) (hP : P ∈ T) (TB : TabB X.base X.mg c P) (hcode : X.env.code = .ref c) (hN : X.N.Nodup) (hm : X.mg "all" = none) (ok : BlkOk X.N X.env.scope scope [(x, i)]) (go : GOk scope x)
    (hi : DE T X iter ρ O (.tup ds) O1) (he : ∀ d ∈ ds, DEg T X scope k elt (ρ.set i (.dat d)) O1 (.bl (f d)) O1) (hg : Gl X "all" := by rfl) (hc : X.calm = true := by rfl) (hs : ∀ v, genFold iter X.env v = pure v := by intro _; rfl)
    (hst : starEach [.GeneratorExp elt [⟨.Name x px, iter, [], 0⟩] scope gpos] X.env = (false, eval (.GeneratorExp elt [⟨.Name x px, iter, [], 0⟩] scope gpos) X.env) :: starEach [] X.env := by rfl) :
    DE T X (.Call (.Name "all" p) [.GeneratorExp elt [⟨.Name x px, iter, [], 0⟩] scope gpos] [] pos) ρ O (.bl (ds.all f)) O1 :=
  de_of (pe_allG hc hr hN hg hm TB hcode ok go (pi_tup pe_we) peg hs hst) fun σ B H hE hA Q q => hi σ B H hE hA _ fun v B1 H1 p1 r1 => by
    cases r1 with
    | tup hq r =>
      rename_i l xs
      refine ⟨l, rfl, ⟨xs, same_t p1.at'.base hq⟩, p1.at'.tabs P hP, fun H2 tb => ?_⟩
      have p2 := Post.tabbed p1.at' hP tb
      refine ⟨ds.length, fun j H' => ∃ B', Post T X.K B1 O1 H1 B' O1 H' ∧ (ds.take j).all f = true, ⟨B1, p2, rfl⟩, fun j H' w => ⟨fun e => ?_, fun hj => ?_⟩⟩
      · obtain ⟨B', po, ha⟩ := w
        subst e
        rw [List.take_length] at ha
        have hq' := same_t (K := X.K) po.at'.base (same_t po.bb hq)
        exact ⟨⟨xs, hq', by rw [r.length]; exact Nat.le_refl _⟩, q _ B' H' (p1.trans po) (by rw [ha]; exact .bl true)⟩
      · obtain ⟨B', po, ha⟩ := w
        have hq' := same_t (K := X.K) po.at'.base (same_t po.bb hq)
        have hjx : j < xs.length := by rw [r.length]; exact hj
        refine ⟨⟨xs, xs[j], hq', List.getElem?_eq_getElem hjx⟩, fun y H'' hy => ?_⟩
        obtain ⟨e, hy⟩ := hy
        subst e
        obtain ⟨d, hd1, hd2⟩ := r.getV (hy xs hq')
        exact all_turn (hE.mono p1.bb) hd1 (fun B' sb => hd2.mono sb) (he d (List.mem_of_getElem? hd1)) (fun v B' H' p2 r2 => q v B' H' (p1.trans p2) r2) ⟨B', po, ha⟩
end
end Dz

namespace Dz
open PySem PySem.Spec PyProof.Rows L2 GxR

section
variable {T : List Addr} {K : PySem.W.Frag} {B B1 : Hp} {O O1 : OH} {H H1 : Hp} {a : Addr}
theorem At.forget (h : At T K B O H) (a : Addr) : At T K B (cut O a) H where
  base := h.base
  own := fun b o e => by
    have z : b ≠ a := fun z => by
      rw [z, cut_same] at e
      cases e
    rw [cut_ne z] at e
    exact h.own b o e
  nt := fun P hP => ⟨(h.nt P hP).1, by
    by_cases z : P = a
    · rw [z, cut_same]
    · rw [cut_ne z]
      exact (h.nt P hP).2⟩
  tabs := h.tabs
theorem Post.forget (p : Post T K B O H B1 O1 H1) (a : Addr) : Post T K B O H B1 (cut O1 a) H1 where
  at' := p.at'.forget a
  bb := p.bb
  new := p.new
  own := fun b hb => by
    have z : b ≠ a := fun z => hb (by rw [z, cut_same])
    rw [cut_ne z] at hb
    exact p.own b hb
  fr := p.fr
  dom := p.dom
end

/-- a promise: from the arguments and what is owned to the answers, and the reasons of the program's own error -/
abbrev PR := List Slot → OH → (Slot → OH → Prop) → (D → OH → Prop) → Prop
def spX (T : List Addr) (K : PySem.W.Frag) (CE : Addr) (P : PR) : Sp := fun vs H Q E => ∃ ss B O Rn Rx, P ss O Rn Rx ∧ Args K B vs ss ∧ At T K B O H ∧
  (∀ s O' v B' H', Rn s O' → Post T K B O H B' O' H' → SlotOk K B' (some v) s → Q v H') ∧
  ∀ r O' v dd B' H', Rx r O' → Post T K B O H B' O' H' → H' dd = some (.xd [(("reason" : Str), v)]) → Rp K B' v r → E (.ref CE) (some dd) H'
/-- an expression that may let the program's own error out -/
def DVX (T : List Addr) (X : Cx) (CE : Addr) (e : Expr) (ρ : List Slot) (O : OH) (R : Slot → OH → Prop) (Rx : D → OH → Prop) : Prop := ∀ (σ : L2.St) (B H : Hp), Env X.K B σ ρ → At T X.K B O H → ∀ (Q : VK) (W : WX), Takes X W →
  (∀ s O' v B' H', R s O' → Post T X.K B O H B' O' H' → SlotOk X.K B' (some v) s → Q v H') →
  (∀ r O' v dd σ' B' H', Rx r O' → Post T X.K B O H B' O' H' → H' dd = some (.xd [(("reason" : Str), v)]) → Rp X.K B' v r → W (.ref CE) (some dd) σ' H') → WE X e σ H Q
theorem passF {P : Program} {w : World} {X : Cx} : Passes (L2.CX P w) X (fun _ _ _ => False) := fun _ _ _ _ _ _ _ h => by
  obtain ⟨_, _, _, _, _, _, _, _, _, _, _, _, z⟩ := h
  exact z.elim
section
variable {T : List Addr} {X : Cx} {CE : Addr} {ρ : List Slot} {O O1 O2 O3 : OH} {e a b c : Expr} {es rest : List Expr} {pos pos' p0 : Pos} {d x y z : D} {s : Slot} {ss : List Slot} {ds : List D} {E : DEn} {R : Slot → OH → Prop} {Rx : D → OH → Prop} {P : PR}
theorem DV.dvx (h : DV T X e ρ O s O1) (hr : R s O1) : DVX T X CE e ρ O R Rx := fun σ B H hE hA Q W tk q _ => h σ B H hE hA Q fun v B' H' po r => q s O1 v B' H' hr po r
/-- a call, whatever comes of it -/
theorem dvx_call {k : Nat} {f : Addr} {fd : FuncData} {ps : List Str} {n : Str} {p : Pos} (F : FnOk X.prog X.w X.K X.mg X.base (L2.CX X.prog X.w) k f fd ps (spX T X.K CE P)) (hr : Room k X.A) (hm : X.mg n = some (.ref f)) (hk : PySem.W.keepIn X.K (.ref f) = true) (hb : Binds X.K fd ps [])
    (ha : DA T X (e :: es) ρ O ss O1) (h : P ss O1 R Rx) (hg : Gl X n := by rfl) (hdb : (n == ("__debug__" : Str)) = false := by decide) (hs : starEach (e :: es) X.env = (false, eval e X.env) :: starEach es X.env := by rfl) (hpl : (backTo pos (starEach es X.env)).any (·.1) = false := by rfl) :
    DVX T X CE (.Call (.Name n p) (e :: es) [] pos) ρ O R Rx := fun σ B H hE hA Q W tk q qx =>
  we_of (pe_call (E := fun cls d H' => ∀ σ', W cls d σ' H') F hr hg hm hk hb .nil (passes_call tk fun cls d σ H h => h σ) pa_wa hdb hs hpl) (ha σ B H hE hA _ fun vs B1 H1 p1 r1 => by
    show spX T X.K CE P (vs ++ []) H1 Q _
    rw [List.append_nil]
    exact ⟨ss, B1, O1, R, Rx, h, r1, p1.at', fun s O' v B2 H2 h2 p2 r2 => q s O' v B2 H2 h2 (p1.trans p2) r2, fun r O' v dd B2 H2 h2 p2 e1 r2 σ' => qx r O' v dd σ' B2 H2 h2 (p1.trans p2) e1 r2⟩)
/-- a call that lets no error out, one answer -/
theorem dv_callX {k : Nat} {f : Addr} {fd : FuncData} {ps : List Str} {n : Str} {p : Pos} (F : FnOk X.prog X.w X.K X.mg X.base (L2.CX X.prog X.w) k f fd ps (spX T X.K CE P)) (hr : Room k X.A) (hm : X.mg n = some (.ref f)) (hk : PySem.W.keepIn X.K (.ref f) = true) (hb : Binds X.K fd ps [])
    (ha : DA T X (e :: es) ρ O ss O1) (h : P ss O1 (fun s' O' => s' = s ∧ O' = O2) (fun _ _ => False)) (hg : Gl X n := by rfl) (hdb : (n == ("__debug__" : Str)) = false := by decide) (hs : starEach (e :: es) X.env = (false, eval e X.env) :: starEach es X.env := by rfl) (hpl : (backTo pos (starEach es X.env)).any (·.1) = false := by rfl) :
    DV T X (.Call (.Name n p) (e :: es) [] pos) ρ O s O2 := .mk fun σ B H hE hA Q q =>
  we_of (pe_call (E := fun _ _ _ => False) F hr hg hm hk hb .nil passF pa_wa hdb hs hpl) (ha σ B H hE hA _ fun vs B1 H1 p1 r1 => by
    show spX T X.K CE P (vs ++ []) H1 Q _
    rw [List.append_nil]
    refine ⟨ss, B1, O1, _, _, h, r1, p1.at', fun s' O' v B2 H2 h2 p2 r2 => ?_, fun r O' v dd B2 H2 h2 _ _ _ => h2.elim⟩
    obtain ⟨h3, h4⟩ := h2
    subst h3 h4
    exact q v B2 H2 (p1.trans p2) r2)
/-- .. many answers -/
theorem dvn_call {k : Nat} {f : Addr} {fd : FuncData} {ps : List Str} {n : Str} {p : Pos} (F : FnOk X.prog X.w X.K X.mg X.base (L2.CX X.prog X.w) k f fd ps (spX T X.K CE P)) (hr : Room k X.A) (hm : X.mg n = some (.ref f)) (hk : PySem.W.keepIn X.K (.ref f) = true) (hb : Binds X.K fd ps [])
    (ha : DA T X (e :: es) ρ O ss O1) (h : P ss O1 R (fun _ _ => False)) (hg : Gl X n := by rfl) (hdb : (n == ("__debug__" : Str)) = false := by decide) (hs : starEach (e :: es) X.env = (false, eval e X.env) :: starEach es X.env := by rfl) (hpl : (backTo pos (starEach es X.env)).any (·.1) = false := by rfl) :
    DVX T X CE (.Call (.Name n p) (e :: es) [] pos) ρ O R Rx := fun σ B H hE hA Q W tk q _ =>
  we_of (pe_call (E := fun _ _ _ => False) F hr hg hm hk hb .nil passF pa_wa hdb hs hpl) (ha σ B H hE hA _ fun vs B1 H1 p1 r1 => by
    show spX T X.K CE P (vs ++ []) H1 Q _
    rw [List.append_nil]
    exact ⟨ss, B1, O1, _, _, h, r1, p1.at', fun s' O' v B2 H2 h2 p2 r2 => q s' O' v B2 H2 h2 (p1.trans p2) r2, fun r O' v dd B2 H2 h2 _ _ _ => h2.elim⟩)
/-- C(..), the object owned -/
theorem dvx_make {k : Nat} {f C : Addr} {fd : FuncData} {ps : List Str} {n : Str} {p : Pos} (M : Mk X.K C f) (F : FnOk X.prog X.w X.K X.mg X.base (L2.CX X.prog X.w) k f fd ps (spX T X.K CE P)) (hr : Room (k + 1) X.A) (hm : X.mg n = some (.ref C)) (hb : Binds X.K fd ps [])
    (ha : DA T X (e :: es) ρ O ss O1) (h : ∀ x, O1 x = none → ∃ Rn Rx', P (.val (.ref x) :: ss) (put O1 x (.ins C [])) Rn Rx' ∧ (∀ s O', Rn s O' → s = .dat .non ∧ R (.val (.ref x)) O') ∧ ∀ r O', Rx' r O' → Rx r (cut O' x))
    (hg : Gl X n := by rfl) (hdb : (n == ("__debug__" : Str)) = false := by decide) (hs : starEach (e :: es) X.env = (false, eval e X.env) :: starEach es X.env := by rfl) (hpl : (backTo pos (starEach es X.env)).any (·.1) = false := by rfl) :
    DVX T X CE (.Call (.Name n p) (e :: es) [] pos) ρ O R Rx := fun σ B H hE hA Q W tk q qx =>
  we_of (pe_make (E := fun cls d H' => ∀ σ', W cls d σ' H') M F hr hg hm hb .nil (passes_call tk fun cls d σ H h => h σ) pa_wa hdb hs hpl) (ha σ B H hE hA _ fun vs B1 H1 p1 r1 x dx nx ndx ne => by
    rw [List.append_nil]
    obtain ⟨Rn, Rx', h1, h2, h3⟩ := h x (p1.at'.noO nx)
    have q1 := Post.laid (o := .own x) p1.at' ndx
    have nx' : upd H1 dx (.own x) x = none := by rw [upd_ne (Ne.symm ne)]; exact nx
    have q2 := Post.madeO (o := .ins C dx []) (od := .ins C []) q1.at' nx' ⟨rfl, .nil⟩
    have q3 := (p1.trans q1).trans q2
    refine ⟨.val (.ref x) :: ss, B1, _, Rn, Rx', h1, .cons (show SlotOk X.K B1 (some (.ref x)) (.val (.ref x)) from rfl) r1, q2.at', fun s O' v B2 H2 k1 p2 r2 => ?_, fun r O' v dd B2 H2 k1 p2 e1 r2 σ' => ?_⟩
    · obtain ⟨e1, e2⟩ := h2 s O' k1
      subst e1
      cases (show Rp X.K B2 v .non from r2)
      exact ⟨rfl, q _ O' _ B2 H2 e2 (q3.trans p2) rfl⟩
    · exact qx r _ v dd σ' B2 H2 (h3 r O' k1) ((q3.trans p2).forget x) e1 r2)
/-- the made object, frozen -/
theorem dvx_makeF {k : Nat} {f C : Addr} {fd : FuncData} {ps : List Str} {n : Str} {p : Pos} (M : Mk X.K C f) (F : FnOk X.prog X.w X.K X.mg X.base (L2.CX X.prog X.w) k f fd ps (spX T X.K CE P)) (hr : Room (k + 1) X.A) (hm : X.mg n = some (.ref C)) (hb : Binds X.K fd ps [])
    (ha : DA T X (e :: es) ρ O ss O1) (h : ∀ x, O1 x = none → ∃ Rn Rx', P (.val (.ref x) :: ss) (put O1 x (.ins C [])) Rn Rx' ∧ (∀ s O', Rn s O' → s = .dat .non ∧ ∃ fs : List (Str × D), O' x = some (.ins C (fs.map fun p => (p.1, .dat p.2))) ∧ R (.dat (.ins C fs)) (cut O' x)) ∧ ∀ r O', Rx' r O' → Rx r (cut O' x))
    (hg : Gl X n := by rfl) (hdb : (n == ("__debug__" : Str)) = false := by decide) (hs : starEach (e :: es) X.env = (false, eval e X.env) :: starEach es X.env := by rfl) (hpl : (backTo pos (starEach es X.env)).any (·.1) = false := by rfl) :
    DVX T X CE (.Call (.Name n p) (e :: es) [] pos) ρ O R Rx := fun σ B H hE hA Q W tk q qx =>
  dvx_make (R := fun s O' => ∃ x fs, s = .val (.ref x) ∧ O' x = some (.ins C (List.map (fun p : Str × D => (p.1, Slot.dat p.2)) fs)) ∧ R (.dat (.ins C fs)) (cut O' x)) M F hr hm hb ha (fun x hx => by
    obtain ⟨Rn, Rx', h1, h2, h3⟩ := h x hx
    refine ⟨Rn, Rx', h1, fun s O' k1 => ?_, h3⟩
    obtain ⟨e1, fs, e2, e3⟩ := h2 s O' k1
    exact ⟨e1, x, fs, rfl, e2, e3⟩) hg hdb hs hpl σ B H hE hA Q W tk (fun s O' v B' H' h1 po r => by
      obtain ⟨x, fs, e1, e2, e3⟩ := h1
      subst e1
      have ev : v = .ref x := r
      subst ev
      obtain ⟨_, u, hu, ok⟩ := po.at'.own x _ e2
      cases u <;> try exact ok.elim
      rename_i C' dx vs
      obtain ⟨eC, ok⟩ := ok
      subst eC
      have pf := Post.freeze po.at' e2 hu
      exact q _ _ _ _ _ e3 (po.trans pf) (show Rp X.K _ (.ref x) (.ins C' fs) from .ins upd_same ((FsOk.all ok).mono pf.bb))) qx

/-! ### statements -/
theorem d1_setX (i : Nat) {n : Str} (he : DVX T X CE e ρ O R E.ex) (h : ∀ s O', R s O' → E.nx (ρ.set i s) O') (hN : X.N.Nodup) (hi : X.N[i]? = some n := by rfl) (hx : Loc X.env.scope n := by first | exact Or.inl rfl | exact Or.inr rfl) (hs : swapsWith e (some (.Name n pos')) pos.line X.env = pure false := by rfl)
    (hf : X.fn n = true ∨ X.env.scope.names.lookup n = some .local := by first | exact .inl rfl | exact .inr rfl) : D1 T X CE (.Assign [.Name n pos'] e pos) ρ O E :=
  .mk fun σ B H hE hA Dn W tk l => ws_of (ps_set hN hi hx pe_we hs hf) (he σ B H hE hA _ W tk (fun s O' v B1 H1 h1 p1 r1 => l.nx _ _ _ B1 H1 (h s O' h1) p1 ((hE.mono p1.bb).set r1 i)) fun r O' v dd σ' B1 H1 h1 p1 e1 r1 => l.ex r O' v dd σ' B1 H1 h1 p1 e1 r1)
theorem d1_retX (he : DVX T X CE e ρ O R E.ex) (h : ∀ s O', R s O' → E.rt s O') : D1 T X CE (.Return (some e) pos) ρ O E :=
  .mk fun σ B H hE hA Dn W tk l => ws_of (ps_ret pe_we) (he σ B H hE hA _ W tk (fun s O' v B1 H1 h1 p1 r1 => l.rt _ _ v B1 H1 (h s O' h1) p1 r1) fun r O' v dd σ' B1 H1 h1 p1 e1 r1 => l.ex r O' v dd σ' B1 H1 h1 p1 e1 r1)
theorem d1_exprX (he : DVX T X CE e ρ O R E.ex) (h : ∀ s O', R s O' → E.nx ρ O') (hs : swapsWith e none pos.line X.env = pure false := by rfl) : D1 T X CE (.Expr e pos) ρ O E :=
  .mk fun σ B H hE hA Dn W tk l => ws_of (ps_expr pe_we hs) (he σ B H hE hA _ W tk (fun s O' v B1 H1 h1 p1 r1 => l.nx _ _ _ B1 H1 (h s O' h1) p1 (hE.mono p1.bb)) fun r O' v dd σ' B1 H1 h1 p1 e1 r1 => l.ex r O' v dd σ' B1 H1 h1 p1 e1 r1)
/-- o.f = e, o an owned object -/
theorem d1_fst (i : Nat) {n f : Str} {a C : Addr} {npos apos : Pos} {fs : List (Str × Slot)} (cl : Cls X.K C) (na : NoAttr X.K C f) (hi : ρ[i]? = some (.val (.ref a))) (he : DV T X e ρ O s O1) (ho : O1 a = some (.ins C fs)) (h : E.nx ρ (put O1 a (.ins C (putS f s fs)))) (hl : fs.length < 1000 := by decide)
    (pn : PE X (.Name n npos) (tVar i) := by exact pv _) (hs : swapsWith e (some (.Attribute (.Name n npos) f apos)) pos.line X.env = pure false := by rfl) : D1 T X CE (.Assign [.Attribute (.Name n npos) f apos] e pos) ρ O E := .mk fun σ B H hE hA Dn W tk l => by
  refine ws_of (ps_fld pn pe_we hs) ?_
  refine he σ B H hE hA _ fun w B1 H1 p1 r1 => ?_
  obtain ⟨o, e1, e2⟩ := (hE.mono p1.bb).get hi
  cases o with
  | none => exact e2.elim
  | some v =>
    have ev : v = .ref a := e2
    subst ev
    refine ⟨_, e1, ?_⟩
    obtain ⟨_, u, hu, ok⟩ := p1.at'.own a _ ho
    cases u <;> try exact ok.elim
    rename_i C' dx vs
    obtain ⟨eC, ok⟩ := ok
    subst eC
    have po := Post.put (u := .ins C' dx (putF f w vs)) (od := .ins C' (putS f s fs)) p1.at' ho ⟨rfl, FsOk.put r1 ok⟩
    exact ⟨a, C', dx, vs, rfl, hu, cl, na, by rw [FsOk.length ok]; exact hl, l.nx _ _ _ B1 _ h (p1.trans po) (hE.mono p1.bb)⟩
/-- o.f, o an owned object -/
theorem dv_fldO {f : Str} {a C : Addr} {fs : List (Str × Slot)} (cl : Cls X.K C) (na : NoAttr X.K C f) (ha : DV T X e ρ O (.val (.ref a)) O1) (ho : O1 a = some (.ins C fs)) (h : fs.lookup f = some s) (hb : attributeBase e f X.env (eval e X.env) = eval e X.env := by rfl) : DV T X (.Attribute e f pos) ρ O s O1 := .mk fun σ B H hE hA Q q =>
  we_of (pe_fld pe_we hb) (ha σ B H hE hA _ fun v B1 H1 p1 r1 => by
    have ev : v = .ref a := r1
    subst ev
    obtain ⟨_, u, hu, ok⟩ := p1.at'.own a _ ho
    cases u <;> try exact ok.elim
    rename_i C' dx vs
    obtain ⟨eC, ok⟩ := ok
    subst eC
    obtain ⟨w, h1, h2⟩ := FsOk.get ok h
    exact ⟨a, C', dx, vs, w, rfl, hu, cl, na, h1, q w B1 H1 p1 h2⟩)
/-- the error's __init__ -/
def spI (C : Addr) : Sp := fun vs H Q _ => ∃ a v, vs = [.ref a, v] ∧ H a = some (exo a C none) ∧ ∀ dx, H dx = none → dx ≠ a → Q .non (upd (upd H dx (exd dx [(("reason" : Str), v)])) a (exo a C (some dx)))
/-- raise E(e) -/
theorem d1_raise {CX : CXT} {k : Nat} {fI : Addr} {fd : FuncData} {ps : List Str} {n : Str} {p : Pos} (Te : OexC X.K CE) (iC : PySem.W.findIn X.K (.ref CE) "__init__" = some (some (.ref fI))) (tI : PySem.W.typeIn X.K (.ref fI) = some (.type "function"))
    (F1 : FnOk X.prog X.w X.K X.mg X.base CX k fI fd ps (spI CE)) (hr : Room (k + 1) X.A) (hb : Binds X.K fd ps []) (hx : Passes CX X (fun _ _ _ => False)) (hm : X.mg n = some (.ref CE)) (ha : DE T X e ρ O d O1) (h : E.ex d O1)
    (hc : X.calm = true := by rfl) (hg : Gl X n := by rfl) (hdb : (n == ("__debug__" : Str)) = false := by decide) (hs : starEach [e] X.env = (false, eval e X.env) :: starEach [] X.env := by rfl) : D1 T X CE (.Raise (some (.Call (.Name n p) [e] [] p0)) none pos) ρ O E := .mk fun σ B H hE hA Dn W tk l => by
  refine ws_of (ps_raise hc tk (pmk_oex Te iC tI F1 hr hb .nil hx hg hm (pa_cons pe_we pa_nil hs) hdb hs)) ?_
  refine ha σ B H hE hA _ fun v B1 H1 p1 r1 => ⟨by show 1 ≤ 1000; decide, fun a na => ?_⟩
  refine ⟨a, v, rfl, upd_same, fun dx ndx ne => ⟨rfl, dx, [(("reason" : Str), v)], upd_same, ?_, ?_, ?_⟩⟩
  · rw [upd_ne ne, upd_same]
  · rw [upd_ne ne] at ndx
    exact ndx
  · have n1 : H1 dx = none := by
      rw [upd_ne ne] at ndx
      exact ndx
    have eH : upd (del (upd (upd (upd H1 a (exo a CE none)) dx (exd dx [(("reason" : Str), v)])) a (exo a CE (some dx))) a) dx (.xd [(("reason" : Str), v)]) = upd H1 dx (.xd [(("reason" : Str), v)]) := by
      funext b
      by_cases h1 : b = dx
      · rw [h1, upd_same, upd_same]
      · rw [upd_ne h1, upd_ne h1]
        by_cases h2 : b = a
        · rw [h2, del_same, na]
        · rw [del_ne h2, upd_ne h2, upd_ne h1, upd_ne h2]
    rw [eH]
    exact l.ex d O1 v dx σ B1 _ h (p1.trans (Post.laid p1.at' n1)) upd_same r1
theorem takes_len {X : Cx} {W : WX} (tk : Takes X W) : Takes X (fun c d σ H => σ.length = X.N.length → W c d σ H) := fun u s' ⟨a, B, sI, pins, σ, H, cls, d, e, I, nb, up, sky, na, os, ag, w⟩ =>
  tk u s' ⟨a, B, sI, pins, σ, H, cls, d, e, I, nb, up, sky, na, os, ag, w I.len⟩
/-- try: .. except E as n: return n.reason -/
theorem d1_try (i : Nat) {n x : Str} {np p1 p2 p3 : Pos} {body : List Stmt} (Xf : XfC X.K CE) (hno : PySem.W.findIn X.K (.ref CE) "reason" = some none) (hself : PySem.W.exmOne X.K (.ref CE) (.ref CE) = some true) (hm : X.mg x = some (.ref CE)) (hN : X.N.Nodup)
    (hb : ∀ (pn : List (Addr × Obj)) (xe : Value → Shared → Prop), PassesOwn (model X.prog X.w) X.A X.env xe → DS T (X.tr pn xe) CE body ρ O { E with ex := fun r O' => E.rt (.dat r) O' })
    (hs : X.stack = X.env :: X.outer := by rfl) (hf : X.env.frame = some X.env.locals := by rfl) (hi : X.N[i]? = some n := by rfl) (hln : X.env.kindOf n = some .local := by rfl) (hg : Gl X x := by rfl) (hdb : (x == ("__debug__" : Str)) = false := by decide)
    (hvis : Vis X.env.scope n := by first | exact Or.inl rfl | exact Or.inr (Or.inl rfl) | exact Or.inr (Or.inr rfl)) (hd : (n == ("__debug__" : Str)) = false := by decide) (hcd : (n == ("__classdict__" : Str)) = false := by decide)
    (hba : attributeBase (.Name n p1) "reason" X.env (eval (.Name n p1) X.env) = eval (.Name n p1) X.env := by rfl) :
    D1 T X CE (.Try body [.ExceptHandler (some (.Name x np)) (some n) [.Return (some (.Attribute (.Name n p1) "reason" p2)) p3] pos'] [] [] pos) ρ O E := .mk fun σ B H hE hA Dn W tk l => by
  refine ws_of (ps_try_as (i := i) hs hf hN hi hln ⟨hg, hdb, .inl hm⟩ tk (fun W' pn xe tk' pa => (⟨fun pins s σ2 H2 D2 I q => q pn xe tk' pa pins s I⟩ : PSs (X.tr pn xe) body (fun D2 σ2 H2 => ∀ pn xe, Takes (X.tr pn xe) W' → PassesOwn (model X.prog X.w) X.A X.env xe → WSs (X.tr pn xe) body D2 σ2 H2)))
    (fun a oe cls d pn hz hfl => pss_one (ps_ret (pe_xf Xf hno hz hfl (pe_var (i := i) hi hvis hd hcd) hba)))) ?_
  refine fun pn xe tk' pa => hb pn xe pa σ B H hE hA Dn _ (takes_len tk') ⟨l.nx, l.rt, l.bk, l.ct, fun r O' v dd σ' B' H' h1 po e1 r1 hlen => ?_⟩
  have hlen' : σ'.length = X.N.length := hlen
  have hilt : i < σ'.length := by rw [hlen']; exact (List.getElem?_eq_some_iff.mp hi).1
  refine ⟨true, hself, fun _ a na => ?_, fun z => by cases z⟩
  have q := l.rt (.dat r) O' v B' H' h1 po r1
  refine ⟨.ref a, ?_, rfl, rfl, dd, _, v, rfl, e1, by simp [List.lookup], q⟩
  rw [List.getElem?_set_self hilt]
end
end Dz


namespace DzS
open PySem PySem.Spec PyProof.Rows PySem.W PySem.Calls
section
variable {prog : Program} {w : World} {A : Around} {E : Value → Shared → Prop} {s : Shared} {env : Env} {elts : List Expr} {k : Nat} {pos : Pos}
theorem star_items {l : Addr} {items : Array Value} {n i : Nat} {Q : List Value → Shared → Prop} (hl : IsTup s.heap l items) (hh : A.handled = none) (hi : i < n) (hn : n ≤ items.size + 1) (hz : items.size ≤ 16384)
    (h : ∀ (h₂ : Heap) (tk : Nat), (∀ b o, s.heap.get? b = some o → h₂.get? b = some o) →
      Q (items.toList.take i ++ [.ref h₂.objs.size] ++ (items.toList.drop i).drop (items.size + 1 - n)) { s with heap := h₂.push { cls := .type "list", data := .seq ((items.toList.drop i).take (items.size + 1 - n)).toArray }, toks := tk }) : wpAny (model prog w) A (unpackItems (.ref l) n (some i)) Q E s := by
  have zLt : l ≠ s.heap.objs.size := by obtain ⟨o, ho, _⟩ := hl; exact Nat.ne_of_lt (Heap.lt_size ho)
  have zLl : l < s.heap.objs.size := by obtain ⟨o, ho, _⟩ := hl; exact Heap.lt_size ho
  unfold unpackItems
  refine wpAny_bind ?_
  unfold notIterableAtAll
  refine wpAny_bind (wpAny_specialOf hl.typeIs slot_tuple_iter.lookup ?_)
  refine wpAny_pure ?_
  simp only [Bool.false_eq_true, if_false]
  refine wpAny_bind (wpAny_holding (iter_tuple hl ?_))
  refine wpAny_bind (wpAny_holding (draw_tuple zLt i 0 _ _ ⟨_, Heap.get?_push_size _ rfl, rfl, rfl⟩ (hl.push _) (by omega) fun h₁ vI1 vS1 => ?_))
  have vL1 : IsTup h₁ l items := (hl.push _).extBut vS1.extBut zLt
  rw [Nat.zero_add] at vI1
  have vI2 := vI1
  obtain ⟨w1, vOi, _⟩ := vI2
  have vL2 := vL1
  obtain ⟨w2, vOl, _⟩ := vL2
  rw [List.drop_zero]
  have vFl : (items.toList.take i).length = i := by rw [List.length_take, Array.length_toList]; omega
  rw [if_neg (show ¬ ((items.toList.take i).length < i) by rw [vFl]; omega)]
  refine wpAny_bind (wpAny_holding (kun_collect (s := { s with heap := h₁ }) (T := "tuple_iterator") (.inr (.inr (.inr rfl))) (Walks.tuple (A := A.in1) hh s.heap.objs.size l zLt items) (fun j u st => st.1.typeIs) (k := i) (by omega) ⟨vI1, vL1⟩ (Heap.lt_size vOi) (Heap.lt_size vOl) (fun h₂ tk vK => ?_) (by rw [sizeLine_eq]; omega)))
  have vRl : (items.toList.drop i).length = items.size - i := by rw [List.length_drop, Array.length_toList]
  have vMd : (items.toList.drop i).length - (n - 1 - i) = items.size + 1 - n := by rw [vRl]; omega
  show wpAny _ _ (if (items.toList.drop i).length < n - 1 - i then _ else _) _ _ _
  rw [if_neg (by rw [vRl]; omega)]
  show wpAny _ _ (newList ((items.toList.drop i).take ((items.toList.drop i).length - (n - 1 - i))) >>= fun d => pure (items.toList.take i ++ [d] ++ (items.toList.drop i).drop ((items.toList.drop i).length - (n - 1 - i)))) _ _ _
  rw [vMd]
  have kp : ∀ b o, s.heap.get? b = some o → h₂.get? b = some o := fun b o e => by
    have hb : b ≠ s.heap.objs.size := Nat.ne_of_lt (Heap.lt_size e)
    exact vK b o hb ((vS1.2 b hb).trans (Heap.get?_push_of_some _ e))
  exact wpAny_bind (wpAny_newList (wpAny_pure (h _ tk kp)) (by rw [List.length_take, vRl, sizeLine_eq]; omega))
end
end DzS
namespace Dz
open PySem PySem.Spec PyProof.Rows L2 GxR
/-- (a, *b) = a tuple: the list behind -/
def gStar (K : PySem.W.Frag) (n i : Nat) (t : TGs) : TG := fun v σ H Q => ∃ a xs, v = .ref a ∧ SqT K H a xs ∧ n ≤ xs.length + 1 ∧ xs.length ≤ 10000 ∧ ∀ D, H D = none → t (xs.take i ++ [.ref D] ++ (xs.drop i).drop (xs.length + 1 - n)) σ (upd H D (.lst ((xs.drop i).take (xs.length + 1 - n)))) Q
theorem pg_star {X : Cx} {es : List Expr} {k : Nat} {t : TGs} {n i : Nat} {pos : Pos} (hc : X.calm = true) (h : PGs X es t) (hi : i < n)
    (hn : (assignEach es X.env).length = n := by rfl) (hst : (assignEach es X.env).findIdx? (·.1) = some i := by rfl) : PG X (.Tuple es k pos) (gStar X.K n i t) := by
  refine ⟨fun pins s σ H v u Q I r hw => ?_⟩
  obtain ⟨a, xs, e1, hq, hl, hz0, hw⟩ := hw
  subst e1
  cases r
  obtain ⟨its, rv, ht, hz⟩ := I.tuple hq
  have el : its.length = xs.length := rv.length.symm
  rw [assign_Tuple]
  refine wpAny_bind (wpAny_standAt ?_)
  unfold unpack
  rw [hn, hst]
  refine wpAny_bind (wpAny_holding (DzS.star_items (items := its.toArray) ht (I.ok.hd hc) hi (by rw [List.size_toArray, el]; exact hl) (by rw [List.size_toArray, el]; omega) fun h₂ tk kp => ?_))
  have I1 : Inv X pins σ H { s with heap := h₂, toks := tk } := I.kept (t' := tk) kp
  have e9 : its.toArray.size = xs.length := by rw [List.size_toArray, el]
  rw [e9]
  have I2 : Inv X pins σ (upd H h₂.objs.size (.lst ((xs.drop i).take (xs.length + 1 - n)))) { s with heap := h₂.push { cls := .type "list", data := .seq ((its.drop i).take (xs.length + 1 - n)).toArray }, toks := tk } :=
    I1.laid (t' := tk) (fun b o e => Heap.get?_push_of_some _ e) (Nat.le_refl _) (show ObjOk X.prog X.w _ _ _ (.lst _) from ⟨by rw [List.length_take, List.length_drop, sizeLine_eq]; omega, _, 0, (rv.drop i).take _, Heap.get?_push_size _ rfl⟩)
  exact h.run pins _ σ _ _ _ Q I2 (((rv.take i).append (.cons (show L2.RelV (V.ref h₂.objs.size) (Value.ref h₂.objs.size) from rfl) .nil)).append ((rv.drop i).drop _)) (hw _ (I1.hok.fresh (Nat.le_refl _)))

section
variable {T : List Addr} {X : Cx} {CE : Addr} {ρ : List Slot} {O O1 O2 O3 O4 : OH} {e a b c : Expr} {es rest : List Expr} {pos pos' p0 : Pos} {d x y z : D} {s : Slot} {ss : List Slot} {ds ds' : List D} {E : DEn} {R : Slot → OH → Prop} {body : List Stmt}
theorem DE.cast {d' : D} (h : DE T X e ρ O d O1) (q : d = d') : DE T X e ρ O d' O1 := q ▸ h
theorem DT.cast {p q : Bool} (h : DT T X e ρ O p O1) (k : p = q) : DT T X e ρ O q O1 := k ▸ h
/-- a, *b = e : two names -/
theorem d1_star2 {n1 n2 : Str} {q1 q2 q3 tp : Pos} {k i j : Nat} (he : DE T X e ρ O (.tup (d :: ds)) O1) (hl : ds.length < 9999) (h : E.nx ((ρ.set i (.dat d)).set j (.dat (.lst ds))) O1) (hN : X.N.Nodup) (hc : X.calm = true := by rfl) (hi : X.N[i]? = some n1 := by rfl) (hj : X.N[j]? = some n2 := by rfl)
    (hx : Loc X.env.scope n1 := by first | exact Or.inl rfl | exact Or.inr rfl) (hy : Loc X.env.scope n2 := by first | exact Or.inl rfl | exact Or.inr rfl) (hf : X.fn n1 = true ∨ X.env.scope.names.lookup n1 = some .local := by first | exact .inl rfl | exact .inr rfl) (hg : X.fn n2 = true ∨ X.env.scope.names.lookup n2 = some .local := by first | exact .inl rfl | exact .inr rfl)
    (g1 : (assignEach [.Name n1 q1, .Starred (.Name n2 q2) q3] X.env).length = 2 := by rfl) (g2 : (assignEach [.Name n1 q1, .Starred (.Name n2 q2) q3] X.env).findIdx? (·.1) = some 1 := by rfl)
    (g3 : (assignEach [.Name n1 q1, .Starred (.Name n2 q2) q3] X.env).map (·.2) = assign (.Name n1 q1) X.env :: (assignEach [.Name n2 q2] X.env).map (·.2) := by rfl) (g4 : (assignEach [.Name n2 q2] X.env).map (·.2) = assign (.Name n2 q2) X.env :: (assignEach [] X.env).map (·.2) := by rfl)
    (h1 : swapsWithSole [.Tuple [.Name n1 q1, .Starred (.Name n2 q2) q3] k tp] e pos.line X.env = pure false := by rfl) (h2 : swappedStores [.Tuple [.Name n1 q1, .Starred (.Name n2 q2) q3] k tp] e X.env = pure none := by rfl) (h3 : (assignEach [.Tuple [.Name n1 q1, .Starred (.Name n2 q2) q3] k tp] X.env).map (·.2) = [assign (.Tuple [.Name n1 q1, .Starred (.Name n2 q2) q3] k tp) X.env] := by rfl) :
    D1 T X CE (.Assign [.Tuple [.Name n1 q1, .Starred (.Name n2 q2) q3] k tp] e pos) ρ O E := .mk fun σ B H hE hA Dn W tk l => by
  have pgs : PGs X [.Name n1 q1, .Starred (.Name n2 q2) q3] (gCons (gName i) (gCons (gName j) gNil)) := by
    refine ⟨fun pins s σ H vs us Q I r h => ?_⟩
    obtain ⟨v, vr, e1, h⟩ := h
    subst e1
    cases r with
    | cons r rr =>
      rw [g3]
      refine assignInOrder_cons (thn ((pg_name hN hi hx hf).run pins s σ H _ _ _ I r h) fun _ s1 ⟨σ1, H1, I1, q1⟩ => ?_)
      exact (pgs_cons (pg_name hN hj hy hg) pgs_nil g4).run pins s1 σ1 H1 _ _ Q I1 rr q1
  refine ws_of (ps_asg pe_we (pg_star hc pgs (by decide) g1 g2) h1 h2 h3) ?_
  refine he σ B H hE hA _ fun w B1 H1 p1 r1 => ?_
  cases r1 with
  | tup hq r =>
    rename_i ad xs
    cases r with
    | cons r0 rr =>
      rename_i v vs
      have el : vs.length = ds.length := rr.length
      have eS : (v :: vs).length + 1 - 2 = vs.length := by rw [List.length_cons]; omega
      refine ⟨ad, v :: vs, rfl, same_t p1.at'.base hq, by rw [List.length_cons]; omega, by rw [List.length_cons]; omega, fun D hD => ?_⟩
      rw [eS]
      have e1 : ((v :: vs).drop 1).take vs.length = vs := by simp
      have e2 : (v :: vs).take 1 ++ [V.ref D] ++ ((v :: vs).drop 1).drop vs.length = [v, V.ref D] := by simp
      rw [e1, e2]
      have po := Post.made (o := .lst vs) p1.at' hD
      refine ⟨v, [V.ref D], rfl, V.ref D, [], rfl, rfl, ?_⟩
      refine l.nx _ _ _ _ _ h (p1.trans po) (((hE.mono (p1.trans po).bb).set (o := some v) (s := .dat d) (show SlotOk X.K _ (some v) (.dat d) from r0.mono po.bb) i).set (o := some (.ref D)) (s := .dat (.lst ds)) ?_ j)
      exact (show Rp X.K _ (.ref D) (.lst ds) from .lst upd_same (rr.mono po.bb))

/-! ### what stands in the written part -/
def all2 {α β : Type} (f : α → β → Bool) : List α → List β → Bool
  | [], [] => true
  | a :: as, b :: bs => f a b && all2 f as bs
  | _, _ => false
/-- the value is this data: constants and tuples -/
def kdB (K : PySem.W.Frag) : Nat → Value → D → Bool
  | _, .none, .non => true
  | _, .bool b, .bl c => b == c
  | _, .int i _, .int j => i == j
  | _, .str x _, .str y => x == y
  | n + 1, .ref a, .tup ds => match K.lookup a with
    | some ⟨.type t, _, .seq its _, _⟩ => decide (t = "tuple") && (decide (its.size ≤ 10000) && all2 (kdB K n) its.toList ds)
    | _ => false
  | _, _, _ => false
theorem all2_rp {K : PySem.W.Frag} {f : Value → D → Bool} (h : ∀ v d, f v d = true → ∃ x, RelV x v ∧ ∀ B : Hp, Rp K B x d) : ∀ (vs : List Value) (ds : List D), all2 f vs ds = true → ∃ xs, Vals xs vs ∧ ∀ B : Hp, RpAll K B xs ds
  | [], [], _ => ⟨[], .nil, fun _ => .nil⟩
  | v :: vs, d :: ds, q => by
    rw [all2, Bool.and_eq_true] at q
    obtain ⟨x, r, g⟩ := h v d q.1
    obtain ⟨xs, rs, gs⟩ := all2_rp h vs ds q.2
    exact ⟨x :: xs, .cons r rs, fun B => .cons (g B) (gs B)⟩
  | [], _ :: _, q => by simp [all2] at q
  | _ :: _, [], q => by simp [all2] at q
theorem kdB_ok {K : PySem.W.Frag} : ∀ (n : Nat) (v : Value) (d : D), kdB K n v d = true → ∃ x, RelV x v ∧ ∀ B : Hp, Rp K B x d := by
  intro n
  induction n with
  | zero =>
    intro v d h
    unfold kdB at h
    split at h <;> first | (exact absurd h Bool.false_ne_true) | skip
    · exact ⟨.non, rfl, fun _ => .non⟩
    · exact ⟨.bl _, rfl, fun _ => by rw [eq_of_beq h]; exact .bl _⟩
    · exact ⟨.int _, ⟨_, rfl⟩, fun _ => by rw [eq_of_beq h]; exact .int _⟩
    · exact ⟨.str _, ⟨_, rfl⟩, fun _ => by rw [eq_of_beq h]; exact .str _⟩
    · cases ‹0 = _ + 1›
  | succ n ih =>
    intro v d h
    unfold kdB at h
    split at h <;> first | (exact absurd h Bool.false_ne_true) | skip
    · exact ⟨.non, rfl, fun _ => .non⟩
    · exact ⟨.bl _, rfl, fun _ => by rw [eq_of_beq h]; exact .bl _⟩
    · exact ⟨.int _, ⟨_, rfl⟩, fun _ => by rw [eq_of_beq h]; exact .int _⟩
    · exact ⟨.str _, ⟨_, rfl⟩, fun _ => by rw [eq_of_beq h]; exact .str _⟩
    · rename_i n' a ds en
      cases en
      split at h
      · rename_i t dd its k sl hk
        rw [Bool.and_eq_true, Bool.and_eq_true] at h
        obtain ⟨h1, h2, h3⟩ := h
        have h1 := of_decide_eq_true h1
        subst h1
        obtain ⟨xs, rs, gs⟩ := all2_rp ih its.toList ds h3
        exact ⟨.ref a, rfl, fun B => .tup (.inr ⟨_, its, k, hk, rfl, rfl, Nat.le_trans (of_decide_eq_true h2) (by decide), rs⟩) (gs B)⟩
      · exact absurd h Bool.false_ne_true
/-- a module's constant -/
theorem de_gk {n : Nat} {x : Str} {u : Value} {p : Pos} (hm : X.mg x = some u) (hk : kdB X.K n u d = true) (hg : Gl X x := by rfl) (hd : (x == ("__debug__" : Str)) = false := by decide) : DE T X (.Name x p) ρ O d O := by
  obtain ⟨v, r, g⟩ := kdB_ok n u d hk
  exact de_glob hm r g hg hd
/-- an item of a module's dict -/
theorem de_kget {x t : Str} {ad : Addr} {v : V} {p : Pos} (hm : X.mg x = some (.ref ad)) (hk : KDct X.K X.w ad t v) (hr : ∀ B : Hp, Rp X.K B v d) (hb : DE T X b ρ O (.str t) O1) (hg : Gl X x := by rfl) (hd : (x == ("__debug__" : Str)) = false := by decide) (hs : PlainIx b := by intro _ _; rfl) :
    DE T X (.Subscript (.Name x p) b pos) ρ O d O1 :=
  de_of (pe_ix ix_kdict (pe_glob (v := .ref ad) hg hm rfl hd) pe_we hs) fun σ B H hE hA Q q => hb σ B H hE hA _ fun w B1 H1 p1 r1 => by
    cases r1
    exact ⟨ad, t, v, rfl, rfl, hk, q v B1 H1 p1 (hr B1)⟩

/-! ### a <= b <= c -/
theorem de_chain {op op' : CmpOp} {r r' : R2} {p q : Bool} (ho : OpR X (compareOp op) r) (ho' : OpR X (compareOp op') r') (ha : DE T X a ρ O x O1) (hb : DE T X b ρ O1 y O2) (hr : ROp T X r O2 x y (.bl p) O2) (hc : DE T X c ρ O2 z O2) (hr' : ROp T X r' O2 y z (.bl q) O2)
    (hm : lastMarks [op, op'] [b, c] = false := by with_unfolding_all rfl) : DE T X (.Compare a [op, op'] [b, c] pos) ρ O (.bl (p && q)) O2 :=
  de_of (pe_chain ho ho' pe_we pe_we pe_we hm) fun σ B H hE hA Q k => two ha hb hE hA fun v w B' H' p1 rv rw' => hr v w B' H' p1.at' rv rw' _ fun u B2 H2 p2 ru => by
    cases ru
    refine ⟨p, rfl, ?_⟩
    cases p with
    | false => exact k _ B2 H2 (p1.trans p2) (.bl false)
    | true =>
      have p12 := p1.trans p2
      exact hc σ B2 H2 (hE.mono p12.bb) p12.at' _ fun t B3 H3 p3 rt => hr' w t B3 H3 p3.at' ((rw'.mono p2.bb).mono p3.bb) rt _ fun u2 B4 H4 p4 r4 => k u2 B4 H4 ((p12.trans p3).trans p4) r4
theorem dt_chain {op op' : CmpOp} {r r' : R2} {p q : Bool} (ho : OpR X (compareOp op) r) (ho' : OpR X (compareOp op') r') (ha : DE T X a ρ O x O1) (hb : DE T X b ρ O1 y O2) (hr : ROp T X r O2 x y (.bl p) O2) (hc : DE T X c ρ O2 z O2) (hr' : ROp T X r' O2 y z (.bl q) O2)
    (hm : lastMarks [op, op'] [b, c] = false := by with_unfolding_all rfl) : DT T X (.Compare a [op, op'] [b, c] pos) ρ O (p && q) O2 :=
  .mk fun σ B H hE hA Q k => wt_of (pt_chain ho ho' pe_we pe_we pe_we hm) (two ha hb hE hA fun v w B' H' p1 rv rw' => hr v w B' H' p1.at' rv rw' _ fun u B2 H2 p2 ru => by
    cases ru
    refine ⟨p, rfl, ?_⟩
    cases p with
    | false => exact ⟨false, rfl, k B2 H2 (p1.trans p2)⟩
    | true =>
      have p12 := p1.trans p2
      exact hc σ B2 H2 (hE.mono p12.bb) p12.at' _ fun t B3 H3 p3 rt => hr' w t B3 H3 p3.at' ((rw'.mono p2.bb).mono p3.bb) rt _ fun u2 B4 H4 p4 r4 => by
        cases r4
        exact ⟨q, rfl, k B4 H4 ((p12.trans p3).trans p4)⟩)
end

/-! ### a def that may raise -/
theorem fn_okX {P : Program} {w : World} {K : PySem.W.Frag} {mg : Str → Option Value} {base : Heap} {T : List Addr} {CE : Addr} {x qual : Str} {st : Stmt} {f : Addr} {fd : FuncData} {cdv : Value} {N ps : List Str} {k : Nat} {R : PR} (F : FunC K x qual st f fd cdv) (S : FnScope N ps (defScope st))
    (hlen : ∀ ss O Rn Rx, R ss O Rn Rx → ss.length = ps.length)
    (body : ∀ (A : Around) (outer : List PySem.Env) (s : Shared) (H : Hp) (E : XK) (ss : List Slot) (O : OH) (Rn : Slot → OH → Prop) (Rx : D → OH → Prop), Room k (A.deeper (envOfC qual (defScope st) s.heap.objs.size f cdv)) → R ss O Rn Rx →
      DS T (bxX P w K mg base N qual st f cdv A outer s H E) CE (defBody st) (ss ++ List.replicate (N.length - ss.length) .no) O { nx := fun _ o => Rn (.dat .non) o, rt := Rn, ex := Rx }) :
    FnOk P w K mg base (L2.CX P w) (k + 1) f fd ps (spX T K CE R) := by
  obtain ⟨oc, od, kV, doc, pm, an, ct, osl, rfl, lk, hcd⟩ := F.ex
  refine fn_of lk hcd S (fun vs H Q E h => ?_) fun A outer s H vs Q E hr hsp => ?_
  · obtain ⟨ss, B, O, Rn, Rx, h1, h2, _⟩ := h
    rw [h2.length]
    exact hlen _ _ _ _ h1
  · obtain ⟨ss, B, O, Rn, Rx, h1, h2, h3, h4, h5⟩ := hsp
    have hb := body A outer s H E ss O Rn Rx hr h1
    refine ⟨WSs (bxX P w K mg base N qual st f cdv A outer s H E) (defBody st), pss_wss, ?_⟩
    have e1 : L2.start N vs = vs.map some ++ List.replicate (N.length - ss.length) none := by
      unfold L2.start
      rw [h2.length]
    rw [e1]
    refine hb _ B H (Env.of_args _ h2) h3 _ (fun cls d _ H => E cls d H) (takes_of rfl rfl rfl rfl) ⟨fun ρ O2 σ B2 H2 q po _ => ?_, fun s' O2 v B2 H2 q po r => ?_, fun _ _ _ _ _ q => q.elim, fun _ _ _ _ _ q => q.elim, fun r O2 v dd σ B2 H2 q po e1 e2 => ?_⟩
    · exact h4 (.dat .non) O2 .non B2 H2 q po .non
    · exact h4 s' O2 v B2 H2 q po r
    · exact h5 r O2 v dd B2 H2 q po e1 e2
end Dz

namespace Dz
open PySem PySem.Spec PyProof.Rows L2 GxR
/-- data whose type is told -/
inductive Pl : D → Prop
  | non : Pl .non
  | bl (b : Bool) : Pl (.bl b)
  | int (i : Int) : Pl (.int i)
  | str (x : Str) : Pl (.str x)
  | lst (ds : List D) : Pl (.lst ds)
  | tup (ds : List D) : Pl (.tup ds)
def D.ty : D → String
  | .non => "NoneType"
  | .bl _ => "bool"
  | .int _ => "int"
  | .str _ => "str"
  | .lst _ => "list"
  | .tup _ => "tuple"
  | _ => "dict"
theorem Pl.dty {d : D} (h : Pl d) : DTy d d.ty := by
  cases h <;> constructor
def isaInt : D → Bool
  | .int _ => true
  | .bl _ => true
  | _ => false
def isaBool : D → Bool
  | .bl _ => true
  | _ => false
def isaStr : D → Bool
  | .str _ => true
  | _ => false
def isaList : D → Bool
  | .lst _ => true
  | _ => false
def isaTup : D → Bool
  | .tup _ => true
  | _ => false
theorem kit_int {d : D} (h : Pl d) : kitB d.ty "int" = some (isaInt d) := by cases h <;> (simp only [D.ty, isaInt]; decide +kernel)
theorem kit_bool {d : D} (h : Pl d) : kitB d.ty "bool" = some (isaBool d) := by cases h <;> (simp only [D.ty, isaBool]; decide +kernel)
theorem kit_str {d : D} (h : Pl d) : kitB d.ty "str" = some (isaStr d) := by cases h <;> (simp only [D.ty, isaStr]; decide +kernel)
theorem kit_list {d : D} (h : Pl d) : kitB d.ty "list" = some (isaList d) := by cases h <;> (simp only [D.ty, isaList]; decide +kernel)
theorem kit_tuple {d : D} (h : Pl d) : kitB d.ty "tuple" = some (isaTup d) := by cases h <;> (simp only [D.ty, isaTup]; decide +kernel)
theorem bt_int : bootBuiltins "int" = some (.type "int") := by decide +kernel
theorem bt_bool : bootBuiltins "bool" = some (.type "bool") := by decide +kernel
theorem bt_str : bootBuiltins "str" = some (.type "str") := by decide +kernel
theorem bt_list : bootBuiltins "list" = some (.type "list") := by decide +kernel
theorem bt_tuple : bootBuiltins "tuple" = some (.type "tuple") := by decide +kernel
/-- what the built-ins' names mean -/
structure Blt (mg : Str → Option Value) : Prop where
  isinstance : mg "isinstance" = none
  int : mg "int" = none
  bool : mg "bool" = none
  str : mg "str" = none
  list : mg "list" = none
  tuple : mg "tuple" = none
  len : mg "len" = none
  set : mg "set" = none
  all : mg "all" = none
  sorted : mg "sorted" = none
  range : mg "range" = none
  abs : mg "abs" = none
section
variable {T : List Addr} {X : Cx} {ρ : List Slot} {O O1 O2 : OH} {e : Expr} {es : List Expr} {d : D} {ss : List Slot} {s : Slot}
theorem DA.cast {ss' : List Slot} (h : DA T X es ρ O ss O1) (q : ss = ss') : DA T X es ρ O ss' O1 := q ▸ h
/-- arguments that are data -/
theorem da_d (ha : DE T X e ρ O d O1) (hr : DA T X es ρ O1 ss O2) (hs : starEach (e :: es) X.env = (false, eval e X.env) :: starEach es X.env := by rfl) : DA T X (e :: es) ρ O (.dat d :: ss) O2 := da_cons ha.dv hr hs
theorem da_v (ha : DV T X e ρ O s O1) (hr : DA T X es ρ O1 ss O2) (hs : starEach (e :: es) X.env = (false, eval e X.env) :: starEach es X.env := by rfl) : DA T X (e :: es) ρ O (s :: ss) O2 := da_cons ha hr hs
end
section
variable {T : List Addr} {X : Cx} {ρ : List Slot} {O O1 O2 O3 : OH} {e a b c : Expr} {pos p0 p1 p2 p3 : Pos} {d x y z : D} {x1 : Nat} (L : Blt X.mg)
include L
theorem de_isInt (hx : Pl x) (ha : DE T X e ρ O x O1) (hg : Gl X "isinstance" := by rfl) (hg2 : Gl X "int" := by rfl) (he : starEach [e, .Name "int" p1] X.env = (false, eval e X.env) :: starEach [.Name "int" p1] X.env := by rfl) (he2 : starEach [.Name "int" p1] X.env = (false, eval (.Name "int" p1) X.env) :: starEach [] X.env := by rfl) (hpl : (backTo pos (starEach [.Name "int" p1] X.env)).any (·.1) = false := by rfl) :
    DE T X (.Call (.Name "isinstance" p0) [e, .Name "int" p1] [] pos) ρ O (.bl (isaInt x)) O1 := de_isi L.isinstance L.int bt_int ha hx.dty (kit_int hx) (by decide +kernel) hg hg2 (by decide) (by decide) he he2 hpl
theorem de_isBool (hx : Pl x) (ha : DE T X e ρ O x O1) (hg : Gl X "isinstance" := by rfl) (hg2 : Gl X "bool" := by rfl) (he : starEach [e, .Name "bool" p1] X.env = (false, eval e X.env) :: starEach [.Name "bool" p1] X.env := by rfl) (he2 : starEach [.Name "bool" p1] X.env = (false, eval (.Name "bool" p1) X.env) :: starEach [] X.env := by rfl) (hpl : (backTo pos (starEach [.Name "bool" p1] X.env)).any (·.1) = false := by rfl) :
    DE T X (.Call (.Name "isinstance" p0) [e, .Name "bool" p1] [] pos) ρ O (.bl (isaBool x)) O1 := de_isi L.isinstance L.bool bt_bool ha hx.dty (kit_bool hx) (by decide +kernel) hg hg2 (by decide) (by decide) he he2 hpl
theorem de_isStr (hx : Pl x) (ha : DE T X e ρ O x O1) (hg : Gl X "isinstance" := by rfl) (hg2 : Gl X "str" := by rfl) (he : starEach [e, .Name "str" p1] X.env = (false, eval e X.env) :: starEach [.Name "str" p1] X.env := by rfl) (he2 : starEach [.Name "str" p1] X.env = (false, eval (.Name "str" p1) X.env) :: starEach [] X.env := by rfl) (hpl : (backTo pos (starEach [.Name "str" p1] X.env)).any (·.1) = false := by rfl) :
    DE T X (.Call (.Name "isinstance" p0) [e, .Name "str" p1] [] pos) ρ O (.bl (isaStr x)) O1 := de_isi L.isinstance L.str bt_str ha hx.dty (kit_str hx) (by decide +kernel) hg hg2 (by decide) (by decide) he he2 hpl
theorem de_isList (hx : Pl x) (ha : DE T X e ρ O x O1) (hg : Gl X "isinstance" := by rfl) (hg2 : Gl X "list" := by rfl) (he : starEach [e, .Name "list" p1] X.env = (false, eval e X.env) :: starEach [.Name "list" p1] X.env := by rfl) (he2 : starEach [.Name "list" p1] X.env = (false, eval (.Name "list" p1) X.env) :: starEach [] X.env := by rfl) (hpl : (backTo pos (starEach [.Name "list" p1] X.env)).any (·.1) = false := by rfl) :
    DE T X (.Call (.Name "isinstance" p0) [e, .Name "list" p1] [] pos) ρ O (.bl (isaList x)) O1 := de_isi L.isinstance L.list bt_list ha hx.dty (kit_list hx) (by decide +kernel) hg hg2 (by decide) (by decide) he he2 hpl
theorem de_isTup (hx : Pl x) (ha : DE T X e ρ O x O1) (hg : Gl X "isinstance" := by rfl) (hg2 : Gl X "tuple" := by rfl) (he : starEach [e, .Name "tuple" p1] X.env = (false, eval e X.env) :: starEach [.Name "tuple" p1] X.env := by rfl) (he2 : starEach [.Name "tuple" p1] X.env = (false, eval (.Name "tuple" p1) X.env) :: starEach [] X.env := by rfl) (hpl : (backTo pos (starEach [.Name "tuple" p1] X.env)).any (·.1) = false := by rfl) :
    DE T X (.Call (.Name "isinstance" p0) [e, .Name "tuple" p1] [] pos) ρ O (.bl (isaTup x)) O1 := de_isi L.isinstance L.tuple bt_tuple ha hx.dty (kit_tuple hx) (by decide +kernel) hg hg2 (by decide) (by decide) he he2 hpl
/-- isinstance(x, (list, tuple)) -/
theorem de_isLT (hx : Pl x) (ha : DE T X e ρ O x O1)
    (hg : Gl X "isinstance" := by rfl) (hg2 : Gl X "list" := by rfl) (hg3 : Gl X "tuple" := by rfl)
    (he : starEach [e, .Tuple [.Name "list" p1, .Name "tuple" p2] x1 p3] X.env = (false, eval e X.env) :: starEach [.Tuple [.Name "list" p1, .Name "tuple" p2] x1 p3] X.env := by rfl) (he2 : starEach [.Tuple [.Name "list" p1, .Name "tuple" p2] x1 p3] X.env = (false, eval (.Tuple [.Name "list" p1, .Name "tuple" p2] x1 p3) X.env) :: starEach [] X.env := by rfl) (hpl : (backTo pos (starEach [.Tuple [.Name "list" p1, .Name "tuple" p2] x1 p3] X.env)).any (·.1) = false := by rfl)
    (he3 : starEach [.Name "list" p1, .Name "tuple" p2] X.env = (false, eval (.Name "list" p1) X.env) :: starEach [.Name "tuple" p2] X.env := by rfl) (he4 : starEach [.Name "tuple" p2] X.env = (false, eval (.Name "tuple" p2) X.env) :: starEach [] X.env := by rfl) :
    DE T X (.Call (.Name "isinstance" p0) [e, .Tuple [.Name "list" p1, .Name "tuple" p2] x1 p3] [] pos) ρ O (.bl (isaList x || isaTup x)) O1 :=
  de_isi2 L.isinstance L.list bt_list L.tuple bt_tuple ha hx.dty (kit_list hx) (kit_tuple hx) rfl (by decide +kernel) hg hg2 hg3 (by decide) (by decide) (by decide) (by decide) he he2 hpl he3 he4
end
end Dz

namespace Dz
open PySem PySem.Spec PyProof.Rows L2 GxR
/-! ### {'a': .., ..} -/
theorem mergeK_app : ∀ (kvs acc : List (Key × V)), ((acc ++ kvs).map (·.1)).Nodup → mergeK acc kvs = acc ++ kvs
  | [], acc, _ => by rw [List.append_nil]; rfl
  | (k, v) :: kvs, acc, h => by
    have e : acc ++ (k, v) :: kvs = (acc ++ [(k, v)]) ++ kvs := by rw [List.append_assoc]; rfl
    have hk : (acc.any fun kv => decide (kv.1 = k)) = false := by
      cases hq : acc.any fun kv => decide (kv.1 = k) with
      | false => rfl
      | true =>
        obtain ⟨y, hy, ey⟩ := List.any_eq_true.mp hq
        have ey : y.1 = k := of_decide_eq_true ey
        rw [List.map_append, List.nodup_append] at h
        exact absurd ey (h.2.2 y.1 (List.mem_map.mpr ⟨y, hy, rfl⟩) k (by simp))
    have hp : putK acc k v = acc ++ [(k, v)] := by
      unfold putK
      rw [hk]
      rfl
    show mergeK (putK acc k v) kvs = _
    rw [hp, mergeK_app kvs (acc ++ [(k, v)]) (by rw [← e]; exact h), e]
theorem RpKs.keys {K : PySem.W.Frag} {B : Hp} : ∀ {kvs : List (Key × V)} {kd : List (Key × D)}, RpKs K B kvs kd → kvs.map (·.1) = kd.map (·.1)
  | _, _, .nil => rfl
  | _, _, .cons _ r => by rw [List.map_cons, List.map_cons, RpKs.keys r]
theorem RpKs.length {K : PySem.W.Frag} {B : Hp} : ∀ {kvs : List (Key × V)} {kd : List (Key × D)}, RpKs K B kvs kd → kvs.length = kd.length
  | _, _, .nil => rfl
  | _, _, .cons _ r => congrArg Nat.succ (RpKs.length r)
/-- the pairs of a display -/
def DP (T : List Addr) (X : Cx) (pos : Pos) (keys : List (Option Expr)) (values : List Expr) (ρ : List Slot) (O : OH) (kd : List (Key × D)) (O' : OH) : Prop := ∃ trs, PPs X pos keys values trs ∧
  ∀ (σ : L2.St) (B H : Hp), Env X.K B σ ρ → At T X.K B O H → ∀ Q : List (V × V) → Hp → Prop, (∀ kvs B' H', Post T X.K B O H B' O' H' → RpKs X.K B' kvs kd → Q (kvs.map fun kv => (kV kv.1, kv.2)) H') → tPairs trs σ H Q
section
variable {T : List Addr} {X : Cx} {CE : Addr} {ρ : List Slot} {O O1 O2 O3 O4 : OH} {e a b e1 e2 : Expr} {pos p0 : Pos} {d d1 d2 : D} {ks : List (Option Expr)} {vs : List Expr} {kd : List (Key × D)} {E : DEn} {s : Slot} {ss : List Slot}
theorem dp_nil : DP T X pos [] [] ρ O [] O := ⟨[], pps_nil, fun σ B H hE hA Q q => q [] B H (Post.refl hA) .nil⟩
theorem dp_str {k : Str} {j : Nat} {kp : Pos} (he : DE T X e ρ O d O1) (hr : DP T X pos ks vs ρ O1 kd O2) : DP T X pos (some (.Constant (.str k) j kp) :: ks) (e :: vs) ρ O ((.inr k, d) :: kd) O2 := by
  obtain ⟨trs, hp, hq⟩ := hr
  refine ⟨(tC (.str k), WE X e) :: trs, pps_cons pe_str pe_we hp, fun σ B H hE hA Q q => ?_⟩
  show WE X e σ H fun y H2 => tPairs trs σ H2 fun ps H3 => Q ((.str k, y) :: ps) H3
  refine he σ B H hE hA _ fun v B1 H1 p1 r1 => hq σ B1 H1 (hE.mono p1.bb) p1.at' _ fun kvs B2 H2 p2 r2 => ?_
  exact q ((.inr k, v) :: kvs) B2 H2 (p1.trans p2) (.cons (r1.mono p2.bb) r2)
theorem de_dict (h : DP T X pos ks vs ρ O kd O1) (hn : (kd.map (·.1)).Nodup) (hl : kd.length ≤ 15) (hall : ks.all (·.isSome) = true := by rfl) (hkv : ks.length = vs.length := by rfl) (h0 : ks ≠ [] := by exact fun z => by cases z) (h15 : ks.length ≤ 15 := by decide) :
    DE T X (.Dict ks vs pos) ρ O (.dic kd) O1 := by
  obtain ⟨trs, hp, hq⟩ := h
  refine de_of (pe_disp hp hall hkv h0 h15) fun σ B H hE hA Q q p np => ?_
  have p0 := Post.laid (o := .dK []) hA np
  refine hq σ B _ hE p0.at' _ fun kvs B1 H1 p1 r1 => ?_
  have nb : B p = none := hA.noB np
  have no : O p = none := hA.noO np
  have hp1 : upd H p (.dK []) p ≠ none := by rw [upd_same]; exact fun z => by cases z
  have b1 : B1 p = none := (p1.new p hp1 no).trans nb
  have o1 : O1 p = none := p1.keepO hp1 no
  have h1 : H1 p = some (.dK []) := p1.fr p _ upd_same no (hA.newT np)
  refine ⟨h1, kvs, rfl, by rw [RpKs.length r1]; exact hl, ?_⟩
  have em : mergeK [] kvs = kvs := by rw [mergeK_app kvs [] (by rw [List.nil_append, RpKs.keys r1]; exact hn)]; rfl
  rw [em]
  have p2 := Post.over (o := .dK kvs) hA np (p0.trans p1) b1 o1
  have p3 := Post.ice hA np p2 b1 o1 upd_same
  exact q (.ref p) _ _ p3 (.dic upd_same (r1.mono fun c w q => by
    have zc : c ≠ p := fun zc => by
      rw [zc, b1] at q
      cases q
    rw [upd_ne zc]
    exact q))
/-- return [e1, e2, a + b], the lists owned -/
theorem d1_retCat {xs ys : List D} {bp lp : Pos} (h1 : DE T X e1 ρ O d1 O1) (h2 : DE T X e2 ρ O1 d2 O2) (ha : DE T X a ρ O2 (.lst xs) O3) (hb : DE T X b ρ O3 (.lst ys) O4) (hl : xs.length + ys.length ≤ 100000)
    (h : ∀ q p, O4 q = none → O4 p = none → p ≠ q → E.rt (.val (.ref p)) (put (put O4 q (.lst ((xs ++ ys).map .dat))) p (.lst [.dat d1, .dat d2, .val (.ref q)])))
    (s1 : starEach [e1, e2, .BinOp a .Add b bp] X.env = (false, eval e1 X.env) :: starEach [e2, .BinOp a .Add b bp] X.env := by rfl) (s2 : starEach [e2, .BinOp a .Add b bp] X.env = (false, eval e2 X.env) :: starEach [.BinOp a .Add b bp] X.env := by rfl) (s3 : starEach [.BinOp a .Add b bp] X.env = (false, eval (.BinOp a .Add b bp) X.env) :: starEach [] X.env := by rfl) :
    D1 T X CE (.Return (some (.List [e1, e2, .BinOp a .Add b bp] lp)) pos) ρ O E := .mk fun σ B H hE hA Dn W tk l => by
  refine ws_of (ps_ret (pe_lst (pa_cons pe_we (pa_cons pe_we (pa_cons (pe_op op_cat pe_we pe_we) pa_nil s3) s2) s1))) ?_
  refine h1 σ B H hE hA _ fun v1 B1 H1 p1 r1 => h2 σ B1 H1 (hE.mono p1.bb) p1.at' _ fun v2 B2 H2 p2 r2 => ?_
  have hE2 := (hE.mono p1.bb).mono p2.bb
  refine two ha hb hE2 p2.at' fun v w B4 H4 p4 rv rw' => ?_
  cases rv with
  | lst hv rv =>
    cases rw' with
    | lst hw rw' =>
      refine ⟨_, _, _, _, rfl, rfl, p4.at'.base _ _ hv, p4.at'.base _ _ hw, by rw [rv.length, rw'.length]; exact Nat.le_trans hl (by decide), fun q nq => ?_⟩
      have q1 := Post.madeO (o := .lst _) (od := .lst ((xs ++ ys).map .dat)) p4.at' nq (Args.of (rv.append rw'))
      refine ⟨by show 3 ≤ sizeLine; decide, fun p np => ?_⟩
      have ne : p ≠ q := fun z => by
        rw [z, upd_same] at np
        cases np
      have np4 : H4 p = none := by rw [upd_ne ne] at np; exact np
      have q2 := Post.madeO (o := .lst [v1, v2, .ref q]) (od := .lst [.dat d1, .dat d2, .val (.ref q)]) q1.at' np (.cons (show SlotOk X.K B4 (some v1) (.dat d1) from (r1.mono p2.bb).mono p4.bb) (.cons (show SlotOk X.K B4 (some v2) (.dat d2) from r2.mono p4.bb) (.cons (show SlotOk X.K B4 (some (.ref q)) (.val (.ref q)) from rfl) .nil)))
      exact l.rt _ _ (.ref p) B4 _ (h q p (p4.at'.noO nq) (p4.at'.noO np4) ne) (((p1.trans p2).trans p4).trans (q1.trans q2)) rfl
/-- x[k][i] = e, the inner list owned -/
theorem d1_setitemG {o ix : Expr} {c : Addr} {k : Int} {j : Nat} {spos : Pos} (he : DV T X e ρ O s O1) (ho : DV T X o ρ O1 (.val (.ref c)) O2) (hb : DE T X ix ρ O2 (.int k) O3) (hO : O3 c = some (.lst ss)) (hj : ixN ss.length k = some j) (h : E.nx ρ (put O3 c (.lst (ss.set j s))))
    (hsub : ∀ v, assign (.Subscript o ix spos) X.env v = (do
      let ov ← holding [v] (eval o X.env)
      let iv ← holding [v, ov] (eval ix X.env)
      standAt spos
      holding [v, ov, iv] (setItem ov iv v)
      release [v, ov, iv] []) := by intro _; rfl)
    (h1 : swapsWithSole [.Subscript o ix spos] e pos.line X.env = pure false := by rfl) (h2 : swappedStores [.Subscript o ix spos] e X.env = pure none := by rfl) (h3 : (assignEach [.Subscript o ix spos] X.env).map (·.2) = [assign (.Subscript o ix spos) X.env] := by rfl) :
    D1 T X CE (.Assign [.Subscript o ix spos] e pos) ρ O E := .mk fun σ B H hE hA Dn W tk l => by
  refine ws_of (ps_asg pe_we (pg_sub pe_we pe_we set_list hsub) h1 h2 h3) ?_
  refine he σ B H hE hA _ fun w B1 H1 p1 r1 => ho σ B1 H1 (hE.mono p1.bb) p1.at' _ fun ov B2 H2 p2 r2 => ?_
  have ev : ov = .ref c := r2
  subst ev
  have hE2 := (hE.mono p1.bb).mono p2.bb
  refine hb σ B2 H2 hE2 p2.at' _ fun iv B3 H3 p3 r3 => ?_
  cases r3
  obtain ⟨_, u, hu, ok⟩ := p3.at'.own c _ hO
  cases u <;> try exact ok.elim
  rename_i vs
  have lv : vs.length = ss.length := Args.length ok
  have po := Post.put (u := .lst (vs.set j w)) (od := .lst (ss.set j s)) p3.at' hO (Args.set ((r1.mono p2.bb).mono p3.bb) j ok)
  exact ⟨c, vs, k, j, rfl, rfl, hu, by rw [lv]; exact hj, l.nx _ _ _ B3 _ h (((p1.trans p2).trans p3).trans po) (hE2.mono p3.bb)⟩
end
/-- a list within an owned list is frozen -/
theorem ds_freezeIn {T : List Addr} {X : Cx} {CE : Addr} {ρ : List Slot} {O : OH} {E : DEn} {body : List Stmt} {a c : Addr} {ds : List D} {ss : List Slot} (j : Nat) (hc : O c = some (.lst (ds.map .dat))) (ha : O a = some (.lst ss)) (hj : ss[j]? = some (.val (.ref c))) (hne : a ≠ c)
    (h : DS T X CE body ρ (put (cut O c) a (.lst (ss.set j (.dat (.lst ds))))) E) : DS T X CE body ρ O E := .mk fun σ B H hE hA Dn W tk l => by
  obtain ⟨_, u, hu, ok⟩ := hA.own c _ hc
  cases u <;> try exact ok.elim
  rename_i vs
  have po := Post.freeze hA hc hu
  have ha' : cut O c a = some (.lst ss) := by rw [cut_ne hne]; exact ha
  obtain ⟨na, u2, hu2, ok2⟩ := po.at'.own a _ ha'
  cases u2 <;> try exact ok2.elim
  rename_i ws
  have ew : ws.set j (.ref c) = ws := by
    obtain ⟨w, e1, e2⟩ := Args.get ok2 hj
    have e2 : w = .ref c := e2
    subst e2
    exact set_same e1
  have ok3 : Args X.K (upd B c (.lst vs)) ws (ss.set j (.dat (.lst ds))) := by
    have q := Args.set (v := .ref c) (s := .dat (.lst ds)) (show SlotOk X.K (upd B c (.lst vs)) (some (.ref c)) (.dat (.lst ds)) from .lst upd_same ((Args.all ok).mono po.bb)) j ok2
    rw [ew] at q
    exact q
  have p2 := Post.put (u := .lst ws) (od := .lst (ss.set j (.dat (.lst ds)))) po.at' ha' ok3
  have eH : upd H a (.lst ws) = H := by
    funext b
    by_cases hb : b = a
    · rw [hb, upd_same, hu2]
    · rw [upd_ne hb]
  rw [eH] at p2
  have p3 := po.trans p2
  exact h σ _ H (hE.mono p3.bb) p3.at' Dn W tk (l.step p3)
end Dz

/-! enumerate(x), x a list or a tuple, walked by a for -/
namespace PySem
section
set_option maxHeartbeats 1000000 in
theorem dz_meets_enum {v : Value} {ob : Obj} {G : Heap → Prop} (B : Begins v ob G) :
    Meets (Builtin.«enumerate.__new__» ⟨[.type "enumerate", v], []⟩) (fun _ R s => G s.heap ∧
      R (.ok (.ret (.ref (s.heap.push ob).objs.size))) { s with heap := (s.heap.push ob).push { cls := .type "enumerate", data := .fields #[.none, .bool false, .ref s.heap.objs.size, rawInt 0, .none, .none] } }) :=
  .of_wp fun prog w A R s h => by
    obtain ⟨hp, g, dr, tk, os⟩ := s
    obtain ⟨h1, h⟩ := h
    have hsub := sub_enumerate
    have q1 : ∀ {A' : Around} {E' : Value → Shared → Prop} {Q : Value → Shared → Prop}, Q (.ref hp.objs.size) ⟨hp.push ob, g, dr, tk, os⟩ → wpAny (model prog w) A' (pyIter v) Q E' ⟨hp, g, dr, tk, os⟩ :=
      fun q => B.iter prog w _ _ ⟨hp, g, dr, tk, os⟩ _ h1 q
    wp_walk using q1
    refine wpAny_stack_any fun st => wpAny_pure ?_
    split
    · rename_i c _ _ _ _ _
      cases (c == Value.type "enumerate")
      · wp_walk using q1
        exact ⟨_, rfl, h⟩
      · wp_walk using q1
        exact ⟨_, rfl, h⟩
    · wp_walk using q1
      exact ⟨_, rfl, h⟩
variable {prog : Program} {w : World} {A : Around} {E : Value → Shared → Prop} {s : Shared}
theorem dz_call_enum {v : Value} {ob : Obj} {G : Heap → Prop} {Q : Value → Shared → Prop} (B : Begins v ob G) (h1 : G s.heap)
    (h : ∀ h', IsEnum h' (s.heap.objs.size + 1) s.heap.objs.size 0 .none → h'.get? s.heap.objs.size = some ob → h'.objs.size = s.heap.objs.size + 2 →
      (∀ b o, s.heap.get? b = some o → h'.get? b = some o) → Q (.ref (s.heap.objs.size + 1)) { s with heap := h' }) :
    wpAny (model prog w) A (call (.type "enumerate") [v]) Q E s := by
  refine callType_new F.called_enumerate (by decide) (F.typeCall_enumerate_1 _) (F.newCall_enumerate_1 _) (fun obj => F.args_object_init_2 obj _) F.entry_enumerate_new
    (dz_meets_enum B) ⟨h1, ?_⟩
  have hz : (s.heap.push ob).objs.size = s.heap.objs.size + 1 := Heap.size_push ..
  show _ ∧ _
  rw [hz]
  have he : IsEnum ((s.heap.push ob).push { cls := .type "enumerate", data := .fields #[.none, .bool false, .ref s.heap.objs.size, rawInt 0, .none, .none] }) (s.heap.objs.size + 1) s.heap.objs.size 0 .none := by
    have q := Heap.get?_push_size (s.heap.push ob) (o := { cls := .type "enumerate", data := .fields #[.none, .bool false, .ref s.heap.objs.size, rawInt 0, .none, .none] }) rfl
    rw [hz] at q
    exact q
  exact ⟨⟨_, he, rfl⟩, h _ he (Heap.get?_push_of_some _ (Heap.get?_push_size _ B.free)) (by rw [Heap.size_push, hz]) fun b o x => Heap.get?_push_of_some _ (Heap.get?_push_of_some _ x)⟩
end
end PySem
namespace Dz
open PySem PySem.Spec PyProof.Rows L2 GxR
/-- the tuple at a as it stands at each turn, each item in a new pair -/
def IteT (K : PySem.W.Frag) (a : Addr) : It :=
  ⟨fun i H => ∃ (xs : List V) (x : V), SqT K H a xs ∧ xs[i]? = some x, fun i H v H' => ∃ P x, v = .ref P ∧ H P = none ∧ H' = upd H P (.tup [.int (i : Nat), x]) ∧ ∀ xs, SqT K H a xs → xs[i]? = some x, fun i H => ∃ xs : List V, SqT K H a xs ∧ xs.length = i⟩
theorem turn_enumT {P : Program} {w : World} {K : PySem.W.Frag} {elts : List Expr} {kk : Nat} {tpos : Pos} (a e it : Addr) :
    Turn P w K (.Tuple elts kk tpos) (IteT K a) [e, it] e (fun i h => (∃ old, IsEnum h e it ((i : Nat) : Int) old) ∧ h.IsTupleIter it a i ∧ e ≠ it) where
  mem := by simp
  obj := fun i h st b hb => by
    obtain ⟨⟨old, he⟩, ⟨o, ho, hc, hd⟩, _⟩ := st
    have e' : b = e ∨ b = it := by simpa using hb
    rcases e' with z | z
    · rw [z]
      exact ⟨_, he, fun v q => nomatch q⟩
    · rw [z]
      exact ⟨o, ho, fun v q => by rw [hd] at q; cases q⟩
  keep := fun i h h' st k => by
    obtain ⟨⟨old, he⟩, hi, hne⟩ := st
    exact ⟨⟨old, k e (by simp) _ he⟩, hi.at fun o q => k it (by simp) o q, hne⟩
  item := by
    intro X hP hw hK hc i pins s σ H E I hf st hg
    subst hP hw hK
    obtain ⟨⟨old, he⟩, hit, hne⟩ := st
    obtain ⟨xs, x, hq, hx⟩ := hg
    obtain ⟨its, rv, p, hz⟩ := I.tuple hq
    obtain ⟨u, hu, ru⟩ := rv.get hx
    have hel : e < s.heap.objs.size := Heap.lt_size he
    have hil : it < s.heap.objs.size := by
      obtain ⟨_, q, _⟩ := hit
      exact Heap.lt_size q
    have hai : a ≠ it := fun z => by
      obtain ⟨o, ho, hcl, hd⟩ := id hit
      obtain ⟨o', ho', hcl', hd'⟩ := show s.heap.IsTuple a its.toArray from p
      rw [z, ho] at ho'
      cases ho'
      rw [hcl] at hcl'
      exact absurd (Value.type.inj hcl') (by decide)
    have hae : e ∉ [it, a] := fun z => by
      have z' : e = it ∨ e = a := by simpa using z
      rcases z' with z' | z'
      · exact hne z'
      · obtain ⟨o', ho', hcl', hd'⟩ := show s.heap.IsTuple a its.toArray from p
        rw [← z', he] at ho'
        cases ho'
        exact absurd (Value.type.inj hcl') (by decide)
    have hlt : i < its.toArray.size := by
      have := (List.getElem?_eq_some_iff.mp hu).1
      simpa using this
    refine wpAny_pyNext_enum_itemD (Draws.tuple (A := X.A.in1) (show X.A.in1.handled = none from I.ok.hd hc) it a hai its.toArray) he ⟨hit, p⟩ hlt hne hae fun y h' tk hy ho hs' hT hsz hk => ?_
    have ey : y = u := by
      have q : its.toArray[i]? = some u := by simpa using hu
      rw [q] at hy
      exact (Option.some.inj hy).symm
    subst ey
    refine ⟨_, rfl, wpAny_letOwnedTupleGo_enum (s := { s with heap := h', toks := tk + 1 }) ho fun h'' he' sb => ?_⟩
    have hT2 : h''.get? s.heap.objs.size = some { cls := .type "tuple", data := .seq #[.int i tk, y] } := (sb.2 _ (Nat.ne_of_gt hel)).trans hT
    have new : ObjOk X.prog X.w (upd H s.heap.objs.size (.tup [.int (i : Nat), x])) h'' s.heap.objs.size (.tup [.int (i : Nat), x]) :=
      ⟨by show 2 ≤ sizeLine; decide, [.int i tk, y], .cons ⟨_, rfl⟩ (.cons ru .nil), ⟨_, hT2, rfl, _, rfl⟩⟩
    have I1 : Inv X pins σ (upd H s.heap.objs.size (.tup [.int (i : Nat), x])) { s with heap := h'', toks := tk + 1 } :=
      I.turnedNew (ch := [e, it]) (fun b ob hb q => (sb.2 b (fun z => hb (by simp [z]))).trans (hk b ob (fun z => hb (by simp [z])) (fun z => hb (by simp [z])) q)) hf (Nat.le_refl _) new
    refine ⟨.ref s.heap.objs.size, _, I1, rfl, ⟨_, x, rfl, I.hok.fresh (Nat.le_refl _), rfl, fun ys hy => by rw [I.tuple_inj hy hq]; exact hx⟩, ⟨⟨y, ?_⟩, hs'.1.at fun o q => (sb.2 it (Ne.symm hne)).trans q, hne⟩, fun b hb => ?_⟩
    · have e1 : ((i + 1 : Nat) : Int) = (i : Int) + 1 := by omega
      rw [e1]
      exact he'
    · have hb' : b < s.heap.objs.size := by
        have e' : b = e ∨ b = it := by simpa using hb
        rcases e' with z | z
        · rw [z]
          exact hel
        · rw [z]
          exact hil
      rw [upd_ne (Nat.ne_of_lt hb')]
      exact (hf b hb).1
  done := by
    intro X hP hw hK hc i pins s σ H E I hf st hg
    subst hP hw hK
    obtain ⟨⟨old, he⟩, hit, hne⟩ := st
    obtain ⟨xs, hq, hx⟩ := hg
    obtain ⟨its, rv, p, hz⟩ := I.tuple hq
    obtain ⟨f0, f1, f2, f3, f4, f5⟩ := hf it (by simp)
    have hl := rv.length
    have ei : i = its.toArray.size := by rw [← hx, hl]; simp
    have hai : a ≠ it := fun z => by
      obtain ⟨o, ho, hcl, hd⟩ := id hit
      obtain ⟨o', ho', hcl', hd'⟩ := show s.heap.IsTuple a its.toArray from p
      rw [z, ho] at ho'
      cases ho'
      rw [hcl] at hcl'
      exact absurd (Value.type.inj hcl') (by decide)
    subst ei
    exact wpAny_pyNext_enum_endD (Draws.tuple (A := X.A.in1) (show X.A.in1.handled = none from I.ok.hd hc) it a hai its.toArray) he ⟨hit, p⟩ fun h' eb => ⟨rfl, I.turned (t' := s.toks) (fun b o hb q => eb b o hb q) f0 f1 f3 f4 f5⟩
  self := fun A i s Q E st h => by
    obtain ⟨⟨_, he⟩, _⟩ := st
    exact wpAny_pyIter_enum he h
def iEnumT (K : PySem.W.Frag) (ta : TA) : TI := fun σ H R => ta σ H fun vs H1 => ∃ a xs, vs = [.ref a] ∧ SqT K H1 a xs ∧ R (IteT K a) H1
theorem pi_enumT {X : Cx} {e : Expr} {ta : TA} {p pos tpos : Pos} {elts : List Expr} {kk : Nat} (hg : Gl X "enumerate") (hm : X.mg "enumerate" = none) (ha : PA X [e] ta) (hs : starEach [e] X.env = [(false, eval e X.env)] := by rfl) :
    PI X (.Tuple elts kk tpos) (.Call (.Name "enumerate" p) [e] [] pos) (iEnumT X.K ta) := by
  refine ⟨fun pins s σ H R I h => ?_⟩
  refine Call_ (ld_blt I hg hm boot_enumerate (PyProof.Rows.callWith_type1 (thn (ha.run pos pins s σ H _ I h) fun us s1 ⟨vs, H1, I1, r1, q1⟩ => ?_) hs rfl))
  obtain ⟨a, xs, ex, hq, q⟩ := q1
  subst ex
  cases r1 with
  | cons r rr =>
    cases rr
    cases r
    obtain ⟨its, rv, p', hz⟩ := I1.tuple hq
    refine dz_call_enum (begins_tuple a its.toArray) (show s1.heap.IsTuple a its.toArray from p') fun h' he hit hsz hk => wpAny_pyIter_enum he ?_
    have I2 : Inv X pins σ H1 { s1 with heap := h' } := I1.kept (t' := s1.toks) hk
    have hti : h'.IsTupleIter s1.heap.objs.size a 0 := ⟨_, hit, rfl, rfl⟩
    refine ⟨s1.heap.objs.size + 1, [s1.heap.objs.size + 1, s1.heap.objs.size], _, _, H1, rfl, I2, turn_enumT a (s1.heap.objs.size + 1) s1.heap.objs.size, ⟨⟨.none, he⟩, hti, Nat.succ_ne_self _⟩, fun b hb => ?_, q⟩
    have e' : b = s1.heap.objs.size + 1 ∨ b = s1.heap.objs.size := by simpa using hb
    have hle : s1.heap.objs.size ≤ b := by
      rcases e' with z | z
      · rw [z]
        exact Nat.le_succ _
      · rw [z]
        exact Nat.le_refl _
    exact I1.fpOk hle (I1.hok.fresh hle)
theorem walk_enumT {K : PySem.W.Frag} {a : Addr} {xs : List V} : Walk (IteT K a) xs.length (fun H => SqT K H a xs) (YPair (fun i => some (.int (i : Nat))) (fun i => xs[i]?)) := by
  refine ⟨fun i _ hi q => ⟨xs, xs[i], q, by simp [hi]⟩, fun _ q => ⟨xs, q, rfl⟩, fun i H v H' _ q y => ?_⟩
  obtain ⟨P, x, h1, h2, h3, h4⟩ := y
  exact ⟨P, .int (i : Nat), x, h1, h2, h3, rfl, h4 xs q⟩

section
variable {T : List Addr} {X : Cx} {CE : Addr} {ρ : List Slot} {O O1 : OH} {e : Expr} {es : List Expr} {pos pos' tp : Pos} {ds : List D} {E : DEn} {body : List Stmt}
/-- for a, b in enumerate(e) -/
theorem d1_forET {k i1 i2 : Nat} {p0 : Pos} (I : Nat → List Slot → OH → Prop) (he : DE T X e ρ O (.tup ds) O1) (h0 : I 0 ρ O1) (hN : X.N.Nodup) (hn : Names X es [i1, i2])
    (hs : ∀ (j : Nat) d ρ' O', ds[j]? = some d → I j ρ' O' → DS T X CE body ((ρ'.set i1 (.dat (.int (j : Int)))).set i2 (.dat d)) O' { E with nx := I (j + 1), ct := I (j + 1), bk := E.nx }) (hd : ∀ ρ' O', I ds.length ρ' O' → E.nx ρ' O')
    (hm : X.mg "enumerate" = none) (hp : PassesOwn (model X.prog X.w) X.A X.env X.xe) (hg : Gl X "enumerate" := by rfl) (hc : X.calm = true := by rfl) (g1 : (assignEach es X.env).length = 2 := by rfl) (g2 : (assignEach es X.env).findIdx? (·.1) = none := by rfl)
    (h1 : starEach [e] X.env = [(false, eval e X.env)] := by rfl) (hfold : ∀ x, foldedSetIterable (.Call (.Name "enumerate" p0) [e] [] pos') X.env x = pure x := by intro _; rfl) :
    D1 T X CE (.For (.Tuple es k tp) (.Call (.Name "enumerate" p0) [e] [] pos') body [] pos) ρ O E := .mk fun σ B H hE hA Dn W tk l => by
  refine ws_of (ps_for hp hc (pi_enumT hg hm (pa_cons pe_we pa_nil h1) h1) (pg_tup hc (pgs_names hN hn) g1 g2) pss_wss hfold) ?_
  refine he σ B H hE hA _ fun v B1 H1 p1 r1 => ?_
  cases r1 with
  | tup hq r =>
    rename_i a xs
    refine ⟨a, xs, rfl, same_t p1.at'.base hq, for_it (walk_enumT (K := X.K) (a := a) (xs := xs)) (fun j σ' H' => ∃ ρ' O' B', I j ρ' O' ∧ Post T X.K B O H B' O' H' ∧ Same B1 B' ∧ Env X.K B' σ' ρ') ⟨ρ, O1, B1, h0, p1, Same.refl _, hE.mono p1.bb⟩ (fun j σ' H' _ ⟨_, _, B', _, po, sb, _⟩ => same_t po.at'.base (same_t sb hq)) ?_ ?_⟩
    · rintro j y σ' H' H2 hj ⟨ρ', O', B', hI, po, sb, hE'⟩ ⟨P, x, z, ey, hP, eH, hx, hz⟩
      subst ey eH
      obtain ⟨d, hd1, hd2⟩ := r.getV hz
      cases hx
      have pm := Post.made (o := .tup [.int (j : Nat), z]) po.at' hP
      have po2 := po.trans pm
      refine ⟨P, _, rfl, SqT.of upd_same, rfl, rfl, ?_⟩
      show WSs X body _ ((σ'.set i1 (some (.int (j : Nat)))).set i2 (some z)) _
      have hE2 := ((hE'.mono pm.bb).set (o := some (.int (j : Nat))) (s := .dat (.int (j : Int))) (show SlotOk X.K _ (some (.int (j : Nat))) (.dat (.int (j : Int))) from .int _) i1).set (o := some z) (s := .dat d) (show SlotOk X.K _ (some z) (.dat d) from (hd2.mono sb).mono pm.bb) i2
      refine hs j d ρ' O' hd1 hI _ _ _ hE2 pm.at' _ W tk ?_
      have l' := l.step po2
      exact ⟨fun ρ2 O2 σ2 B2 H2 h p2 e2 => ⟨ρ2, O2, B2, h, po2.trans p2, (sb.trans pm.bb).trans p2.bb, e2⟩, l'.rt, l'.nx, fun ρ2 O2 σ2 B2 H2 h p2 e2 => ⟨ρ2, O2, B2, h, po2.trans p2, (sb.trans pm.bb).trans p2.bb, e2⟩, l'.ex⟩
    · rintro σ' H' ⟨ρ', O', B', hI, po, sb, hE'⟩
      rw [r.length] at hI
      exact l.nx _ _ _ B' H' (hd ρ' O' hI) po hE'
theorem d1_forEL {k i1 i2 : Nat} {p0 : Pos} (I : Nat → List Slot → OH → Prop) (he : DE T X e ρ O (.lst ds) O1) (h0 : I 0 ρ O1) (hN : X.N.Nodup) (hn : Names X es [i1, i2])
    (hs : ∀ (j : Nat) d ρ' O', ds[j]? = some d → I j ρ' O' → DS T X CE body ((ρ'.set i1 (.dat (.int (j : Int)))).set i2 (.dat d)) O' { E with nx := I (j + 1), ct := I (j + 1), bk := E.nx }) (hd : ∀ ρ' O', I ds.length ρ' O' → E.nx ρ' O')
    (hm : X.mg "enumerate" = none) (hp : PassesOwn (model X.prog X.w) X.A X.env X.xe) (hg : Gl X "enumerate" := by rfl) (hc : X.calm = true := by rfl) (g1 : (assignEach es X.env).length = 2 := by rfl) (g2 : (assignEach es X.env).findIdx? (·.1) = none := by rfl)
    (h1 : starEach [e] X.env = [(false, eval e X.env)] := by rfl) (hfold : ∀ x, foldedSetIterable (.Call (.Name "enumerate" p0) [e] [] pos') X.env x = pure x := by intro _; rfl) :
    D1 T X CE (.For (.Tuple es k tp) (.Call (.Name "enumerate" p0) [e] [] pos') body [] pos) ρ O E := .mk fun σ B H hE hA Dn W tk l => by
  refine ws_of (ps_for hp hc (pi_enum hg hm (pa_cons pe_we pa_nil h1) h1) (pg_tup hc (pgs_names hN hn) g1 g2) pss_wss hfold) ?_
  refine he σ B H hE hA _ fun v B1 H1 p1 r1 => ?_
  cases r1 with
  | lst hq r =>
    rename_i a xs
    refine ⟨a, xs, rfl, SqL.of (p1.at'.base _ _ hq), for_it (walk_enum (K := X.K) (a := a) (xs := xs)) (fun j σ' H' => ∃ ρ' O' B', I j ρ' O' ∧ Post T X.K B O H B' O' H' ∧ Same B1 B' ∧ Env X.K B' σ' ρ') ⟨ρ, O1, B1, h0, p1, Same.refl _, hE.mono p1.bb⟩ (fun j σ' H' _ ⟨_, _, B', _, po, sb, _⟩ => SqL.of (po.at'.base _ _ (sb _ _ hq))) ?_ ?_⟩
    · rintro j y σ' H' H2 hj ⟨ρ', O', B', hI, po, sb, hE'⟩ ⟨P, x, z, ey, hP, eH, hx, hz⟩
      subst ey eH
      obtain ⟨d, hd1, hd2⟩ := r.getV hz
      cases hx
      have pm := Post.made (o := .tup [.int (j : Nat), z]) po.at' hP
      have po2 := po.trans pm
      refine ⟨P, _, rfl, SqT.of upd_same, rfl, rfl, ?_⟩
      show WSs X body _ ((σ'.set i1 (some (.int (j : Nat)))).set i2 (some z)) _
      have hE2 := ((hE'.mono pm.bb).set (o := some (.int (j : Nat))) (s := .dat (.int (j : Int))) (show SlotOk X.K _ (some (.int (j : Nat))) (.dat (.int (j : Int))) from .int _) i1).set (o := some z) (s := .dat d) (show SlotOk X.K _ (some z) (.dat d) from (hd2.mono sb).mono pm.bb) i2
      refine hs j d ρ' O' hd1 hI _ _ _ hE2 pm.at' _ W tk ?_
      have l' := l.step po2
      exact ⟨fun ρ2 O2 σ2 B2 H2 h p2 e2 => ⟨ρ2, O2, B2, h, po2.trans p2, (sb.trans pm.bb).trans p2.bb, e2⟩, l'.rt, l'.nx, fun ρ2 O2 σ2 B2 H2 h p2 e2 => ⟨ρ2, O2, B2, h, po2.trans p2, (sb.trans pm.bb).trans p2.bb, e2⟩, l'.ex⟩
    · rintro σ' H' ⟨ρ', O', B', hI, po, sb, hE'⟩
      rw [r.length] at hI
      exact l.nx _ _ _ B' H' (hd ρ' O' hI) po hE'
end
end Dz

/-! sorted(x), x a list of tuples of small ints, any number of them -/
namespace DzR
open PySem PyProof.Rows Srt
theorem swo_rank (f : Value → Int) : SrtO.Swo fun v u => decide (f v < f u) := by
  refine ⟨fun x y h => ?_, fun x y z h1 h2 => ?_⟩
  · have a := of_decide_eq_true (p := f x < f y) h
    exact decide_eq_false (p := f y < f x) (by omega)
  · have a := of_decide_eq_false (p := f y < f x) h1
    have b := of_decide_eq_false (p := f z < f y) h2
    exact decide_eq_false (p := f z < f x) (by omega)
section
variable {prog : Program} {w : World} {A : Around} {E : Value → Shared → Prop} {s : Shared}
theorem tups_cmp {vs : List Value} {k : Value → List Int} {d : Nat} {B : Int} (hp : ∀ v ∈ vs, TS.TupInts s.heap v (k v) ∧ (k v).length = d ∧ TS.Bd B (k v)) :
    SrtO.Cmp prog w A s (tuples' true) (fun p => p.1 ∈ vs) (SrtO.lt2 fun v u => decide (TS.code B (k v) < TS.code B (k u))) := by
  intro p q hm hm'
  obtain ⟨t1, l1, b1⟩ := hp _ hm
  obtain ⟨t2, l2, b2⟩ := hp _ hm'
  show wpAny (model prog w) A (keyLt' (tuples' true) p.1 q.1) (fun r s' => s' = s ∧ r = decide (TS.code B (k p.1) < TS.code B (k q.1))) (fun _ _ => False) s
  generalize k p.1 = ns at t1 l1 b1 ⊢
  generalize k q.1 = ms at t2 l2 b2 ⊢
  obtain ⟨a, xs, e1, ⟨o, ho, hc, n, hdt⟩, i⟩ := t1
  obtain ⟨a', ys, e2, ⟨o', ho', hc', n', hdt'⟩, i'⟩ := t2
  rw [e1, e2]
  refine PySem.W.kat_lt ho hdt ho' hdt' ?_
  have sz : decide (xs.size < ys.size) = false := by
    have q1 := i.length
    have q2 := i'.length
    rw [Array.length_toList] at q1 q2
    exact decide_eq_false (by omega)
  rw [sz]
  exact TS.lex_ints 0 i i' (by omega) b1 b2 ⟨rfl, rfl⟩
theorem tups_sortable {a : Addr} {vs : List Value} {k : Value → List Int} {d : Nat} {B : Int} (hd : 1 ≤ d) (h2 : 2 ≤ vs.length) (hp : ∀ v ∈ vs, TS.TupInts s.heap v (k v) ∧ (k v).length = d ∧ TS.Bd B (k v)) (ha : ∀ o, s.heap.get? a = some o → o.cls ≠ .type "tuple") :
    SrtO.SortableO prog w A s a vs fun v u => decide (TS.code B (k v) < TS.code B (k u)) := by
  intro h' keep
  have hp' : ∀ v ∈ vs, TS.TupInts h' v (k v) ∧ (k v).length = d ∧ TS.Bd B (k v) := fun v hm => by
    obtain ⟨t1, l1, b1⟩ := hp v hm
    exact ⟨t1.keeps fun b o e c => keep b o (fun z => by subst z; exact ha o e c) e, l1, b1⟩
  have hx : TS.TupsOk h' d B vs := fun v hm => ⟨_, hp' v hm⟩
  obtain ⟨fs, q1, q2, q3⟩ := TS.firsts_of hd vs hx
  refine ⟨tuples' true, fun Q E' hq => ?_, tups_cmp (s := { s with heap := h' }) hp'⟩
  refine PySem.W.kat_kind (T := .type "int") q1 (by omega) (fun f hm => ?_) (by rfl) ?_
  · obtain ⟨x, t, rfl⟩ := q3 f hm
    exact PySem.W.Looks.now
  · have e : (Value.type "int" != Value.type "tuple") = true := by first | decide +kernel | rfl | decide
    rw [e]
    exact hq
end
end DzR
namespace Dz
open PySem PySem.Spec PyProof.Rows L2 GxR
/-- sorted(xs), xs tuples of d ints below B -/
def rSrtT (K : PySem.W.Frag) (d : Nat) (B : Int) : List V → Hp → VK → Prop := fun vs H Q => ∃ (a : Addr) (xs : List V), vs = [V.ref a] ∧ SqL K H a xs ∧ (∀ x ∈ xs, ∃ ns, TupI K H x ns ∧ ns.length = d ∧ TS.Bd B ns) ∧
  ∀ (ys : List V) (p : Addr), ys.Perm xs → ys.Pairwise (fun x y => ∀ n m, TupI K H x n → TupI K H y m → TS.code B n ≤ TS.code B m) → H p = none → Q (.ref p) (upd H p (.lst ys))
theorem cr_srtT {X : Cx} {d : Nat} {B : Int} (hd : 1 ≤ d) : CallR X (.builtin "sorted") (rSrtT X.K d B) := by
  intro pins s σ H vs us Q I r h
  obtain ⟨a, xs, rfl, hs, hx, q⟩ := h
  obtain ⟨its, rv, hl, hz⟩ := I.list hs
  rw [Vals.ref1 r]
  obtain ⟨e1, e2⟩ := bkV_refs rv fun x m => by
    obtain ⟨ns, ⟨t, e, _⟩, _⟩ := hx x m
    exact ⟨t, e⟩
  have hk : ∀ v ∈ its, TS.TupInts s.heap v (TS.intsOf s.heap v) ∧ (TS.intsOf s.heap v).length = d ∧ TS.Bd B (TS.intsOf s.heap v) := fun v hv => by
    obtain ⟨t, rfl⟩ := e2 v hv
    have hm : V.ref t ∈ xs := by
      rw [e1]
      exact List.mem_map.mpr ⟨_, hv, rfl⟩
    obtain ⟨ns, ⟨t', e, ht⟩, hn, hb⟩ := hx _ hm
    cases e
    have ti := tupI_raw I ht
    rw [ti.ints]
    exact ⟨ti, hn, hb⟩
  refine SrtO.sorted_ord (DzR.swo_rank fun v => TS.code B (TS.intsOf s.heap v)) hl.isList (by rw [← rv.length]; exact hz) (fun h2 h₁ a' ha kk => ?_) fun out h1 h2 => ?_
  · refine DzR.tups_sortable (s := { s with heap := h₁ }) hd h2 (fun v hm => ?_) fun o e => ?_
    · obtain ⟨t1, l1, b1⟩ := hk v hm
      exact ⟨t1.keeps fun b o e _ => (kk b o e).2, l1, b1⟩
    · have e' : some o = some (seqObj "list" its.toArray 0) := e.symm.trans ha
      cases e'
      intro c
      exact absurd (Value.type.inj c) (by decide)
  · obtain ⟨ep, he'⟩ := PyProof.Rows.sortedAll_at s.heap its out.toArray
    have h3 : ∀ u ∈ out, ∃ a, u = Value.ref a := fun u hu => e2 u (h2.perm.mem_iff.mp hu)
    have hp : (out.map bkV).Perm xs := by
      rw [e1]
      exact h2.perm.map bkV
    have hlen : (out.map bkV).length ≤ sizeLine := by
      rw [hp.length_eq]
      exact hz
    have hval : Vals (out.map bkV) out := bkV_vals h3
    refine ⟨.ref _, upd H (s.heap.objs.size + 1) (.lst (out.map bkV)), I.laid (t' := s.toks) (fun _ _ => PyProof.Rows.sortedAll_old) (Nat.le_succ _) ⟨hlen, out, ep, hval, by simpa using he'⟩, rfl, q _ _ hp ?_ (I.hok.fresh (Nat.le_succ _))⟩
    rw [List.pairwise_map]
    refine List.Pairwise.imp (fun {u v} huv n m hn hm => ?_) h1
    obtain ⟨t, et, ht⟩ := hn
    obtain ⟨t', et', ht'⟩ := hm
    have eu := bkV_ref et
    have ev := bkV_ref et'
    have i1 : TS.intsOf s.heap u = n := by
      rw [eu]
      exact (tupI_raw I ht).ints
    have i2 : TS.intsOf s.heap v = m := by
      rw [ev]
      exact (tupI_raw I ht').ints
    have z := of_decide_eq_false huv
    rw [i1, i2] at z
    omega
/-- a tuple of ints -/
def tI (ns : List Int) : D := .tup (ns.map .int)
/-- such lists in order -/
def srtT (B : Int) (nss : List (List Int)) : List (List Int) := nss.mergeSort fun a b => decide (TS.code B a ≤ TS.code B b)
theorem code_inj {B : Int} : ∀ {r q : List Int}, r.length = q.length → TS.Bd B r → TS.Bd B q → TS.code B r = TS.code B q → r = q
  | [], [], _, _, _, _ => rfl
  | d :: r, e :: q, hl, h1, h2, h => by
    have hl' : r.length = q.length := by simpa using hl
    rcases Int.lt_trichotomy d e with z | z | z
    · have := TS.code_lt hl' h1.tail h2.tail z
      omega
    · subst z
      have q1 : ¬ TS.code B r < TS.code B q := fun z => by
        have := (TS.code_same (d := d) hl').mpr z
        omega
      have q2 : ¬ TS.code B q < TS.code B r := fun z => by
        have := (TS.code_same (d := d) hl'.symm).mpr z
        omega
      rw [code_inj hl' h1.tail h2.tail (by omega)]
    · have := TS.code_lt hl'.symm h2.tail h1.tail z
      omega
  | [], _ :: _, hl, _, _, _ => by simp at hl
  | _ :: _, [], hl, _, _, _ => by simp at hl
theorem srtT_perm (B : Int) (nss : List (List Int)) : (srtT B nss).Perm nss := List.mergeSort_perm _ _
theorem srtT_sorted (B : Int) (nss : List (List Int)) : (srtT B nss).Pairwise fun a b => TS.code B a ≤ TS.code B b := by
  have h := List.pairwise_mergeSort (le := fun a b : List Int => decide (TS.code B a ≤ TS.code B b)) (fun a b c h1 h2 => decide_eq_true (Int.le_trans (of_decide_eq_true h1) (of_decide_eq_true h2))) (fun a b => by
    rcases Int.le_total (TS.code B a) (TS.code B b) with h | h
    · rw [decide_eq_true h]; rfl
    · rw [decide_eq_true h, Bool.or_true]) nss
  exact h.imp fun h => of_decide_eq_true h
/-- sorted lists of the same tuples are one -/
theorem srt_uniq {d : Nat} {B : Int} {l m : List (List Int)} (hb : ∀ ns ∈ m, ns.length = d ∧ TS.Bd B ns) (hp : l.Perm m) (h1 : l.Pairwise fun a b => TS.code B a ≤ TS.code B b) (h2 : m.Pairwise fun a b => TS.code B a ≤ TS.code B b) : l = m := by
  refine List.Perm.eq_of_pairwise (le := fun a b : List Int => TS.code B a ≤ TS.code B b) (fun a b ha hb' q1 q2 => ?_) h1 h2 hp
  obtain ⟨a1, a2⟩ := hb a (hp.mem_iff.mp ha)
  obtain ⟨b1, b2⟩ := hb b hb'
  exact code_inj (a1.trans b1.symm) a2 b2 (Int.le_antisymm q1 q2)
theorem srtT_eq {d : Nat} {B : Int} {l m : List (List Int)} (hb : ∀ ns ∈ m, ns.length = d ∧ TS.Bd B ns) (hp : l.Perm m) (h1 : l.Pairwise fun a b => TS.code B a ≤ TS.code B b) : l = srtT B m :=
  srt_uniq (fun ns hn => hb ns ((srtT_perm B m).mem_iff.mp hn)) (hp.trans (srtT_perm B m).symm) h1 (srtT_sorted B m)
theorem srtT_congr {d : Nat} {B : Int} {l m : List (List Int)} (hb : ∀ ns ∈ m, ns.length = d ∧ TS.Bd B ns) (hp : l.Perm m) : srtT B l = srtT B m :=
  srtT_eq hb ((srtT_perm B l).trans hp) (srtT_sorted B l)
theorem RpAll.permL {K : PySem.W.Frag} {H : Hp} {vs ws : List V} (hp : ws.Perm vs) : ∀ {ds : List D}, RpAll K H vs ds → ∃ es, es.Perm ds ∧ RpAll K H ws es := by
  induction hp with
  | nil =>
    intro ds r
    exact ⟨ds, .refl _, r⟩
  | cons x _ ih =>
    intro ds r
    cases r with
    | cons h r =>
      obtain ⟨es, p, r'⟩ := ih r
      exact ⟨_ :: es, p.cons _, .cons h r'⟩
  | swap x y l =>
    intro ds r
    cases r with
    | cons h r =>
      cases r with
      | cons h' r => exact ⟨_ :: _ :: _, .swap _ _ _, .cons h' (.cons h r)⟩
  | trans _ _ ih1 ih2 =>
    intro ds r
    obtain ⟨es, p, r'⟩ := ih2 r
    obtain ⟨es', p', r''⟩ := ih1 r'
    exact ⟨es', p'.trans p, r''⟩
theorem rp_tI {K : PySem.W.Frag} {H H' : Hp} (e : Same H H') {v : V} {ns : List Int} (r : Rp K H v (tI ns)) : TupI K H' v ns := by
  cases (show Rp K H v (.tup (ns.map .int)) from r) with
  | tup h r =>
    have q := rp_ints r
    subst q
    exact ⟨_, rfl, same_t e h⟩
theorem of_map_perm {α β : Type} {f : α → β} {l : List β} {m : List α} (h : l.Perm (m.map f)) : ∃ k : List α, k.Perm m ∧ l = k.map f := by
  generalize hn : m.map f = n at h
  induction h generalizing m with
  | nil =>
    cases m with
    | nil => exact ⟨[], .refl _, rfl⟩
    | cons a m => cases hn
  | cons x _ ih =>
    cases m with
    | nil => cases hn
    | cons a m =>
      rw [List.map_cons] at hn
      injection hn with h1 h2
      obtain ⟨k, p, e⟩ := ih h2
      exact ⟨a :: k, p.cons a, by rw [List.map_cons, h1, e]⟩
  | swap x y l =>
    cases m with
    | nil => cases hn
    | cons a m =>
      cases m with
      | nil => cases hn
      | cons b m =>
        rw [List.map_cons, List.map_cons] at hn
        injection hn with h1 h2
        injection h2 with h2 h3
        exact ⟨b :: a :: m, .swap _ _ _, by rw [List.map_cons, List.map_cons, h1, h2, h3]⟩
  | trans _ _ ih1 ih2 =>
    obtain ⟨k, p, e⟩ := ih2 hn
    obtain ⟨k', p', e'⟩ := ih1 e.symm
    exact ⟨k', p'.trans p, e'⟩
section
variable {T : List Addr} {X : Cx} {ρ : List Slot} {O O1 : OH} {e : Expr} {pos p0 : Pos}
theorem pw_tI {K : PySem.W.Frag} {H H' : Hp} {B : Int} (e : Same H H') : ∀ {ys : List V} {nss : List (List Int)}, RpAll K H ys (nss.map tI) → ys.Pairwise (fun x y => ∀ n m, TupI K H' x n → TupI K H' y m → TS.code B n ≤ TS.code B m) → nss.Pairwise fun a b => TS.code B a ≤ TS.code B b
  | _, [], _, _ => .nil
  | y :: ys, n :: nss, .cons h r, hp => by
    obtain ⟨h1, h2⟩ := List.pairwise_cons.mp hp
    refine List.pairwise_cons.mpr ⟨fun m hm => ?_, pw_tI e r h2⟩
    obtain ⟨j, hj⟩ := List.getElem?_of_mem hm
    have hj' : (nss.map tI)[j]? = some (tI m) := by rw [List.getElem?_map, hj]; rfl
    obtain ⟨v, hv, rv⟩ := r.get hj'
    exact h1 v (List.mem_of_getElem? hv) n m (rp_tI e h) (rp_tI e rv)
theorem de_srtT {d : Nat} {B : Int} {nss : List (List Int)} (hd : 1 ≤ d) (hm : X.mg "sorted" = none) (hb : ∀ ns ∈ nss, ns.length = d ∧ TS.Bd B ns) (ha : DE T X e ρ O (.lst (nss.map tI)) O1) (hv : bootBuiltins "sorted" = some (.builtin "sorted") := by decide +kernel) (hg : Gl X "sorted" := by rfl) (he : starEach [e] X.env = (false, eval e X.env) :: starEach [] X.env := by rfl) :
    DE T X (.Call (.Name "sorted" p0) [e] [] pos) ρ O (.lst ((srtT B nss).map tI)) O1 :=
  de_B (cr_srtT (d := d) (B := B) hd) (da_one ha.dv he) (fun vs C H hA hv Q q => by
    obtain ⟨v, rfl, r⟩ := args1 hv
    cases (show Rp X.K C v (.lst (nss.map tI)) from r) with
    | lst h r =>
      refine ⟨_, _, rfl, SqL.of (hA.base _ _ h), fun x hx => ?_, fun ys l hp hs hl => ?_⟩
      · obtain ⟨j, hj⟩ := List.getElem?_of_mem hx
        obtain ⟨dd, h1, h2⟩ := r.getV hj
        rw [List.getElem?_map] at h1
        cases hn : nss[j]? with
        | none => rw [hn] at h1; cases h1
        | some ns =>
          rw [hn] at h1
          cases h1
          exact ⟨ns, rp_tI hA.base h2, hb ns (List.mem_of_getElem? hn)⟩
      · obtain ⟨es, p, r'⟩ := RpAll.permL hp r
        obtain ⟨nss', p', rfl⟩ := of_map_perm p
        have hs' := pw_tI hA.base r' hs
        have e := srtT_eq hb p' hs'
        subst e
        exact q _ _ _ (Post.made (o := .lst _) hA hl) (.lst upd_same (r'.mono (Post.made (o := .lst _) hA hl).bb))) hm hv hg (by decide) (by decide) he
end
end Dz

/-! more rules over data: dicts with int keys, two for in a comprehension, tuple.index, insert, copies that are owned, is of bools -/
namespace Dz
open PySem PySem.Spec PyProof.Rows L2 GxR
section
variable {T : List Addr} {X : Cx} {CE : Addr} {ρ : List Slot} {O O1 O2 O3 : OH} {e a b : Expr} {pos pos' p0 : Pos} {d x y : D} {s : Slot} {ss : List Slot} {ds : List D} {E : DEn} {body : List Stmt} {ks : List (Option Expr)} {vs : List Expr} {kd : List (Key × D)}
/-! ### what is owned is forgotten -/
theorem ds_forget (c : Addr) (h : DS T X CE body ρ (cut O c) E) : DS T X CE body ρ O E := .mk fun σ B H hE hA Dn W tk l => by
  have p : Post T X.K B O H B (cut O c) H := (Post.refl hA).forget c
  exact h σ B H hE p.at' Dn W tk (l.step p)
/-! ### is, is not of bools -/
theorem de_isB {p q : Bool} (ha : DE T X a ρ O (.bl p) O1) (hb : DE T X b ρ O1 (.bl q) O2) : DE T X (.Compare a [.Is] [b] pos) ρ O (.bl (decide (p = q))) O2 :=
  de_cmp op_isBl (nomark _) ha hb fun v w B H hA rv rw' Q k => by
    cases rv
    cases rw'
    exact ⟨p, q, rfl, rfl, k _ B H (Post.refl hA) (.bl _)⟩
theorem dt_isB {p q : Bool} (ha : DE T X a ρ O (.bl p) O1) (hb : DE T X b ρ O1 (.bl q) O2) : DT T X (.Compare a [.Is] [b] pos) ρ O (decide (p = q)) O2 :=
  dt_cmp op_isBl (nomark _) ha hb fun v w B H hA rv rw' Q k => by
    cases rv
    cases rw'
    exact ⟨p, q, rfl, rfl, k _ B H (Post.refl hA) (.bl _)⟩
theorem dt_isnotB {p q : Bool} (ha : DE T X a ρ O (.bl p) O1) (hb : DE T X b ρ O1 (.bl q) O2) : DT T X (.Compare a [.IsNot] [b] pos) ρ O (!decide (p = q)) O2 :=
  dt_cmp op_notBl (nomark _) ha hb fun v w B H hA rv rw' Q k => by
    cases rv
    cases rw'
    exact ⟨p, q, rfl, rfl, k _ B H (Post.refl hA) (.bl _)⟩
/-! ### dicts -/
/-- a key told by any expression -/
theorem dp_key {k : Key} {kx : D} (hk : ∀ B v, Rp X.K B v kx → v = kV k) (h1 : DE T X a ρ O kx O1) (he : DE T X e ρ O1 d O2) (hr : DP T X pos ks vs ρ O2 kd O3) : DP T X pos (some a :: ks) (e :: vs) ρ O ((k, d) :: kd) O3 := by
  obtain ⟨trs, hp, hq⟩ := hr
  refine ⟨(WE X a, WE X e) :: trs, pps_cons pe_we pe_we hp, fun σ B H hE hA Q q => ?_⟩
  show WE X a σ H fun y H1 => WE X e σ H1 fun z H2 => tPairs trs σ H2 fun ps H3 => Q ((y, z) :: ps) H3
  refine h1 σ B H hE hA _ fun u B0 H0 p0 r0 => ?_
  have eu := hk B0 u r0
  subst eu
  refine he σ B0 H0 (hE.mono p0.bb) p0.at' _ fun v B1 H1 p1 r1 => hq σ B1 H1 ((hE.mono p0.bb).mono p1.bb) p1.at' _ fun kvs B2 H2 p2 r2 => ?_
  exact q ((k, v) :: kvs) B2 H2 ((p0.trans p1).trans p2) (.cons (r1.mono p2.bb) r2)
theorem keyI {K : PySem.W.Frag} {i : Int} : ∀ (B : Hp) (v : V), Rp K B v (.int i) → v = kV (.inl i) := fun B v r => by
  cases r
  rfl
theorem keyS {K : PySem.W.Frag} {i : Str} : ∀ (B : Hp) (v : V), Rp K B v (.str i) → v = kV (.inr i) := fun B v r => by
  cases r
  rfl
theorem KsOk.of {K : PySem.W.Frag} {B : Hp} : ∀ {kvs : List (Key × V)} {kd : List (Key × D)}, RpKs K B kvs kd → KsOk K B kvs (kd.map fun q => (q.1, .dat q.2))
  | _, _, .nil => .nil
  | _, _, .cons h r => .cons h (KsOk.of r)
/-- a dict display given to a name, owned -/
theorem d1_ownDic (i : Nat) {n : Str} (hd : DP T X pos ks vs ρ O kd O1) (h : ∀ p, O1 p = none → E.nx (ρ.set i (.val (.ref p))) (put O1 p (.dic (kd.map fun q => (q.1, .dat q.2))))) (hN : X.N.Nodup) (hn : (kd.map (·.1)).Nodup) (hl : kd.length ≤ 15) (hall : ks.all (·.isSome) = true := by rfl) (hkv : ks.length = vs.length := by rfl) (h0 : ks ≠ [] := by exact fun z => by cases z) (h15 : ks.length ≤ 15 := by decide)
    (hi : X.N[i]? = some n := by rfl) (hx : Loc X.env.scope n := by first | exact Or.inl rfl | exact Or.inr rfl) (hs : swapsWith (.Dict ks vs pos) (some (.Name n p0)) pos'.line X.env = pure false := by rfl)
    (hf : X.fn n = true ∨ X.env.scope.names.lookup n = some .local := by first | exact .inl rfl | exact .inr rfl) : D1 T X CE (.Assign [.Name n p0] (.Dict ks vs pos) pos') ρ O E := by
  obtain ⟨trs, hp, hq⟩ := hd
  refine .mk fun σ B H hE hA Dn W tk l => ws_of (ps_set hN hi hx (pe_disp hp hall hkv h0 h15) hs hf) ?_
  intro p np
  have q0 := Post.laid (o := .dK []) hA np
  refine hq σ B _ hE q0.at' _ fun kvs B1 H1 p1 r1 => ?_
  have nb : B p = none := hA.noB np
  have no : O p = none := hA.noO np
  have hp1 : upd H p (.dK []) p ≠ none := by rw [upd_same]; exact fun z => by cases z
  have b1 : B1 p = none := (p1.new p hp1 no).trans nb
  have o1 : O1 p = none := p1.keepO hp1 no
  have h1 : H1 p = some (.dK []) := p1.fr p _ upd_same no (hA.newT np)
  refine ⟨h1, kvs, rfl, by rw [RpKs.length r1]; exact hl, ?_⟩
  have em : mergeK [] kvs = kvs := by rw [mergeK_app kvs [] (by rw [List.nil_append, RpKs.keys r1]; exact hn)]; rfl
  rw [em]
  have p2 := Post.over (o := .dK kvs) hA np (q0.trans p1) b1 o1
  have hpo : Post T X.K B O H B1 (put O1 p (.dic (kd.map fun q => (q.1, .dat q.2)))) (upd H1 p (.dK kvs)) :=
    { at' :=
        { base := p2.at'.base
          own := fun c o e => by
            by_cases z : c = p
            · subst z
              rw [put_same] at e
              cases e
              exact ⟨b1, _, upd_same, KsOk.of r1⟩
            · rw [put_ne z] at e
              exact p2.at'.own c o e
          nt := fun P hP => by
            have z : P ≠ p := fun z => hA.newT np (by rw [← z]; exact hP)
            rw [put_ne z]
            exact p2.at'.nt P hP
          tabs := p2.at'.tabs }
      bb := p2.bb
      new := p2.new
      own := fun c hc => by
        by_cases z : c = p
        · subst z
          exact .inr np
        · rw [put_ne z] at hc
          exact p2.own c hc
      fr := p2.fr
      dom := p2.dom }
  exact l.nx _ _ _ B1 _ (h p o1) hpo ((hE.mono p2.bb).set (s := .val (.ref p)) (show SlotOk X.K B1 (some (.ref p)) (.val (.ref p)) from rfl) i)
/-- a key's slot stored -/
def putKS (ss : List (Key × Slot)) (k : Key) (s : Slot) : List (Key × Slot) :=
  if (ss.any fun kv => decide (kv.1 = k)) = true then ss.map (fun kv => if kv.1 = k then (kv.1, s) else kv) else ss ++ [(k, s)]
theorem KsOk.any {K : PySem.W.Frag} {B : Hp} (k : Key) : ∀ {kvs : List (Key × V)} {ss : List (Key × Slot)}, KsOk K B kvs ss → (kvs.any fun kv => decide (kv.1 = k)) = ss.any fun kv => decide (kv.1 = k)
  | _, _, .nil => rfl
  | _, _, .cons _ r => by
    rw [List.any_cons, List.any_cons, KsOk.any k r]
theorem KsOk.map {K : PySem.W.Frag} {B : Hp} {k : Key} {v : V} {s : Slot} (h : SlotOk K B (some v) s) : ∀ {kvs : List (Key × V)} {ss : List (Key × Slot)}, KsOk K B kvs ss → KsOk K B (kvs.map fun kv => if kv.1 = k then (kv.1, v) else kv) (ss.map fun kv => if kv.1 = k then (kv.1, s) else kv)
  | _, _, .nil => .nil
  | _, _, .cons (f := f) q r => by
    rw [List.map_cons, List.map_cons]
    by_cases z : f = k
    · rw [if_pos z, if_pos z]
      exact .cons h (KsOk.map h r)
    · rw [if_neg z, if_neg z]
      exact .cons q (KsOk.map h r)
theorem KsOk.snoc {K : PySem.W.Frag} {B : Hp} {k : Key} {v : V} {s : Slot} (h : SlotOk K B (some v) s) : ∀ {kvs : List (Key × V)} {ss : List (Key × Slot)}, KsOk K B kvs ss → KsOk K B (kvs ++ [(k, v)]) (ss ++ [(k, s)])
  | _, _, .nil => .cons h .nil
  | _, _, .cons q r => .cons q (KsOk.snoc h r)
theorem KsOk.put {K : PySem.W.Frag} {B : Hp} {k : Key} {v : V} {s : Slot} (h : SlotOk K B (some v) s) {kvs : List (Key × V)} {ss : List (Key × Slot)} (r : KsOk K B kvs ss) : KsOk K B (putK kvs k v) (putKS ss k s) := by
  unfold putK putKS
  rw [KsOk.any k r]
  split
  · exact KsOk.map h r
  · exact KsOk.snoc h r
/-- x[b] = e, x an owned dict -/
theorem d1_dput (i : Nat) {n : Str} {c : Addr} {k : Key} {kx : D} {j : Nat} {so : List (Key × Slot)} {npos spos : Pos} (hr : Room j X.A) (hi : ρ[i]? = some (.val (.ref c))) (he : DV T X e ρ O s O1) (hb : DE T X b ρ O1 kx O2) (hk : ∀ B v, Rp X.K B v kx → v = kV k) (ho : O2 c = some (.dic so)) (hl : so.length < 10000) (h : E.nx ρ (put O2 c (.dic (putKS so k s))))
    (pn : PE X (.Name n npos) (tVar i) := by exact pv _) (hs : swapsWith e (some (.Subscript (.Name n npos) b spos)) pos.line X.env = pure false := by rfl) : D1 T X CE (.Assign [.Subscript (.Name n npos) b spos] e pos) ρ O E := .mk fun σ B H hE hA Dn W tk l => by
  refine ws_of (ps_dput (hu_of hr) pn pe_we pe_we hs) ?_
  refine he σ B H hE hA _ fun w B1 H1 p1 r1 => ?_
  obtain ⟨o, e1, e2⟩ := (hE.mono p1.bb).get hi
  cases o with
  | none => exact e2.elim
  | some v =>
    have ev : v = .ref c := e2
    subst ev
    refine ⟨_, e1, ?_⟩
    refine hb σ B1 H1 (hE.mono p1.bb) p1.at' _ fun iv B2 H2 p2 r2 => ?_
    have ei := hk B2 iv r2
    subst ei
    obtain ⟨_, u, hu, ok⟩ := p2.at'.own c _ ho
    cases u <;> try exact ok.elim
    rename_i kvs
    have ok' : KsOk X.K B2 kvs so := ok
    have po := Post.put (u := .dK (putK kvs k w)) (od := .dic (putKS so k s)) p2.at' ho (KsOk.put (r1.mono p2.bb) ok')
    exact ⟨c, _, rfl, DPut.k hu (by rw [ok'.length]; exact Nat.lt_of_lt_of_le hl (by decide)), l.nx _ _ _ B2 _ h ((p1.trans p2).trans po) ((hE.mono p1.bb).mono p2.bb)⟩
/-- the owned dict becomes data -/
theorem ds_freezeDic (i : Nat) {c : Addr} (hi : ρ[i]? = some (.val (.ref c))) (ho : O c = some (.dic (kd.map fun q => (q.1, .dat q.2)))) (h : DS T X CE body (ρ.set i (.dat (.dic kd))) (cut O c) E) : DS T X CE body ρ O E := .mk fun σ B H hE hA Dn W tk l => by
  obtain ⟨_, u, hu, ok⟩ := hA.own c _ ho
  cases u <;> try exact ok.elim
  rename_i kvs
  have po := Post.freeze hA ho hu
  obtain ⟨o, e1, e2⟩ := hE.get hi
  have hE' := (hE.mono po.bb).set (o := some (.ref c)) (s := .dat (.dic kd)) (show SlotOk X.K (upd B c (.dK kvs)) (some (.ref c)) (.dat (.dic kd)) from .dic upd_same (RpKs.mono po.bb (KsOk.all ok))) i
  have eo : o = some (.ref c) := by
    cases o with
    | none => exact e2.elim
    | some v => exact congrArg some e2
  subst eo
  have es : σ.set i (some (.ref c)) = σ := set_same e1
  rw [es] at hE'
  exact h σ _ H hE' po.at' Dn W tk (l.step po)
theorem de_dgetI {k : Nat} {i : Int} (hr : Room k X.A) (ha : DE T X a ρ O (.dic kd) O1) (hb : DE T X b ρ O1 (.int i) O2) (h : (kd.find? fun kv => decide (kv.1 = (.inl i : Key))).map (·.2) = some d) (hs : NoSl b := by intro _ _; rfl) : DE T X (.Subscript a b pos) ρ O d O2 :=
  de_dget hr ha hb keyI h hs
/-! ### tuple.index of texts, a module's constant -/
def ndB (K : PySem.W.Frag) : Value → Bool
  | .ref c => match K.lookup c with
    | some ⟨.type t, none, _, _⟩ => decide (t = "tuple")
    | _ => false
  | _ => false
abbrev rTI (K : PySem.W.Frag) : V → List V → Hp → VK → Prop := fun x xs H Q => ∃ p, ∃ ys : List Str, ∃ z j, x = .ref p ∧ xs = [.str z] ∧ SqT K H p (ys.map V.str) ∧ ys[j]? = some z ∧ (∀ m, m < j → ys[m]? ≠ some z) ∧ Q (.int (j : Nat)) H
theorem de_tindex {ws : List Str} {z : Str} {j n : Nat} {nm : Str} {c : Addr} {apos npos : Pos} (hm : X.mg nm = some (.ref c)) (hk : kdB X.K (n + 1) (.ref c) (.tup (ws.map .str)) = true) (hn : ndB X.K (.ref c) = true) (hb : DE T X b ρ O (.str z) O2) (hj : ws[j]? = some z) (hno : ∀ m, m < j → ws[m]? ≠ some z) (hg : Gl X nm := by rfl) (hd : (nm == ("__debug__" : Str)) = false := by decide)
    (pe : PE X (.Call (.Attribute (.Name nm npos) "index" apos) [b] [] pos) (tBM X.K "tuple" (rTI X.K) (tC (.ref c)) (tCons (WE X b) tNil)) := by exact pe_bm PySem.F.plainAttrs_tuple PySem.F.slot_tuple_index PySem.F.type_tuple_index mt_tup_index (pe_glob (by rfl) (by assumption) (show RelV (.ref _) (.ref _) from rfl) (by decide)) (pa_cons pe_we pa_nil)) :
    DE T X (.Call (.Attribute (.Name nm npos) "index" apos) [b] [] pos) ρ O (.int (j : Int)) O2 := by
  obtain ⟨v, r, g⟩ := kdB_ok _ _ _ hk
  unfold ndB at hn
  dsimp only at hn
  split at hn
  · rename_i t dt sl hkl
    have ht := of_decide_eq_true hn
    subst ht
    have ev : v = .ref c := by
      cases (g (fun _ => none)) with
      | tup h0 r0 => cases r; rfl
    subst ev
    refine de_of pe fun σ B H hE hA Q q => ?_
    refine ⟨.inr (.inl ⟨rfl, _, hkl, rfl, rfl⟩), ?_⟩
    refine hb σ B H hE hA _ fun w B2 H2 p2 r2 => ?_
    cases r2
    cases (g B2) with
    | tup h r =>
      have e := rp_strs r
      subst e
      exact ⟨_, ws, z, j, rfl, rfl, same_t p2.at'.base h, hj, hno, q _ B2 H2 p2 (.int _)⟩
  · cases hn
/-! ### x.insert(k, e), x owned -/
abbrev rIns : V → List V → Hp → VK → Prop := fun x vs H Q => ∃ (l : Addr) (xs : List V) (i : Int) (y : V), x = .ref l ∧ vs = [.int i, y] ∧ H l = some (.lst xs) ∧ xs.length < sizeLine ∧ 0 ≤ i ∧ i < 2 ^ 63 ∧ Q .non (upd H l (.lst (xs.take i.toNat ++ [y] ++ xs.drop i.toNat)))
theorem d1_insert (i : Nat) {n : Str} {c : Addr} {k : Nat} {apos npos : Pos} (hi : ρ[i]? = some (.val (.ref c))) (h0 : O c = some (.lst ss)) (hb : DE T X b ρ O (.int (k : Int)) O) (he : DV T X e ρ O s O1) (ho : O1 c = some (.lst ss)) (hk : k < 1000) (hl : ss.length < 100000) (h : E.nx ρ (put O1 c (.lst (ss.take k ++ [s] ++ ss.drop k))))
    (pe : PE X (.Call (.Attribute (.Name n npos) "insert" apos) [b, e] [] pos) (tBM X.K "list" rIns (tVar i) (tCons (WE X b) (tCons (WE X e) tNil))) := by exact pe_bm PySem.F.plainAttrs_list PySem.F.slot_list_insert PySem.F.type_list_insert mt_insert (pv _) (pa_cons pe_we (pa_cons pe_we pa_nil)))
    (hs : swapsWith (.Call (.Attribute (.Name n npos) "insert" apos) [b, e] [] pos) none pos'.line X.env = pure false := by rfl) :
    D1 T X CE (.Expr (.Call (.Attribute (.Name n npos) "insert" apos) [b, e] [] pos) pos') ρ O E := .mk fun σ B H hE hA Dn W tk l => by
  refine ws_of (ps_expr pe hs) ?_
  obtain ⟨o, e1, e2⟩ := hE.get hi
  cases o with
  | none => exact e2.elim
  | some v =>
    have ev : v = .ref c := e2
    subst ev
    obtain ⟨_, u0, hu0, ok0⟩ := hA.own c _ h0
    cases u0 <;> try exact ok0.elim
    refine ⟨_, e1, .inl ⟨rfl, _, SqL.of hu0⟩, ?_⟩
    refine hb σ B H hE hA _ fun iv B1 H1 p1 r1 => ?_
    cases r1
    refine he σ B1 H1 (hE.mono p1.bb) p1.at' _ fun w B2 H2 p2 r2 => ?_
    obtain ⟨_, u, hu, ok⟩ := p2.at'.own c _ ho
    cases u <;> try exact ok.elim
    rename_i vs
    have ok' : Args X.K B2 vs ss := ok
    have lv : vs.length = ss.length := Args.length ok'
    have tk1 : ∀ (m : Nat) {vs : List V} {ss : List Slot}, Args X.K B2 vs ss → Args X.K B2 (vs.take m) (ss.take m) ∧ Args X.K B2 (vs.drop m) (ss.drop m) := by
      intro m
      induction m with
      | zero => intro vs ss a; exact ⟨.nil, a⟩
      | succ m ih =>
        intro vs ss a
        cases a with
        | nil => exact ⟨.nil, .nil⟩
        | cons h r => exact ⟨.cons h (ih r).1, (ih r).2⟩
    obtain ⟨t1, t2⟩ := tk1 k ok'
    have po := Post.put (u := .lst (vs.take k ++ [w] ++ vs.drop k)) (od := .lst (ss.take k ++ [s] ++ ss.drop k)) p2.at' ho (Args.append (Args.append t1 (.cons r2 .nil)) t2)
    exact ⟨c, vs, (k : Int), w, rfl, rfl, hu, by rw [lv]; exact Nat.lt_of_lt_of_le hl (by decide), by omega, by omega, l.nx _ _ _ B2 _ h ((p1.trans p2).trans po) ((hE.mono p1.bb).mono p2.bb)⟩
/-! ### x = list(e), owned -/
theorem d1_ownList (i : Nat) {n : Str} (hm : X.mg "list" = none) (he : DE T X e ρ O x O1) (hx : x = .lst ds ∨ x = .tup ds) (h : ∀ p, O1 p = none → E.nx (ρ.set i (.val (.ref p))) (put O1 p (.lst (ds.map .dat)))) (hN : X.N.Nodup) (hi : X.N[i]? = some n := by rfl) (hl : Loc X.env.scope n := by first | exact Or.inl rfl | exact Or.inr rfl) (hg : Gl X "list" := by rfl)
    (hst : starEach [e] X.env = (false, eval e X.env) :: starEach [] X.env := by rfl) (hpl : (backTo pos (starEach [] X.env)).any (·.1) = false := by rfl)
    (hf : X.fn n = true ∨ X.env.scope.names.lookup n = some .local := by first | exact .inl rfl | exact .inr rfl) {pos2 : Pos} (hs2 : swapsWith (.Call (.Name "list" p0) [e] [] pos) (some (.Name n pos')) pos2.line X.env = pure false := by rfl) : D1 T X CE (.Assign [.Name n pos'] (.Call (.Name "list" p0) [e] [] pos) pos2) ρ O E := .mk fun σ B H hE hA Dn W tk l => by
  refine ws_of (ps_set hN hi hl (pe_callTy call_list_of hg hm boot_list (pa_cons pe_we pa_nil hst) (by decide) (by decide) hst hpl) hs2 hf) ?_
  refine he σ B H hE hA _ fun v B1 H1 p1 r1 => ?_
  have go : ∀ {c : Addr} {xs : List V}, (SqL X.K H1 c xs ∨ SqT X.K H1 c xs) → RpAll X.K B1 xs ds → v = .ref c → ∃ p items, [v] = [V.ref p] ∧ (SqL X.K H1 p items ∨ SqT X.K H1 p items) ∧ ∀ q, H1 q = none → Dn.nx (σ.set i (some (.ref q))) (upd H1 q (.lst items)) := by
    intro c xs hq r ev
    subst ev
    refine ⟨c, xs, rfl, hq, fun q nq => ?_⟩
    have po := Post.madeO (o := .lst xs) (od := .lst (ds.map .dat)) p1.at' nq (Args.of r)
    exact l.nx _ _ _ B1 _ (h q (p1.at'.noO nq)) (p1.trans po) ((hE.mono p1.bb).set (s := .val (.ref q)) (show SlotOk X.K B1 (some (.ref q)) (.val (.ref q)) from rfl) i)
  rcases hx with rfl | rfl
  · cases r1 with
    | lst hq r => exact go (.inl (SqL.of (p1.at'.base _ _ hq))) r rfl
  · cases r1 with
    | tup hq r => exact go (.inr (same_t p1.at'.base hq)) r rfl
end
end Dz

/-! [e for a, b in x for c in range(n)], pure -/
namespace Dz
open PySem PySem.Spec PyProof.Rows L2 GxR
theorem wipe_get {σ : L2.St} {vs : List Nat} (j : Nat) : (wipe σ vs)[j]? = if j ∈ vs then (if j < σ.length then some none else none) else σ[j]? := by
  induction vs with
  | nil => rfl
  | cons v vs ih =>
    show ((wipe σ vs).set v none)[j]? = _
    rw [List.getElem?_set]
    by_cases h : v = j
    · subst h
      rw [if_pos rfl, wipe_length, if_pos List.mem_cons_self]
    · rw [if_neg h, ih]
      have e : (j ∈ v :: vs) ↔ j ∈ vs := ⟨fun z => (List.mem_cons.mp z).resolve_left (fun q => h q.symm), List.mem_cons_of_mem _⟩
      by_cases hj : j ∈ vs
      · rw [if_pos hj, if_pos (e.mpr hj)]
      · rw [if_neg hj, if_neg (fun z => hj (e.mp z))]
theorem wipe_set {σ : L2.St} {vs : List Nat} {i : Nat} {x : Option V} (h : i ∈ vs) : wipe (σ.set i x) vs = wipe σ vs := by
  refine List.ext_getElem? fun j => ?_
  rw [wipe_get, wipe_get, List.length_set]
  by_cases hj : j ∈ vs
  · rw [if_pos hj, if_pos hj]
  · rw [if_neg hj, if_neg hj, List.getElem?_set_ne (fun z => hj (by rw [← z]; exact h))]
theorem wipe_wipe {σ : L2.St} {vs ws : List Nat} (h : ∀ i ∈ ws, i ∈ vs) : wipe (wipe σ ws) vs = wipe σ vs := by
  refine List.ext_getElem? fun j => ?_
  rw [wipe_get, wipe_get, wipe_get, wipe_length]
  by_cases hj : j ∈ vs
  · rw [if_pos hj, if_pos hj]
  · rw [if_neg hj, if_neg hj, if_neg (fun z => hj (h j z))]
/-- the list so far, nothing else changed -/
def LcE (T : List Addr) (K : PySem.W.Frag) (B : Hp) (O : OH) (H : Hp) (a : Addr) (acc : List D) (H' : Hp) : Prop :=
  ∃ B' xs, Post T K B O H B' O H' ∧ B' a = none ∧ O a = none ∧ H' a = some (.lst xs) ∧ RpAll K B' xs acc
/-- .. and Bs stands -/
def LcS (T : List Addr) (K : PySem.W.Frag) (B : Hp) (O : OH) (H : Hp) (Bs : Hp) (a : Addr) (acc : List D) (H' : Hp) : Prop :=
  ∃ B' xs, Same Bs B' ∧ Post T K B O H B' O H' ∧ B' a = none ∧ O a = none ∧ H' a = some (.lst xs) ∧ RpAll K B' xs acc
section
variable {T : List Addr} {X : Cx} {scope : Scope} {ρ : List Slot} {O O1 : OH} {elt iter e1 : Expr} {ds : List D} {es : List Expr} {np pos tp rp pos' : Pos} {n1 n2 n3 : Str} {i1 i2 i3 k : Nat}
theorem LcE.start {K : PySem.W.Frag} {B H : Hp} {a : Addr} (hA : At T K B O H) (n : H a = none) : LcE T K B O H a [] (upd H a (.lst [])) :=
  ⟨B, [], Post.over hA n (Post.refl hA) (hA.noB n) (hA.noO n), hA.noB n, hA.noO n, upd_same, .nil⟩
theorem LcE.fin {K : PySem.W.Frag} {B H H' : Hp} {a : Addr} {out : List D} {Q : VK} (hA : At T K B O H) (n : H a = none) (h : LcE T K B O H a out H') (q : ∀ v B' H', Post T K B O H B' O H' → Rp K B' v (.lst out) → Q v H') : Q (.ref a) H' := by
  obtain ⟨B', xs, h2, h3, h4, h5, h6⟩ := h
  have po := Post.ice hA n h2 h3 h4 h5
  exact q (.ref a) _ H' po (.lst upd_same (h6.mono fun c w q => by
    have zc : c ≠ a := fun zc => by
      rw [zc, h3] at q
      cases q
    rw [upd_ne zc]
    exact q))
/-- a piece within the block, that owns nothing new -/
theorem LcE.piece {K : PySem.W.Frag} {B H H' H2 B' B2 : Hp} {a : Addr} {xs : List V} {acc : List D} (hA : At T K B O H) (n : H a = none) (h2 : Post T K B O H B' O H') (h3 : B' a = none) (h4 : O a = none) (h5 : H' a = some (.lst xs)) (h6 : RpAll K B' xs acc) (p2 : Post T K B' O H' B2 O H2) : B2 a = none ∧ H2 a = some (.lst xs) ∧ RpAll K B2 xs acc := by
  have ha : H' a ≠ none := by rw [h5]; exact fun z => by cases z
  exact ⟨by rw [p2.new a ha h4]; exact h3, p2.fr a _ h5 h4 (hA.newT n), h6.mono p2.bb⟩
theorem de_lc2 (F : D → D → Nat → D) (m : Nat) (hm : m ≤ 1000) (hl : ds.length ≤ 100) (he : DE T X iter ρ O (.lst ds) O1) (hpair : ∀ d ∈ ds, ∃ x y, d = .tup [x, y]) (hN : X.N.Nodup) (ok : BlkOk X.N X.env.scope scope [(n1, i1), (n2, i2), (n3, i3)])
    (hnm : ∀ (s : Shared) (H : Hp) (C : Addr) (cl : List (Str × Addr)) (fp : List Addr), Names (blkX X scope s H C cl fp) es [i1, i2])
    (hr1 : ∀ x y, .tup [x, y] ∈ ds → DEb T X scope e1 ((((((ρ.set i3 .no).set i2 .no).set i1 .no).set i1 (.dat x)).set i2 (.dat y))) O1 (.int (m : Int)) O1)
    (hel : ∀ x y j, .tup [x, y] ∈ ds → j < m → DEb T X scope elt ((((((((ρ.set i3 .no).set i2 .no).set i1 .no).set i1 (.dat x)).set i2 (.dat y)).set i3 .no)).set i3 (.dat (.int (j : Int)))) O1 (F x y j) O1)
    (hmg : X.mg "range" = none) (hd : i1 ≠ i2 ∧ i1 ≠ i3 ∧ i2 ≠ i3 := by decide) (hi : X.N[i3]? = some n3 := by rfl)
    (hgl : ∀ (s : Shared) (H : Hp) (C : Addr) (cl : List (Str × Addr)) (fp : List Addr), Gl (blkX X scope s H C cl fp) "range" := by exact fun _ _ _ _ _ => rfl)
    (hx : ∀ (s : Shared) (H : Hp) (C : Addr) (cl : List (Str × Addr)) (fp : List Addr), Loc (blkX X scope s H C cl fp).env.scope n3 := by first | exact fun _ _ _ _ _ => Or.inl rfl | exact fun _ _ _ _ _ => Or.inr rfl)
    (hf : ∀ (s : Shared) (H : Hp) (C : Addr) (cl : List (Str × Addr)) (fp : List Addr), (blkX X scope s H C cl fp).fn n3 = true ∨ (blkX X scope s H C cl fp).env.scope.names.lookup n3 = some .local := by first | exact fun _ _ _ _ _ => .inl rfl | exact fun _ _ _ _ _ => .inr rfl)
    (hst : ∀ (s : Shared) (H : Hp) (C : Addr) (cl : List (Str × Addr)) (fp : List Addr), starEach [e1] (blkX X scope s H C cl fp).env = [(false, eval e1 (blkX X scope s H C cl fp).env)] := by exact fun _ _ _ _ _ => rfl)
    (g1 : ∀ (s : Shared) (H : Hp) (C : Addr) (cl : List (Str × Addr)) (fp : List Addr), (assignEach es (blkX X scope s H C cl fp).env).length = 2 := by exact fun _ _ _ _ _ => rfl) (g2 : ∀ (s : Shared) (H : Hp) (C : Addr) (cl : List (Str × Addr)) (fp : List Addr), (assignEach es (blkX X scope s H C cl fp).env).findIdx? (·.1) = none := by exact fun _ _ _ _ _ => rfl)
    (hc : X.calm = true := by rfl) (hs : ∀ x, foldedSetIterable iter X.env x = pure x := by intro _; rfl) (hs1 : ∀ env x, foldedSetIterable (.Call (.Name "range" rp) [e1] [] pos') env x = pure x := by intro _ _; rfl) :
    DE T X (.ListComp elt [⟨.Tuple es k tp, iter, [], 0⟩, ⟨.Name n3 np, .Call (.Name "range" rp) [e1] [] pos', [], 0⟩] scope pos) ρ O (.lst (ds.flatMap fun d => match d with | .tup [x, y] => (List.range m).map (F x y) | _ => [])) O1 := by
  refine de_of (pe_lc2 (own := [(n1, i1), (n2, i2), (n3, i3)]) (vs1 := [i3]) (g := gTup X.K 2 fun vs σ H Q => vs.length = [i1, i2].length ∧ Q (List.foldl (fun σ (p : Nat × V) => σ.set p.1 (some p.2)) σ ([i1, i2].zip vs)) H) hc hN (pi_list pe_we) ok (by simp) (fun s H C cl fp => pg_tup (X := blkX X scope s H C cl fp) hc (pgs_names (X := blkX X scope s H C cl fp) hN (hnm s H C cl fp)) (g1 s H C cl fp) (g2 s H C cl fp)) (fun s H C cl fp => pts_nil)
    (fun s H C cl fp => pi_range1 (X := blkX X scope s H C cl fp) (hgl s H C cl fp) hmg (pa_cons (peb s H C cl fp) pa_nil (hst s H C cl fp)) (hst s H C cl fp)) (fun s H C cl fp => pg_name (X := blkX X scope s H C cl fp) hN hi (hx s H C cl fp) (hf s H C cl fp)) (fun s H C cl fp => pts_nil) peb hs hs1) fun σ B H hE hA Q q => ?_
  refine he σ B H hE hA _ fun v B1 H1 p1 r1 => ?_
  obtain ⟨d12, d13, d23⟩ := hd
  cases r1 with
  | lst hq r =>
    rename_i l xs
    have hA1 := p1.at'
    refine ⟨l, rfl, ⟨xs, SqL.of (hA1.base _ _ hq)⟩, fun a na => ?_⟩
    let G : D → List D := fun d => match d with | .tup [x, y] => (List.range m).map (F x y) | _ => []
    have lenG : ∀ d, (G d).length ≤ m := fun d => by
      show (match d with | .tup [x, y] => (List.range m).map (F x y) | _ => []).length ≤ m
      split
      · simp
      · simp
    have lenF : ∀ ds' : List D, (ds'.flatMap G).length ≤ ds'.length * m := by
      intro ds'
      induction ds' with
      | nil => simp
      | cons d ds' ih =>
        rw [List.flatMap_cons, List.length_append, List.length_cons, Nat.add_mul, Nat.one_mul]
        have := lenG d
        omega
    refine ⟨fun i mm H' => mm = ds.length - i ∧ i ≤ ds.length ∧ LcE T X.K B1 O1 H1 a ((ds.take i).flatMap G) H', ⟨ds.length, by simp, Nat.zero_le _, LcE.start hA1 na⟩, ?_⟩
    rintro i mm Hc ⟨rfl, hile, hl'⟩
    have hl0 := hl'
    obtain ⟨B', ys, h2, h3, h4, h5, h6⟩ := hl'
    have hql : SqL X.K Hc l xs := SqL.of (h2.at'.base _ _ (h2.bb _ _ hq))
    by_cases hlt : i < ds.length
    · refine .inr ⟨⟨xs, xs[i]'(by rw [r.length]; exact hlt), hql, by simp [r.length, hlt]⟩, fun H'' => LcE T X.K B1 O1 H1 a ((ds.take (i + 1)).flatMap G) H'', fun H'' h => ⟨ds.length - (i + 1), by omega, rfl, hlt, h⟩, fun y H'' hy => ?_⟩
      obtain ⟨eH, hy⟩ := hy
      subst eH
      obtain ⟨d, hd1, hd2⟩ := r.getV (hy xs hql)
      have hdm := List.mem_of_getElem? hd1
      obtain ⟨u, w, rfl⟩ := hpair d hdm
      have et : (ds.take (i + 1)).flatMap G = (ds.take i).flatMap G ++ G (.tup [u, w]) := by
        rw [List.take_add_one, hd1, List.flatMap_append]
        simp
      cases hd2 with
      | tup ht rt =>
        rename_i tt ts
        cases rt with
        | cons ru rt =>
          cases rt with
          | cons rw' rt =>
            cases rt
            rename_i vu vw
            refine ⟨tt, [vu, vw], rfl, same_t h2.at'.base (same_t h2.bb ht), rfl, rfl, ?_⟩
            show wipe (((wipe σ [i1, i2, i3]).set i1 (some vu)).set i2 (some vw)) [i1, i2, i3] = wipe σ [i1, i2, i3] ∧ _
            refine ⟨by rw [wipe_set (by simp), wipe_set (by simp), wipe_wipe fun _ h => h], ?_⟩
            have hE0 : Env X.K B1 (wipe σ [i1, i2, i3]) (((ρ.set i3 .no).set i2 .no).set i1 .no) := (((hE.mono p1.bb).wipe1 i3).wipe1 i2).wipe1 i1
            have hE2 : Env X.K B' (((wipe σ [i1, i2, i3]).set i1 (some vu)).set i2 (some vw)) (((((ρ.set i3 .no).set i2 .no).set i1 .no).set i1 (.dat u)).set i2 (.dat w)) :=
              ((hE0.mono h2.bb).set (o := some vu) (s := .dat u) (show SlotOk X.K B' (some vu) (.dat u) from ru.mono h2.bb) i1).set (o := some vw) (s := .dat w) (show SlotOk X.K B' (some vw) (.dat w) from rw'.mono h2.bb) i2
            dsimp only [tYes]
            rw [if_pos rfl]
            show TEb X scope e1 (((wipe σ [i1, i2, i3]).set i1 (some vu)).set i2 (some vw)) _ _
            generalize eσ : ((wipe σ [i1, i2, i3]).set i1 (some vu)).set i2 (some vw) = σ2 at hE2 ⊢
            show TEb X scope e1 σ2 _ _
            have h1 := hr1 u w hdm
            intro s0 H0 C cl fp
            refine h1 s0 H0 C cl fp _ B' _ hE2 h2.at' _ fun vr B3 H3 p3 r3 => ?_
            cases r3
            obtain ⟨k3, k5, k6⟩ := LcE.piece hA1 na h2 h3 h4 h5 h6 p3
            have h23 := h2.trans p3
            refine ⟨(m : Int), rfl, by omega, by omega, ?_⟩
            refine ⟨fun j kk H'' => kk = m - j ∧ j ≤ m ∧ LcS T X.K B1 O1 H1 B' a ((ds.take i).flatMap G ++ (List.range j).map (F u w)) H'', ⟨m, by simp, Nat.zero_le _, B3, ys, p3.bb, h23, k3, h4, k5, by simpa using k6⟩, ?_⟩
            rintro j kk H4 ⟨rfl, hjm, hj⟩
            have hm0 : (m : Int).toNat = m := by omega
            by_cases hjl : j < m
            · refine .inr ⟨by show j < (m : Int).toNat; omega, fun H5 => LcS T X.K B1 O1 H1 B' a ((ds.take i).flatMap G ++ (List.range (j + 1)).map (F u w)) H5, fun H5 h => ⟨m - (j + 1), by omega, rfl, hjl, h⟩, fun yv H5 hy => ?_⟩
              obtain ⟨eH, ey⟩ := hy
              subst eH ey
              obtain ⟨B5, zs, sbb, j2, j3, j4, j5, j6⟩ := hj
              have e0 : (0 : Int) + (j : Int) = (j : Int) := Int.zero_add _
              refine ⟨?_, ?_⟩
              · show wipe ((wipe (((wipe σ [i1, i2, i3]).set i1 (some vu)).set i2 (some vw)) [i3]).set i3 (some (.int (0 + (j : Int))))) [i3] = wipe (((wipe σ [i1, i2, i3]).set i1 (some vu)).set i2 (some vw)) [i3]
                rw [wipe_set (by simp), wipe_wipe fun _ h => h]
              rw [if_pos rfl]
              show TEb X scope elt ((wipe (((wipe σ [i1, i2, i3]).set i1 (some vu)).set i2 (some vw)) [i3]).set i3 (some (.int (0 + (j : Int))))) _ _
              rw [e0, eσ]
              have hE5 : Env X.K B5 ((wipe σ2 [i3]).set i3 (some (.int (j : Int)))) ((((((((ρ.set i3 .no).set i2 .no).set i1 .no).set i1 (.dat u)).set i2 (.dat w)).set i3 .no)).set i3 (.dat (.int (j : Int)))) :=
                ((hE2.mono sbb).wipe1 i3).set (o := some (.int (j : Int))) (s := .dat (.int (j : Int))) (show SlotOk X.K B5 (some (.int (j : Int))) (.dat (.int (j : Int))) from .int _) i3
              intro s0 H0 C cl fp
              refine hel u w j hdm hjl s0 H0 C cl fp _ B5 _ hE5 j2.at' _ fun ve B6 H6 p6 r6 => ?_
              obtain ⟨l3, l5, l6⟩ := LcE.piece hA1 na j2 j3 j4 j5 j6 p6
              refine ⟨zs, l5, ?_, ?_⟩
              · rw [l6.length, List.length_append, List.length_map, List.length_range]
                have q1 := lenF (ds.take i)
                have q2 : (ds.take i).length ≤ 100 := by rw [List.length_take]; omega
                have q3 : (ds.take i).length * m ≤ 100 * 1000 := Nat.mul_le_mul q2 hm
                have q4 : 200000 < sizeLine := by decide
                omega
              · have er : (List.range (j + 1)).map (F u w) = (List.range j).map (F u w) ++ [F u w j] := by rw [List.range_succ, List.map_append]; rfl
                rw [er, ← List.append_assoc]
                exact ⟨B6, zs ++ [ve], sbb.trans p6.bb, Post.over hA1 na (j2.trans p6) l3 j4, l3, j4, upd_same, l6.append (.cons r6 .nil)⟩
            · have ej : j = m := by omega
              subst ej
              refine .inl ⟨by show (j : Int).toNat ≤ j; omega, ?_⟩
              show LcE T X.K B1 O1 H1 a ((ds.take (i + 1)).flatMap G) H4
              rw [et]
              obtain ⟨B5, zs, _, j2, j3, j4, j5, j6⟩ := hj
              exact ⟨B5, zs, j2, j3, j4, j5, j6⟩
    · have ei : i = ds.length := by omega
      subst ei
      rw [List.take_length] at hl0
      refine .inl ⟨⟨xs, hql, by rw [r.length]; exact Nat.le_refl _⟩, LcE.fin hA1 na hl0 fun v B2 H2 p2 r2 => q v B2 H2 (p1.trans p2) r2⟩
end
end Dz

/-! x = [e for y in z if t], the list owned -/
namespace Dz
open PySem PySem.Spec PyProof.Rows L2 GxR
theorem grabO {T : List Addr} {K : PySem.W.Frag} {B H B1 H1 : Hp} {O O1 : OH} {a : Addr} {u : HO} {od : OD} (hA : At T K B O H) (n : H a = none) (p : Post T K B O H B1 O1 H1) (b1 : B1 a = none) (h1 : H1 a = some u) (ok : OdOk K B1 u od) : Post T K B O H B1 (put O1 a od) H1 where
  at' :=
    { base := p.at'.base
      own := fun c o e => by
        by_cases z : c = a
        · subst z
          rw [put_same] at e
          cases e
          exact ⟨b1, _, h1, ok⟩
        · rw [put_ne z] at e
          exact p.at'.own c o e
      nt := fun P hP => by
        have z : P ≠ a := fun z => hA.newT n (by rw [← z]; exact hP)
        rw [put_ne z]
        exact p.at'.nt P hP
      tabs := p.at'.tabs }
  bb := p.bb
  new := p.new
  own := fun c hc => by
    by_cases z : c = a
    · subst z
      exact .inr n
    · rw [put_ne z] at hc
      exact p.own c hc
  fr := p.fr
  dom := p.dom
section
variable {T : List Addr} {X : Cx} {CE : Addr} {scope : Scope} {ρ : List Slot} {O O1 O2 : OH} {elt iter : Expr} {ifs : List Expr} {ds out : List D} {np pos py spos : Pos} {n y : Str} {E : DEn}
theorem d1_ownLc (i i0 : Nat) (he : DE T X iter ρ O (.lst ds) O1) (I : Nat → List D → OH → Prop) (h0 : I 0 [] O1) (ht : ∀ j d acc O', ds[j]? = some d → I j acc O' → LcTurn T X scope ifs elt I j (ρ.set i (.dat d)) acc O') (hd : ∀ acc O', I ds.length acc O' → acc = out ∧ O' = O2)
    (hk : ∀ p, O2 p = none → E.nx (ρ.set i0 (.val (.ref p))) (put O2 p (.lst (out.map .dat))))
    (hl : ds.length ≤ 100000) (hN : X.N.Nodup) (ok : BlkOk X.N X.env.scope scope [(n, i)]) (hi : X.N[i]? = some n := by rfl) (hx : ∀ (s : Shared) (H : Hp) (C : Addr) (cl : List (Str × Addr)) (fp : List Addr), Loc (blkX X scope s H C cl fp).env.scope n := by first | exact fun _ _ _ _ _ => Or.inl rfl | exact fun _ _ _ _ _ => Or.inr rfl)
    (hf : ∀ (s : Shared) (H : Hp) (C : Addr) (cl : List (Str × Addr)) (fp : List Addr), (blkX X scope s H C cl fp).fn n = true ∨ (blkX X scope s H C cl fp).env.scope.names.lookup n = some .local := by first | exact fun _ _ _ _ _ => .inl rfl | exact fun _ _ _ _ _ => .inr rfl) (hc : X.calm = true := by rfl) (hs : ∀ x, foldedSetIterable iter X.env x = pure x := by intro _; rfl)
    (hy : X.N[i0]? = some y := by rfl) (hyl : X.env.scope.names.lookup y = some .local := by rfl) (hsw : swapsWith (.ListComp elt [⟨.Name n np, iter, ifs, 0⟩] scope pos) (some (.Name y py)) spos.line X.env = pure true := by exact sw_true rfl rfl rfl (by decide +kernel)) :
    D1 T X CE (.Assign [.Name y py] (.ListComp elt [⟨.Name n np, iter, ifs, 0⟩] scope pos) spos) ρ O E := .mk fun σ B H hE hA Dn W tk l => by
  refine ws_of (ps_setLc (own := [(n, i)]) (tt := TTb X scope ifs) (te := TEb X scope elt) (g := gName i) hc hN hy hyl hsw (pi_list pe_we) ok (fun s H C cl fp => pg_name (X := blkX X scope s H C cl fp) hN hi (hx s H C cl fp) (hf s H C cl fp)) ptsb peb hs) ?_
  refine he σ B H hE hA _ fun v B1 H1 p1 r1 => ?_
  cases r1 with
  | lst hq r =>
    rename_i c xs
    refine ⟨c, rfl, ⟨xs, SqL.of (p1.at'.base _ _ hq)⟩, fun a na => ?_⟩
    have hA1 := p1.at'
    refine lc_list (K := X.K) (xs := xs) (a := c) (fun j H' => LcI T X.K B1 O1 H1 a I j H') (LcI.start hA1 na h0) (fun j H' _ h => ?_) (fun j x H' hj h => ?_) (fun H' h => ?_)
    · obtain ⟨B', _, _, _, _, h2, _⟩ := h
      exact SqL.of (h2.at'.base _ _ (h2.bb _ _ hq))
    · obtain ⟨d, hd1, hd2⟩ := r.getV hj
      have hjl : j < ds.length := by
        rw [← r.length]
        exact (List.getElem?_eq_some_iff.mp hj).1
      exact lc_turn hA1 na (Nat.lt_of_lt_of_le hjl hl) (hE.mono p1.bb) (fun B' sb => hd2.mono sb) (fun acc O' hI => ht j d acc O' hd1 hI) h
    · rw [r.length] at h
      obtain ⟨B', O', acc, zs, h1, h2, h3, h4, h5, h6, _⟩ := h
      obtain ⟨e1, e2⟩ := hd acc O' h1
      subst e1 e2
      have po := grabO (od := .lst (acc.map .dat)) hA1 na h2 h3 h5 (Args.of h6)
      exact l.nx _ _ _ B' H' (hk a h4) (p1.trans po) (((hE.mono p1.bb).mono h2.bb).set (s := .val (.ref a)) (show SlotOk X.K B' (some (.ref a)) (.val (.ref a)) from rfl) i0)
/-- a comprehension without draws: f none leaves an item out -/
theorem d1_ownLcP (i i0 : Nat) {f : D → Option D} (he : DE T X iter ρ O (.lst ds) O1) (h : ∀ d ∈ ds, (∃ y, f d = some y ∧ DIfs T X scope ifs (ρ.set i (.dat d)) O1 true O1 ∧ DEb T X scope elt (ρ.set i (.dat d)) O1 y O1) ∨ (f d = none ∧ DIfs T X scope ifs (ρ.set i (.dat d)) O1 false O1))
    (hk : ∀ p, O1 p = none → E.nx (ρ.set i0 (.val (.ref p))) (put O1 p (.lst ((ds.filterMap f).map .dat))))
    (hl : ds.length ≤ 100000) (hN : X.N.Nodup) (ok : BlkOk X.N X.env.scope scope [(n, i)]) (hi : X.N[i]? = some n := by rfl) (hx : ∀ (s : Shared) (H : Hp) (C : Addr) (cl : List (Str × Addr)) (fp : List Addr), Loc (blkX X scope s H C cl fp).env.scope n := by first | exact fun _ _ _ _ _ => Or.inl rfl | exact fun _ _ _ _ _ => Or.inr rfl)
    (hf : ∀ (s : Shared) (H : Hp) (C : Addr) (cl : List (Str × Addr)) (fp : List Addr), (blkX X scope s H C cl fp).fn n = true ∨ (blkX X scope s H C cl fp).env.scope.names.lookup n = some .local := by first | exact fun _ _ _ _ _ => .inl rfl | exact fun _ _ _ _ _ => .inr rfl) (hc : X.calm = true := by rfl) (hs : ∀ x, foldedSetIterable iter X.env x = pure x := by intro _; rfl)
    (hy : X.N[i0]? = some y := by rfl) (hyl : X.env.scope.names.lookup y = some .local := by rfl) (hsw : swapsWith (.ListComp elt [⟨.Name n np, iter, ifs, 0⟩] scope pos) (some (.Name y py)) spos.line X.env = pure true := by exact sw_true rfl rfl rfl (by decide +kernel)) :
    D1 T X CE (.Assign [.Name y py] (.ListComp elt [⟨.Name n np, iter, ifs, 0⟩] scope pos) spos) ρ O E :=
  d1_ownLc (out := ds.filterMap f) (O2 := O1) i i0 he (fun j acc O' => acc = (ds.take j).filterMap f ∧ O' = O1) ⟨rfl, rfl⟩ (lc_pure h) (fun acc O' q => by
    rw [List.take_length] at q
    exact q) hk hl hN ok hi hx hf hc hs hy hyl hsw
/-- the owned list is frozen at once -/
theorem d1_ice {st : Stmt} (i : Nat) (h : D1 T X CE st ρ O { E with nx := fun ρ' O' => ∃ p, O1 p = none ∧ ρ' = ρ.set i (.val (.ref p)) ∧ O' = put O1 p (.lst (out.map .dat)) }) (k : E.nx (ρ.set i (.dat (.lst out))) O1) (hi : ∀ p, (ρ.set i (.val (.ref p)))[i]? = some (.val (.ref p)) := by intro _; rfl) : D1 T X CE st ρ O E :=
  .mk fun σ B H hE hA Dn W tk l => h σ B H hE hA Dn W tk ⟨fun ρ' O' σ' B' H' q po hE' => by
    obtain ⟨p, hp, e1, e2⟩ := q
    subst e1 e2
    obtain ⟨_, u, hu, ok⟩ := po.at'.own p _ put_same
    cases u <;> try exact ok.elim
    rename_i vs
    have pf := Post.freeze po.at' put_same hu
    rw [cut_put hp] at pf
    obtain ⟨o, f1, f2⟩ := hE'.get (hi p)
    have eo : o = some (.ref p) := by
      cases o with
      | none => exact f2.elim
      | some v => exact congrArg some f2
    subst eo
    have hE2 := (hE'.mono pf.bb).set (o := some (.ref p)) (s := .dat (.lst out)) (show SlotOk X.K (upd B' p (.lst vs)) (some (.ref p)) (.dat (.lst out)) from .lst upd_same ((Args.all ok).mono pf.bb)) i
    rw [set_same f1, List.set_set] at hE2
    exact l.nx _ _ σ' _ H' k (po.trans pf) hE2, l.rt, l.bk, l.ct, l.ex⟩
end
end Dz

namespace Dg
open PySem PySem.Spec PyProof.Rows L2 GxR Dz
def top (i : Nat) : Stmt := PySem.Challenge.pw_dragtold_k07_turns.main.body.getD i (.Pass ⟨0, 0, 0, 0⟩)
abbrev sIsNumber : Stmt := top 1
abbrev sIsBelow : Stmt := top 2
abbrev sIsWord : Stmt := top 3
abbrev sErrI : Stmt := inClass (top 5) 0
abbrev s_events_of : Stmt := top 10
abbrev s_point_events : Stmt := top 11
abbrev s_target_behind : Stmt := top 12
abbrev s_heard : Stmt := top 13
abbrev s_reaches : Stmt := top 14
abbrev s_signal_of : Stmt := top 15
abbrev s_without_zone : Stmt := top 16
abbrev s_turns : Stmt := top 27
abbrev s_turns_at : Stmt := top 28
abbrev s_drifted : Stmt := top 29
abbrev s_drifted_sides : Stmt := top 30
abbrev s_ticks_at : Stmt := top 31
abbrev s_other_targets : Stmt := top 32
abbrev s_is_let : Stmt := top 33
abbrev s_stops_bound : Stmt := top 34
abbrev s_is_possible : Stmt := top 35
abbrev s_tick_of : Stmt := top 36
abbrev s_behind : Stmt := top 37
abbrev s_element_at : Stmt := top 38
abbrev s_sides_in : Stmt := top 39
abbrev s_number_of_side : Stmt := top 40
abbrev s_is_scenario : Stmt := top 41
abbrev sSetupI : Stmt := inClass (top 50) 0
abbrev sListI : Stmt := inClass (top 51) 0
abbrev sIsChoice : Stmt := top 52
abbrev sInOrder : Stmt := top 53
abbrev sAreStates : Stmt := top 54
abbrev sAreRules : Stmt := top 55
abbrev sIsRule : Stmt := top 56
abbrev sLCell : Stmt := top 58
abbrev sLRow : Stmt := top 59
abbrev sLDraw : Stmt := top 60
abbrev sLSome : Stmt := top 61
abbrev sLKinds : Stmt := top 62
abbrev sLSetup : Stmt := top 63
abbrev s_law_troubles : Stmt := top 64
abbrev sLSignals : Stmt := top 65
abbrev sLRule : Stmt := top 66
abbrev sLSample : Stmt := top 67
abbrev sLList : Stmt := top 68
abbrev sLNext : Stmt := top 69
abbrev s_law_made : Stmt := top 70
abbrev sLListening : Stmt := top 71
abbrev s_law_reaches : Stmt := top 72
abbrev s_law_signal : Stmt := top 73
abbrev s_law_ways : Stmt := top 74
abbrev s_law_targets : Stmt := top 75
abbrev s_law_turns_at : Stmt := top 76
abbrev s_law_turns : Stmt := top 77
abbrev s_law_behind : Stmt := top 78
abbrev s_law_situation : Stmt := top 79
abbrev s_law_scenario : Stmt := top 80
abbrev s_law_is_scenario : Stmt := top 81
abbrev s_law_states : Stmt := top 82
abbrev s_law_is_hovered : Stmt := top 83
abbrev s_law_all : Stmt := top 84
abbrev s_law_spoiled : Stmt := top 85
abbrev sLaw : Stmt := top 86
end Dg

namespace Dg
open PySem PySem.Spec PyProof.Rows L2 GxR Dz
def isNum : D → Bool
  | .int i => decide (0 ≤ i)
  | _ => false
def isBelow (n : Int) : D → Bool
  | .int i => decide (0 ≤ i) && decide (i < n)
  | _ => false
def isWord (ws : List Str) : D → Bool
  | .str x => (ws.map D.str).any fun y => deq y (.str x)
  | _ => false
theorem oks_strs (ws : List Str) (n : Nat) : D.oks n (ws.map D.str) = true := by
  rw [oks_all, List.all_map]
  exact List.all_eq_true.mpr fun _ _ => by cases n <;> rfl
section
variable {P : Program} {w : World} {K : PySem.W.Frag} {mg : Str → Option Value} {base : Heap} {T : List Addr}
theorem scNum : FnScope ["value"] ["value"] (defScope sIsNumber) := ⟨rfl, rfl, rfl, by decide +kernel, rfl, by decide +kernel, by decide +kernel⟩
def pNum (ss : List Slot) (O : OH) (d : D) (O' : OH) : Prop := ∃ x, ss = [.dat x] ∧ Pl x ∧ d = .bl (isNum x) ∧ O' = O
theorem ok_num {f : Addr} {fd : FuncData} {cdv : Value} (F : FunC K "is_number" "is_number" sIsNumber f fd cdv) (L : Blt mg) : FnOk P w K mg base CX0 1 f fd ["value"] (spF T K pNum) := by
  refine fn_ok (CE := (0 : Addr)) (R := pNum) F scNum (fun ss O d O' ⟨x, h, _⟩ => by rw [h]; rfl) fun A outer s H E ss O d O' hr h => ?_
  obtain ⟨x, h1, h2, h3, h4⟩ := h
  subst h1 h3 h4
  refine ds_one (d1_ret (s := .dat (.bl (isNum x))) (O1 := O') ?_ (by exact ⟨rfl, rfl⟩))
  have h1 : isaInt x = true → isaBool x = false → ∃ i, x = .int i := by cases h2 <;> simp [isaInt, isaBool]
  have hq : isNum x = (isaInt x && ((!isaBool x) && isNum x)) := by cases h2 <;> rfl
  rw [hq]
  refine (de_and (de_isInt L h2 (de_var 0)) fun z1 => de_and (de_not (de_isBool L h2 (de_var 0))) fun z2 => de_one ?_).dv
  obtain ⟨i, rfl⟩ := h1 z1 (by simpa using z2)
  exact de_ge (de_var 0) de_int
theorem scBelow : FnScope ["value", "bound"] ["value", "bound"] (defScope sIsBelow) := ⟨rfl, rfl, rfl, by decide +kernel, rfl, by decide +kernel, by decide +kernel⟩
def pBelow (ss : List Slot) (O : OH) (d : D) (O' : OH) : Prop := ∃ x n, ss = [.dat x, .dat (.int n)] ∧ Pl x ∧ d = .bl (isBelow n x) ∧ O' = O
theorem ok_below {f g : Addr} {fd gd : FuncData} {cdv : Value} (F : FunC K "is_number_below" "is_number_below" sIsBelow f fd cdv) (L : Blt mg) (G : FnOk P w K mg base CX0 1 g gd ["value"] (spF T K pNum)) (hg : mg "is_number" = some (.ref g)) (kg : PySem.W.keepIn K (.ref g) = true) (bg : Binds K gd ["value"] []) :
    FnOk P w K mg base CX0 2 f fd ["value", "bound"] (spF T K pBelow) := by
  refine fn_ok (CE := (0 : Addr)) (R := pBelow) F scBelow (fun ss O d O' ⟨x, n, h, _⟩ => by rw [h]; rfl) fun A outer s H E ss O d O' hr h => ?_
  obtain ⟨x, n, h1, h2, h3, h4⟩ := h
  subst h1 h3 h4
  refine ds_one (d1_ret (s := .dat (.bl (isBelow n x))) (O1 := O') ?_ (by exact ⟨rfl, rfl⟩))
  have hq : isBelow n x = (isNum x && isBelow n x) := by
    cases h2 with
    | int i => show (decide (0 ≤ i) && decide (i < n)) = (decide (0 ≤ i) && (decide (0 ≤ i) && decide (i < n))); rw [← Bool.and_assoc, Bool.and_self]
    | _ => rfl
  have h1 : isNum x = true → ∃ i, x = .int i ∧ 0 ≤ i := by cases h2 <;> simp [isNum]
  rw [hq]
  refine DE.dv (de_and (de_call G hr hg kg bg pass0 (da_d (de_var 0) da_nil) ⟨x, rfl, h2, rfl, rfl⟩) fun z => de_one ?_)
  obtain ⟨i, rfl, hi⟩ := h1 z
  have e : isBelow n (.int i) = decide (i < n) := by show (decide (0 ≤ i) && decide (i < n)) = _; rw [decide_eq_true hi, Bool.true_and]
  rw [e]
  exact de_lt (de_var 0) (de_var 1)
theorem scWord : FnScope ["value", "words"] ["value", "words"] (defScope sIsWord) := ⟨rfl, rfl, rfl, by decide +kernel, rfl, by decide +kernel, by decide +kernel⟩
def pWord (ss : List Slot) (O : OH) (d : D) (O' : OH) : Prop := ∃ x ws, ss = [.dat x, .dat (.tup (ws.map .str))] ∧ Pl x ∧ d = .bl (isWord ws x) ∧ O' = O
theorem ok_word {f : Addr} {fd : FuncData} {cdv : Value} (F : FunC K "is_word" "is_word" sIsWord f fd cdv) (L : Blt mg) : FnOk P w K mg base CX0 1 f fd ["value", "words"] (spF T K pWord) := by
  refine fn_ok (CE := (0 : Addr)) (R := pWord) F scWord (fun ss O d O' ⟨x, ws, h, _⟩ => by rw [h]; rfl) fun A outer s H E ss O d O' hr h => ?_
  obtain ⟨x, ws, h1, h2, h3, h4⟩ := h
  subst h1 h3 h4
  refine ds_one (d1_ret (s := .dat (.bl (isWord ws x))) (O1 := O') ?_ (by exact ⟨rfl, rfl⟩))
  have hq : isWord ws x = (isaStr x && isWord ws x) := by cases h2 <;> rfl
  have h1 : isaStr x = true → ∃ t, x = .str t := by cases h2 <;> simp [isaStr]
  rw [hq]
  refine (de_and (de_isStr L h2 (de_var 0)) fun z => de_one ?_).dv
  obtain ⟨t, rfl⟩ := h1 z
  exact de_inT hr (by rfl) (oks_strs ws 32) (de_var 0) (de_var 1)
end
end Dg

namespace Dg
open PySem PySem.Spec PyProof.Rows L2 GxR Dz
theorem deq_int (a b : Int) : deq (.int a) (.int b) = decide (a = b) := by
  unfold deq D.py PyData.eqv
  rfl
theorem deq_str (a b : Str) : deq (.str a) (.str b) = decide (a = b) := by
  unfold deq D.py PyData.eqv
  rfl
def strsOf : List D → List Str := List.filterMap fun
  | .str x => some x
  | _ => none
def intsOf : List D → List Int := List.filterMap fun
  | .int x => some x
  | _ => none
theorem strs_of {ws : List Str} : ∀ {ds : List D}, ds.all (isWord ws) = true → ds = (strsOf ds).map .str
  | [], _ => rfl
  | d :: ds, h => by
    rw [List.all_cons, Bool.and_eq_true] at h
    have e := strs_of h.2
    cases d <;> first | (simp [isWord] at h; done) | skip
    rename_i x
    show D.str x :: ds = (x :: strsOf ds).map .str
    rw [List.map_cons, ← e]
theorem ints_of {n : Int} : ∀ {ds : List D}, ds.all (isBelow n) = true → ds = (intsOf ds).map .int
  | [], _ => rfl
  | d :: ds, h => by
    rw [List.all_cons, Bool.and_eq_true] at h
    have e := ints_of h.2
    cases d <;> first | (simp [isBelow] at h; done) | skip
    rename_i x
    show D.int x :: ds = (x :: intsOf ds).map .int
    rw [List.map_cons, ← e]
def isChoice (ws : List Str) : D → Bool
  | .lst ds => ds.all (isWord ws) && decide (((DzS.dd (strsOf ds)).length : Int) = ds.length)
  | .tup ds => ds.all (isWord ws) && decide (((DzS.dd (strsOf ds)).length : Int) = ds.length)
  | _ => false
/-- short, and the items plain -/
def PlS : D → Prop
  | .lst ds => ds.length ≤ 4000 ∧ ∀ d ∈ ds, Pl d
  | .tup ds => ds.length ≤ 4000 ∧ ∀ d ∈ ds, Pl d
  | _ => True
section
variable {P : Program} {w : World} {K : PySem.W.Frag} {mg : Str → Option Value} {base : Heap} {T : List Addr}
theorem scChoice : FnScope ["chosen", "words", "word"] ["chosen", "words"] (defScope sIsChoice) := ⟨rfl, rfl, rfl, by decide +kernel, rfl, by decide +kernel, by decide +kernel⟩
def pChoice (ss : List Slot) (O : OH) (d : D) (O' : OH) : Prop := ∃ x ws, ss = [.dat x, .dat (.tup (ws.map .str))] ∧ Pl x ∧ PlS x ∧ d = .bl (isChoice ws x) ∧ O' = O
theorem ok_choice {f g c tb : Addr} {fd gd : FuncData} (F : FunC K "is_choice" "is_choice" sIsChoice f fd (.ref c)) (L : Blt mg) (hT : tb ∈ T) (TB : TabB base mg c tb) (G : FnOk P w K mg base CX0 1 g gd ["value", "words"] (spF T K pWord)) (hg : mg "is_word" = some (.ref g)) (kg : PySem.W.keepIn K (.ref g) = true) (bg : Binds K gd ["value", "words"] []) :
    FnOk P w K mg base CX0 3 f fd ["chosen", "words"] (spF T K pChoice) := by
  refine fn_ok (CE := (0 : Addr)) (R := pChoice) F scChoice (fun ss O d O' ⟨x, ws, h, _⟩ => by rw [h]; rfl) fun A outer s H E ss O d O' hr h => ?_
  obtain ⟨x, ws, h1, h2, h3, h4, h5⟩ := h
  subst h1 h4 h5
  have hp := h2
  cases h2 with
  | lst ds =>
    refine ds_cons (d1_if (DT.cast (q := false) (dt_not (dt_val (de_isLT L hp (de_var 0)))) rfl) (fun z => by cases z) fun _ => ds_nil ?_)
    refine ds_cons (d1_if (dt_not (dt_val (de_allL 2 hr hT TB rfl scChoice.nd L.all (blkOk_by rfl) (by exact ⟨rfl, rfl, by decide +kernel, rfl, rfl⟩) (de_var 0) (fun y hy s' H' cl C code fp A' hr' => de_call G hr' hg kg bg pass0 (da_d (de_var 2) (da_d (de_var 1) da_nil)) ⟨y, ws, rfl, h3.2 y hy, rfl, rfl⟩)))) (fun z => ?_) fun z => ds_nil ?_)
    · have z' : ds.all (isWord ws) = false := by simpa using z
      refine ds_one (d1_ret (s := .dat (.bl false)) de_bl.dv ⟨by show _ = Slot.dat (.bl (_ && _)); rw [z']; rfl, rfl⟩)
    · have z' : ds.all (isWord ws) = true := by simpa using z
      refine ds_one (d1_ret (s := .dat (.bl (isChoice ws (.lst ds)))) ?_ ⟨rfl, rfl⟩)
      have hs : SetLenD ds (DzS.dd (strsOf ds)).length := by
        have e := strs_of z'
        have q := SetLenD.str (strsOf ds)
        rw [← e] at q
        exact q
      refine DE.dv (DE.cast (de_eq hr (by rfl) (by rfl) (de_lenSetL L.len L.set (de_var 0) hs h3.1) (de_lenL L.len (de_var 0))) ?_)
      rw [deq_int]
      show D.bl _ = .bl (ds.all (isWord ws) && _)
      rw [z', Bool.true_and]
  | tup ds =>
    refine ds_cons (d1_if (DT.cast (q := false) (dt_not (dt_val (de_isLT L hp (de_var 0)))) rfl) (fun z => by cases z) fun _ => ds_nil ?_)
    refine ds_cons (d1_if (dt_not (dt_val (de_allT 2 hr hT TB rfl scChoice.nd L.all (blkOk_by rfl) (by exact ⟨rfl, rfl, by decide +kernel, rfl, rfl⟩) (de_var 0) (fun y hy s' H' cl C code fp A' hr' => de_call G hr' hg kg bg pass0 (da_d (de_var 2) (da_d (de_var 1) da_nil)) ⟨y, ws, rfl, h3.2 y hy, rfl, rfl⟩)))) (fun z => ?_) fun z => ds_nil ?_)
    · have z' : ds.all (isWord ws) = false := by simpa using z
      refine ds_one (d1_ret (s := .dat (.bl false)) de_bl.dv ⟨by show _ = Slot.dat (.bl (_ && _)); rw [z']; rfl, rfl⟩)
    · have z' : ds.all (isWord ws) = true := by simpa using z
      refine ds_one (d1_ret (s := .dat (.bl (isChoice ws (.tup ds)))) ?_ ⟨rfl, rfl⟩)
      have hs : SetLenD ds (DzS.dd (strsOf ds)).length := by
        have e := strs_of z'
        have q := SetLenD.str (strsOf ds)
        rw [← e] at q
        exact q
      refine DE.dv (DE.cast (de_eq hr (by rfl) (by rfl) (de_lenSetT L.len L.set (de_var 0) hs h3.1) (de_lenT L.len (de_var 0))) ?_)
      rw [deq_int]
      show D.bl _ = .bl (ds.all (isWord ws) && _)
      rw [z', Bool.true_and]
  | non => exact ds_cons (d1_if (DT.cast (q := true) (dt_not (dt_val (de_isLT L hp (de_var 0)))) rfl) (fun _ => ds_one (d1_ret (s := .dat (.bl false)) de_bl.dv ⟨rfl, rfl⟩)) fun z => by cases z)
  | bl b => exact ds_cons (d1_if (DT.cast (q := true) (dt_not (dt_val (de_isLT L hp (de_var 0)))) rfl) (fun _ => ds_one (d1_ret (s := .dat (.bl false)) de_bl.dv ⟨rfl, rfl⟩)) fun z => by cases z)
  | int b => exact ds_cons (d1_if (DT.cast (q := true) (dt_not (dt_val (de_isLT L hp (de_var 0)))) rfl) (fun _ => ds_one (d1_ret (s := .dat (.bl false)) de_bl.dv ⟨rfl, rfl⟩)) fun z => by cases z)
  | str b => exact ds_cons (d1_if (DT.cast (q := true) (dt_not (dt_val (de_isLT L hp (de_var 0)))) rfl) (fun _ => ds_one (d1_ret (s := .dat (.bl false)) de_bl.dv ⟨rfl, rfl⟩)) fun z => by cases z)
end
end Dg

namespace Dg
open PySem PySem.Spec PyProof.Rows L2 GxR Dz
def pickW (ds : List D) : D → Option D := fun d => if ds.any (fun z => deq z d) = true then some d else none
def orderD (ds : List D) (ws : List Str) : List D := (ws.map D.str).filterMap (pickW ds)
def isStates (n : Int) : D → Bool
  | .lst ds => ds.all (isBelow n) && decide (((DzS.dd (intsOf ds)).length : Int) = ds.length)
  | _ => false
def KINDS : List Str := ["enter", "leave", "over", "drop", "end"]
def SIDES : List Str := ["outside", "inside", "zone"]
def RELS : List Str := ["none", "outside", "inside"]
def isRule (n : Int) : D → Bool
  | .tup [a, b, c, d, e, f] => (a.isNon || isBelow n a) && ((b.isNon || isWord KINDS b) && ((c.isNon || isWord SIDES c) && ((d.isNon || isaBool d) && ((e.isNon || isWord RELS e) && isBelow n f))))
  | _ => false
def isRules (n : Int) : D → Bool
  | .lst ds => decide ((ds.length : Int) ≤ 1200) && ds.all (isRule n)
  | _ => false
/-- the items of a rule are plain -/
def PlT : D → Prop
  | .tup ds => ∀ d ∈ ds, Pl d
  | _ => True
def PlRs : D → Prop
  | .lst ds => ds.length ≤ 4000 ∧ ∀ d ∈ ds, Pl d ∧ PlT d
  | _ => True
section
variable {P : Program} {w : World} {K : PySem.W.Frag} {mg : Str → Option Value} {base : Heap} {T : List Addr}
theorem scOrder : FnScope ["chosen", "words", "word"] ["chosen", "words"] (defScope sInOrder) := ⟨rfl, rfl, rfl, by decide +kernel, rfl, by decide +kernel, by decide +kernel⟩
def pOrder (ss : List Slot) (O : OH) (d : D) (O' : OH) : Prop := ∃ x ws ds, ss = [.dat x, .dat (.tup (ws.map .str))] ∧ (x = .lst ds ∨ x = .tup ds) ∧ D.oks 32 ds = true ∧ ws.length ≤ 100 ∧ d = .tup (orderD ds ws) ∧ O' = O
theorem ok_order {f : Addr} {fd : FuncData} {cdv : Value} (F : FunC K "in_order" "in_order" sInOrder f fd cdv) (L : Blt mg) : FnOk P w K mg base CX0 1 f fd ["chosen", "words"] (spF T K pOrder) := by
  refine fn_ok (CE := (0 : Addr)) (R := pOrder) F scOrder (fun ss O d O' ⟨x, ws, ds, h, _⟩ => by rw [h]; rfl) fun A outer s H E ss O d O' hr h => ?_
  obtain ⟨x, ws, ds, h1, h2, h3, h4, h5, h6⟩ := h
  subst h1 h5 h6
  refine ds_one (d1_ret (s := .dat (.tup (orderD ds ws))) (O1 := O') (DE.dv (de_tupleL L.tuple (de_lcT 2 (de_var 1) (fun j acc O2 => acc = ((ws.map D.str).take j).filterMap (pickW ds) ∧ O2 = O') ⟨rfl, rfl⟩ (lc_pure (f := pickW ds) ?_) (fun acc O2 h => ?_) ?_ scOrder.nd (blkOk_by rfl)))) ⟨rfl, rfl⟩)
  · intro d hd
    obtain ⟨t, _, rfl⟩ := List.mem_map.mp hd
    unfold pickW
    rcases h2 with rfl | rfl
    · by_cases hq : ds.any (fun z => deq z (.str t)) = true
      · exact .inl ⟨.str t, if_pos hq, difs_one fun s H C cl fp => DT.cast (dt_inL (x := D.str t) hr (by rfl) h3 (de_var 2) (de_var 0)) hq, fun s H C cl fp => de_var 2⟩
      · exact .inr ⟨if_neg hq, difs_one fun s H C cl fp => DT.cast (dt_inL (x := D.str t) hr (by rfl) h3 (de_var 2) (de_var 0)) (by simpa using hq)⟩
    · by_cases hq : ds.any (fun z => deq z (.str t)) = true
      · exact .inl ⟨.str t, if_pos hq, difs_one fun s H C cl fp => DT.cast (dt_inT (x := D.str t) hr (by rfl) h3 (de_var 2) (de_var 0)) hq, fun s H C cl fp => de_var 2⟩
      · exact .inr ⟨if_neg hq, difs_one fun s H C cl fp => DT.cast (dt_inT (x := D.str t) hr (by rfl) h3 (de_var 2) (de_var 0)) (by simpa using hq)⟩
  · rw [List.length_map, List.take_of_length_le (by rw [List.length_map]; exact Nat.le_refl _)] at h
    exact h
  · rw [List.length_map]; omega

theorem scStates : FnScope ["on", "states", "state"] ["on", "states"] (defScope sAreStates) := ⟨rfl, rfl, rfl, by decide +kernel, rfl, by decide +kernel, by decide +kernel⟩
def pStates (ss : List Slot) (O : OH) (d : D) (O' : OH) : Prop := ∃ x n, ss = [.dat x, .dat (.int n)] ∧ Pl x ∧ PlS x ∧ d = .bl (isStates n x) ∧ O' = O
theorem ok_states {f g c tb : Addr} {fd gd : FuncData} (F : FunC K "are_states" "are_states" sAreStates f fd (.ref c)) (L : Blt mg) (hT : tb ∈ T) (TB : TabB base mg c tb) (G : FnOk P w K mg base CX0 2 g gd ["value", "bound"] (spF T K pBelow)) (hg : mg "is_number_below" = some (.ref g)) (kg : PySem.W.keepIn K (.ref g) = true) (bg : Binds K gd ["value", "bound"] []) :
    FnOk P w K mg base CX0 4 f fd ["on", "states"] (spF T K pStates) := by
  refine fn_ok (CE := (0 : Addr)) (R := pStates) F scStates (fun ss O d O' ⟨x, n, h, _⟩ => by rw [h]; rfl) fun A outer s H E ss O d O' hr h => ?_
  obtain ⟨x, n, h1, h2, h3, h4, h5⟩ := h
  subst h1 h4 h5
  have hp := h2
  cases h2 with
  | lst ds =>
    refine ds_cons (d1_if (DT.cast (q := false) (dt_not (dt_val (de_isList L hp (de_var 0)))) rfl) (fun z => by cases z) fun _ => ds_nil ?_)
    refine ds_cons (d1_if (dt_not (dt_val (de_allL 2 hr hT TB rfl scStates.nd L.all (blkOk_by rfl) (by exact ⟨rfl, rfl, by decide +kernel, rfl, rfl⟩) (de_var 0) (fun y hy s' H' cl C code fp A' hr' => de_call G hr' hg kg bg pass0 (da_d (de_var 2) (da_d (de_var 1) da_nil)) ⟨y, n, rfl, h3.2 y hy, rfl, rfl⟩)))) (fun z => ?_) fun z => ds_nil ?_)
    · have z' : ds.all (isBelow n) = false := by simpa using z
      refine ds_one (d1_ret (s := .dat (.bl false)) de_bl.dv ⟨by show _ = Slot.dat (.bl (_ && _)); rw [z']; rfl, rfl⟩)
    · have z' : ds.all (isBelow n) = true := by simpa using z
      refine ds_one (d1_ret (s := .dat (.bl (isStates n (.lst ds)))) ?_ ⟨rfl, rfl⟩)
      have hs : SetLenD ds (DzS.dd (intsOf ds)).length := by
        have e := ints_of z'
        have q := SetLenD.int (intsOf ds)
        rw [← e] at q
        exact q
      refine DE.dv (DE.cast (de_eq hr (by rfl) (by rfl) (de_lenSetL L.len L.set (de_var 0) hs h3.1) (de_lenL L.len (de_var 0))) ?_)
      rw [deq_int]
      show D.bl _ = .bl (ds.all (isBelow n) && _)
      rw [z', Bool.true_and]
  | _ => exact ds_cons (d1_if (DT.cast (q := true) (dt_not (dt_val (de_isList L hp (de_var 0)))) rfl) (fun _ => ds_one (d1_ret (s := .dat (.bl false)) de_bl.dv ⟨rfl, rfl⟩)) fun z => by cases z)

theorem scRules : FnScope ["rules", "states", "rule"] ["rules", "states"] (defScope sAreRules) := ⟨rfl, rfl, rfl, by decide +kernel, rfl, by decide +kernel, by decide +kernel⟩
def pRule (ss : List Slot) (O : OH) (d : D) (O' : OH) : Prop := ∃ x n, ss = [.dat x, .dat (.int n)] ∧ Pl x ∧ PlT x ∧ d = .bl (isRule n x) ∧ O' = O
def pRules (ss : List Slot) (O : OH) (d : D) (O' : OH) : Prop := ∃ x n, ss = [.dat x, .dat (.int n)] ∧ Pl x ∧ PlRs x ∧ d = .bl (isRules n x) ∧ O' = O
theorem ok_rules {f g c tb : Addr} {fd gd : FuncData} {um : Value} (F : FunC K "are_rules" "are_rules" sAreRules f fd (.ref c)) (L : Blt mg) (hT : tb ∈ T) (TB : TabB base mg c tb) (hM : mg "MOST_RULES" = some um) (kM : kdB K 0 um (.int 1200) = true) (G : FnOk P w K mg base CX0 3 g gd ["rule", "states"] (spF T K pRule)) (hg : mg "is_rule" = some (.ref g)) (kg : PySem.W.keepIn K (.ref g) = true) (bg : Binds K gd ["rule", "states"] []) :
    FnOk P w K mg base CX0 5 f fd ["rules", "states"] (spF T K pRules) := by
  refine fn_ok (CE := (0 : Addr)) (R := pRules) F scRules (fun ss O d O' ⟨x, n, h, _⟩ => by rw [h]; rfl) fun A outer s H E ss O d O' hr h => ?_
  obtain ⟨x, n, h1, h2, h3, h4, h5⟩ := h
  subst h1 h4 h5
  have hp := h2
  cases h2 with
  | lst ds =>
    refine ds_cons (d1_if (DW.dt (dw_or (p := false) (dt_not (dt_val (de_isList L hp (de_var 0)))) fun _ => dw_or1 (dt_gt (de_lenL L.len (de_var 0)) (de_gk hM kM)))) (fun z => ?_) fun z => ds_nil ?_)
    · have z' : ((1200 : Int) < ds.length) := by simpa using z
      refine ds_one (d1_ret (s := .dat (.bl false)) de_bl.dv ⟨by show _ = Slot.dat (.bl (_ && _)); rw [decide_eq_false (by omega)]; rfl, rfl⟩)
    · have z' : ¬ ((1200 : Int) < ds.length) := by simpa using z
      refine ds_one (d1_ret (s := .dat (.bl (isRules n (.lst ds)))) ?_ ⟨rfl, rfl⟩)
      refine DE.dv (DE.cast (de_allL 2 hr hT TB rfl scRules.nd L.all (blkOk_by rfl) (by exact ⟨rfl, rfl, by decide +kernel, rfl, rfl⟩) (de_var 0) (fun y hy s' H' cl C code fp A' hr' => de_call G (hr'.mono (by decide)) hg kg bg pass0 (da_d (de_var 2) (da_d (de_var 1) da_nil)) ⟨y, n, rfl, (h3.2 y hy).1, (h3.2 y hy).2, rfl, rfl⟩)) ?_)
      show D.bl _ = .bl (decide ((ds.length : Int) ≤ 1200) && _)
      rw [decide_eq_true (by omega), Bool.true_and]
  | _ => exact ds_cons (d1_if (DW.dt (dw_or (p := true) (q := true) (DT.cast (dt_not (dt_val (de_isList L hp (de_var 0)))) rfl) fun z => by cases z)) (fun _ => ds_one (d1_ret (s := .dat (.bl false)) de_bl.dv ⟨rfl, rfl⟩)) fun z => by cases z)
end
end Dg
namespace Dg
open PySem PySem.Spec PyProof.Rows L2 GxR Dz
section
variable {P : Program} {w : World} {K : PySem.W.Frag} {mg : Str → Option Value} {base : Heap} {T : List Addr}
theorem scRule : FnScope ["rule", "states", "source", "kind", "side", "same", "related", "following"] ["rule", "states"] (defScope sIsRule) := ⟨rfl, rfl, rfl, by decide +kernel, rfl, by decide +kernel, by decide +kernel⟩
theorem and_idl {p q : Bool} : (p && q) = (p && q) := rfl
theorem ok_rule {f g g2 : Addr} {fd gd gd2 : FuncData} {cdv uk us ur : Value} (F : FunC K "is_rule" "is_rule" sIsRule f fd cdv) (L : Blt mg)
    (hk : mg "KINDS" = some uk) (kk : kdB K 1 uk (.tup (KINDS.map .str)) = true) (hs : mg "SIDES" = some us) (ks : kdB K 1 us (.tup (SIDES.map .str)) = true) (hR : mg "RELATED_SIDES" = some ur) (kR : kdB K 1 ur (.tup (RELS.map .str)) = true)
    (G : FnOk P w K mg base CX0 2 g gd ["value", "bound"] (spF T K pBelow)) (hg : mg "is_number_below" = some (.ref g)) (kg : PySem.W.keepIn K (.ref g) = true) (bg : Binds K gd ["value", "bound"] [])
    (G2 : FnOk P w K mg base CX0 1 g2 gd2 ["value", "words"] (spF T K pWord)) (hg2 : mg "is_word" = some (.ref g2)) (kg2 : PySem.W.keepIn K (.ref g2) = true) (bg2 : Binds K gd2 ["value", "words"] []) :
    FnOk P w K mg base CX0 3 f fd ["rule", "states"] (spF T K pRule) := by
  refine fn_ok (CE := (0 : Addr)) (R := pRule) F scRule (fun ss O d O' ⟨x, n, h, _⟩ => by rw [h]; rfl) fun A outer s H E ss O d O' hr h => ?_
  obtain ⟨x, n, h1, h2, h3, h4, h5⟩ := h
  subst h1 h4 h5
  have hp := h2
  cases h2 with
  | tup ds =>
    have pl : ∀ d ∈ ds, Pl d := h3
    by_cases hl : (ds.length : Int) = 6
    · refine ds_cons (d1_if (DT.cast (q := false) (dt_not (DW.dt (dw_and (p := true) (dt_val (de_isTup L hp (de_var 0))) fun _ => dw_and1 (dt_eq hr (by rfl) (by rfl) (de_lenT L.len (de_var 0)) de_int)))) ?_) (fun z => by cases z) fun _ => ds_nil ?_)
      · rw [deq_int, decide_eq_true hl]; rfl
      match ds, hl, pl, hp, h3 with
      | [a, b, c, d, e, g'], _, pl, hp, h3 =>
        refine ds_cons (d1_unpack (is := [2, 3, 4, 5, 6, 7]) (de_var 0) rfl (by repeat' (first | exact Dz.Names.nil | refine Dz.Names.cons rfl (by first | exact Or.inl rfl | exact Or.inr rfl) (by first | exact .inl rfl | exact .inr rfl) rfl ?_)) ?_ scRule.nd)
        have pa : Pl a := pl a (by simp)
        have pb : Pl b := pl b (by simp)
        have pc : Pl c := pl c (by simp)
        have pd : Pl d := pl d (by simp)
        have pe : Pl e := pl e (by simp)
        have pg : Pl g' := pl g' (by simp)
        refine ds_one (d1_ret (s := .dat (.bl (isRule n (.tup [a, b, c, d, e, g'])))) (DE.dv ?_) ⟨rfl, rfl⟩)
        show DE T _ _ [.dat (.tup [a, b, c, d, e, g']), .dat (.int n), .dat a, .dat b, .dat c, .dat d, .dat e, .dat g'] O' (.bl ((a.isNon || isBelow n a) && ((b.isNon || isWord KINDS b) && ((c.isNon || isWord SIDES c) && ((d.isNon || isaBool d) && ((e.isNon || isWord RELS e) && isBelow n g')))))) O'
        refine de_and (de_or (de_isN (de_var 2) de_non) fun _ => de_one (de_call G (hr.mono (by decide)) hg kg bg pass0 (da_d (de_var 2) (da_d (de_var 1) da_nil)) ⟨a, n, rfl, pa, rfl, rfl⟩)) fun _ => ?_
        refine de_and (de_or (de_isN (de_var 3) de_non) fun _ => de_one (de_call G2 (hr.mono (by decide)) hg2 kg2 bg2 pass0 (da_d (de_var 3) (da_d (de_gk hk kk) da_nil)) ⟨b, KINDS, rfl, pb, rfl, rfl⟩)) fun _ => ?_
        refine de_and (de_or (de_isN (de_var 4) de_non) fun _ => de_one (de_call G2 (hr.mono (by decide)) hg2 kg2 bg2 pass0 (da_d (de_var 4) (da_d (de_gk hs ks) da_nil)) ⟨c, SIDES, rfl, pc, rfl, rfl⟩)) fun _ => ?_
        refine de_and (de_or (de_isN (de_var 5) de_non) fun _ => de_one (de_isBool L pd (de_var 5))) fun _ => ?_
        refine de_and (de_or (de_isN (de_var 6) de_non) fun _ => de_one (de_call G2 (hr.mono (by decide)) hg2 kg2 bg2 pass0 (da_d (de_var 6) (da_d (de_gk hR kR) da_nil)) ⟨e, RELS, rfl, pe, rfl, rfl⟩)) fun _ => ?_
        exact de_one (de_call G (hr.mono (by decide)) hg kg bg pass0 (da_d (de_var 7) (da_d (de_var 1) da_nil)) ⟨g', n, rfl, pg, rfl, rfl⟩)
      | [], h, _, _, _ => simp at h
      | [_], h, _, _, _ => simp at h
      | [_, _], h, _, _, _ => simp at h
      | [_, _, _], h, _, _, _ => simp at h
      | [_, _, _, _], h, _, _, _ => simp at h
      | [_, _, _, _, _], h, _, _, _ => simp at h
      | _ :: _ :: _ :: _ :: _ :: _ :: _ :: _, h, _, _, _ => simp at h; omega
    · have hq : isRule n (.tup ds) = false := by
        unfold isRule
        split
        · rename_i z
          cases z
          exact absurd rfl hl
        · rfl
      refine ds_cons (d1_if (DT.cast (q := true) (dt_not (DW.dt (dw_and (p := true) (dt_val (de_isTup L hp (de_var 0))) fun _ => dw_and1 (dt_eq hr (by rfl) (by rfl) (de_lenT L.len (de_var 0)) de_int)))) ?_) (fun _ => ds_one (d1_ret (s := .dat (.bl false)) de_bl.dv ⟨by rw [hq], rfl⟩)) fun z => by cases z)
      rw [deq_int, decide_eq_false hl]; rfl
  | _ => exact ds_cons (d1_if (DT.cast (q := true) (dt_not (DW.dt (dw_and (p := false) (q := false) (dt_val (de_isTup L hp (de_var 0))) fun z => by cases z))) rfl) (fun _ => ds_one (d1_ret (s := .dat (.bl false)) de_bl.dv ⟨rfl, rfl⟩)) fun z => by cases z)
end
end Dg

namespace Dg
open PySem PySem.Spec PyProof.Rows L2 GxR Dz
/-- what is known of the program's own error -/
structure Err (K : PySem.W.Frag) (mg : Str → Option Value) (CE fI : Addr) : Prop where
  o : OexC K CE
  iC : PySem.W.findIn K (.ref CE) "__init__" = some (some (.ref fI))
  tI : PySem.W.typeIn K (.ref fI) = some (.type "function")
  gC : mg "DragError" = some (.ref CE)
  no : PySem.W.findIn K (.ref CE) "reason" = some none
  vV : PySem.W.findCls K (.type "ValueError") (.type "type") "__init__" = some (.val (.builtin "ValueError.__init__"))
  mV : mg "ValueError" = none
  xf : XfC K CE
  me : PySem.W.exmOne K (.ref CE) (.ref CE) = some true
section
variable {P : Program} {w : World} {K : PySem.W.Frag} {mg : Str → Option Value} {base : Heap} {T : List Addr} {CE fI : Addr}
theorem scErrI : FnScope ["self", "reason"] ["self", "reason"] (defScope sErrI) := ⟨rfl, rfl, rfl, by decide +kernel, rfl, by decide +kernel, by decide +kernel⟩
theorem ok_errI {f : Addr} {fd : FuncData} {cdv : Value} (F : FunC K "__init__" "DragError.__init__" sErrI f fd cdv) (V : Err K mg CE fI) : FnOk P w K mg base CX0 1 f fd ["self", "reason"] (spI CE) := by
  obtain ⟨oc, od, kV, doc, pm, an, ct, osl, rfl, lk, hcd⟩ := F.ex
  refine fn_of lk hcd scErrI (fun vs H Q E h => ?_) fun A outer s H vs Q E hr hsp => ?_
  · obtain ⟨a, v, rfl, _⟩ := h
    rfl
  · obtain ⟨a, v, rfl, ha, q⟩ := hsp
    refine ⟨_, PSs.nox (pss_cons (ps_expr (pe_veinit rfl V.mV V.vV (pa_cons (pv 0) (pa_cons (pv 1) pa_nil)))) (pss_one (ps_ost (pv 0) (pv 1)))), ?_⟩
    refine ⟨_, rfl, _, rfl, a, CE, [v], rfl, (by show 1 ≤ 1000; decide), V.o, ha, _, rfl, _, rfl, a, CE, rfl, V.o, V.no, .inl ⟨ha, fun dx ndx ne => q dx ndx ne⟩⟩

end
/-- the classes' objects -/
def insSetup (C : Addr) (place kinds sights : D) : D := .ins C [("place", place), ("kinds", kinds), ("sights", sights)]
def insList (C : Addr) (states on rules : D) : D := .ins C [("states", states), ("on", on), ("rules", rules)]
structure Fld3 (K : PySem.W.Frag) (C : Addr) (a b c : Str) : Prop where
  cl : Cls K C
  a : NoAttr K C a
  b : NoAttr K C b
  c : NoAttr K C c
end Dg
namespace Dz
open PySem PySem.Spec PyProof.Rows L2 GxR
def rgI (a b : Int) : List Int := (List.range (b - a).toNat).map fun i => a + (i : Nat)
theorem rgV_eq (a b : Int) : rgV a b = (rgI a b).map V.int := by
  unfold rgV rgI
  rw [List.map_map]
  rfl
section
variable {T : List Addr} {X : Cx} {ρ : List Slot} {O O1 O2 : OH} {a b e : Expr} {p p0 pos pos2 : Pos}
/-- list(range(a, b)) -/
theorem de_listRg2 {i j : Int} (hm : X.mg "list" = none) (hm2 : X.mg "range" = none) (ha : DE T X a ρ O (.int i) O1) (hb : DE T X b ρ O1 (.int j) O2) (h : -100000 ≤ i ∧ i ≤ 100000 ∧ -100000 ≤ j ∧ j ≤ 100000) (hc : X.calm = true := by rfl) (hg : Gl X "list" := by rfl) (hg2 : Gl X "range" := by rfl)
    (na : starEach [.Call (.Name "range" p) [a, b] [] pos2] X.env = (false, eval (.Call (.Name "range" p) [a, b] [] pos2) X.env) :: starEach [] X.env := by rfl) (nb : starEach [a, b] X.env = (false, eval a X.env) :: starEach [b] X.env := by rfl) (nc : starEach [b] X.env = (false, eval b X.env) :: starEach [] X.env := by rfl) (hp : (backTo pos2 (starEach [b] X.env)).any (·.1) = false := by rfl) :
    DE T X (.Call (.Name "list" p0) [.Call (.Name "range" p) [a, b] [] pos2] [] pos) ρ O (.lst ((rgI i j).map .int)) O2 :=
  de_of (pe_listRg hc hg hm (prg_2 hg2 hm2 pe_we pe_we nb nc hp) na) fun σ B H hE hA Q q => two ha hb hE hA fun v w B' H' p1 r1 r2 => by
    cases r1
    cases r2
    refine ⟨i, j, rfl, rfl, ⟨by omega, by omega, by omega, by omega, by omega⟩, fun l hl => ?_⟩
    rw [rgV_eq]
    exact q _ _ _ (p1.trans (Post.made (o := .lst _) p1.at' hl)) (.lst upd_same (ints_rp _))
/-- list(range(b)) -/
theorem de_listRg1 {j : Int} (hm : X.mg "list" = none) (hm2 : X.mg "range" = none) (ha : DE T X a ρ O (.int j) O1) (h : -100000 ≤ j ∧ j ≤ 100000) (hc : X.calm = true := by rfl) (hg : Gl X "list" := by rfl) (hg2 : Gl X "range" := by rfl)
    (na : starEach [.Call (.Name "range" p) [a] [] pos2] X.env = (false, eval (.Call (.Name "range" p) [a] [] pos2) X.env) :: starEach [] X.env := by rfl) (nb : starEach [a] X.env = (false, eval a X.env) :: starEach [] X.env := by rfl) :
    DE T X (.Call (.Name "list" p0) [.Call (.Name "range" p) [a] [] pos2] [] pos) ρ O (.lst ((rgI 0 j).map .int)) O1 :=
  de_of (pe_listRg hc hg hm (prg_1 hg2 hm2 pe_we nb) na) fun σ B H hE hA Q q => ha σ B H hE hA _ fun v B' H' p1 r1 => by
    cases r1
    refine ⟨j, rfl, ⟨by omega, by omega, by omega, by omega, by omega⟩, fun l hl => ?_⟩
    rw [rgV_eq]
    exact q _ _ _ (p1.trans (Post.made (o := .lst _) p1.at' hl)) (.lst upd_same (ints_rp _))
end
end Dz
namespace Dz
theorem putS_len {f : PySem.Str} {s : Slot} : ∀ fs : List (PySem.Str × Slot), (putS f s fs).length ≤ fs.length + 1
  | [] => Nat.le_refl _
  | (g, t) :: r => by
    unfold putS
    split
    · simp
    · have := putS_len (f := f) (s := s) r
      rw [List.length_cons, List.length_cons]
      omega
theorem putS1 {f : PySem.Str} {s : Slot} {fs : List (PySem.Str × Slot)} {n : Nat} (h : fs.length + 1 < n) : (putS f s fs).length < n := Nat.lt_of_le_of_lt (putS_len fs) h
theorem putS2 {f : PySem.Str} {s : Slot} {fs : List (PySem.Str × Slot)} {n k : Nat} (h : fs.length + (k + 1) < n) : (putS f s fs).length + k < n := Nat.lt_of_le_of_lt (Nat.add_le_add_right (putS_len fs) k) (by omega)
end Dz
namespace Dg
open PySem PySem.Spec PyProof.Rows L2 GxR Dz
def PLACES : List Str := ["zone", "root", "capture"]
def SIGHTS : List Str := ["own", "same", "related"]
def itemsD : D → List D
  | .lst ds => ds
  | .tup ds => ds
  | _ => []
def ordD (x : D) (ws : List Str) : D := .tup (orderD (itemsD x) ws)
def okSetup (p k s : D) : Bool := isWord PLACES p && (isChoice KINDS k && isChoice SIGHTS s)
/-- Setup(..): its promise -/
def pSetup (CS : Addr) : PR := fun ss O Rn Rx => ∃ a p k s, ss = [.val (.ref a), .dat p, .dat k, .dat s] ∧ O a = some (.ins CS []) ∧ Pl p ∧ Pl k ∧ PlS k ∧ Pl s ∧ PlS s ∧
  ((okSetup p k s = true ∧ Rn = (fun v O' => v = .dat .non ∧ O' = put O a (.ins CS [("place", .dat p), ("kinds", .dat (ordD k KINDS)), ("sights", .dat (ordD s SIGHTS))])) ∧ Rx = fun _ _ => False) ∨
    (okSetup p k s = false ∧ Rn = (fun _ _ => False) ∧ Rx = fun r O' => r = .str "no setup" ∧ O' = O))
theorem choice_items {ws : List Str} {x : D} (h : isChoice ws x = true) : (x = .lst (itemsD x) ∨ x = .tup (itemsD x)) ∧ D.oks 32 (itemsD x) = true := by
  cases x <;> first | (simp [isChoice] at h; done) | skip
  · rename_i ds
    have h' : (ds.all (isWord ws) && decide (((DzS.dd (strsOf ds)).length : Int) = ds.length)) = true := h
    rw [Bool.and_eq_true] at h'
    refine ⟨.inl rfl, ?_⟩
    show D.oks 32 ds = true
    rw [strs_of h'.1]
    exact oks_strs _ _
  · rename_i ds
    have h' : (ds.all (isWord ws) && decide (((DzS.dd (strsOf ds)).length : Int) = ds.length)) = true := h
    rw [Bool.and_eq_true] at h'
    refine ⟨.inr rfl, ?_⟩
    show D.oks 32 ds = true
    rw [strs_of h'.1]
    exact oks_strs _ _
section
variable {P : Program} {w : World} {K : PySem.W.Frag} {mg : Str → Option Value} {base : Heap} {T : List Addr} {CE fI : Addr}
theorem scSetup : FnScope ["self", "place", "kinds", "sights"] ["self", "place", "kinds", "sights"] (defScope sSetupI) := ⟨rfl, rfl, rfl, by decide +kernel, rfl, by decide +kernel, by decide +kernel⟩
theorem ok_setup {f g1 g2 g3 CS : Addr} {fd gd1 gd2 gd3 fdI : FuncData} {cdv up uk us : Value} (F : FunC K "__init__" "Setup.__init__" sSetupI f fd cdv) (V : Err K mg CE fI) (A3 : Fld3 K CS "place" "kinds" "sights")
    (hp : mg "PLACES" = some up) (kp : kdB K 1 up (.tup (PLACES.map .str)) = true) (hk : mg "KINDS" = some uk) (kk : kdB K 1 uk (.tup (KINDS.map .str)) = true) (hs : mg "SIGHTS" = some us) (ks : kdB K 1 us (.tup (SIGHTS.map .str)) = true)
    (EI : FnOk P w K mg base CX0 1 fI fdI ["self", "reason"] (spI CE)) (bI : Binds K fdI ["self", "reason"] [])
    (G1 : FnOk P w K mg base CX0 1 g1 gd1 ["value", "words"] (spF T K pWord)) (hg1 : mg "is_word" = some (.ref g1)) (kg1 : PySem.W.keepIn K (.ref g1) = true) (bg1 : Binds K gd1 ["value", "words"] [])
    (G2 : FnOk P w K mg base CX0 3 g2 gd2 ["chosen", "words"] (spF T K pChoice)) (hg2 : mg "is_choice" = some (.ref g2)) (kg2 : PySem.W.keepIn K (.ref g2) = true) (bg2 : Binds K gd2 ["chosen", "words"] [])
    (G3 : FnOk P w K mg base CX0 1 g3 gd3 ["chosen", "words"] (spF T K pOrder)) (hg3 : mg "in_order" = some (.ref g3)) (kg3 : PySem.W.keepIn K (.ref g3) = true) (bg3 : Binds K gd3 ["chosen", "words"] []) :
    FnOk P w K mg base (L2.CX P w) 4 f fd ["self", "place", "kinds", "sights"] (spX T K CE (pSetup CS)) := by
  refine fn_okX (R := pSetup CS) F scSetup (fun ss O Rn Rx ⟨a, p, k, s, h, _⟩ => by rw [h]; rfl) fun A outer s H E ss O Rn Rx hr h => ?_
  obtain ⟨a, p, k, sg, e1, ha, h1, h2, h3, h4, h5, hc⟩ := h
  subst e1
  refine ds_cons (d1_if (p := !okSetup p k sg) (O1 := O) (dt_not (DW.dt (dw_and (dt_val (de_call G1 (hr.mono (by decide)) hg1 kg1 bg1 pass0 (da_d (de_var 1) (da_d (de_gk hp kp) da_nil)) ⟨p, PLACES, rfl, h1, rfl, rfl⟩)) fun _ =>
    dw_and (dt_val (de_call G2 hr hg2 kg2 bg2 pass0 (da_d (de_var 2) (da_d (de_gk hk kk) da_nil)) ⟨k, KINDS, rfl, h2, h3, rfl, rfl⟩)) fun _ => dw_and1 (dt_val (de_call G2 hr hg2 kg2 bg2 pass0 (da_d (de_var 3) (da_d (de_gk hs ks) da_nil)) ⟨sg, SIGHTS, rfl, h4, h5, rfl, rfl⟩))))) (fun z => ?_) fun z => ds_nil ?_)
  · rcases hc with ⟨ok, eN, eX⟩ | ⟨ok, eN, eX⟩
    · rw [ok] at z
      cases z
    · refine ds_one (d1_raise V.o V.iC V.tI EI (hr.mono (by decide)) bI pass0 V.gC de_str ?_)
      show Rx _ _
      rw [eX]
      exact ⟨rfl, rfl⟩
  · rcases hc with ⟨ok, eN, eX⟩ | ⟨ok, eN, eX⟩
    · have ok' : isWord PLACES p = true ∧ isChoice KINDS k = true ∧ isChoice SIGHTS sg = true := by simpa [okSetup] using ok
      obtain ⟨i1, i2⟩ := choice_items ok'.2.1
      obtain ⟨j1, j2⟩ := choice_items ok'.2.2
      refine ds_cons (d1_fst 0 A3.cl A3.a rfl (dv_var 1 rfl) ha ?_ (by simp))
      refine ds_cons (d1_fst 0 A3.cl A3.b rfl (DE.dv (de_call G3 (hr.mono (by decide)) hg3 kg3 bg3 pass0 (da_d (de_var 2) (da_d (de_gk hk kk) da_nil)) ⟨k, KINDS, itemsD k, rfl, i1, i2, by decide, rfl, rfl⟩)) put_same ?_ (by first | (show 0 < 1000; decide) | (refine Dz.putS1 ?_; repeat' (refine Dz.putS2 ?_)); decide))
      refine ds_one (d1_fst 0 A3.cl A3.c rfl (DE.dv (de_call G3 (hr.mono (by decide)) hg3 kg3 bg3 pass0 (da_d (de_var 3) (da_d (de_gk hs ks) da_nil)) ⟨sg, SIGHTS, itemsD sg, rfl, j1, j2, by decide, rfl, rfl⟩)) put_same ?_ (by first | (show 0 < 1000; decide) | (refine Dz.putS1 ?_; repeat' (refine Dz.putS2 ?_)); decide))
      rw [eN]
      exact ⟨rfl, by rw [put_put, put_put]; rfl⟩
    · rw [ok] at z
      cases z
end
end Dg

namespace Dg
open PySem PySem.Spec PyProof.Rows L2 GxR Dz
def iter {α : Type} (f : Nat → α → α) : Nat → α → α
  | 0, a => a
  | n + 1, a => f n (iter f n a)
def cell0 (ns : List Int) (k : Int) : Int := if k < ns.length then ns.getD k.toNat 0 else 0
def wideStep (s : Int × List Int) : Int × List Int := if 0 < s.1 then (s.1 / 840, s.2 ++ [s.1 % 840]) else s
def thinStep (k : Int) (turn : Nat) (s : Int × List Int) : Int × List Int := let c := (s.1 * 69069 + 104729 * (k + (turn : Int)) + 1) % 4294967291; (c, s.2 ++ [(c / 5003) % 840])
def cell1 (c : Int) : Int := (if 2 * c < 0 then -(2 * c) else 2 * c) + (if c < 0 then 1 else 0)
def cellRow (ns : List Int) (k : Int) (acc : List Int) : List Int := if 10 ^ 18 < cell1 (cell0 ns k) then (iter (fun _ => wideStep) 60 (cell1 (cell0 ns k), acc)).2 else (iter (thinStep k) 10 (cell1 (cell0 ns k), acc)).2
def rowF (ns : List Int) (first last : Int) : List Int := iter (fun j acc => cellRow ns (first + (j : Int)) acc) (last - first).toNat []
theorem wideStep_len (s : Int × List Int) : (wideStep s).2.length ≤ s.2.length + 1 := by
  unfold wideStep
  split
  · rw [List.length_append, List.length_singleton]; exact Nat.le_refl _
  · omega
theorem thinStep_len (k : Int) (t : Nat) (s : Int × List Int) : (thinStep k t s).2.length = s.2.length + 1 := by
  unfold thinStep
  rw [List.length_append, List.length_singleton]
theorem wide_len : ∀ (n : Nat) (s : Int × List Int), (iter (fun _ => wideStep) n s).2.length ≤ s.2.length + n
  | 0, _ => Nat.le_refl _
  | n + 1, s => by
    have := wide_len n s
    have h2 := wideStep_len (iter (fun _ => wideStep) n s)
    show (wideStep (iter (fun _ => wideStep) n s)).2.length ≤ _
    omega
theorem thin_len (k : Int) : ∀ (n : Nat) (s : Int × List Int), (iter (thinStep k) n s).2.length = s.2.length + n
  | 0, _ => rfl
  | n + 1, s => by
    have := thin_len k n s
    have h2 := thinStep_len k n (iter (thinStep k) n s)
    show (thinStep k n (iter (thinStep k) n s)).2.length = _
    omega
theorem cellRow_len (ns : List Int) (k : Int) (acc : List Int) : (cellRow ns k acc).length ≤ acc.length + 60 := by
  unfold cellRow
  split
  · exact wide_len 60 (_, acc)
  · have := thin_len k 10 (cell1 (cell0 ns k), acc)
    have e : ((cell1 (cell0 ns k), acc) : Int × List Int).2.length = acc.length := rfl
    omega
theorem rows_len (ns : List Int) (first : Int) : ∀ n : Nat, (iter (fun j acc => cellRow ns (first + (j : Int)) acc) n []).length ≤ 60 * n
  | 0 => Nat.le_refl _
  | n + 1 => by
    have := rows_len ns first n
    have h2 := cellRow_len ns (first + (n : Int)) (iter (fun j acc => cellRow ns (first + (j : Int)) acc) n [])
    show (cellRow ns (first + (n : Int)) (iter (fun j acc => cellRow ns (first + (j : Int)) acc) n [])).length ≤ _
    omega
section
variable {P : Program} {w : World} {K : PySem.W.Frag} {mg : Str → Option Value} {base : Heap} {T : List Addr}
theorem atI_ints {ns : List Int} {k : Int} (h0 : 0 ≤ k) (h : k < ns.length) : atI (ns.map D.int) k = some (.int (ns.getD k.toNat 0)) := by
  have hk : k.toNat < ns.length := by omega
  have h1 : ixN (ns.map D.int).length k = some k.toNat := by
    unfold ixN
    rw [List.length_map]
    simp only [h0, h]
    first | rfl | simp [h0, h] | (split <;> first | rfl | omega)
  unfold atI
  rw [h1]
  show (ns.map D.int)[k.toNat]? = _
  rw [List.getElem?_map, List.getElem?_eq_getElem hk, List.getD_eq_getElem?_getD, List.getElem?_eq_getElem hk]
  rfl
theorem scCell : FnScope ["script", "k"] ["script", "k"] (defScope sLCell) := ⟨rfl, rfl, rfl, by decide +kernel, rfl, by decide +kernel, by decide +kernel⟩
def pCell (ss : List Slot) (O : OH) (d : D) (O' : OH) : Prop := ∃ ns k, ss = [.dat (.kst (ns.map .int)), .dat (.int k)] ∧ 0 ≤ k ∧ d = .int (cell0 ns k) ∧ O' = O
theorem ok_cell {f : Addr} {fd : FuncData} {cdv : Value} (F : FunC K "_law_cell" "_law_cell" sLCell f fd cdv) (L : Blt mg) : FnOk P w K mg base CX0 1 f fd ["script", "k"] (spF T K pCell) := by
  refine fn_ok (CE := (0 : Addr)) (R := pCell) F scCell (fun ss O d O' ⟨x, n, h, _⟩ => by rw [h]; rfl) fun A outer s H E ss O d O' hr h => ?_
  obtain ⟨ns, k, h1, h0, h2, h3⟩ := h
  subst h1 h2 h3
  refine ds_cons (d1_if (p := decide (k < ns.length)) (DT.cast (dt_lt (de_var 1) (de_lenK L.len (de_var 0))) (by rw [List.length_map])) (fun z => ?_) fun z => ds_nil ?_)
  · have z' := of_decide_eq_true z
    refine ds_one (d1_ret (s := .dat (.int (cell0 ns k))) (DE.dv (de_ixK (de_var 0) (de_var 1) ?_)) ⟨rfl, rfl⟩)
    unfold cell0
    rw [if_pos z']
    exact atI_ints h0 z'
  · have z' := of_decide_eq_false z
    refine ds_one (d1_ret (s := .dat (.int 0)) de_int.dv ⟨?_, rfl⟩)
    unfold cell0
    rw [if_neg z']

theorem scRow : FnScope ["script", "first", "last", "row", "k", "cell", "turn"] ["script", "first", "last"] (defScope sLRow) := ⟨rfl, rfl, rfl, by decide +kernel, rfl, by decide +kernel, by decide +kernel⟩
def pRow (ss : List Slot) (O : OH) (d : D) (O' : OH) : Prop := ∃ ns first last, ss = [.dat (.kst (ns.map .int)), .dat (.int first), .dat (.int last)] ∧ 0 ≤ first ∧ first ≤ 1000 ∧ 0 ≤ last ∧ last ≤ 1000 ∧ d = .lst ((rowF ns first last).map .int) ∧ O' = O
def rowO (acc : List Int) : OD := .lst (acc.map fun i => .dat (.int i))
theorem map_dat (acc : List Int) : acc.map (fun i => Slot.dat (.int i)) = (acc.map D.int).map .dat := by rw [List.map_map]; rfl
theorem ok_row {f g : Addr} {fd gd : FuncData} {cdv : Value} (F : FunC K "_law_row" "_law_row" sLRow f fd cdv) (L : Blt mg) (G : FnOk P w K mg base CX0 1 g gd ["script", "k"] (spF T K pCell)) (hg : mg "_law_cell" = some (.ref g)) (kg : PySem.W.keepIn K (.ref g) = true) (bg : Binds K gd ["script", "k"] []) :
    FnOk P w K mg base CX0 2 f fd ["script", "first", "last"] (spF T K pRow) := by
  refine fn_ok (CE := (0 : Addr)) (R := pRow) F scRow (fun ss O d O' ⟨x, n, m, h, _⟩ => by rw [h]; rfl) fun A outer s H E ss O d O' hr h => ?_
  obtain ⟨ns, first, last, h1, hf0, hf1, hl0, hl1, h2, h3⟩ := h
  subst h1 h2 h3
  refine ds_cons (d1_own 3 da_nil (fun p hp => ?_) scRow.nd)
  refine ds_cons (d1_forR2 4 (fun j ρ' O2 => ∃ s4 s5 s6, ρ' = [.dat (.kst (ns.map .int)), .dat (.int first), .dat (.int last), .val (.ref p), s4, s5, s6] ∧ O2 = put O' p (rowO (iter (fun j acc => cellRow ns (first + (j : Int)) acc) j [])) ∧ (j : Int) ≤ 1000)
    (de_var 1) (de_var 2) ⟨by omega, by omega, by omega, by omega⟩ ⟨_, _, _, rfl, rfl, by decide⟩ scRow.nd ?_ ?_ L.range PassesOwn.never)
  · rintro j ρ' O2 hj ⟨s4, s5, s6, rfl, rfl, hjl⟩
    generalize hacc : iter (fun j acc => cellRow ns (first + (j : Int)) acc) j [] = acc
    have hal : acc.length ≤ 60000 := by
      have := rows_len ns first j
      rw [hacc] at this
      omega
    have hnext : iter (fun j acc => cellRow ns (first + (j : Int)) acc) (j + 1) [] = cellRow ns (first + (j : Int)) acc := by rw [← hacc]; rfl
    refine ds_cons (d1_set 5 (DE.dv (de_call G hr hg kg bg pass0 (da_d (de_var 0) (da_d (de_var 4) da_nil)) ⟨ns, first + (j : Int), rfl, by omega, rfl, rfl⟩)) ?_ scRow.nd)
    refine ds_cons (d1_set 5 (s := .dat (.int (cell1 (cell0 ns (first + (j : Int)))))) (DE.dv (DE.cast (de_add (de_abs L.abs (de_mul (.inl (by omega)) de_int (de_var 5))) (de_intB L.int (de_lt (de_var 5) de_int))) ?_)) ?_ scRow.nd)
    · unfold cell1
      by_cases hc : cell0 ns (first + (j : Int)) < 0
      · simp [hc]
      · simp [hc]
    generalize hcl : cell1 (cell0 ns (first + (j : Int))) = cl
    have hrow : cellRow ns (first + (j : Int)) acc = if 10 ^ 18 < cl then (iter (fun _ => wideStep) 60 (cl, acc)).2 else (iter (thinStep (first + (j : Int))) 10 (cl, acc)).2 := by unfold cellRow; rw [hcl]
    refine ds_one (d1_if (dt_gt (de_var 5) (de_pow ⟨by omega, by omega, by decide⟩ de_int de_int)) (fun z => ?_) fun z => ?_)
    · have z' : (10 : Int) ^ 18 < cl := of_decide_eq_true z
      refine ds_one (d1_forR 6 (fun t ρ' O2 => ∃ s6, ρ' = [.dat (.kst (ns.map .int)), .dat (.int first), .dat (.int last), .val (.ref p), .dat (.int (first + (j : Int))), .dat (.int (iter (fun _ => wideStep) t (cl, acc)).1), s6] ∧ O2 = put O' p (rowO (iter (fun _ => wideStep) t (cl, acc)).2) ∧ t ≤ 60)
        de_int (by decide) ⟨_, rfl, rfl, by decide⟩ scRow.nd ?_ ?_ L.range PassesOwn.never)
      · rintro t ρ' O2 ht ⟨s6, rfl, rfl, htl⟩
        have hwl := wide_len t (cl, acc)
        have e0 : ((cl, acc) : Int × List Int).2.length = acc.length := rfl
        have hstep : iter (fun _ => wideStep) (t + 1) (cl, acc) = wideStep (iter (fun _ => wideStep) t (cl, acc)) := rfl
        generalize hst : iter (fun _ => wideStep) t (cl, acc) = st at hwl hstep
        refine ds_one (d1_if (dt_gt (de_var 5) de_int) (fun z => ?_) fun z => ds_nil ?_)
        · have z' : 0 < st.1 := of_decide_eq_true z
          refine ds_cons (d1_append 3 rfl put_same (DE.dv (de_mod (by decide) (de_intI L.int (de_var 5)) de_int)) put_same (by rw [List.length_map]; omega) ?_)
          refine ds_one (d1_set 5 (DE.dv (de_fdiv ⟨by decide, by decide⟩ (de_var 5) de_int)) ?_ scRow.nd)
          refine ⟨.dat (.int (t : Int)), ?_, ?_, by omega⟩
          · rw [hstep]; unfold wideStep; rw [if_pos z']; rfl
          · rw [hstep, put_put]; unfold wideStep rowO; rw [if_pos z']; simp
        · have z' : ¬ 0 < st.1 := of_decide_eq_false z
          refine ⟨.dat (.int (t : Int)), ?_, ?_, by omega⟩
          · rw [hstep]; unfold wideStep; rw [if_neg z']; rfl
          · rw [hstep]; unfold wideStep; rw [if_neg z']
      · rintro ρ' O2 ⟨s6, rfl, rfl, _⟩
        refine ⟨_, _, _, rfl, ?_, by omega⟩
        rw [hnext, hrow, if_pos z']
        rfl
    · have z' : ¬ (10 : Int) ^ 18 < cl := of_decide_eq_false z
      refine ds_one (d1_forR 6 (fun t ρ' O2 => ∃ s6, ρ' = [.dat (.kst (ns.map .int)), .dat (.int first), .dat (.int last), .val (.ref p), .dat (.int (first + (j : Int))), .dat (.int (iter (thinStep (first + (j : Int))) t (cl, acc)).1), s6] ∧ O2 = put O' p (rowO (iter (thinStep (first + (j : Int))) t (cl, acc)).2) ∧ t ≤ 10)
        de_int (by decide) ⟨_, rfl, rfl, by decide⟩ scRow.nd ?_ ?_ L.range PassesOwn.never)
      · rintro t ρ' O2 ht ⟨s6, rfl, rfl, htl⟩
        have hwl := thin_len (first + (j : Int)) t (cl, acc)
        have e0 : ((cl, acc) : Int × List Int).2.length = acc.length := rfl
        have hstep : iter (thinStep (first + (j : Int))) (t + 1) (cl, acc) = thinStep (first + (j : Int)) t (iter (thinStep (first + (j : Int))) t (cl, acc)) := rfl
        generalize hst : iter (thinStep (first + (j : Int))) t (cl, acc) = st at hwl hstep
        refine ds_cons (d1_set 5 (DE.dv (de_mod (by decide) (de_intI L.int (de_add (de_add (de_mul (.inr (by omega)) (de_var 5) de_int) (de_mul (.inl (by omega)) de_int (de_add (de_var 4) (de_var 6)))) de_int)) de_int)) ?_ scRow.nd)
        refine ds_one (d1_append 3 rfl put_same (DE.dv (de_mod (by decide) (de_intI L.int (de_fdiv ⟨by decide, by decide⟩ (de_var 5) de_int)) de_int)) put_same (by rw [List.length_map]; omega) ?_)
        refine ⟨.dat (.int (t : Int)), ?_, ?_, by omega⟩
        · rw [hstep]; rfl
        · rw [hstep, put_put]; unfold thinStep rowO; simp
      · rintro ρ' O2 ⟨s6, rfl, rfl, _⟩
        refine ⟨_, _, _, rfl, ?_, by omega⟩
        rw [hnext, hrow, if_neg z']
        rfl
  · rintro ρ' O2 ⟨s4, s5, s6, rfl, rfl, hjl⟩
    refine ds_freeze 3 rfl (ds := (rowF ns first last).map .int) (by rw [put_same]; unfold rowO rowF; rw [map_dat]) ?_
    refine ds_one (d1_ret (s := .dat (.lst ((rowF ns first last).map .int))) (dv_var 3 rfl) ⟨rfl, ?_⟩)
    exact cut_put hp
end
end Dg

namespace Dg
open PySem PySem.Spec PyProof.Rows L2 GxR Dz
/-- the box of a law: its row and where it stands -/
def Bx (row : List Int) (at_ : Nat) : OD := .lst [.dat (.lst (row.map .int)), .dat (.int (at_ : Int))]
def drw (row : List Int) (at_ : Nat) (many : Int) : Int := if at_ < row.length then row.getD at_ 0 % many else ((at_ : Int) * 5 + 1) % many
theorem drw_0 (row : List Int) (at_ : Nat) {many : Int} (h : 0 < many) : 0 ≤ drw row at_ many := by
  unfold drw
  split <;> exact Int.emod_nonneg _ (by omega)
theorem drw_lt (row : List Int) (at_ : Nat) {many : Int} (h : 0 < many) : drw row at_ many < many := by
  unfold drw
  split <;> exact Int.emod_lt_of_pos _ h
/-- items by draws -/
def sel {α : Type} (row : List Int) (many : Int) (p : Int → Bool) : Nat → List α → List α
  | _, [] => []
  | a, x :: xs => if p (drw row a many) = true then x :: sel row many p (a + 1) xs else sel row many p (a + 1) xs
theorem sel_nil {α : Type} (row : List Int) (many : Int) (p : Int → Bool) (a : Nat) : sel row many p a ([] : List α) = [] := rfl
theorem sel_snoc {α : Type} (row : List Int) (many : Int) (p : Int → Bool) (x : α) : ∀ (xs : List α) (a : Nat), sel row many p a (xs ++ [x]) = sel row many p a xs ++ (if p (drw row (a + xs.length) many) = true then [x] else [])
  | [], a => by
    show (if _ then [x] else []) = [] ++ _
    rfl
  | y :: xs, a => by
    have e : a + (y :: xs).length = (a + 1) + xs.length := by rw [List.length_cons]; omega
    rw [List.cons_append, sel, sel, sel_snoc row many p x xs (a + 1), e]
    split <;> rfl
theorem sel_map {α β : Type} (f : α → β) (row : List Int) (many : Int) (p : Int → Bool) : ∀ (xs : List α) (a : Nat), sel row many p a (xs.map f) = (sel row many p a xs).map f
  | [], _ => rfl
  | x :: xs, a => by
    rw [List.map_cons, sel, sel, sel_map f row many p xs (a + 1)]
    split <;> rfl
theorem atI_D {ds : List D} {k : Int} (h0 : 0 ≤ k) (h : k < ds.length) : atI ds k = some (ds.getD k.toNat .non) := by
  have hk : k.toNat < ds.length := by omega
  have h1 : ixN ds.length k = some k.toNat := by
    unfold ixN
    simp only [h0, h]
    first | rfl | simp [h0, h] | (split <;> first | rfl | omega)
  unfold atI
  rw [h1]
  show ds[k.toNat]? = _
  rw [List.getElem?_eq_getElem hk, List.getD_eq_getElem?_getD, List.getElem?_eq_getElem hk]
  rfl
section
variable {P : Program} {w : World} {K : PySem.W.Frag} {mg : Str → Option Value} {base : Heap} {T : List Addr}
theorem scDraw : FnScope ["box", "many", "at"] ["box", "many"] (defScope sLDraw) := ⟨rfl, rfl, rfl, by decide +kernel, rfl, by decide +kernel, by decide +kernel⟩
def pDraw (ss : List Slot) (O : OH) (d : D) (O' : OH) : Prop := ∃ b row at_ many, ss = [.val (.ref b), .dat (.int many)] ∧ O b = some (Bx row at_) ∧ 0 < many ∧ at_ ≤ 100000 ∧ d = .int (drw row at_ many) ∧ O' = put O b (Bx row (at_ + 1))
theorem ok_draw {f : Addr} {fd : FuncData} {cdv : Value} (F : FunC K "_law_draw" "_law_draw" sLDraw f fd cdv) (L : Blt mg) : FnOk P w K mg base CX0 1 f fd ["box", "many"] (spF T K pDraw) := by
  refine fn_ok (CE := (0 : Addr)) (R := pDraw) F scDraw (fun ss O d O' ⟨x, n, a, m, h, _⟩ => by rw [h]; rfl) fun A outer s H E ss O d O' hr h => ?_
  obtain ⟨b, row, at_, many, h1, hO, hm, ha, h2, h3⟩ := h
  subst h1 h2 h3
  refine ds_cons (d1_set 2 (dv_ixO 0 rfl de_int hO rfl) ?_ scDraw.nd)
  refine ds_cons (d1_setitem 0 rfl (DE.dv (de_add (de_var 2) de_int)) de_int hO rfl ?_)
  have e1 : put O b (OD.lst (List.set [Slot.dat (.lst (row.map .int)), Slot.dat (.int (at_ : Int))] 1 (.dat (.int ((at_ : Int) + 1))))) = put O b (Bx row (at_ + 1)) := by
    unfold Bx
    rw [show ((at_ + 1 : Nat) : Int) = (at_ : Int) + 1 by omega]
    rfl
  show DS T _ _ _ _ (put O b (OD.lst (List.set [Slot.dat (.lst (row.map .int)), Slot.dat (.int (at_ : Int))] 1 (.dat (.int ((at_ : Int) + 1)))))) _
  rw [e1]
  refine ds_cons (d1_if (p := decide ((at_ : Int) < row.length)) (DT.cast (dt_lt (de_var 2) (de_lenL L.len (DV.de (dv_ixO 0 rfl de_int put_same rfl)))) (by rw [List.length_map])) (fun z => ?_) fun z => ds_nil ?_)
  · have z' : (at_ : Int) < row.length := of_decide_eq_true z
    refine ds_one (d1_ret (s := .dat (.int (drw row at_ many))) (DE.dv (DE.cast (de_mod hm (de_intI L.int (de_ixL (DV.de (dv_ixO 0 rfl de_int put_same rfl)) (de_var 2) (atI_ints (by omega) z'))) (de_var 1)) ?_)) ⟨rfl, rfl⟩)
    unfold drw
    rw [if_pos (by omega)]
    rfl
  · have z' : ¬ (at_ : Int) < row.length := of_decide_eq_false z
    refine ds_one (d1_ret (s := .dat (.int (drw row at_ many))) (DE.dv (DE.cast (de_mod hm (de_intI L.int (de_add (de_mul (.inr (by omega)) (de_var 2) de_int) de_int)) (de_var 1)) ?_)) ⟨rfl, rfl⟩)
    unfold drw
    rw [if_neg (by omega)]
/-- a turn that draws -/
theorem draw_turn {X : Cx} {scope : Scope} {ifs : List Expr} {elt : Expr} {ρ : List Slot} {O : OH} {i : Nat} {ds : List D} {b : Addr} {row : List Int} {many : Int} {p : Int → Bool} {at_ : Nat}
    (h : ∀ j d, ds[j]? = some d → DIfs T X scope ifs (ρ.set i (.dat d)) (put O b (Bx row (at_ + j))) (p (drw row (at_ + j) many)) (put O b (Bx row (at_ + j + 1))) ∧ DEb T X scope elt (ρ.set i (.dat d)) (put O b (Bx row (at_ + j + 1))) d (put O b (Bx row (at_ + j + 1)))) :
    ∀ j d acc O', ds[j]? = some d → (acc = sel row many p at_ (ds.take j) ∧ O' = put O b (Bx row (at_ + j))) → LcTurn T X scope ifs elt (fun j acc O' => acc = sel row many p at_ (ds.take j) ∧ O' = put O b (Bx row (at_ + j))) j (ρ.set i (.dat d)) acc O' := by
  rintro j d acc O' hj ⟨rfl, rfl⟩
  obtain ⟨h1, h2⟩ := h j d hj
  have hlt := (List.getElem?_eq_some_iff.mp hj).1
  have el : (ds.take j).length = j := by rw [List.length_take]; omega
  have et : ds.take (j + 1) = ds.take j ++ [d] := by rw [List.take_add_one, hj]; rfl
  have es : sel row many p at_ (ds.take (j + 1)) = sel row many p at_ (ds.take j) ++ (if p (drw row (at_ + j) many) = true then [d] else []) := by rw [et, sel_snoc, el]
  refine ⟨_, _, h1, fun z => ⟨d, _, h2, ?_, rfl⟩, fun z => ⟨?_, rfl⟩⟩
  · rw [es, if_pos z]
  · rw [es, if_neg (by rw [z]; exact Bool.false_ne_true), List.append_nil]
theorem scSome : FnScope ["box", "names", "name"] ["box", "names"] (defScope sLSome) := ⟨rfl, rfl, rfl, by decide +kernel, rfl, by decide +kernel, by decide +kernel⟩
def gt0 (i : Int) : Bool := decide (0 < i)
def eq0 (i : Int) : Bool := decide (i = 0)
def pSome (ss : List Slot) (O : OH) (d : D) (O' : OH) : Prop := ∃ b row at_ ds, ss = [.val (.ref b), .dat (.lst ds)] ∧ O b = some (Bx row at_) ∧ at_ ≤ 10000 ∧ ds.length ≤ 1000 ∧ d = .lst (sel row 3 gt0 at_ ds) ∧ O' = put O b (Bx row (at_ + ds.length))
theorem ok_some {f g : Addr} {fd gd : FuncData} {cdv : Value} (F : FunC K "_law_some" "_law_some" sLSome f fd cdv) (G : FnOk P w K mg base CX0 1 g gd ["box", "many"] (spF T K pDraw)) (hg : mg "_law_draw" = some (.ref g)) (kg : PySem.W.keepIn K (.ref g) = true) (bg : Binds K gd ["box", "many"] []) :
    FnOk P w K mg base CX0 2 f fd ["box", "names"] (spF T K pSome) := by
  refine fn_ok (CE := (0 : Addr)) (R := pSome) F scSome (fun ss O d O' ⟨x, n, a, m, h, _⟩ => by rw [h]; rfl) fun A outer s H E ss O d O' hr h => ?_
  obtain ⟨b, row, at_, ds, h1, hO, ha, hl, h2, h3⟩ := h
  subst h1 h2 h3
  have eO : O = put O b (Bx row (at_ + 0)) := (put_self hO).symm
  refine ds_one (d1_ret (s := .dat (.lst (sel row 3 gt0 at_ ds))) (O1 := put O b (Bx row (at_ + ds.length))) (DE.dv (de_lcL 2 (de_var 1) (fun j acc O2 => acc = sel row 3 gt0 at_ (ds.take j) ∧ O2 = put O b (Bx row (at_ + j))) ⟨rfl, eO⟩ (draw_turn (p := gt0) fun j d hj => ⟨?_, fun s H C cl fp => de_var 2⟩) (fun acc O2 h => ?_) (by omega) scSome.nd (blkOk_by rfl))) ⟨rfl, rfl⟩)
  · have hj' := (List.getElem?_eq_some_iff.mp hj).1
    exact difs_one fun s H C cl fp => dt_gt (de_call G hr hg kg bg pass0 (da_v (dv_var 0 rfl) (da_d de_int da_nil)) ⟨b, row, at_ + j, 3, rfl, put_same, by decide, by omega, rfl, by rw [put_put]⟩) de_int
  · rw [List.take_of_length_le (Nat.le_refl _)] at h
    exact h
theorem scKinds : FnScope [] [] (defScope sLKinds) := ⟨rfl, rfl, rfl, by decide +kernel, rfl, by decide +kernel, by decide +kernel⟩
def pKinds (ss : List Slot) (O : OH) (d : D) (O' : OH) : Prop := ss = [] ∧ d = .lst (KINDS.map .str) ∧ O' = O
theorem ok_kinds {f : Addr} {fd : FuncData} {cdv : Value} (F : FunC K "_law_kinds" "_law_kinds" sLKinds f fd cdv) : FnOk P w K mg base CX0 1 f fd [] (spF T K pKinds) := by
  refine fn_ok (CE := (0 : Addr)) (R := pKinds) F scKinds (fun ss O d O' ⟨h, _⟩ => by rw [h]; rfl) fun A outer s H E ss O d O' hr h => ?_
  obtain ⟨h1, h2, h3⟩ := h
  subst h1 h2 h3
  exact ds_one (d1_ret (s := .dat (.lst (KINDS.map .str))) (DE.dv (de_lst (da_d de_str (da_d de_str (da_d de_str (da_d de_str (da_d de_str da_nil))))))) ⟨rfl, rfl⟩)

end
end Dg

namespace Dg
open PySem PySem.Spec PyProof.Rows L2 GxR Dz
section
variable {P : Program} {w : World} {K : PySem.W.Frag} {mg : Str → Option Value} {base : Heap} {T : List Addr}
/-! ### a setup by digits -/
def PL4 : List D := [.str "zone", .str "zone", .str "root", .str "capture"]
def KOP : List D := [.lst [.str "enter", .str "leave", .str "drop"], .lst [.str "over", .str "drop", .str "end"], .lst [.str "enter", .str "leave", .str "over", .str "drop", .str "end"], .lst [.str "enter", .str "leave"]]
def suP (row : List Int) (a : Nat) : D := PL4.getD (drw row a 4).toNat .non
def suB (row : List Int) (a : Nat) : Bool := eq0 (drw row (a + 6) 2)
def suK (row : List Int) (a : Nat) : D := if suB row a = true then KOP.getD (drw row (a + 7) 4).toNat .non else .lst (sel row 3 gt0 (a + 1) (KINDS.map .str))
def suA (row : List Int) (a : Nat) : Nat := if suB row a = true then a + 8 else a + 7
def suS (row : List Int) (a : Nat) : List D := sel row 3 eq0 (suA row a) (SIGHTS.map .str)
def setupD (row : List Int) (a : Nat) : D := .lst [suP row a, suK row a, .lst (suS row a)]
theorem scLSetup : FnScope ["box", "place", "kinds", "name"] ["box"] (defScope sLSetup) := ⟨rfl, rfl, rfl, by decide +kernel, rfl, by decide +kernel, by decide +kernel⟩
def pLSetup (ss : List Slot) (O : OH) (d : D) (O' : OH) : Prop := ∃ b row a, ss = [.val (.ref b)] ∧ O b = some (Bx row a) ∧ a ≤ 9000 ∧ d = setupD row a ∧ O' = put O b (Bx row (suA row a + 3))
theorem deq_i0 (i : Int) : deq (.int i) (.int 0) = eq0 i := deq_int i 0
theorem ok_lsetup {f g g2 g3 : Addr} {fd gd gd2 gd3 : FuncData} {cdv : Value} (F : FunC K "_law_setup" "_law_setup" sLSetup f fd cdv) (G : FnOk P w K mg base CX0 1 g gd ["box", "many"] (spF T K pDraw)) (hg : mg "_law_draw" = some (.ref g)) (kg : PySem.W.keepIn K (.ref g) = true) (bg : Binds K gd ["box", "many"] [])
    (G2 : FnOk P w K mg base CX0 2 g2 gd2 ["box", "names"] (spF T K pSome)) (hg2 : mg "_law_some" = some (.ref g2)) (kg2 : PySem.W.keepIn K (.ref g2) = true) (bg2 : Binds K gd2 ["box", "names"] [])
    (G3 : FnOk P w K mg base CX0 1 g3 gd3 [] (spF T K pKinds)) (hg3 : mg "_law_kinds" = some (.ref g3)) (kg3 : PySem.W.keepIn K (.ref g3) = true) (bg3 : Binds K gd3 [] []) :
    FnOk P w K mg base CX0 3 f fd ["box"] (spF T K pLSetup) := by
  refine fn_ok (CE := (0 : Addr)) (R := pLSetup) F scLSetup (fun ss O d O' ⟨x, n, a, h, _⟩ => by rw [h]; rfl) fun A outer s H E ss O d O' hr h => ?_
  obtain ⟨b, row, a, h1, hO, ha, h2, h3⟩ := h
  subst h1 h2 h3
  have hr1 := hr.mono (show 1 ≤ 2 by decide)
  refine ds_cons (d1_set 1 (O1 := put O b (Bx row (a + 1))) (s := .dat (suP row a)) (DE.dv (de_ixL (de_lst (ds := PL4) (da_d de_str (da_d de_str (da_d de_str (da_d de_str da_nil))))) (de_call G hr1 hg kg bg pass0 (da_v (dv_var 0 rfl) (da_d de_int da_nil)) ⟨b, row, a, 4, rfl, hO, by decide, by omega, rfl, rfl⟩) (atI_D (drw_0 row a (by decide)) (drw_lt row a (by decide))))) ?_ scLSetup.nd)
  refine ds_cons (d1_set 2 (O1 := put O b (Bx row (a + 6))) (s := .dat (.lst (sel row 3 gt0 (a + 1) (KINDS.map .str)))) (DE.dv (de_call G2 hr hg2 kg2 bg2 pass0 (da_v (dv_var 0 rfl) (da_d (de_call0 G3 hr1 hg3 kg3 bg3 pass0 ⟨rfl, rfl, rfl⟩) da_nil)) ⟨b, row, a + 1, _, rfl, put_same, by omega, by decide, rfl, by rw [put_put]; rfl⟩)) ?_ scLSetup.nd)
  refine ds_cons (d1_if (p := suB row a) (O1 := put O b (Bx row (a + 7))) (DT.cast (dt_eq hr (by rfl) (by rfl) (de_call G hr1 hg kg bg pass0 (da_v (dv_var 0 rfl) (da_d de_int da_nil)) ⟨b, row, a + 6, 2, rfl, put_same, by decide, by omega, rfl, by rw [put_put]⟩) de_int) (deq_i0 _)) (fun z => ?_) fun z => ds_nil ?_)
  · have eA : suA row a = a + 8 := if_pos z
    have eK : suK row a = KOP.getD (drw row (a + 7) 4).toNat .non := if_pos z
    have hK : atI KOP (drw row (a + 7) 4) = some (suK row a) := by rw [eK]; exact atI_D (drw_0 row _ (by decide)) (drw_lt row _ (by decide))
    refine ds_cons (d1_set 2 (O1 := put O b (Bx row (a + 8))) (s := .dat (suK row a)) ?_ ?_ scLSetup.nd (hs := by kernel_rfl))
    refine DE.dv ?_
    refine de_ixL (ds := KOP) (i := drw row (a + 7) 4) (O1 := put O b (Bx row (a + 7))) ?_ ?_ hK
    · exact de_lst (ds := KOP) (da_d (de_lst (ds := [.str "enter", .str "leave", .str "drop"]) (da_d de_str (da_d de_str (da_d de_str da_nil)))) (da_d (de_lst (ds := [.str "over", .str "drop", .str "end"]) (da_d de_str (da_d de_str (da_d de_str da_nil)))) (da_d (de_lst (ds := [.str "enter", .str "leave", .str "over", .str "drop", .str "end"]) (da_d de_str (da_d de_str (da_d de_str (da_d de_str (da_d de_str da_nil)))))) (da_d (de_lst (ds := [.str "enter", .str "leave"]) (da_d de_str (da_d de_str da_nil))) da_nil))))
    · exact de_call G hr1 hg kg bg pass0 (da_v (dv_var 0 rfl) (da_d de_int da_nil)) ⟨b, row, a + 7, 4, rfl, put_same, by decide, by omega, rfl, by rw [put_put]⟩
    refine ds_nil ?_
    refine ds_one (d1_ret (s := .dat (setupD row a)) (O1 := put O b (Bx row (suA row a + 3))) (DE.dv (de_lst (ds := [suP row a, suK row a, .lst (suS row a)]) ?_ (by show 3 ≤ 10000; decide))) ⟨rfl, rfl⟩)
    refine da_d (d := suP row a) (de_var 1) (da_d (d := suK row a) (O1 := put O b (Bx row (a + 8))) (de_var 2) (da_d (d := .lst (suS row a)) ?_ da_nil))
    refine de_lcL (O1 := put O b (Bx row (a + 8))) (ds := SIGHTS.map .str) 3 (de_lst (ds := SIGHTS.map .str) (da_d de_str (da_d de_str (da_d de_str da_nil)))) (fun j acc O2 => acc = sel row 3 eq0 (suA row a) ((SIGHTS.map D.str).take j) ∧ O2 = put O b (Bx row (suA row a + j))) ⟨by show [] = sel row 3 eq0 (suA row a) []; rw [sel_nil], by rw [eA]⟩ (draw_turn (p := eq0) fun j d hj => ⟨?_, fun s H C cl fp => de_var 3⟩) (fun acc O2 h => h) (by decide) scLSetup.nd (blkOk_by rfl)
    have hj' : j < 3 := (List.getElem?_eq_some_iff.mp hj).1
    have ha' : suA row a ≤ 9008 := by rw [eA]; omega
    exact difs_one fun s H C cl fp => DT.cast (dt_eq hr (by rfl) (by rfl) (de_call G hr1 hg kg bg pass0 (da_v (dv_var 0 rfl) (da_d de_int da_nil)) ⟨b, row, suA row a + j, 3, rfl, put_same, by decide, by omega, rfl, by rw [put_put]⟩) de_int) (deq_i0 _)
  · have eA : suA row a = a + 7 := if_neg (by rw [z]; exact Bool.false_ne_true)
    have eK : suK row a = .lst (sel row 3 gt0 (a + 1) (KINDS.map .str)) := if_neg (by rw [z]; exact Bool.false_ne_true)
    refine ds_one (d1_ret (s := .dat (setupD row a)) (O1 := put O b (Bx row (suA row a + 3))) (DE.dv (de_lst (ds := [suP row a, suK row a, .lst (suS row a)]) ?_ (by show 3 ≤ 10000; decide))) ⟨rfl, rfl⟩)
    refine da_d (d := suP row a) (de_var 1) (da_d (d := suK row a) (O1 := put O b (Bx row (a + 7))) (de_var 2 (by rw [eK]; rfl)) (da_d (d := .lst (suS row a)) ?_ da_nil))
    refine de_lcL (O1 := put O b (Bx row (a + 7))) (ds := SIGHTS.map .str) 3 (de_lst (ds := SIGHTS.map .str) (da_d de_str (da_d de_str (da_d de_str da_nil)))) (fun j acc O2 => acc = sel row 3 eq0 (suA row a) ((SIGHTS.map D.str).take j) ∧ O2 = put O b (Bx row (suA row a + j))) ⟨by show [] = sel row 3 eq0 (suA row a) []; rw [sel_nil], by rw [eA]⟩ (draw_turn (p := eq0) fun j d hj => ⟨?_, fun s H C cl fp => de_var 3⟩) (fun acc O2 h => h) (by decide) scLSetup.nd (blkOk_by rfl)
    have hj' : j < 3 := (List.getElem?_eq_some_iff.mp hj).1
    have ha' : suA row a ≤ 9008 := by rw [eA]; omega
    exact difs_one fun s H C cl fp => DT.cast (dt_eq hr (by rfl) (by rfl) (de_call G hr1 hg kg bg pass0 (da_v (dv_var 0 rfl) (da_d de_int da_nil)) ⟨b, row, suA row a + j, 3, rfl, put_same, by decide, by omega, rfl, by rw [put_put]⟩) de_int) (deq_i0 _)
end
end Dg

namespace Dg
open PySem PySem.Spec PyProof.Rows L2 GxR Dz
section
variable {α : Type} [DecidableEq α]
theorem dd_le : ∀ (xs acc : List α), (xs.foldl (fun s x => if x ∈ s then s else s ++ [x]) acc).length ≤ acc.length + xs.length
  | [], _ => Nat.le_refl _
  | x :: xs, acc => by
    rw [List.foldl_cons, List.length_cons]
    split
    · have := dd_le xs acc; omega
    · have := dd_le xs (acc ++ [x])
      rw [List.length_append, List.length_singleton] at this
      omega
theorem dd_all : ∀ (xs acc : List α), xs.Nodup → (∀ x ∈ xs, x ∉ acc) → (xs.foldl (fun s x => if x ∈ s then s else s ++ [x]) acc).length = acc.length + xs.length
  | [], _, _, _ => rfl
  | x :: xs, acc, h, hd => by
    rw [List.nodup_cons] at h
    rw [List.foldl_cons, if_neg (hd x (by simp)), dd_all xs (acc ++ [x]) h.2 (fun y hy => ?_), List.length_append, List.length_singleton, List.length_cons]
    · omega
    · rw [List.mem_append, List.mem_singleton, not_or]
      exact ⟨hd y (by simp [hy]), fun z => h.1 (z ▸ hy)⟩
theorem dd_full : ∀ (xs acc : List α), (xs.foldl (fun s x => if x ∈ s then s else s ++ [x]) acc).length = acc.length + xs.length → xs.Nodup ∧ ∀ x ∈ xs, x ∉ acc
  | [], _, _ => ⟨List.nodup_nil, fun _ h => by simp at h⟩
  | x :: xs, acc, h => by
    rw [List.foldl_cons, List.length_cons] at h
    by_cases hx : x ∈ acc
    · rw [if_pos hx] at h
      have := dd_le xs acc
      omega
    · rw [if_neg hx] at h
      obtain ⟨h1, h2⟩ := dd_full xs (acc ++ [x]) (by rw [h, List.length_append, List.length_singleton]; omega)
      refine ⟨List.nodup_cons.mpr ⟨fun z => h2 x z (by simp), h1⟩, fun y hy => ?_⟩
      rcases List.mem_cons.mp hy with rfl | hy
      · exact hx
      · exact fun z => h2 y hy (by simp [z])
theorem dd_len {xs : List α} : (DzS.dd xs).length = xs.length ↔ xs.Nodup := by
  constructor
  · intro h
    exact (dd_full xs [] (by rw [List.length_nil, Nat.zero_add]; exact h)).1
  · intro h
    have := dd_all xs [] h (by simp)
    rw [List.length_nil, Nat.zero_add] at this
    exact this
end
theorem strsOf_map : ∀ ks : List Str, strsOf (ks.map .str) = ks
  | [] => rfl
  | k :: ks => by
    show k :: strsOf (ks.map .str) = _
    rw [strsOf_map ks]
theorem intsOf_map : ∀ ks : List Int, intsOf (ks.map .int) = ks
  | [] => rfl
  | k :: ks => by
    show k :: intsOf (ks.map .int) = _
    rw [intsOf_map ks]
theorem isWord_mem (ws : List Str) (x : Str) : isWord ws (.str x) = decide (x ∈ ws) := by
  show (ws.map D.str).any (fun y => deq y (.str x)) = _
  rw [List.any_map]
  have e : ((fun y => deq y (D.str x)) ∘ D.str) = fun y => decide (y = x) := by
    funext y
    exact deq_str y x
  rw [e]
  by_cases h : x ∈ ws
  · rw [decide_eq_true h]
    exact List.any_eq_true.mpr ⟨x, h, by simp⟩
  · rw [decide_eq_false h, Bool.eq_false_iff]
    intro z
    obtain ⟨y, hy, e⟩ := List.any_eq_true.mp z
    exact h (of_decide_eq_true e ▸ hy)
theorem all_words {ws ks : List Str} (h : ∀ k ∈ ks, k ∈ ws) : (ks.map D.str).all (isWord ws) = true := by
  rw [List.all_map, List.all_eq_true]
  intro k hk
  show isWord ws (.str k) = true
  rw [isWord_mem, decide_eq_true (h k hk)]
theorem choice_L {ws ks : List Str} (h : ∀ k ∈ ks, k ∈ ws) (hn : ks.Nodup) : isChoice ws (.lst (ks.map .str)) = true := by
  show ((ks.map D.str).all (isWord ws) && decide (((DzS.dd (strsOf (ks.map .str))).length : Int) = (ks.map D.str).length)) = true
  rw [all_words h, strsOf_map, dd_len.mpr hn, List.length_map, Bool.true_and]
  exact decide_eq_true rfl
theorem choice_T {ws ks : List Str} (h : ∀ k ∈ ks, k ∈ ws) (hn : ks.Nodup) : isChoice ws (.tup (ks.map .str)) = true := choice_L h hn
/-- in the words' order -/
theorem order_filter (ks ws : List Str) : orderD (ks.map .str) ws = (ws.filter fun w => decide (w ∈ ks)).map .str := by
  unfold orderD
  induction ws with
  | nil => rfl
  | cons w ws ih =>
    have hp : pickW (ks.map D.str) (.str w) = if decide (w ∈ ks) = true then some (.str w) else none := by
      unfold pickW
      have := isWord_mem ks w
      rw [show isWord ks (.str w) = (ks.map D.str).any (fun z => deq z (.str w)) from rfl] at this
      rw [this]
    rw [List.map_cons, List.filterMap_cons, hp, ih]
    by_cases h : w ∈ ks
    · rw [if_pos (decide_eq_true h), List.filter_cons_of_pos (by simpa using h)]; rfl
    · rw [if_neg (by rw [decide_eq_false h]; exact Bool.false_ne_true), List.filter_cons_of_neg (by simpa using h)]
theorem filter_sub : ∀ {ks ws : List Str}, ks.Sublist ws → ws.Nodup → (ws.filter fun w => decide (w ∈ ks)) = ks := by
  intro ks ws h
  induction h with
  | slnil => intro _; rfl
  | @cons ks ws w h ih =>
    intro hn
    rw [List.nodup_cons] at hn
    rw [List.filter_cons_of_neg (by simpa using fun z => hn.1 (h.subset z)), ih hn.2]
  | @cons_cons ks ws w h ih =>
    intro hn
    rw [List.nodup_cons] at hn
    rw [List.filter_cons_of_pos (by simp)]
    congr 1
    rw [← ih hn.2]
    apply List.filter_congr
    intro x hx
    have hxw : x ≠ w := fun z => hn.1 (z ▸ hx)
    rw [ih hn.2]
    simp [hxw]
theorem order_sub {ks ws : List Str} (h : ks.Sublist ws) (hn : ws.Nodup) : orderD (ks.map .str) ws = ks.map .str := by rw [order_filter, filter_sub h hn]
theorem order_rev {ks ws : List Str} (h : ks.Sublist ws) (hn : ws.Nodup) : orderD (ks.map .str).reverse ws = ks.map .str := by
  rw [← List.map_reverse, order_filter]
  have e : (fun w => decide (w ∈ ks.reverse)) = fun w => decide (w ∈ ks) := by
    funext w
    simp
  rw [e, filter_sub h hn]
theorem sel_sub {α : Type} (row : List Int) (many : Int) (p : Int → Bool) : ∀ (xs : List α) (a : Nat), (sel row many p a xs).Sublist xs
  | [], _ => List.Sublist.slnil
  | x :: xs, a => by
    rw [sel]
    split
    · exact (sel_sub row many p xs (a + 1)).cons₂ x
    · exact (sel_sub row many p xs (a + 1)).cons x
/-- a told setup -/
structure SuOk (row : List Int) (a : Nat) (p : Str) (ks ss : List Str) : Prop where
  eq : setupD row a = .lst [.str p, .lst (ks.map .str), .lst (ss.map .str)]
  p : p ∈ PLACES
  k : ks.Sublist KINDS
  s : ss.Sublist SIGHTS
theorem getD_cases {ds : List D} {k : Int} {Q : D → Prop} (h0 : 0 ≤ k) (h1 : k < ds.length) (h : ∀ d ∈ ds, Q d) : Q (ds.getD k.toNat .non) := by
  have hk : k.toNat < ds.length := by omega
  rw [List.getD_eq_getElem?_getD, List.getElem?_eq_getElem hk]
  exact h _ (List.getElem_mem hk)
theorem su_ok (row : List Int) (a : Nat) : ∃ p ks ss, SuOk row a p ks ss := by
  have h1 : ∃ p, suP row a = .str p ∧ p ∈ PLACES := by
    unfold suP
    refine getD_cases (Q := fun d => ∃ p, d = .str p ∧ p ∈ PLACES) (drw_0 row a (by decide)) (drw_lt row a (by decide)) ?_
    intro d hd
    simp only [PL4, List.mem_cons, List.not_mem_nil, or_false] at hd
    rcases hd with rfl | rfl | rfl | rfl <;> exact ⟨_, rfl, by decide +kernel⟩
  have h2 : ∃ ks : List Str, suK row a = .lst (ks.map .str) ∧ ks.Sublist KINDS := by
    unfold suK
    split
    · refine getD_cases (Q := fun d => ∃ ks : List Str, d = .lst (ks.map .str) ∧ ks.Sublist KINDS) (drw_0 row _ (by decide)) (drw_lt row _ (by decide)) ?_
      intro d hd
      simp only [KOP, List.mem_cons, List.not_mem_nil, or_false] at hd
      rcases hd with rfl | rfl | rfl | rfl
      · exact ⟨["enter", "leave", "drop"], rfl, by decide +kernel⟩
      · exact ⟨["over", "drop", "end"], rfl, by decide +kernel⟩
      · exact ⟨["enter", "leave", "over", "drop", "end"], rfl, by decide +kernel⟩
      · exact ⟨["enter", "leave"], rfl, by decide +kernel⟩
    · exact ⟨sel row 3 gt0 (a + 1) KINDS, by rw [sel_map], sel_sub _ _ _ _ _⟩
  obtain ⟨p, ep, hp⟩ := h1
  obtain ⟨ks, ek, hk⟩ := h2
  refine ⟨p, ks, sel row 3 eq0 (suA row a) SIGHTS, ?_, hp, hk, sel_sub _ _ _ _ _⟩
  unfold setupD suS
  rw [ep, ek, sel_map]
theorem KINDS_nd : KINDS.Nodup := by decide +kernel
theorem SIGHTS_nd : SIGHTS.Nodup := by decide +kernel
end Dg

namespace Dg
open PySem PySem.Spec PyProof.Rows L2 GxR Dz
/-- a def that is had by its name -/
def HasF (P : Program) (w : World) (K : PySem.W.Frag) (mg : Str → Option Value) (base : Heap) (CX : CXT) (k : Nat) (n : Str) (ps : List Str) (sp : Sp) : Prop := ∃ f fd, FnOk P w K mg base CX k f fd ps sp ∧ mg n = some (.ref f) ∧ PySem.W.keepIn K (.ref f) = true ∧ Binds K fd ps []
def lO (acc : List D) : OD := .lst (acc.map .dat)
def sL (ws : List Str) : D := .lst (ws.map .str)
def iL (ns : List Int) : D := .lst (ns.map .int)
section
variable {T : List Addr} {X : Cx} {CE : Addr} {ρ : List Dz.Slot} {O O1 O2 : OH} {e a b : Expr} {es : List Expr} {rest : List Stmt} {st : Stmt} {pos pos' : Pos} {d : D} {ss : List Dz.Slot} {ds acc : List D} {E : DEn} {q : Bool}
theorem de_callH {k : Nat} {ps : List Str} {P : List Dz.Slot → OH → D → OH → Prop} {n : Str} {p : Pos} (G : HasF X.prog X.w X.K X.mg X.base CX0 k n ps (spF T X.K P)) (hr : Room k X.A) (ha : DA T X (e :: es) ρ O ss O1) (h : P ss O1 d O2) (hg : Gl X n := by rfl) (hdb : (n == ("__debug__" : Str)) = false := by decide)
    (hs : starEach (e :: es) X.env = (false, eval e X.env) :: starEach es X.env := by rfl) (hpl : (backTo pos (starEach es X.env)).any (·.1) = false := by rfl) : DE T X (.Call (.Name n p) (e :: es) [] pos) ρ O d O2 := by
  obtain ⟨f, fd, F, hm, hk, hb⟩ := G
  exact de_call F hr hm hk hb pass0 ha h hg hdb hs hpl
theorem de_callH0 {k : Nat} {ps : List Str} {P : List Dz.Slot → OH → D → OH → Prop} {n : Str} {p : Pos} (G : HasF X.prog X.w X.K X.mg X.base CX0 k n ps (spF T X.K P)) (hr : Room k X.A) (h : P [] O d O2) (hg : Gl X n := by rfl) (hdb : (n == ("__debug__" : Str)) = false := by decide) : DE T X (.Call (.Name n p) [] [] pos) ρ O d O2 := by
  obtain ⟨f, fd, F, hm, hk, hb⟩ := G
  exact de_call0 F hr hm hk hb pass0 h hg hdb
theorem ds_mid (I : List Dz.Slot → OH → Prop) (h : D1 T X CE st ρ O { E with nx := I }) (k : ∀ ρ' O', I ρ' O' → DS T X CE rest ρ' O' E) : DS T X CE (st :: rest) ρ O E :=
  ds_cons (.mk fun σ B H hE hA Dn W tk l => h σ B H hE hA Dn W tk ⟨fun ρ' O' σ' B' H' q => l.nx ρ' O' σ' B' H' (k ρ' O' q), l.rt, l.bk, l.ct, l.ex⟩)
theorem d1_app (i : Nat) {n : Str} {c : Addr} {apos npos : Pos} (hi : ρ[i]? = some (.val (.ref c))) (he : DE T X e ρ (put O c (lO acc)) d (put O c (lO acc))) (hl : acc.length < 100000) (h : E.nx ρ (put O c (lO (acc ++ [d]))))
    (pe : PE X (.Call (.Attribute (.Name n npos) "append" apos) [e] [] pos) (tBM X.K "list" rAppend (tVar i) (tCons (WE X e) tNil)) := by exact pe_bm PySem.F.plainAttrs_list PySem.F.slot_list_append PySem.F.type_list_append mt_append (pv _) (pa_cons pe_we pa_nil)) (hs : swapsWith (.Call (.Attribute (.Name n npos) "append" apos) [e] [] pos) none pos'.line X.env = pure false := by rfl) :
    D1 T X CE (.Expr (.Call (.Attribute (.Name n npos) "append" apos) [e] [] pos) pos') ρ (put O c (lO acc)) E :=
  d1_append i hi put_same he.dv put_same (by rw [List.length_map]; exact hl) (by
    rw [put_put]
    have q : acc.map Dz.Slot.dat ++ [.dat d] = (acc ++ [d]).map .dat := by rw [List.map_append]; rfl
    rw [q]
    exact h) pe hs
theorem d1_ext (i : Nat) {n : Str} {c : Addr} {apos npos : Pos} (hi : ρ[i]? = some (.val (.ref c))) (he : DE T X e ρ (put O c (lO acc)) (.lst ds) (put O c (lO acc))) (hl : acc.length + ds.length ≤ 100000) (h : E.nx ρ (put O c (lO (acc ++ ds))))
    (pe : PE X (.Call (.Attribute (.Name n npos) "extend" apos) [e] [] pos) (tBM X.K "list" rExtend (tVar i) (tCons (WE X e) tNil)) := by exact pe_bm PySem.F.plainAttrs_list PySem.F.slot_list_extend PySem.F.type_list_extend mt_extend (pv _) (pa_cons pe_we pa_nil)) (hs : swapsWith (.Call (.Attribute (.Name n npos) "extend" apos) [e] [] pos) none pos'.line X.env = pure false := by rfl) :
    D1 T X CE (.Expr (.Call (.Attribute (.Name n npos) "extend" apos) [e] [] pos) pos') ρ (put O c (lO acc)) E :=
  d1_extend i hi put_same he put_same (by rw [List.length_map]; exact hl) (by
    rw [put_put, ← List.map_append]
    exact h) pe hs
theorem ds_ice (i : Nat) {c : Addr} (hi : ρ[i]? = some (.val (.ref c))) (hp : O c = none) (h : DS T X CE rest (ρ.set i (.dat (.lst acc))) O E) : DS T X CE rest ρ (put O c (lO acc)) E :=
  ds_freeze i (ds := acc) hi put_same (by rw [cut_put hp]; exact h)
end
theorem in_ints (ns : List Int) (s : Int) : ((ns.map D.int).any fun z => deq z (.int s)) = decide (s ∈ ns) := by
  induction ns with
  | nil => rfl
  | cons n ns ih =>
    rw [List.map_cons, List.any_cons, ih, deq_int]
    by_cases h : n = s
    · subst h; simp
    · have h' : ¬ s = n := fun z => h z.symm
      simp [h, h']
theorem in_strs (ws : List Str) (x : Str) : ((ws.map D.str).any fun z => deq z (.str x)) = decide (x ∈ ws) := by
  induction ws with
  | nil => rfl
  | cons n ws ih =>
    rw [List.map_cons, List.any_cons, ih, deq_str]
    by_cases h : n = x
    · subst h; simp
    · have h' : ¬ x = n := fun z => h z.symm
      simp [h, h']
def hasT (trs : List Str) (x : Str) : Bool := decide (x ∈ trs)
theorem oks_ints (ns : List Int) (n : Nat) : D.oks n (ns.map D.int) = true := by
  rw [oks_all, List.all_map]
  exact List.all_eq_true.mpr fun _ _ => by cases n <;> rfl

/-! ### which sides changes lead to -/
def driftSides (trs : List Str) (s : Int) : List Int := s :: (if s ∈ ([1, 2] : List Int) then (if hasT trs "removals" = true then [0] else []) ++ (if hasT trs "moves" = true then [3 - s] else []) else [])
def drift (trs : List Str) (o l : Int) : List (Int × Int) := (driftSides trs o).flatMap fun o' => if l = 4 then [(o', if 0 < o' then 4 else 0)] else (driftSides trs l).map fun l' => (o', l')
theorem dsides_len (trs : List Str) (s : Int) : (driftSides trs s).length ≤ 3 := by
  unfold driftSides
  split
  · split <;> split <;> simp
  · simp
section
variable {P : Program} {w : World} {K : PySem.W.Frag} {mg : Str → Option Value} {base : Heap} {T : List Addr}
def pDsides (ss : List Dz.Slot) (O : OH) (d : D) (O' : OH) : Prop := ∃ s trs, ss = [.dat (.int s), .dat (sL trs)] ∧ d = iL (driftSides trs s) ∧ O' = O
theorem scDsides : FnScope ["side", "troubles", "found"] ["side", "troubles"] (defScope s_drifted_sides) := ⟨rfl, rfl, rfl, by decide +kernel, rfl, by decide +kernel, by decide +kernel⟩
theorem ok_dsides {f : Addr} {fd : FuncData} {cdv : Value} (F : FunC K "drifted_sides" "drifted_sides" s_drifted_sides f fd cdv) : FnOk P w K mg base CX0 1 f fd ["side", "troubles"] (spF T K pDsides) := by
  refine fn_ok (CE := (0 : Addr)) (R := pDsides) F scDsides (fun ss O d O' ⟨x, n, h, _⟩ => by rw [h]; rfl) fun A outer s H E ss O d O' hr h => ?_
  obtain ⟨s, trs, h1, h2, h3⟩ := h
  subst h1 h2 h3
  refine ds_cons (d1_own 2 (ss := [.dat (.int s)]) (da_d (de_var 0) da_nil) (fun p hp => ?_) scDsides.nd (by show 1 ≤ 10000; decide))
  show DS T _ _ _ [.dat (.int s), .dat (sL trs), .val (.ref p)] (put O' p (lO [.int s])) _
  refine ds_mid (fun ρ' O2 => ρ' = [.dat (.int s), .dat (sL trs), .val (.ref p)] ∧ O2 = put O' p (lO ((driftSides trs s).map .int))) (d1_if (p := decide (s ∈ ([1, 2] : List Int))) (DT.cast (dt_inT (ds := [1, 2].map .int) hr (by rfl) (by rfl) (de_var 0) (de_tup (ds := [.int 1, .int 2]) (da_d de_int (da_d de_int da_nil)))) (in_ints [1, 2] s)) (fun z => ?_) fun z => ds_nil ⟨rfl, ?_⟩) ?_
  · have z' : s ∈ ([1, 2] : List Int) := of_decide_eq_true z
    refine ds_mid (fun ρ' O2 => ρ' = [.dat (.int s), .dat (sL trs), .val (.ref p)] ∧ O2 = put O' p (lO ((s :: (if hasT trs "removals" = true then [0] else [])).map .int))) (d1_if (p := hasT trs "removals") (DT.cast (dt_inL (ds := trs.map .str) hr (by rfl) (oks_strs trs 32) de_str (de_var 1)) (in_strs trs _)) (fun z1 => ds_one (d1_app 2 rfl de_int (by show 1 < 100000; decide) ⟨rfl, by rw [if_pos z1]; rfl⟩)) fun z1 => ds_nil ⟨rfl, by rw [if_neg (by rw [z1]; decide)]; rfl⟩) ?_
    rintro ρ' O2 ⟨rfl, rfl⟩
    have e : driftSides trs s = (s :: (if hasT trs "removals" = true then [0] else [])) ++ (if hasT trs "moves" = true then [3 - s] else []) := by unfold driftSides; rw [if_pos z']; rfl
    refine ds_one (d1_if (p := hasT trs "moves") (DT.cast (dt_inL (ds := trs.map .str) hr (by rfl) (oks_strs trs 32) de_str (de_var 1)) (in_strs trs _)) (fun z1 => ds_one (d1_app 2 rfl (de_sub de_int (de_var 0)) (by rw [List.length_map]; split <;> simp) ⟨rfl, by rw [e, if_pos z1, List.map_append]; rfl⟩)) fun z1 => ds_nil ⟨rfl, by rw [e, if_neg (c := hasT trs "moves" = true) (by rw [z1]; decide), List.append_nil]⟩)
  · have z' : ¬ s ∈ ([1, 2] : List Int) := of_decide_eq_false z
    unfold driftSides
    rw [if_neg z']
    rfl
  · rintro ρ' O2 ⟨rfl, rfl⟩
    exact ds_ice 2 rfl hp (ds_one (d1_ret (s := .dat (iL (driftSides trs s))) (DE.dv (de_var 2)) ⟨rfl, rfl⟩))
end
end Dg

namespace Dg
open PySem PySem.Spec PyProof.Rows L2 GxR Dz
/-- a pair of ints -/
def pD (p : Int × Int) : D := .tup [.int p.1, .int p.2]
def pL (ps : List (Int × Int)) : D := .lst (ps.map pD)
def tgts (o l : Int) : List Int := [2, 3] ++ (if l ∈ ([1, 2, 3] : List Int) then [1] else []) ++ (if o ≠ 3 ∧ l ≠ 3 then [4] else [])
theorem tgts_len (o l : Int) : (tgts o l).length ≤ 4 := by
  unfold tgts
  split <;> split <;> simp
section
variable {P : Program} {w : World} {K : PySem.W.Frag} {mg : Str → Option Value} {base : Heap} {T : List Addr}
theorem scLWays : FnScope ["number", "troubles", "out"] ["number", "troubles"] (defScope s_law_ways) := ⟨rfl, rfl, rfl, by decide +kernel, rfl, by decide +kernel, by decide +kernel⟩
theorem ok_lways {f : Addr} {fd : FuncData} {cdv : Value} (F : FunC K "_law_ways" "_law_ways" s_law_ways f fd cdv) : FnOk P w K mg base CX0 1 f fd ["number", "troubles"] (spF T K pDsides) := by
  refine fn_ok (CE := (0 : Addr)) (R := pDsides) F scLWays (fun ss O d O' ⟨x, n, h, _⟩ => by rw [h]; rfl) fun A outer s H E ss O d O' hr h => ?_
  obtain ⟨s, trs, h1, h2, h3⟩ := h
  subst h1 h2 h3
  refine ds_cons (d1_own 2 (ss := [.dat (.int s)]) (da_d (de_var 0) da_nil) (fun p hp => ?_) scLWays.nd (by show 1 ≤ 10000; decide))
  show DS T _ _ _ [.dat (.int s), .dat (sL trs), .val (.ref p)] (put O' p (lO [.int s])) _
  have tst : ∀ {X : Cx} {O : OH} {c : Str} {j : Nat} {kp q1 q2 q3 q4 q5 q6 : Pos} {x1 : Nat}, True := fun {_ _ _ _ _ _ _ _ _ _ _ _} => True.intro
  let a1 : List Int := if s ∈ ([1, 2] : List Int) ∧ hasT trs "removals" = true then [0] else []
  let a2 : List Int := if s ∈ ([1, 2] : List Int) ∧ hasT trs "moves" = true then [3 - s] else []
  have e : driftSides trs s = (s :: a1) ++ a2 := by
    show driftSides trs s = (s :: if s ∈ ([1, 2] : List Int) ∧ hasT trs "removals" = true then [0] else []) ++ (if s ∈ ([1, 2] : List Int) ∧ hasT trs "moves" = true then [3 - s] else [])
    unfold driftSides
    by_cases h1 : s ∈ ([1, 2] : List Int) <;> by_cases h2 : hasT trs "removals" = true <;> by_cases h3 : hasT trs "moves" = true <;> simp [h1, h2, h3]
  have l1 : a1.length ≤ 1 := by
    show (if s ∈ ([1, 2] : List Int) ∧ hasT trs "removals" = true then ([0] : List Int) else []).length ≤ 1
    split <;> simp
  refine ds_mid (fun ρ' O2 => ρ' = [.dat (.int s), .dat (sL trs), .val (.ref p)] ∧ O2 = put O' p (lO ((s :: a1).map .int))) (d1_if (p := decide (s ∈ ([1, 2] : List Int)) && hasT trs "removals") (DW.dt (dw_and (DT.cast (dt_inT (ds := [1, 2].map .int) hr (by rfl) (by rfl) (de_var 0) (de_tup (ds := [.int 1, .int 2]) (da_d de_int (da_d de_int da_nil)))) (in_ints [1, 2] s)) fun _ => dw_and1 (DT.cast (dt_inL (ds := trs.map .str) hr (by rfl) (oks_strs trs 32) de_str (de_var 1)) (in_strs trs _)))) (fun z => ds_one (d1_app 2 rfl de_int (by show 1 < 100000; decide) ⟨rfl, ?_⟩)) fun z => ds_nil ⟨rfl, ?_⟩) ?_
  · have z' : s ∈ ([1, 2] : List Int) ∧ hasT trs "removals" = true := by simpa using z
    show _ = put O' p (lO ((s :: if s ∈ ([1, 2] : List Int) ∧ hasT trs "removals" = true then [0] else []).map .int))
    rw [if_pos z']
    rfl
  · have z' : ¬ (s ∈ ([1, 2] : List Int) ∧ hasT trs "removals" = true) := by simpa using z
    show _ = put O' p (lO ((s :: if s ∈ ([1, 2] : List Int) ∧ hasT trs "removals" = true then [0] else []).map .int))
    rw [if_neg z']
    rfl
  rintro ρ' O2 ⟨rfl, rfl⟩
  refine ds_mid (fun ρ' O2 => ρ' = [.dat (.int s), .dat (sL trs), .val (.ref p)] ∧ O2 = put O' p (lO ((driftSides trs s).map .int))) (d1_if (p := decide (s ∈ ([1, 2] : List Int)) && hasT trs "moves") (DW.dt (dw_and (DT.cast (dt_inT (ds := [1, 2].map .int) hr (by rfl) (by rfl) (de_var 0) (de_tup (ds := [.int 1, .int 2]) (da_d de_int (da_d de_int da_nil)))) (in_ints [1, 2] s)) fun _ => dw_and1 (DT.cast (dt_inL (ds := trs.map .str) hr (by rfl) (oks_strs trs 32) de_str (de_var 1)) (in_strs trs _)))) (fun z => ds_one (d1_app 2 rfl (de_sub de_int (de_var 0)) (by rw [List.length_map, List.length_cons]; omega) ⟨rfl, ?_⟩)) fun z => ds_nil ⟨rfl, ?_⟩) ?_
  · have z' : s ∈ ([1, 2] : List Int) ∧ hasT trs "moves" = true := by simpa using z
    rw [e]
    show _ = put O' p (lO (((s :: a1) ++ if s ∈ ([1, 2] : List Int) ∧ hasT trs "moves" = true then [3 - s] else []).map .int))
    rw [if_pos z', List.map_append]
    rfl
  · have z' : ¬ (s ∈ ([1, 2] : List Int) ∧ hasT trs "moves" = true) := by simpa using z
    rw [e]
    show _ = put O' p (lO (((s :: a1) ++ if s ∈ ([1, 2] : List Int) ∧ hasT trs "moves" = true then [3 - s] else []).map .int))
    rw [if_neg z', List.append_nil]
  rintro ρ' O2 ⟨rfl, rfl⟩
  exact ds_ice 2 rfl hp (ds_one (d1_ret (s := .dat (iL (driftSides trs s))) (DE.dv (de_var 2)) ⟨rfl, rfl⟩))

/-! ### the situations that changes lead to -/
def pDrift (ss : List Dz.Slot) (O : OH) (d : D) (O' : OH) : Prop := ∃ o l trs, ss = [.dat (pD (o, l)), .dat (sL trs)] ∧ d = pL (drift trs o l) ∧ O' = O
theorem scDrift : FnScope ["situation", "troubles", "over", "last", "found", "over_now", "last_now"] ["situation", "troubles"] (defScope s_drifted) := ⟨rfl, rfl, rfl, by decide +kernel, rfl, by decide +kernel, by decide +kernel⟩
theorem fm_take {α β : Type} {xs : List α} {f : α → List β} {j : Nat} {x : α} (h : xs[j]? = some x) : (xs.take (j + 1)).flatMap f = (xs.take j).flatMap f ++ f x := by
  rw [List.take_add_one, h, List.flatMap_append]
  simp
theorem map_take {α β : Type} {xs : List α} {f : α → β} {j : Nat} {x : α} (h : xs[j]? = some x) : (xs.take (j + 1)).map f = (xs.take j).map f ++ [f x] := by
  rw [List.take_add_one, h, List.map_append]
  rfl
theorem at_map {α β : Type} {xs : List α} {f : α → β} {j : Nat} {d : β} (h : (xs.map f)[j]? = some d) : ∃ x, xs[j]? = some x ∧ d = f x := by
  rw [List.getElem?_map] at h
  cases hx : xs[j]? with
  | none => rw [hx] at h; cases h
  | some x =>
    rw [hx] at h
    cases h
    exact ⟨x, rfl, rfl⟩
theorem fm_len {α β : Type} {f : α → List β} {m : Nat} (h : ∀ a, (f a).length ≤ m) : ∀ xs : List α, (xs.flatMap f).length ≤ xs.length * m
  | [] => by simp
  | x :: xs => by
    rw [List.flatMap_cons, List.length_append, List.length_cons, Nat.add_mul, Nat.one_mul]
    have := fm_len h xs
    have := h x
    omega
def d1 (trs : List Str) (l o' : Int) : List (Int × Int) := if l = 4 then [(o', if 0 < o' then 4 else 0)] else (driftSides trs l).map fun l' => (o', l')
theorem d1_len (trs : List Str) (l o' : Int) : (d1 trs l o').length ≤ 3 := by
  unfold d1
  split
  · simp
  · rw [List.length_map]; exact dsides_len trs l
theorem drift_len (trs : List Str) (o l : Int) : (drift trs o l).length ≤ 9 := by
  have h := fm_len (f := d1 trs l) (d1_len trs l) (driftSides trs o)
  have := dsides_len trs o
  show ((driftSides trs o).flatMap (d1 trs l)).length ≤ 9
  omega
theorem ok_drift {f : Addr} {fd : FuncData} {cdv : Value} {uc : Value} (F : FunC K "drifted" "drifted" s_drifted f fd cdv) (G : HasF P w K mg base CX0 1 "drifted_sides" ["side", "troubles"] (spF T K pDsides)) (hC : mg "CURRENT" = some uc) (kC : kdB K 0 uc (.int 4) = true) :
    FnOk P w K mg base CX0 2 f fd ["situation", "troubles"] (spF T K pDrift) := by
  refine fn_ok (CE := (0 : Addr)) (R := pDrift) F scDrift (fun ss O d O' ⟨x, y, n, h, _⟩ => by rw [h]; rfl) fun A outer s H E ss O d O' hr h => ?_
  obtain ⟨o, l, trs, h1, h2, h3⟩ := h
  subst h1 h2 h3
  refine ds_cons (d1_unpack (ds := [.int o, .int l]) (is := [2, 3]) (de_var 0) rfl (by repeat' (first | exact Dz.Names.nil | refine Dz.Names.cons rfl (by first | exact Or.inl rfl | exact Or.inr rfl) (by first | exact .inl rfl | exact .inr rfl) rfl ?_)) ?_ scDrift.nd)
  refine ds_cons (d1_own 4 (ss := []) da_nil (fun p hp => ?_) scDrift.nd)
  refine ds_mid (fun ρ' O2 => (∃ s5 s6, ρ' = [.dat (pD (o, l)), .dat (sL trs), .dat (.int o), .dat (.int l), .val (.ref p), s5, s6]) ∧ O2 = put O' p (lO ((drift trs o l).map pD)))
    (d1_forL (ds := (driftSides trs o).map .int) 5 (fun j ρ' O2 => (∃ s5 s6, ρ' = [.dat (pD (o, l)), .dat (sL trs), .dat (.int o), .dat (.int l), .val (.ref p), s5, s6]) ∧ O2 = put O' p (lO ((((driftSides trs o).take j).flatMap (d1 trs l)).map pD)))
      (de_callH G hr (da_d (de_var 2) (da_d (de_var 1) da_nil)) ⟨o, trs, rfl, rfl, rfl⟩) ⟨⟨_, _, rfl⟩, rfl⟩ scDrift.nd ?_ ?_ PassesOwn.never) ?_
  · rintro j d ρ' O2 hj ⟨⟨s5, s6, rfl⟩, rfl⟩
    obtain ⟨o', hj', rfl⟩ := at_map hj
    have hlen : (((driftSides trs o).take j).flatMap (d1 trs l)).length ≤ 9 := by
      have h1 := fm_len (f := d1 trs l) (d1_len trs l) ((driftSides trs o).take j)
      have h2 := dsides_len trs o
      have h3 : ((driftSides trs o).take j).length ≤ 3 := by rw [List.length_take]; omega
      omega
    have et := fm_take (f := d1 trs l) hj'
    generalize hacc : ((driftSides trs o).take j).flatMap (d1 trs l) = acc at hlen et
    refine ds_one (d1_if (p := decide (l = 4)) (DT.cast (dt_eq hr (by rfl) (by rfl) (de_var 3) (de_gk hC kC)) (deq_int _ _)) (fun z => ?_) fun z => ?_)
    · have z' : l = 4 := of_decide_eq_true z
      refine ds_one (d1_app 4 rfl (de_tup (ds := [.int o', .int (if 0 < o' then 4 else 0)]) (da_d (de_var 5) (da_d (de_if (p := decide (0 < o')) (dt_gt (de_var 5) de_int) (fun q => by rw [if_pos (of_decide_eq_true q)]; exact de_gk hC kC) fun q => by rw [if_neg (of_decide_eq_false q)]; exact de_int) da_nil)) (by show 2 ≤ 10000; decide)) (by rw [List.length_map]; omega) ⟨⟨_, _, rfl⟩, ?_⟩)
      rw [et, List.map_append]
      have e1 : d1 trs l o' = [(o', if 0 < o' then 4 else 0)] := by unfold d1; rw [if_pos z']
      rw [e1]
      rfl
    · have z' : ¬ l = 4 := of_decide_eq_false z
      have e1 : d1 trs l o' = (driftSides trs l).map fun l' => (o', l') := by unfold d1; rw [if_neg z']
      refine ds_one (d1_forL (ds := (driftSides trs l).map .int) 6 (fun k ρ' O2 => (∃ s6, ρ' = [.dat (pD (o, l)), .dat (sL trs), .dat (.int o), .dat (.int l), .val (.ref p), .dat (.int o'), s6]) ∧ O2 = put O' p (lO ((acc ++ ((driftSides trs l).take k).map fun l' => (o', l')).map pD)))
        (de_callH G hr (da_d (de_var 3) (da_d (de_var 1) da_nil)) ⟨l, trs, rfl, rfl, rfl⟩) ⟨⟨_, rfl⟩, by rw [List.take_zero, List.map_nil, List.append_nil]⟩ scDrift.nd ?_ ?_ PassesOwn.never)
      · rintro k d ρ' O2 hk ⟨⟨s6, rfl⟩, rfl⟩
        obtain ⟨l', hk', rfl⟩ := at_map hk
        have hl2 : (((driftSides trs l).take k).map fun l' => (o', l')).length ≤ 3 := by
          have := dsides_len trs l
          rw [List.length_map, List.length_take]; omega
        refine ds_one (d1_app 4 rfl (de_tup (ds := [.int o', .int l']) (da_d (de_var 5) (da_d (de_var 6) da_nil)) (by show 2 ≤ 10000; decide)) (by rw [List.length_map, List.length_append]; omega) ⟨⟨_, rfl⟩, ?_⟩)
        rw [map_take hk']
        simp only [List.map_append, List.map_cons, List.map_nil, List.append_assoc]
        rfl
      · rintro ρ' O2 ⟨⟨s6, rfl⟩, rfl⟩
        refine ⟨⟨_, _, rfl⟩, ?_⟩
        rw [List.length_map, List.take_length, et, e1]
  · rintro ρ' O2 ⟨⟨s5, s6, rfl⟩, rfl⟩
    refine ⟨⟨_, _, rfl⟩, ?_⟩
    rw [List.length_map, List.take_length]
    rfl
  · rintro ρ' O2 ⟨⟨s5, s6, rfl⟩, rfl⟩
    exact ds_ice 4 rfl hp (ds_one (d1_ret (s := .dat (pL (drift trs o l))) (DE.dv (de_var 4)) ⟨rfl, rfl⟩))
end
end Dg

namespace Dg
open PySem PySem.Spec PyProof.Rows L2 GxR Dz
/-! ### ticks and targets -/
def isLetN (trs : List Str) (j : Nat) : Bool := if j = 2 then hasT trs "outs" else if j = 3 then true else if j = 4 then hasT trs "silent" else if j = 5 then true else if j = 6 then hasT trs "silent" else false
def ticksE (trs : List Str) (o l : Int) : List (Int × Int) := (tgts o l).map (fun t => (0, t)) ++ (if 0 < o then [(0, 0)] else []) ++ (if hasT trs "slips" = true ∧ o ∈ ([1, 2] : List Int) then (tgts o l).map (fun t => (1, t)) else [])
def ticksF (trs : List Str) (j : Nat) : List (Int × Int) := ((List.range j).filter (isLetN trs)).map fun k : Nat => ((k : Int), (0 : Int))
def ticksP (trs : List Str) (o l : Int) : List (Int × Int) := ticksE trs o l ++ ticksF trs 7
def stopsN (trs : List Str) : Nat := if hasT trs "stops" = true then 8 else 1
def turnsAt (trs : List Str) (o l : Int) : List (List Int) := (ticksP trs o l).flatMap fun p => (List.range (stopsN trs)).map fun k : Nat => [o, l, p.1, p.2, (k : Int)]
def tiL (ts : List (List Int)) : D := .lst (ts.map tI)
def turnsL (trs : List Str) (o l : Int) : List (List Int) := srtT 16 ((drift trs o l).flatMap fun s => turnsAt trs s.1 s.2)
def TICKSD : List D := [.tup [.str "point"], .tup [.str "slip"], .tup [.str "out"], .tup [.str "drop", .bl true], .tup [.str "drop", .bl false], .tup [.str "cancel", .bl true], .tup [.str "cancel", .bl false]]
def letD (trs : List Str) : D → Option Bool
  | .tup [.str z] => if z = "out" then some (hasT trs "outs") else none
  | .tup [.str z, .bl c] => if z = "out" then none else some (c || hasT trs "silent")
  | _ => none
theorem let_ok (trs : List Str) : ∀ (j : Nat) (d : D), TICKSD[j]? = some d → 1 < j → letD trs d = some (isLetN trs j)
  | 0, _, _, h => absurd h (by decide)
  | 1, _, _, h => absurd h (by decide)
  | 2, d, h, _ => by cases h; rfl
  | 3, d, h, _ => by cases h; rfl
  | 4, d, h, _ => by cases h; rfl
  | 5, d, h, _ => by cases h; rfl
  | 6, d, h, _ => by cases h; rfl
  | n + 7, d, h, _ => by cases h
theorem ticksE_len (trs : List Str) (o l : Int) : (ticksE trs o l).length ≤ 9 := by
  have := tgts_len o l
  unfold ticksE
  rw [List.length_append, List.length_append, List.length_map]
  split <;> split <;> simp <;> omega
theorem ticksF_len (trs : List Str) (j : Nat) : (ticksF trs j).length ≤ j := by
  unfold ticksF
  rw [List.length_map]
  have := List.length_filter_le (isLetN trs) (List.range j)
  rw [List.length_range] at this
  exact this
theorem ticksP_len (trs : List Str) (o l : Int) : (ticksP trs o l).length ≤ 16 := by
  have := ticksE_len trs o l
  have := ticksF_len trs 7
  unfold ticksP
  rw [List.length_append]
  omega
theorem stopsN_le (trs : List Str) : stopsN trs ≤ 8 := by
  unfold stopsN
  split <;> decide
theorem turnsAt_len (trs : List Str) (o l : Int) : (turnsAt trs o l).length ≤ 128 := by
  have h := fm_len (f := fun p : Int × Int => (List.range (stopsN trs)).map fun k : Nat => [o, l, p.1, p.2, (k : Int)]) (m := 8) (fun p => by rw [List.length_map, List.length_range]; exact stopsN_le trs) (ticksP trs o l)
  have := ticksP_len trs o l
  show ((ticksP trs o l).flatMap _).length ≤ 128
  omega
theorem ok_pairs (ps : List (Int × Int)) (n : Nat) : D.oks (n + 1) (ps.map pD) = true := by
  rw [oks_all, List.all_map]
  exact List.all_eq_true.mpr fun p _ => by cases n <;> rfl
section
variable {P : Program} {w : World} {K : PySem.W.Frag} {mg : Str → Option Value} {base : Heap} {T : List Addr}
def pTgts (ss : List Dz.Slot) (O : OH) (d : D) (O' : OH) : Prop := ∃ o l, ss = [.dat (.int o), .dat (.int l)] ∧ d = iL (tgts o l) ∧ O' = O
theorem scTgts : FnScope ["over", "last", "found"] ["over", "last"] (defScope s_other_targets) := ⟨rfl, rfl, rfl, by decide +kernel, rfl, by decide +kernel, by decide +kernel⟩
theorem ok_tgts {f : Addr} {fd : FuncData} {cdv : Value} (F : FunC K "other_targets" "other_targets" s_other_targets f fd cdv) : FnOk P w K mg base CX0 1 f fd ["over", "last"] (spF T K pTgts) := by
  refine fn_ok (CE := (0 : Addr)) (R := pTgts) F scTgts (fun ss O d O' ⟨x, n, h, _⟩ => by rw [h]; rfl) fun A outer s H E ss O d O' hr h => ?_
  obtain ⟨o, l, h1, h2, h3⟩ := h
  subst h1 h2 h3
  refine ds_cons (d1_own 2 (ss := [.dat (.int 2), .dat (.int 3)]) (da_d de_int (da_d de_int da_nil)) (fun p hp => ?_) scTgts.nd (by show 2 ≤ 10000; decide))
  show DS T _ _ _ [.dat (.int o), .dat (.int l), .val (.ref p)] (put O' p (lO [.int 2, .int 3])) _
  refine ds_mid (fun ρ' O2 => ρ' = [.dat (.int o), .dat (.int l), .val (.ref p)] ∧ O2 = put O' p (lO (([2, 3] ++ (if l ∈ ([1, 2, 3] : List Int) then [1] else []) : List Int).map .int))) (d1_if (p := decide (l ∈ ([1, 2, 3] : List Int))) (DT.cast (dt_inT (ds := [1, 2, 3].map .int) hr (by rfl) (by rfl) (de_var 1) (de_tup (ds := [.int 1, .int 2, .int 3]) (da_d de_int (da_d de_int (da_d de_int da_nil))))) (in_ints [1, 2, 3] l)) (fun z => ds_one (d1_app 2 rfl de_int (by show 2 < 100000; decide) ⟨rfl, by rw [if_pos (of_decide_eq_true z)]; rfl⟩)) fun z => ds_nil ⟨rfl, by rw [if_neg (of_decide_eq_false z)]; rfl⟩) ?_
  rintro ρ' O2 ⟨rfl, rfl⟩
  have la : ([2, 3] ++ (if l ∈ ([1, 2, 3] : List Int) then [1] else []) : List Int).length ≤ 3 := by split <;> simp
  have e : tgts o l = ([2, 3] ++ (if l ∈ ([1, 2, 3] : List Int) then [1] else []) : List Int) ++ (if o ≠ 3 ∧ l ≠ 3 then [4] else []) := rfl
  generalize ([2, 3] ++ (if l ∈ ([1, 2, 3] : List Int) then [1] else []) : List Int) = acc at la e
  refine ds_mid (fun ρ' O2 => ρ' = [.dat (.int o), .dat (.int l), .val (.ref p)] ∧ O2 = put O' p (lO ((tgts o l).map .int))) (d1_if (p := !decide (o = 3) && !decide (l = 3)) (DW.dt (dw_and (DT.cast (dt_ne (x := .int o) (y := .int 3) hr (by rfl) (by rfl) (de_var 0) de_int) (by rw [deq_int])) fun _ => dw_and1 (DT.cast (dt_ne (x := .int l) (y := .int 3) hr (by rfl) (by rfl) (de_var 1) de_int) (by rw [deq_int])))) (fun z => ds_one (d1_app 2 rfl de_int (by rw [List.length_map]; omega) ⟨rfl, ?_⟩)) fun z => ds_nil ⟨rfl, ?_⟩) ?_
  · have z' : o ≠ 3 ∧ l ≠ 3 := by simpa using z
    rw [e, if_pos z', List.map_append]
    rfl
  · have z' : ¬ (o ≠ 3 ∧ l ≠ 3) := by
      rintro ⟨z1, z2⟩
      simp [z1, z2] at z
    rw [e, if_neg z', List.append_nil]
  rintro ρ' O2 ⟨rfl, rfl⟩
  exact ds_ice 2 rfl hp (ds_one (d1_ret (s := .dat (iL (tgts o l))) (DE.dv (de_var 2)) ⟨rfl, rfl⟩))

def pIsLet (ss : List Dz.Slot) (O : OH) (d : D) (O' : OH) : Prop := ∃ x trs b, ss = [.dat x, .dat (sL trs)] ∧ letD trs x = some b ∧ d = .bl b ∧ O' = O
theorem scIsLet : FnScope ["parts", "troubles"] ["parts", "troubles"] (defScope s_is_let) := ⟨rfl, rfl, rfl, by decide +kernel, rfl, by decide +kernel, by decide +kernel⟩
theorem ok_islet {f : Addr} {fd : FuncData} {cdv : Value} (F : FunC K "is_let" "is_let" s_is_let f fd cdv) : FnOk P w K mg base CX0 1 f fd ["parts", "troubles"] (spF T K pIsLet) := by
  refine fn_ok (CE := (0 : Addr)) (R := pIsLet) F scIsLet (fun ss O d O' ⟨x, n, b, h, _⟩ => by rw [h]; rfl) fun A outer s H E ss O d O' hr h => ?_
  obtain ⟨x, trs, b, h1, hl, h2, h3⟩ := h
  subst h1 h2 h3
  unfold letD at hl
  split at hl
  · rename_i z
    split at hl
    · rename_i hz
      cases hl
      exact ds_cons (d1_if (p := true) (DT.cast (dt_eq hr (by rfl) (by rfl) (de_ixT (ds := [.str z]) (de_var 0) de_int rfl) de_str) (by rw [deq_str, decide_eq_true hz])) (fun _ => ds_one (d1_ret (s := .dat (.bl (hasT trs "outs"))) (DE.dv (DE.cast (de_inL (ds := trs.map .str) hr (by rfl) (oks_strs trs 32) de_str (de_var 1)) (by rw [in_strs]; rfl))) ⟨rfl, rfl⟩)) fun z => by cases z)
    · cases hl
  · rename_i z c
    split at hl
    · cases hl
    · rename_i hz
      cases hl
      refine ds_cons (d1_if (p := false) (DT.cast (dt_eq hr (by rfl) (by rfl) (de_ixT (ds := [.str z, .bl c]) (de_var 0) de_int rfl) de_str) (by rw [deq_str, decide_eq_false hz])) (fun z => by cases z) fun _ => ds_nil (ds_one (d1_ret (s := .dat (.bl (c || hasT trs "silent"))) (DE.dv (de_or (de_ixT (ds := [.str z, .bl c]) (de_var 0) de_int rfl) fun _ => de_one (DE.cast (de_inL (ds := trs.map .str) hr (by rfl) (oks_strs trs 32) de_str (de_var 1)) (by rw [in_strs]; rfl)))) ⟨rfl, rfl⟩)))
  · cases hl

def pStopsB (ss : List Dz.Slot) (O : OH) (d : D) (O' : OH) : Prop := ∃ trs, ss = [.dat (sL trs)] ∧ d = .int (stopsN trs : Int) ∧ O' = O
theorem scStopsB : FnScope ["troubles"] ["troubles"] (defScope s_stops_bound) := ⟨rfl, rfl, rfl, by decide +kernel, rfl, by decide +kernel, by decide +kernel⟩
theorem ok_stopsb {f : Addr} {fd : FuncData} {cdv : Value} (F : FunC K "stops_bound" "stops_bound" s_stops_bound f fd cdv) : FnOk P w K mg base CX0 1 f fd ["troubles"] (spF T K pStopsB) := by
  refine fn_ok (CE := (0 : Addr)) (R := pStopsB) F scStopsB (fun ss O d O' ⟨n, h, _⟩ => by rw [h]; rfl) fun A outer s H E ss O d O' hr h => ?_
  obtain ⟨trs, h1, h2, h3⟩ := h
  subst h1 h2 h3
  refine ds_one (d1_ret (s := .dat (.int (stopsN trs : Int))) (DE.dv (de_if (p := hasT trs "stops") (DT.cast (dt_inL (ds := trs.map .str) hr (by rfl) (oks_strs trs 32) de_str (de_var 0)) (in_strs trs _)) (fun z => ?_) fun z => ?_)) ⟨rfl, rfl⟩)
  · have e : stopsN trs = 8 := by unfold stopsN; rw [if_pos z]
    rw [e]
    exact de_int
  · have e : stopsN trs = 1 := by unfold stopsN; rw [if_neg (by rw [z]; decide)]
    rw [e]
    exact de_int

def pTicks (ss : List Dz.Slot) (O : OH) (d : D) (O' : OH) : Prop := ∃ o l trs, ss = [.dat (.int o), .dat (.int l), .dat (sL trs)] ∧ d = pL (ticksP trs o l) ∧ O' = O
theorem scTicks : FnScope ["over", "last", "troubles", "others", "found", "target", "tick", "parts"] ["over", "last", "troubles"] (defScope s_ticks_at) := ⟨rfl, rfl, rfl, by decide +kernel, rfl, by decide +kernel, by decide +kernel⟩
theorem fmap_some {α β : Type} {g : α → β} {f : β → D} (xs : List α) {h : D → Option D} (hh : ∀ a, h (f (g a)) = some (f (g a))) : True := True.intro
theorem filterMap_all {α : Type} {f : D → Option D} {g : α → D} {u : α → D} (h : ∀ a, f (g a) = some (u a)) (xs : List α) : (xs.map g).filterMap f = xs.map u := by
  rw [List.filterMap_map]
  have e : f ∘ g = fun a => some (u a) := funext h
  rw [e, List.filterMap_eq_map']
theorem ok_ticks {f : Addr} {fd : FuncData} {cdv uP uS uT : Value} (F : FunC K "ticks_at" "ticks_at" s_ticks_at f fd cdv) (L : Blt mg) (hen : mg "enumerate" = none) (G1 : HasF P w K mg base CX0 1 "other_targets" ["over", "last"] (spF T K pTgts)) (G2 : HasF P w K mg base CX0 1 "is_let" ["parts", "troubles"] (spF T K pIsLet))
    (hP : mg "POINT" = some uP) (kP : kdB K 0 uP (.int 0) = true) (hS : mg "SLIP" = some uS) (kS : kdB K 0 uS (.int 1) = true) (hT : mg "TICKS" = some uT) (kT : kdB K 2 uT (.tup TICKSD) = true) :
    FnOk P w K mg base CX0 2 f fd ["over", "last", "troubles"] (spF T K pTicks) := by
  refine fn_ok (CE := (0 : Addr)) (R := pTicks) F scTicks (fun ss O d O' ⟨x, y, n, h, _⟩ => by rw [h]; rfl) fun A outer s H E ss O d O' hr h => ?_
  obtain ⟨o, l, trs, h1, h2, h3⟩ := h
  subst h1 h2 h3
  have tl := tgts_len o l
  refine ds_cons (d1_set 3 (s := .dat (iL (tgts o l))) (DE.dv (de_callH G1 hr (da_d (de_var 0) (da_d (de_var 1) da_nil)) ⟨o, l, rfl, rfl, rfl⟩)) ?_ scTicks.nd)
  refine ds_cons (d1_ownLcP (f := fun d => some (.tup [.int 0, d])) 5 4 (ds := (tgts o l).map .int) (de_var 3) (fun d hd => .inl ⟨_, rfl, difs_nil, fun s H C cl fp => de_tup (ds := [.int 0, d]) (da_d (de_gk hP kP) (da_d (de_var 5) da_nil)) (by show 2 ≤ 10000; decide)⟩) (fun p hp => ?_) (by rw [List.length_map]; omega) scTicks.nd (blkOk_by rfl))
  have e0 : ((tgts o l).map D.int).filterMap (fun d => some (D.tup [.int 0, d])) = ((tgts o l).map fun t => ((0 : Int), t)).map pD := by
    rw [filterMap_all (f := fun d => some (D.tup [.int 0, d])) (g := D.int) (u := fun t : Int => pD (0, t)) (fun a => rfl) (tgts o l), List.map_map]
    rfl
  show DS T _ _ _ [.dat (.int o), .dat (.int l), .dat (sL trs), .dat (iL (tgts o l)), .val (.ref p), .no, .no, .no] (put O' p (lO (((tgts o l).map D.int).filterMap (fun d => some (D.tup [.int 0, d]))))) _
  rw [e0]
  show DS T _ _ _ [.dat (.int o), .dat (.int l), .dat (sL trs), .dat (iL (tgts o l)), .val (.ref p), .no, .no, .no] (put O' p (lO (((tgts o l).map fun t => ((0 : Int), t)).map pD))) _
  refine ds_mid (fun ρ' O2 => ρ' = [.dat (.int o), .dat (.int l), .dat (sL trs), .dat (iL (tgts o l)), .val (.ref p), .no, .no, .no] ∧ O2 = put O' p (lO (((tgts o l).map (fun t => ((0 : Int), t)) ++ (if 0 < o then [((0 : Int), (0 : Int))] else [])).map pD)))
    (d1_if (p := decide (0 < o)) (dt_gt (de_var 0) de_int) (fun z => ds_one (d1_app 4 rfl (de_tup (ds := [.int 0, .int 0]) (da_d (de_gk hP kP) (da_d de_int da_nil)) (by show 2 ≤ 10000; decide)) (by rw [List.length_map, List.length_map]; omega) ⟨rfl, by rw [if_pos (of_decide_eq_true z), List.map_append]; rfl⟩)) fun z => ds_nil ⟨rfl, by rw [if_neg (of_decide_eq_false z), List.append_nil]⟩) ?_
  rintro ρ' O2 ⟨rfl, rfl⟩
  have le1 : ((tgts o l).map (fun t => ((0 : Int), t)) ++ (if 0 < o then [((0 : Int), (0 : Int))] else [])).length ≤ 5 := by
    rw [List.length_append, List.length_map]
    split <;> simp <;> omega
  have eE : ticksE trs o l = ((tgts o l).map (fun t => ((0 : Int), t)) ++ (if 0 < o then [((0 : Int), (0 : Int))] else [])) ++ (if hasT trs "slips" = true ∧ o ∈ ([1, 2] : List Int) then (tgts o l).map (fun t => (1, t)) else []) := rfl
  generalize ((tgts o l).map (fun t => ((0 : Int), t)) ++ (if 0 < o then [((0 : Int), (0 : Int))] else [])) = acc at le1 eE
  have e1 : ((tgts o l).map D.int).filterMap (fun d => some (D.tup [.int 1, d])) = ((tgts o l).map fun t => ((1 : Int), t)).map pD := by
    rw [filterMap_all (f := fun d => some (D.tup [.int 1, d])) (g := D.int) (u := fun t : Int => pD (1, t)) (fun a => rfl) (tgts o l), List.map_map]
    rfl
  refine ds_mid (fun ρ' O2 => ρ' = [.dat (.int o), .dat (.int l), .dat (sL trs), .dat (iL (tgts o l)), .val (.ref p), .no, .no, .no] ∧ O2 = put O' p (lO ((ticksE trs o l).map pD)))
    (d1_if (p := hasT trs "slips" && decide (o ∈ ([1, 2] : List Int))) (DW.dt (dw_and (DT.cast (dt_inL (ds := trs.map .str) hr (by rfl) (oks_strs trs 32) de_str (de_var 2)) (in_strs trs _)) fun _ => dw_and1 (DT.cast (dt_inT (ds := [1, 2].map .int) hr (by rfl) (by rfl) (de_var 0) (de_tup (ds := [.int 1, .int 2]) (da_d de_int (da_d de_int da_nil)))) (in_ints [1, 2] o))))
      (fun z => ds_one (d1_ext (ds := ((tgts o l).map fun t => ((1 : Int), t)).map pD) 4 rfl (by
        rw [← e1]
        exact de_lcL (O2 := put O' p (lO (acc.map pD))) (out := ((tgts o l).map D.int).filterMap fun d => some (D.tup [.int 1, d])) 5 (ds := (tgts o l).map .int) (de_var 3) (fun j acc' O2 => acc' = (((tgts o l).map D.int).take j).filterMap (fun d => some (D.tup [.int 1, d])) ∧ O2 = put O' p (lO (acc.map pD))) ⟨rfl, rfl⟩ (lc_pure (f := fun d => some (D.tup [.int 1, d])) fun d hd => .inl ⟨_, rfl, difs_nil, fun s H C cl fp => de_tup (ds := [.int 1, d]) (da_d (de_gk hS kS) (da_d (de_var 5) da_nil)) (by show 2 ≤ 10000; decide)⟩) (fun acc' O2 h => by rw [List.take_length] at h; exact h) (by rw [List.length_map]; omega) scTicks.nd (blkOk_by rfl)) (by rw [List.length_map, List.length_map, List.length_map]; omega) ⟨rfl, ?_⟩)) fun z => ds_nil ⟨rfl, ?_⟩) ?_
  · have z' : hasT trs "slips" = true ∧ o ∈ ([1, 2] : List Int) := by simpa using z
    rw [eE, if_pos z', List.map_append]
  · have z' : ¬ (hasT trs "slips" = true ∧ o ∈ ([1, 2] : List Int)) := by
      rintro ⟨z1, z2⟩
      rw [z1, decide_eq_true z2] at z
      cases z
    rw [eE, if_neg z', List.append_nil]
  rintro ρ' O2 ⟨rfl, rfl⟩
  have lE := ticksE_len trs o l
  refine ds_mid (fun ρ' O2 => (∃ s6 s7, ρ' = [.dat (.int o), .dat (.int l), .dat (sL trs), .dat (iL (tgts o l)), .val (.ref p), .no, s6, s7]) ∧ O2 = put O' p (lO ((ticksP trs o l).map pD)))
    (d1_forET (ds := TICKSD) (i1 := 6) (i2 := 7) (fun j ρ' O2 => (∃ s6 s7, ρ' = [.dat (.int o), .dat (.int l), .dat (sL trs), .dat (iL (tgts o l)), .val (.ref p), .no, s6, s7]) ∧ O2 = put O' p (lO ((ticksE trs o l ++ ticksF trs j).map pD)))
      (de_gk hT kT) ⟨⟨_, _, rfl⟩, by show _ = put O' p (lO ((ticksE trs o l ++ []).map pD)); rw [List.append_nil]⟩ scTicks.nd (by repeat' (first | exact Dz.Names.nil | refine Dz.Names.cons rfl (by first | exact Or.inl rfl | exact Or.inr rfl) (by first | exact .inl rfl | exact .inr rfl) rfl ?_)) ?_ ?_ hen PassesOwn.never) ?_
  · rintro j d ρ' O2 hj ⟨⟨s6, s7, rfl⟩, rfl⟩
    have lF := ticksF_len trs j
    have hj7 : j < 7 := (List.getElem?_eq_some_iff.mp hj).1
    have eF : ticksF trs (j + 1) = ticksF trs j ++ (if isLetN trs j = true then [((j : Int), 0)] else []) := by
      unfold ticksF
      rw [List.range_succ, List.filter_append, List.map_append]
      congr 1
      by_cases hq : isLetN trs j = true <;> simp [hq]
    have small : j ≤ 1 → isLetN trs j = false := fun h => by
      unfold isLetN
      rw [if_neg (by omega), if_neg (by omega), if_neg (by omega), if_neg (by omega), if_neg (by omega)]
    refine ds_one (d1_if (p := decide ((1 : Int) < (j : Int)) && isLetN trs j) (DW.dt (dw_and (dt_gt (de_var 6) (de_gk hS kS)) fun z => dw_and1 (dt_val (de_callH G2 hr (da_d (de_var 7) (da_d (de_var 2) da_nil)) ⟨d, trs, isLetN trs j, rfl, let_ok trs j d hj (by have := of_decide_eq_true z; omega), rfl, rfl⟩)))) (fun z => ds_one (d1_app 4 rfl (de_tup (ds := [.int (j : Int), .int 0]) (da_d (de_var 6) (da_d de_int da_nil)) (by show 2 ≤ 10000; decide)) (by rw [List.length_map, List.length_append]; omega) ⟨⟨_, _, rfl⟩, ?_⟩)) fun z => ds_nil ⟨⟨_, _, rfl⟩, ?_⟩)
    · have z' : isLetN trs j = true := by
        cases hq : isLetN trs j with
        | true => rfl
        | false => rw [hq, Bool.and_false] at z; cases z
      rw [eF, if_pos z']
      simp only [List.map_append, List.map_cons, List.map_nil, List.append_assoc]
      rfl
    · have z' : isLetN trs j = false := by
        by_cases h1 : (1 : Int) < (j : Int)
        · rw [decide_eq_true h1, Bool.true_and] at z
          exact z
        · exact small (by omega)
      rw [eF, if_neg (by rw [z']; decide), List.append_nil]
  · rintro ρ' O2 ⟨⟨s6, s7, rfl⟩, rfl⟩
    exact ⟨⟨_, _, rfl⟩, rfl⟩
  rintro ρ' O2 ⟨⟨s6, s7, rfl⟩, rfl⟩
  exact ds_ice 4 rfl hp (ds_one (d1_ret (s := .dat (pL (ticksP trs o l))) (DE.dv (de_var 4)) ⟨rfl, rfl⟩))
end
end Dg

namespace Dz
open PySem PySem.Spec PyProof.Rows L2 GxR
section
variable {T : List Addr} {X : Cx} {CE : Addr} {ρ : List Slot} {O O1 O2 : OH} {a b elt : Expr} {pos pos' lp : Pos} {E : DEn} {n : Str} {scope : Scope}
/-- x = a + b, lists, owned -/
theorem d1_ownCat (i : Nat) {xs ys : List D} (ha : DE T X a ρ O (.lst xs) O1) (hb : DE T X b ρ O1 (.lst ys) O2) (hl : xs.length + ys.length ≤ 100000) (h : ∀ p, O2 p = none → E.nx (ρ.set i (.val (.ref p))) (put O2 p (.lst ((xs ++ ys).map .dat)))) (hN : X.N.Nodup) (hi : X.N[i]? = some n := by rfl) (hx : Loc X.env.scope n := by first | exact Or.inl rfl | exact Or.inr rfl)
    (hs : swapsWith (.BinOp a .Add b pos) (some (.Name n pos')) lp.line X.env = pure false := by rfl) (hf : X.fn n = true ∨ X.env.scope.names.lookup n = some .local := by first | exact .inl rfl | exact .inr rfl) : D1 T X CE (.Assign [.Name n pos'] (.BinOp a .Add b pos) lp) ρ O E := .mk fun σ B H hE hA Dn W tk l => by
  refine ws_of (ps_set hN hi hx (pe_op op_cat pe_we pe_we) hs hf) ?_
  refine two ha hb hE hA fun v w B2 H2 p2 rv rw' => ?_
  cases rv with
  | lst hv rv =>
    cases rw' with
    | lst hw rw' =>
      refine ⟨_, _, _, _, rfl, rfl, p2.at'.base _ _ hv, p2.at'.base _ _ hw, by rw [rv.length, rw'.length]; exact Nat.le_trans hl (by decide), fun q nq => ?_⟩
      have po := Post.madeO (o := .lst _) (od := .lst ((xs ++ ys).map .dat)) p2.at' nq (Args.of (rv.append rw'))
      exact l.nx _ _ _ B2 _ (h q (p2.at'.noO nq)) (p2.trans po) ((hE.mono p2.bb).set (s := .val (.ref q)) (show SlotOk X.K B2 (some (.ref q)) (.val (.ref q)) from rfl) i)
theorem lc_pureR {i : Nat} {F : Nat → D} {m : Int} (h : ∀ j : Nat, (j : Int) < m → DEb T X scope elt (ρ.set i (.dat (.int (j : Int)))) O (F j) O) : ∀ (j : Nat) acc O', (j : Int) < m → (acc = (List.range j).map F ∧ O' = O) → LcTurn T X scope [] elt (fun j acc O' => acc = (List.range j).map F ∧ O' = O) j (ρ.set i (.dat (.int (j : Int)))) acc O' := by
  rintro j acc O' hj ⟨rfl, rfl⟩
  exact ⟨true, O', difs_nil, fun _ => ⟨F j, O', h j hj, by rw [List.range_succ, List.map_append]; rfl, rfl⟩, fun z => by cases z⟩
end
end Dz
namespace Dg
open PySem PySem.Spec PyProof.Rows L2 GxR Dz
/-! ### the law's own reckoning of turns -/
def ticksL (trs : List Str) (o l : Int) : List (Int × Int) := (tgts o l).map (fun t => (0, t)) ++ [(3, 0), (5, 0)] ++ (if o ≠ 0 then [(0, 0)] else []) ++ (if hasT trs "slips" = true ∧ o ∈ ([1, 2] : List Int) then (tgts o l).map (fun t => (1, t)) else []) ++ (if hasT trs "outs" = true then [(2, 0)] else []) ++ (if hasT trs "silent" = true then [(4, 0), (6, 0)] else [])
def turnsAtL (trs : List Str) (o l : Int) : List (List Int) := (ticksL trs o l).flatMap fun p => (List.range (stopsN trs)).map fun k : Nat => [o, l, p.1, p.2, (k : Int)]
def lastsOf (trs : List Str) (l o' : Int) : List Int := if l = 4 then [4 * (if decide (0 < o') = true then 1 else 0)] else driftSides trs l
def InS (o l : Int) : Prop := 0 ≤ o ∧ o ≤ 3 ∧ 0 ≤ l ∧ l ≤ 4
theorem ticksF7 (trs : List Str) : ticksF trs 7 = (if hasT trs "outs" = true then [(2, 0)] else []) ++ [(3, 0)] ++ (if hasT trs "silent" = true then [(4, 0)] else []) ++ [(5, 0)] ++ (if hasT trs "silent" = true then [(6, 0)] else []) := by
  have e : List.range 7 = [0, 1, 2, 3, 4, 5, 6] := rfl
  unfold ticksF
  rw [e]
  cases h1 : hasT trs "outs" <;> cases h2 : hasT trs "silent" <;> simp [isLetN, h1, h2, List.filter]
theorem ticks_perm (trs : List Str) {o : Int} (l : Int) (h : 0 ≤ o) : (ticksL trs o l).Perm (ticksP trs o l) := by
  have e : (o ≠ 0) = (0 < o) := propext ⟨fun q => by omega, fun q => by omega⟩
  unfold ticksL ticksP ticksE
  rw [ticksF7]
  simp only [e]
  rw [List.perm_iff_count]
  intro x
  simp only [List.count_append]
  have c2 : List.count x [((3 : Int), (0 : Int)), (5, 0)] = List.count x [((3 : Int), (0 : Int))] + List.count x [((5 : Int), (0 : Int))] := by rw [← List.count_append]; rfl
  have c3 : List.count x (if hasT trs "silent" = true then [((4 : Int), (0 : Int)), (6, 0)] else []) = List.count x (if hasT trs "silent" = true then [((4 : Int), (0 : Int))] else []) + List.count x (if hasT trs "silent" = true then [((6 : Int), (0 : Int))] else []) := by
    split
    · rw [← List.count_append]; rfl
    · rfl
  rw [c2, c3]
  omega
theorem turnsAt_perm (trs : List Str) {o : Int} (l : Int) (h : 0 ≤ o) : (turnsAtL trs o l).Perm (turnsAt trs o l) := List.Perm.flatMap_right _ (ticks_perm trs l h)
theorem dside_mem {trs : List Str} {s x : Int} (h : x ∈ driftSides trs s) : x = s ∨ (s ∈ ([1, 2] : List Int) ∧ (x = 0 ∨ x = 3 - s)) := by
  unfold driftSides at h
  rcases List.mem_cons.mp h with h | h
  · exact .inl h
  · by_cases z : s ∈ ([1, 2] : List Int)
    · rw [if_pos z] at h
      refine .inr ⟨z, ?_⟩
      rcases List.mem_append.mp h with h | h
      · split at h
        · exact .inl (by simpa using h)
        · cases h
      · split at h
        · exact .inr (by simpa using h)
        · cases h
    · rw [if_neg z] at h
      cases h
theorem drift_in {trs : List Str} {o l : Int} (h : InS o l) : ∀ s ∈ drift trs o l, InS s.1 s.2 := by
  intro s hs
  obtain ⟨h1, h2, h3, h4⟩ := h
  unfold drift at hs
  obtain ⟨o', ho', hs⟩ := List.mem_flatMap.mp hs
  have b1 : 0 ≤ o' ∧ o' ≤ 3 := by
    rcases dside_mem ho' with e | ⟨z, e⟩
    · omega
    · have z' : o = 1 ∨ o = 2 := by simpa using z
      omega
  split at hs
  · have e : s = (o', if 0 < o' then 4 else 0) := by simpa using hs
    subst e
    refine ⟨b1.1, b1.2, ?_, ?_⟩
    · show (0 : Int) ≤ if 0 < o' then 4 else 0
      split <;> decide
    · show (if 0 < o' then (4 : Int) else 0) ≤ 4
      split <;> decide
  · obtain ⟨l', hl', rfl⟩ := List.mem_map.mp hs
    refine ⟨b1.1, b1.2, ?_⟩
    show 0 ≤ l' ∧ l' ≤ 4
    rcases dside_mem hl' with e | ⟨z, e⟩
    · omega
    · have z' : l = 1 ∨ l = 2 := by simpa using z
      omega
theorem tgts_in {o l t : Int} (h : t ∈ tgts o l) : 0 ≤ t ∧ t ≤ 4 := by
  unfold tgts at h
  rcases List.mem_append.mp h with h | h
  · rcases List.mem_append.mp h with h | h
    · have : t = 2 ∨ t = 3 := by simpa using h
      omega
    · split at h
      · have : t = 1 := by simpa using h
        omega
      · cases h
  · split at h
    · have : t = 4 := by simpa using h
      omega
    · cases h
theorem ticks_in {trs : List Str} {o l : Int} {p : Int × Int} (h : p ∈ ticksP trs o l) : 0 ≤ p.1 ∧ p.1 ≤ 6 ∧ 0 ≤ p.2 ∧ p.2 ≤ 4 := by
  unfold ticksP ticksE at h
  rcases List.mem_append.mp h with h | h
  · rcases List.mem_append.mp h with h | h
    · rcases List.mem_append.mp h with h | h
      · obtain ⟨t, ht, rfl⟩ := List.mem_map.mp h
        have := tgts_in ht
        exact ⟨by show (0 : Int) ≤ 0; decide, by show (0 : Int) ≤ 6; decide, this.1, this.2⟩
      · split at h
        · have e : p = (0, 0) := by simpa using h
          subst e
          decide
        · cases h
    · split at h
      · obtain ⟨t, ht, rfl⟩ := List.mem_map.mp h
        have := tgts_in ht
        exact ⟨by show (0 : Int) ≤ 1; decide, by show (1 : Int) ≤ 6; decide, this.1, this.2⟩
      · cases h
  · unfold ticksF at h
    obtain ⟨k, hk, rfl⟩ := List.mem_map.mp h
    have := List.mem_range.mp (List.mem_filter.mp hk).1
    refine ⟨?_, ?_, by show (0 : Int) ≤ 0; decide, by show (0 : Int) ≤ 4; decide⟩
    · show (0 : Int) ≤ (k : Int)
      omega
    · show (k : Int) ≤ 6
      omega
theorem turnsAt_mem {trs : List Str} {o l : Int} {t : List Int} : t ∈ turnsAt trs o l ↔ ∃ p ∈ ticksP trs o l, ∃ k : Nat, k < stopsN trs ∧ t = [o, l, p.1, p.2, (k : Int)] := by
  unfold turnsAt
  rw [List.mem_flatMap]
  constructor
  · rintro ⟨p, hp, h⟩
    obtain ⟨k, hk, rfl⟩ := List.mem_map.mp h
    exact ⟨p, hp, k, List.mem_range.mp hk, rfl⟩
  · rintro ⟨p, hp, k, hk, rfl⟩
    exact ⟨p, hp, List.mem_map.mpr ⟨k, List.mem_range.mpr hk, rfl⟩⟩
theorem bd5 {a b c d e : Int} (h1 : 0 ≤ a ∧ a < 16) (h2 : 0 ≤ b ∧ b < 16) (h3 : 0 ≤ c ∧ c < 16) (h4 : 0 ≤ d ∧ d < 16) (h5 : 0 ≤ e ∧ e < 16) : TS.Bd 16 [a, b, c, d, e] := fun m hm => by
  simp only [List.mem_cons, List.not_mem_nil, or_false] at hm
  rcases hm with rfl | rfl | rfl | rfl | rfl <;> assumption
theorem turnsAt_bd {trs : List Str} {o l : Int} (h : InS o l) : ∀ t ∈ turnsAt trs o l, t.length = 5 ∧ TS.Bd 16 t := by
  intro t ht
  obtain ⟨p, hp, k, hk, rfl⟩ := turnsAt_mem.mp ht
  obtain ⟨q1, q2, q3, q4⟩ := ticks_in hp
  obtain ⟨h1, h2, h3, h4⟩ := h
  have := stopsN_le trs
  exact ⟨rfl, bd5 (by omega) (by omega) (by omega) (by omega) (by omega)⟩
theorem raw_bd {trs : List Str} {o l : Int} (h : InS o l) : ∀ t ∈ (drift trs o l).flatMap (fun s => turnsAt trs s.1 s.2), t.length = 5 ∧ TS.Bd 16 t := by
  intro t ht
  obtain ⟨s, hs, ht⟩ := List.mem_flatMap.mp ht
  exact turnsAt_bd (drift_in h s hs) t ht
theorem turnsL_mem {trs : List Str} {o l : Int} {t : List Int} : t ∈ turnsL trs o l ↔ ∃ s ∈ drift trs o l, t ∈ turnsAt trs s.1 s.2 := by
  unfold turnsL
  rw [(srtT_perm 16 _).mem_iff, List.mem_flatMap]
theorem turnsL_bd {trs : List Str} {o l : Int} (h : InS o l) : ∀ t ∈ turnsL trs o l, t.length = 5 ∧ TS.Bd 16 t := fun t ht => raw_bd h t ((srtT_perm 16 _).mem_iff.mp ht)
theorem turnsL_len (trs : List Str) (o l : Int) : (turnsL trs o l).length ≤ 1200 := by
  unfold turnsL
  rw [(srtT_perm 16 _).length_eq]
  have h := fm_len (f := fun s : Int × Int => turnsAt trs s.1 s.2) (fun s => turnsAt_len trs s.1 s.2) (drift trs o l)
  have := drift_len trs o l
  omega
def rawL (trs : List Str) (o l : Int) : List (List Int) := (driftSides trs o).flatMap fun o' => (lastsOf trs l o').flatMap fun l' => turnsAtL trs o' l'
theorem flatMap_perm {α β : Type} {f g : α → List β} : ∀ {xs : List α}, (∀ x ∈ xs, (f x).Perm (g x)) → (xs.flatMap f).Perm (xs.flatMap g)
  | [], _ => .refl _
  | x :: xs, h => by
    rw [List.flatMap_cons, List.flatMap_cons]
    exact (h x List.mem_cons_self).append (flatMap_perm fun y hy => h y (List.mem_cons_of_mem _ hy))
theorem raw_perm {trs : List Str} {o l : Int} (h : InS o l) : (rawL trs o l).Perm ((drift trs o l).flatMap fun s => turnsAt trs s.1 s.2) := by
  have e : (drift trs o l).flatMap (fun s => turnsAt trs s.1 s.2) = (driftSides trs o).flatMap fun o' => (lastsOf trs l o').flatMap fun l' => turnsAt trs o' l' := by
    unfold drift
    rw [List.flatMap_assoc]
    congr 1
    funext o'
    unfold lastsOf
    split
    · by_cases z : 0 < o'
      · rw [if_pos z, decide_eq_true z]; rfl
      · rw [if_neg z, decide_eq_false z]; rfl
    · rw [List.flatMap_map]
  rw [e]
  refine flatMap_perm fun o' ho' => flatMap_perm fun l' _ => turnsAt_perm trs l' ?_
  obtain ⟨h1, h2, _⟩ := h
  rcases dside_mem ho' with q | ⟨z, q⟩
  · omega
  · have z' : o = 1 ∨ o = 2 := by simpa using z
    omega
theorem rawL_srt {trs : List Str} {o l : Int} (h : InS o l) : srtT 16 (rawL trs o l) = turnsL trs o l := srtT_congr (raw_bd h) (raw_perm h)
theorem ticksL_len (trs : List Str) {o : Int} (l : Int) (h : 0 ≤ o) : (ticksL trs o l).length ≤ 16 := by
  rw [(ticks_perm trs l h).length_eq]
  exact ticksP_len trs o l
end Dg

namespace Dg
open PySem PySem.Spec PyProof.Rows L2 GxR Dz
section
variable {P : Program} {w : World} {K : PySem.W.Frag} {mg : Str → Option Value} {base : Heap} {T : List Addr}
def pTurnsAt (ss : List Dz.Slot) (O : OH) (d : D) (O' : OH) : Prop := ∃ o l trs, ss = [.dat (pD (o, l)), .dat (sL trs)] ∧ d = tiL (turnsAt trs o l) ∧ O' = O
theorem scTurnsAt : FnScope ["situation", "troubles", "over", "last", "tick", "target", "stops"] ["situation", "troubles"] (defScope s_turns_at) := ⟨rfl, rfl, rfl, by decide +kernel, rfl, by decide +kernel, by decide +kernel⟩
theorem snocP (xs : List (Int × Int)) (x : Int × Int) : xs.map pD ++ [pD x] = (xs ++ [x]).map pD := by
  rw [List.map_append]
  rfl
theorem appP (xs ys : List (Int × Int)) : xs.map pD ++ ys.map pD = (xs ++ ys).map pD := List.map_append.symm
theorem tt_eq (trs : List Str) (o l : Int) (ps : List (Int × Int)) (m : Nat) : ((ps.map pD).flatMap fun d => match d with | .tup [x, y] => (List.range m).map (fun k : Nat => D.tup [.int o, .int l, x, y, .int (k : Int)]) | _ => []) = (ps.flatMap fun p => (List.range m).map fun k : Nat => [o, l, p.1, p.2, (k : Int)]).map tI := by
  rw [List.flatMap_map, List.map_flatMap]
  congr 1
  funext p
  rw [List.map_map]
  rfl
theorem ok_turnsat {f : Addr} {fd : FuncData} {cdv : Value} (F : FunC K "turns_at" "turns_at" s_turns_at f fd cdv) (L : Blt mg) (G1 : HasF P w K mg base CX0 2 "ticks_at" ["over", "last", "troubles"] (spF T K pTicks)) (G2 : HasF P w K mg base CX0 1 "stops_bound" ["troubles"] (spF T K pStopsB)) :
    FnOk P w K mg base CX0 3 f fd ["situation", "troubles"] (spF T K pTurnsAt) := by
  refine fn_ok (CE := (0 : Addr)) (R := pTurnsAt) F scTurnsAt (fun ss O d O' ⟨x, y, n, h, _⟩ => by rw [h]; rfl) fun A outer s H E ss O d O' hr h => ?_
  obtain ⟨o, l, trs, h1, h2, h3⟩ := h
  subst h1 h2 h3
  have hr1 := hr.mono (show 1 ≤ 2 by decide)
  refine ds_cons (d1_unpack (ds := [.int o, .int l]) (is := [2, 3]) (de_var 0) rfl (by repeat' (first | exact Dz.Names.nil | refine Dz.Names.cons rfl (by first | exact Or.inl rfl | exact Or.inr rfl) (by first | exact .inl rfl | exact .inr rfl) rfl ?_)) ?_ scTurnsAt.nd)
  refine ds_one (d1_ret (s := .dat (tiL (turnsAt trs o l))) (DE.dv (DE.cast (de_lc2 (i1 := 4) (i2 := 5) (i3 := 6) (n1 := "tick") (n2 := "target") (n3 := "stops") (ds := (ticksP trs o l).map pD) (O1 := O') (fun x y k => D.tup [.int o, .int l, x, y, .int (k : Int)]) (stopsN trs) (by have := stopsN_le trs; omega) (by rw [List.length_map]; have := ticksP_len trs o l; omega)
    (de_callH G1 hr (da_d (de_var 2) (da_d (de_var 3) (da_d (de_var 1) da_nil))) ⟨o, l, trs, rfl, rfl, rfl⟩) (fun d hd => by obtain ⟨p, _, rfl⟩ := List.mem_map.mp hd; exact ⟨_, _, rfl⟩) scTurnsAt.nd (blkOk_by rfl)
    (fun s H C cl fp => by repeat' (first | exact Dz.Names.nil | refine Dz.Names.cons rfl (by first | exact Or.inl rfl | exact Or.inr rfl) (by first | exact .inl rfl | exact .inr rfl) rfl ?_))
    (fun x y _ s H C cl fp => de_callH G2 hr1 (da_d (de_var 1) da_nil) ⟨trs, rfl, rfl, rfl⟩)
    (fun x y j _ _ s H C cl fp => de_tup (ds := [.int o, .int l, x, y, .int (j : Int)]) (da_d (de_var 2) (da_d (de_var 3) (da_d (de_var 4) (da_d (de_var 5) (da_d (de_var 6) da_nil))))) (by show 5 ≤ 10000; decide)) L.range) (congrArg D.lst (tt_eq trs o l _ _)))) ⟨rfl, rfl⟩)

def pTurns (ss : List Dz.Slot) (O : OH) (d : D) (O' : OH) : Prop := ∃ o l trs, ss = [.dat (pD (o, l)), .dat (sL trs)] ∧ InS o l ∧ d = tiL (turnsL trs o l) ∧ O' = O
theorem scTurns : FnScope ["situation", "troubles", "found", "situation_now"] ["situation", "troubles"] (defScope s_turns) := ⟨rfl, rfl, rfl, by decide +kernel, rfl, by decide +kernel, by decide +kernel⟩
theorem ok_turns {f : Addr} {fd : FuncData} {cdv : Value} (F : FunC K "turns" "turns" s_turns f fd cdv) (L : Blt mg) (G1 : HasF P w K mg base CX0 2 "drifted" ["situation", "troubles"] (spF T K pDrift)) (G2 : HasF P w K mg base CX0 3 "turns_at" ["situation", "troubles"] (spF T K pTurnsAt)) :
    FnOk P w K mg base CX0 4 f fd ["situation", "troubles"] (spF T K pTurns) := by
  refine fn_ok (CE := (0 : Addr)) (R := pTurns) F scTurns (fun ss O d O' ⟨x, y, n, h, _⟩ => by rw [h]; rfl) fun A outer s H E ss O d O' hr h => ?_
  obtain ⟨o, l, trs, h1, hin, h2, h3⟩ := h
  subst h1 h2 h3
  let g : Int × Int → List (List Int) := fun s => turnsAt trs s.1 s.2
  refine ds_cons (d1_own 2 (ss := []) da_nil (fun p hp => ?_) scTurns.nd)
  refine ds_mid (fun ρ' O2 => (∃ s3, ρ' = [.dat (pD (o, l)), .dat (sL trs), .val (.ref p), s3]) ∧ O2 = put O' p (lO (((drift trs o l).flatMap g).map tI)))
    (d1_forL (ds := (drift trs o l).map pD) 3 (fun j ρ' O2 => (∃ s3, ρ' = [.dat (pD (o, l)), .dat (sL trs), .val (.ref p), s3]) ∧ O2 = put O' p (lO ((((drift trs o l).take j).flatMap g).map tI)))
      (de_callH G1 (hr.mono (by decide)) (da_d (de_var 0) (da_d (de_var 1) da_nil)) ⟨o, l, trs, rfl, rfl, rfl⟩) ⟨⟨_, rfl⟩, rfl⟩ scTurns.nd ?_ ?_ PassesOwn.never) ?_
  · rintro j d ρ' O2 hj ⟨⟨s3, rfl⟩, rfl⟩
    obtain ⟨s, hs, rfl⟩ := at_map hj
    have l1 := fm_len (f := g) (fun s => turnsAt_len trs s.1 s.2) ((drift trs o l).take j)
    have l2 : ((drift trs o l).take j).length ≤ 9 := by have := drift_len trs o l; rw [List.length_take]; omega
    have l3 := turnsAt_len trs s.1 s.2
    refine ds_one (d1_ext 2 rfl (de_callH G2 hr (da_d (de_var 3) (da_d (de_var 1) da_nil)) ⟨s.1, s.2, trs, rfl, rfl, rfl⟩) (by rw [List.length_map, List.length_map]; omega) ⟨⟨_, rfl⟩, ?_⟩)
    rw [fm_take hs, List.map_append]
  · rintro ρ' O2 ⟨⟨s3, rfl⟩, rfl⟩
    refine ⟨⟨_, rfl⟩, ?_⟩
    rw [List.length_map, List.take_length]
  rintro ρ' O2 ⟨⟨s3, rfl⟩, rfl⟩
  exact ds_ice 2 rfl hp (ds_one (d1_ret (s := .dat (tiL (turnsL trs o l))) (DE.dv (de_srtT (d := 5) (B := 16) (nss := (drift trs o l).flatMap g) (by decide) L.sorted (raw_bd hin) (de_var 2))) ⟨rfl, rfl⟩))

/-! ### the law's own -/
theorem scLTgts : FnScope ["over", "last", "out"] ["over", "last"] (defScope s_law_targets) := ⟨rfl, rfl, rfl, by decide +kernel, rfl, by decide +kernel, by decide +kernel⟩
theorem ok_ltgts {f : Addr} {fd : FuncData} {cdv : Value} (F : FunC K "_law_targets" "_law_targets" s_law_targets f fd cdv) : FnOk P w K mg base CX0 1 f fd ["over", "last"] (spF T K pTgts) := by
  refine fn_ok (CE := (0 : Addr)) (R := pTgts) F scLTgts (fun ss O d O' ⟨x, n, h, _⟩ => by rw [h]; rfl) fun A outer s H E ss O d O' hr h => ?_
  obtain ⟨o, l, h1, h2, h3⟩ := h
  subst h1 h2 h3
  refine ds_cons (d1_own 2 (ss := [.dat (.int 2), .dat (.int 3)]) (da_d de_int (da_d de_int da_nil)) (fun p hp => ?_) scLTgts.nd (by show 2 ≤ 10000; decide))
  show DS T _ _ _ [.dat (.int o), .dat (.int l), .val (.ref p)] (put O' p (lO [.int 2, .int 3])) _
  refine ds_mid (fun ρ' O2 => ρ' = [.dat (.int o), .dat (.int l), .val (.ref p)] ∧ O2 = put O' p (lO (([2, 3] ++ (if l ∈ ([1, 2, 3] : List Int) then [1] else []) : List Int).map .int))) (d1_if (p := decide (l ∈ ([1, 2, 3] : List Int))) (DT.cast (dt_inT (ds := [1, 2, 3].map .int) hr (by rfl) (by rfl) (de_var 1) (de_tup (ds := [.int 1, .int 2, .int 3]) (da_d de_int (da_d de_int (da_d de_int da_nil))))) (in_ints [1, 2, 3] l)) (fun z => ds_one (d1_app 2 rfl de_int (by show 2 < 100000; decide) ⟨rfl, by rw [if_pos (of_decide_eq_true z)]; rfl⟩)) fun z => ds_nil ⟨rfl, by rw [if_neg (of_decide_eq_false z)]; rfl⟩) ?_
  rintro ρ' O2 ⟨rfl, rfl⟩
  have la : ([2, 3] ++ (if l ∈ ([1, 2, 3] : List Int) then [1] else []) : List Int).length ≤ 3 := by split <;> simp
  have e : tgts o l = ([2, 3] ++ (if l ∈ ([1, 2, 3] : List Int) then [1] else []) : List Int) ++ (if o ≠ 3 ∧ l ≠ 3 then [4] else []) := rfl
  generalize ([2, 3] ++ (if l ∈ ([1, 2, 3] : List Int) then [1] else []) : List Int) = acc at la e
  refine ds_mid (fun ρ' O2 => ρ' = [.dat (.int o), .dat (.int l), .val (.ref p)] ∧ O2 = put O' p (lO ((tgts o l).map .int))) (d1_if (p := !decide (o = 3) && !decide (l = 3)) (DW.dt (dw_and (DT.cast (dt_ne (x := .int o) (y := .int 3) hr (by rfl) (by rfl) (de_var 0) de_int) (by rw [deq_int])) fun _ => dw_and1 (DT.cast (dt_ne (x := .int l) (y := .int 3) hr (by rfl) (by rfl) (de_var 1) de_int) (by rw [deq_int])))) (fun z => ds_one (d1_app 2 rfl de_int (by rw [List.length_map]; omega) ⟨rfl, ?_⟩)) fun z => ds_nil ⟨rfl, ?_⟩) ?_
  · have z' : o ≠ 3 ∧ l ≠ 3 := by simpa using z
    rw [e, if_pos z', List.map_append]
    rfl
  · have z' : ¬ (o ≠ 3 ∧ l ≠ 3) := by
      rintro ⟨z1, z2⟩
      simp [z1, z2] at z
    rw [e, if_neg z', List.append_nil]
  rintro ρ' O2 ⟨rfl, rfl⟩
  exact ds_ice 2 rfl hp (ds_one (d1_ret (s := .dat (iL (tgts o l))) (DE.dv (de_var 2)) ⟨rfl, rfl⟩))

def pLTurnsAt (ss : List Dz.Slot) (O : OH) (d : D) (O' : OH) : Prop := ∃ o l trs, ss = [.dat (.int o), .dat (.int l), .dat (sL trs)] ∧ 0 ≤ o ∧ d = tiL (turnsAtL trs o l) ∧ O' = O
theorem scLTurnsAt : FnScope ["over", "last", "troubles", "ticks", "many", "out", "tick", "target", "stops"] ["over", "last", "troubles"] (defScope s_law_turns_at) := ⟨rfl, rfl, rfl, by decide +kernel, rfl, by decide +kernel, by decide +kernel⟩
theorem ok_lturnsat {f : Addr} {fd : FuncData} {cdv : Value} (F : FunC K "_law_turns_at" "_law_turns_at" s_law_turns_at f fd cdv) (L : Blt mg) (G : HasF P w K mg base CX0 1 "_law_targets" ["over", "last"] (spF T K pTgts)) :
    FnOk P w K mg base CX0 2 f fd ["over", "last", "troubles"] (spF T K pLTurnsAt) := by
  refine fn_ok (CE := (0 : Addr)) (R := pLTurnsAt) F scLTurnsAt (fun ss O d O' ⟨x, y, n, h, _⟩ => by rw [h]; rfl) fun A outer s H E ss O d O' hr h => ?_
  obtain ⟨o, l, trs, h1, ho, h2, h3⟩ := h
  subst h1 h2 h3
  have tl := tgts_len o l
  have lc : ∀ (c : Int) {O : OH} {ρ : List Dz.Slot}, True := fun _ {_ _} => True.intro
  have e1 : ∀ c : Int, ((tgts o l).map D.int).filterMap (fun d => some (D.tup [.int c, d])) = ((tgts o l).map fun t => (c, t)).map pD := fun c => by
    rw [filterMap_all (f := fun d => some (D.tup [.int c, d])) (g := D.int) (u := fun t : Int => pD (c, t)) (fun a => rfl) (tgts o l), List.map_map]
    rfl
  refine ds_cons (d1_ownCat (xs := ((tgts o l).map fun t => ((0 : Int), t)).map pD) (ys := [pD (3, 0), pD (5, 0)]) (O1 := O') (O2 := O') 3 (by
    rw [← e1]
    exact de_lcL (O2 := O') (out := ((tgts o l).map D.int).filterMap fun d => some (D.tup [.int 0, d])) 7 (ds := (tgts o l).map .int) (de_callH G hr (da_d (de_var 0) (da_d (de_var 1) da_nil)) ⟨o, l, rfl, rfl, rfl⟩) (fun j acc' O2 => acc' = (((tgts o l).map D.int).take j).filterMap (fun d => some (D.tup [.int 0, d])) ∧ O2 = O') ⟨rfl, rfl⟩ (lc_pure (f := fun d => some (D.tup [.int 0, d])) fun d hd => .inl ⟨_, rfl, difs_nil, fun s H C cl fp => de_tup (ds := [.int 0, d]) (da_d de_int (da_d (de_var 7) da_nil)) (by show 2 ≤ 10000; decide)⟩) (fun acc' O2 h => by rw [List.take_length] at h; exact h) (by rw [List.length_map]; omega) scLTurnsAt.nd (blkOk_by rfl))
    (de_lst (ds := [pD (3, 0), pD (5, 0)]) (da_d (de_tup (ds := [.int 3, .int 0]) (da_d de_int (da_d de_int da_nil))) (da_d (de_tup (ds := [.int 5, .int 0]) (da_d de_int (da_d de_int da_nil))) da_nil))) (by rw [List.length_map, List.length_map]; show (tgts o l).length + 2 ≤ 100000; omega) (fun p hp => ?_) scLTurnsAt.nd)
  have r0 : ∀ s4 s5 s6 : Dz.Slot, True := fun _ _ _ => True.intro
  let ρ0 : List Dz.Slot := [.dat (.int o), .dat (.int l), .dat (sL trs), .val (.ref p), .no, .no, .no, .no, .no]
  let c0 : List (Int × Int) := (tgts o l).map (fun t => (0, t)) ++ [(3, 0), (5, 0)]
  let c1 : List (Int × Int) := c0 ++ (if o ≠ 0 then [(0, 0)] else [])
  let c2 : List (Int × Int) := c1 ++ (if hasT trs "slips" = true ∧ o ∈ ([1, 2] : List Int) then (tgts o l).map (fun t => (1, t)) else [])
  let c3 : List (Int × Int) := c2 ++ (if hasT trs "outs" = true then [(2, 0)] else [])
  have l0 : c0.length ≤ 6 := by show ((tgts o l).map (fun t => ((0 : Int), t)) ++ [(3, 0), (5, 0)]).length ≤ 6; rw [List.length_append, List.length_map]; show (tgts o l).length + 2 ≤ 6; omega
  have l1 : c1.length ≤ 7 := by show (c0 ++ (if o ≠ 0 then [((0 : Int), (0 : Int))] else [])).length ≤ 7; rw [List.length_append]; split <;> simp <;> omega
  have l2 : c2.length ≤ 11 := by show (c1 ++ (if hasT trs "slips" = true ∧ o ∈ ([1, 2] : List Int) then (tgts o l).map (fun t => ((1 : Int), t)) else [])).length ≤ 11; rw [List.length_append]; split <;> simp <;> omega
  have l3 : c3.length ≤ 12 := by show (c2 ++ (if hasT trs "outs" = true then [((2 : Int), (0 : Int))] else [])).length ≤ 12; rw [List.length_append]; split <;> simp <;> omega
  have e4 : ticksL trs o l = c3 ++ (if hasT trs "silent" = true then [(4, 0), (6, 0)] else []) := rfl
  have s0 : ((tgts o l).map fun t => ((0 : Int), t)).map pD ++ [pD (3, 0), pD (5, 0)] = c0.map pD := by show _ = ((tgts o l).map (fun t => ((0 : Int), t)) ++ [(3, 0), (5, 0)]).map pD; rw [List.map_append]; rfl
  rw [s0]
  show DS T _ _ _ ρ0 (put O' p (lO (c0.map pD))) _
  refine ds_mid (fun ρ' O2 => ρ' = ρ0 ∧ O2 = put O' p (lO (c1.map pD))) (d1_if (p := !decide (o = 0)) (DT.cast (dt_ne (x := .int o) (y := .int 0) hr (by rfl) (by rfl) (de_var 0) de_int) (by rw [deq_int])) (fun z => ds_one (d1_app 3 rfl (de_tup (ds := [.int 0, .int 0]) (da_d de_int (da_d de_int da_nil))) (by rw [List.length_map]; omega) ⟨rfl, ?_⟩)) fun z => ds_nil ⟨rfl, ?_⟩) ?_
  · have z' : o ≠ 0 := by simpa using z
    show _ = put O' p (lO ((c0 ++ (if o ≠ 0 then [((0 : Int), (0 : Int))] else [])).map pD))
    rw [if_pos z']
    exact congrArg (fun z => put O' p (lO z)) (snocP c0 (0, 0))
  · have z' : ¬ o ≠ 0 := by simpa using z
    show _ = put O' p (lO ((c0 ++ (if o ≠ 0 then [((0 : Int), (0 : Int))] else [])).map pD))
    rw [if_neg z', List.append_nil]
  rintro ρ' O2 ⟨rfl, rfl⟩
  refine ds_mid (fun ρ' O2 => ρ' = ρ0 ∧ O2 = put O' p (lO (c2.map pD))) (d1_if (p := hasT trs "slips" && decide (o ∈ ([1, 2] : List Int))) (DW.dt (dw_and (DT.cast (dt_inL (ds := trs.map .str) hr (by rfl) (oks_strs trs 32) de_str (de_var 2)) (in_strs trs _)) fun _ => dw_and1 (DT.cast (dt_inT (ds := [1, 2].map .int) hr (by rfl) (by rfl) (de_var 0) (de_tup (ds := [.int 1, .int 2]) (da_d de_int (da_d de_int da_nil)))) (in_ints [1, 2] o))))
      (fun z => ds_one (d1_ext (ds := ((tgts o l).map fun t => ((1 : Int), t)).map pD) 3 rfl (by
        rw [← e1]
        exact de_lcL (O2 := put O' p (lO (c1.map pD))) (out := ((tgts o l).map D.int).filterMap fun d => some (D.tup [.int 1, d])) 7 (ds := (tgts o l).map .int) (de_callH G hr (da_d (de_var 0) (da_d (de_var 1) da_nil)) ⟨o, l, rfl, rfl, rfl⟩) (fun j acc' O2 => acc' = (((tgts o l).map D.int).take j).filterMap (fun d => some (D.tup [.int 1, d])) ∧ O2 = put O' p (lO (c1.map pD))) ⟨rfl, rfl⟩ (lc_pure (f := fun d => some (D.tup [.int 1, d])) fun d hd => .inl ⟨_, rfl, difs_nil, fun s H C cl fp => de_tup (ds := [.int 1, d]) (da_d de_int (da_d (de_var 7) da_nil)) (by show 2 ≤ 10000; decide)⟩) (fun acc' O2 h => by rw [List.take_length] at h; exact h) (by rw [List.length_map]; omega) scLTurnsAt.nd (blkOk_by rfl)) (by rw [List.length_map, List.length_map, List.length_map]; omega) ⟨rfl, ?_⟩)) fun z => ds_nil ⟨rfl, ?_⟩) ?_
  · have z' : hasT trs "slips" = true ∧ o ∈ ([1, 2] : List Int) := by simpa using z
    show _ = put O' p (lO ((c1 ++ (if hasT trs "slips" = true ∧ o ∈ ([1, 2] : List Int) then (tgts o l).map (fun t => ((1 : Int), t)) else [])).map pD))
    rw [if_pos z']
    exact congrArg (fun z => put O' p (lO z)) (appP c1 _)
  · have z' : ¬ (hasT trs "slips" = true ∧ o ∈ ([1, 2] : List Int)) := by
      rintro ⟨z1, z2⟩
      rw [z1, decide_eq_true z2] at z
      cases z
    show _ = put O' p (lO ((c1 ++ (if hasT trs "slips" = true ∧ o ∈ ([1, 2] : List Int) then (tgts o l).map (fun t => ((1 : Int), t)) else [])).map pD))
    rw [if_neg z', List.append_nil]
  rintro ρ' O2 ⟨rfl, rfl⟩
  refine ds_mid (fun ρ' O2 => ρ' = ρ0 ∧ O2 = put O' p (lO (c3.map pD))) (d1_if (p := hasT trs "outs") (DT.cast (dt_inL (ds := trs.map .str) hr (by rfl) (oks_strs trs 32) de_str (de_var 2)) (in_strs trs _)) (fun z => ds_one (d1_app 3 rfl (de_tup (ds := [.int 2, .int 0]) (da_d de_int (da_d de_int da_nil))) (by rw [List.length_map]; omega) ⟨rfl, ?_⟩)) fun z => ds_nil ⟨rfl, ?_⟩) ?_
  · show _ = put O' p (lO ((c2 ++ (if hasT trs "outs" = true then [((2 : Int), (0 : Int))] else [])).map pD))
    rw [if_pos z]
    exact congrArg (fun z => put O' p (lO z)) (snocP c2 (2, 0))
  · show _ = put O' p (lO ((c2 ++ (if hasT trs "outs" = true then [((2 : Int), (0 : Int))] else [])).map pD))
    rw [if_neg (by rw [z]; decide), List.append_nil]
  rintro ρ' O2 ⟨rfl, rfl⟩
  refine ds_mid (fun ρ' O2 => ρ' = ρ0 ∧ O2 = put O' p (lO ((ticksL trs o l).map pD))) (d1_if (p := hasT trs "silent") (DT.cast (dt_inL (ds := trs.map .str) hr (by rfl) (oks_strs trs 32) de_str (de_var 2)) (in_strs trs _)) (fun z => ds_one (d1_ext (ds := [pD (4, 0), pD (6, 0)]) 3 rfl (de_lst (ds := [pD (4, 0), pD (6, 0)]) (da_d (de_tup (ds := [.int 4, .int 0]) (da_d de_int (da_d de_int da_nil))) (da_d (de_tup (ds := [.int 6, .int 0]) (da_d de_int (da_d de_int da_nil))) da_nil))) (by rw [List.length_map]; show c3.length + 2 ≤ 100000; omega) ⟨rfl, ?_⟩)) fun z => ds_nil ⟨rfl, ?_⟩) ?_
  · rw [e4, if_pos z]
    exact congrArg (fun z => put O' p (lO z)) (appP c3 [(4, 0), (6, 0)])
  · rw [e4, if_neg (by rw [z]; decide), List.append_nil]
  rintro ρ' O2 ⟨rfl, rfl⟩
  refine ds_ice 3 rfl hp ?_
  have tkl := ticksL_len trs l ho
  generalize hticks : ticksL trs o l = ticks at tkl
  show DS T _ _ _ [.dat (.int o), .dat (.int l), .dat (sL trs), .dat (pL ticks), .no, .no, .no, .no, .no] O' _
  refine ds_cons (d1_set 4 (s := .dat (.int 1)) (DE.dv de_int) ?_ scLTurnsAt.nd)
  refine ds_mid (fun ρ' O2 => ρ' = [.dat (.int o), .dat (.int l), .dat (sL trs), .dat (pL ticks), .dat (.int (stopsN trs : Int)), .no, .no, .no, .no] ∧ O2 = O') (d1_if (p := hasT trs "stops") (DT.cast (dt_inL (ds := trs.map .str) hr (by rfl) (oks_strs trs 32) de_str (de_var 2)) (in_strs trs _)) (fun z => ds_one (d1_set 4 (s := .dat (.int 8)) (DE.dv de_int) ⟨?_, rfl⟩ scLTurnsAt.nd)) fun z => ds_nil ⟨?_, rfl⟩) ?_
  · have e : stopsN trs = 8 := by unfold stopsN; rw [if_pos z]
    rw [e]
    rfl
  · have e : stopsN trs = 1 := by unfold stopsN; rw [if_neg (by rw [z]; decide)]
    rw [e]
    rfl
  rintro ρ' O2 ⟨rfl, e2⟩
  subst O2
  have hsn := stopsN_le trs
  have eT : turnsAtL trs o l = ticks.flatMap fun p => (List.range (stopsN trs)).map fun k : Nat => [o, l, p.1, p.2, (k : Int)] := by unfold turnsAtL; rw [hticks]
  rw [eT]
  generalize stopsN trs = m at hsn
  let g : Int × Int → List (List Int) := fun p => (List.range m).map fun k : Nat => [o, l, p.1, p.2, (k : Int)]
  have gl : ∀ q, (g q).length ≤ 8 := fun q => by show ((List.range m).map fun k : Nat => [o, l, q.1, q.2, (k : Int)]).length ≤ 8; rw [List.length_map, List.length_range]; exact hsn
  refine ds_cons (d1_own 5 (ss := []) da_nil (fun p2 hp2 => ?_) scLTurnsAt.nd)
  refine ds_mid (fun ρ' O2 => (∃ s6, ρ' = [.dat (.int o), .dat (.int l), .dat (sL trs), .dat (pL ticks), .dat (.int (m : Int)), .val (.ref p2), s6, .no, .no]) ∧ O2 = put O' p2 (lO ((ticks.flatMap g).map tI)))
    (d1_forL (ds := ticks.map pD) 6 (fun j ρ' O2 => (∃ s6, ρ' = [.dat (.int o), .dat (.int l), .dat (sL trs), .dat (pL ticks), .dat (.int (m : Int)), .val (.ref p2), s6, .no, .no]) ∧ O2 = put O' p2 (lO (((ticks.take j).flatMap g).map tI)))
      (de_var 3) ⟨⟨_, rfl⟩, rfl⟩ scLTurnsAt.nd ?_ ?_ PassesOwn.never) ?_
  · rintro j d ρ' O2 hj ⟨⟨s6, rfl⟩, rfl⟩
    obtain ⟨q, hq, rfl⟩ := at_map hj
    have k1 := fm_len (f := g) gl (ticks.take j)
    have k2 : (ticks.take j).length ≤ 16 := by rw [List.length_take]; omega
    have k3 := gl q
    generalize hO2 : put O' p2 (lO (((ticks.take j).flatMap g).map tI)) = O2
    have ec : (List.range m).map (fun k : Nat => tI [o, l, q.1, q.2, (k : Int)]) = (g q).map tI := by show _ = ((List.range m).map fun k : Nat => [o, l, q.1, q.2, (k : Int)]).map tI; rw [List.map_map]; rfl
    rw [← hO2]
    refine ds_one (d1_ext (ds := (g q).map tI) 5 rfl ?_ (by rw [List.length_map, List.length_map]; omega) ⟨⟨_, rfl⟩, ?_⟩)
    · rw [hO2, ← ec]
      exact de_lcR (O2 := O2) (out := (List.range m).map fun k : Nat => tI [o, l, q.1, q.2, (k : Int)]) 8 (m := (m : Int)) (de_var 4) (fun j acc O' => acc = (List.range j).map (fun k : Nat => tI [o, l, q.1, q.2, (k : Int)]) ∧ O' = O2) ⟨rfl, rfl⟩
        (lc_pureR (F := fun k : Nat => tI [o, l, q.1, q.2, (k : Int)]) fun k hk s H C cl fp => de_tup (ds := [.int o, .int l, .int q.1, .int q.2, .int (k : Int)]) (da_d (de_var 0) (da_d (de_var 1) (da_d (de_ixT (ds := [.int q.1, .int q.2]) (de_var 6) de_int rfl) (da_d (de_ixT (ds := [.int q.1, .int q.2]) (de_var 6) de_int rfl) (da_d (de_var 8) da_nil))))) (by show 5 ≤ 10000; decide))
        (fun acc O' h => by have e : (m : Int).toNat = m := by omega
                            rw [e] at h; exact h) (by omega) (by omega) L.range scLTurnsAt.nd (blkOk_by rfl)
    · rw [fm_take hq, List.map_append]
  · rintro ρ' O2 ⟨⟨s6, rfl⟩, rfl⟩
    refine ⟨⟨_, rfl⟩, ?_⟩
    rw [List.length_map, List.take_length]
  rintro ρ' O2 ⟨⟨s6, rfl⟩, rfl⟩
  exact ds_ice 5 rfl hp2 (ds_one (d1_ret (s := .dat (tiL (ticks.flatMap g))) (DE.dv (de_var 5)) ⟨rfl, rfl⟩))
end
end Dg

namespace Dg
open PySem PySem.Spec PyProof.Rows L2 GxR Dz
section
variable {P : Program} {w : World} {K : PySem.W.Frag} {mg : Str → Option Value} {base : Heap} {T : List Addr} {CE : Addr}
theorem lasts_len (trs : List Str) (l o' : Int) : (lastsOf trs l o').length ≤ 3 := by
  unfold lastsOf
  split
  · simp
  · exact dsides_len trs l
theorem lasts_mem {trs : List Str} {o l o' l' : Int} (h : InS o l) (h1 : o' ∈ driftSides trs o) : 0 ≤ o' := by
  obtain ⟨h1', h2, _⟩ := h
  rcases dside_mem h1 with q | ⟨z, q⟩
  · omega
  · have z' : o = 1 ∨ o = 2 := by simpa using z
    omega
theorem turnsAtL_len (trs : List Str) {o : Int} (l : Int) (h : 0 ≤ o) : (turnsAtL trs o l).length ≤ 128 := by
  rw [(turnsAt_perm trs l h).length_eq]
  exact turnsAt_len trs o l
theorem scLTurns : FnScope ["situation", "troubles", "out", "over", "lasts", "last"] ["situation", "troubles"] (defScope s_law_turns) := ⟨rfl, rfl, rfl, by decide +kernel, rfl, by decide +kernel, by decide +kernel⟩
theorem ok_lturns {f : Addr} {fd : FuncData} {cdv : Value} (F : FunC K "_law_turns" "_law_turns" s_law_turns f fd cdv) (L : Blt mg) (G1 : HasF P w K mg base CX0 1 "_law_ways" ["number", "troubles"] (spF T K pDsides)) (G2 : HasF P w K mg base CX0 2 "_law_turns_at" ["over", "last", "troubles"] (spF T K pLTurnsAt)) :
    FnOk P w K mg base CX0 3 f fd ["situation", "troubles"] (spF T K pTurns) := by
  refine fn_ok (CE := (0 : Addr)) (R := pTurns) F scLTurns (fun ss O d O' ⟨x, y, n, h, _⟩ => by rw [h]; rfl) fun A outer s H E ss O d O' hr h => ?_
  obtain ⟨o, l, trs, h1, hin, h2, h3⟩ := h
  subst h1 h2 h3
  have hr1 := hr.mono (show 1 ≤ 2 by decide)
  let g : Int → List (List Int) := fun o' => (lastsOf trs l o').flatMap fun l' => turnsAtL trs o' l'
  refine ds_cons (d1_own 2 (ss := []) da_nil (fun p hp => ?_) scLTurns.nd)
  refine ds_mid (fun ρ' O2 => (∃ s3 s4 s5, ρ' = [.dat (pD (o, l)), .dat (sL trs), .val (.ref p), s3, s4, s5]) ∧ O2 = put O' p (lO ((rawL trs o l).map tI)))
    (d1_forL (ds := (driftSides trs o).map .int) 3 (fun j ρ' O2 => (∃ s3 s4 s5, ρ' = [.dat (pD (o, l)), .dat (sL trs), .val (.ref p), s3, s4, s5]) ∧ O2 = put O' p (lO ((((driftSides trs o).take j).flatMap g).map tI)))
      (de_callH G1 hr1 (da_d (de_ixT (ds := [.int o, .int l]) (de_var 0) de_int rfl) (da_d (de_var 1) da_nil)) ⟨o, trs, rfl, rfl, rfl⟩) ⟨⟨_, _, _, rfl⟩, rfl⟩ scLTurns.nd ?_ ?_ PassesOwn.never) ?_
  · rintro j d ρ' O2 hj ⟨⟨s3, s4, s5, rfl⟩, rfl⟩
    obtain ⟨o', ho', rfl⟩ := at_map hj
    have o0 : 0 ≤ o' := lasts_mem (l' := 0) hin (List.mem_of_getElem? ho')
    have lg : ∀ o', 0 ≤ o' → (g o').length ≤ 384 := fun o' h0 => by
      have h1 := fm_len (f := fun l' => turnsAtL trs o' l') (fun l' => turnsAtL_len trs l' h0) (lastsOf trs l o')
      have h2 := lasts_len trs l o'
      show ((lastsOf trs l o').flatMap _).length ≤ 384
      omega
    have la : (((driftSides trs o).take j).flatMap g).length ≤ 1152 := by
      have e : ∀ xs : List Int, (∀ x ∈ xs, 0 ≤ x) → (xs.flatMap g).length ≤ xs.length * 384 := by
        intro xs
        induction xs with
        | nil => intro _; simp
        | cons x xs ih =>
          intro hx
          rw [List.flatMap_cons, List.length_append, List.length_cons, Nat.add_mul, Nat.one_mul]
          have q1 := ih fun y hy => hx y (List.mem_cons_of_mem _ hy)
          have q2 := lg x (hx x List.mem_cons_self)
          omega
      have q := e ((driftSides trs o).take j) fun x hx => lasts_mem (l' := 0) hin (List.mem_of_mem_take hx)
      have q2 : ((driftSides trs o).take j).length ≤ 3 := by have := dsides_len trs o; rw [List.length_take]; omega
      omega
    have et := fm_take (f := g) ho'
    generalize ((driftSides trs o).take j).flatMap g = acc at la et
    refine ds_cons (d1_set 4 (s := .dat (iL (driftSides trs l))) (DE.dv (de_callH G1 hr1 (da_d (de_ixT (ds := [.int o, .int l]) (de_var 0) de_int rfl) (da_d (de_var 1) da_nil)) ⟨l, trs, rfl, rfl, rfl⟩)) ?_ scLTurns.nd)
    refine ds_mid (fun ρ' O2 => ρ' = [.dat (pD (o, l)), .dat (sL trs), .val (.ref p), .dat (.int o'), .dat (iL (lastsOf trs l o')), s5] ∧ O2 = put O' p (lO (acc.map tI))) (d1_if (p := decide (l = 4)) (DT.cast (dt_eq (x := .int l) (y := .int 4) hr (by rfl) (by rfl) (de_ixT (ds := [.int o, .int l]) (de_var 0) de_int rfl) de_int) (deq_int _ _)) (fun z => ds_one (d1_set 4 (s := .dat (.lst [.int (4 * (if decide (0 < o') = true then 1 else 0))])) (DE.dv (de_lst (ds := [.int (4 * (if decide (0 < o') = true then 1 else 0))]) (da_d (de_mul (.inl (by omega)) de_int (de_intB L.int (de_gt (de_var 3) de_int))) da_nil) (by show 1 ≤ 10000; decide))) ⟨?_, rfl⟩ scLTurns.nd)) fun z => ds_nil ⟨?_, rfl⟩) ?_
    · have e : lastsOf trs l o' = [4 * (if decide (0 < o') = true then 1 else 0)] := by unfold lastsOf; rw [if_pos (of_decide_eq_true z)]
      rw [e]
      rfl
    · have e : lastsOf trs l o' = driftSides trs l := by unfold lastsOf; rw [if_neg (of_decide_eq_false z)]
      rw [e]
      rfl
    rintro ρ' O2 ⟨rfl, rfl⟩
    have ll := lasts_len trs l o'
    refine ds_one (d1_forL (ds := (lastsOf trs l o').map .int) 5 (fun k ρ' O2 => (∃ s5, ρ' = [.dat (pD (o, l)), .dat (sL trs), .val (.ref p), .dat (.int o'), .dat (iL (lastsOf trs l o')), s5]) ∧ O2 = put O' p (lO ((acc ++ ((lastsOf trs l o').take k).flatMap fun l' => turnsAtL trs o' l').map tI)))
      (de_var 4) ⟨⟨_, rfl⟩, by rw [List.take_zero, List.flatMap_nil, List.append_nil]⟩ scLTurns.nd ?_ ?_ PassesOwn.never)
    · rintro k d ρ' O2 hk ⟨⟨s5, rfl⟩, rfl⟩
      obtain ⟨l', hl', rfl⟩ := at_map hk
      have k1 := fm_len (f := fun l' => turnsAtL trs o' l') (fun l' => turnsAtL_len trs l' o0) ((lastsOf trs l o').take k)
      have k2 : ((lastsOf trs l o').take k).length ≤ 3 := by rw [List.length_take]; omega
      have k3 := turnsAtL_len trs l' o0
      refine ds_one (d1_ext 2 rfl (de_callH G2 hr (da_d (de_var 3) (da_d (de_var 5) (da_d (de_var 1) da_nil))) ⟨o', l', trs, rfl, o0, rfl, rfl⟩) (by rw [List.length_map, List.length_map, List.length_append]; omega) ⟨⟨_, rfl⟩, ?_⟩)
      rw [fm_take (f := fun l' => turnsAtL trs o' l') hl', ← List.append_assoc]
      simp only [List.map_append]
    · rintro ρ' O2 ⟨⟨s5, rfl⟩, rfl⟩
      refine ⟨⟨_, _, _, rfl⟩, ?_⟩
      rw [List.length_map, List.take_length, et]
  · rintro ρ' O2 ⟨⟨s3, s4, s5, rfl⟩, rfl⟩
    refine ⟨⟨_, _, _, rfl⟩, ?_⟩
    rw [List.length_map, List.take_length]
    rfl
  rintro ρ' O2 ⟨⟨s3, s4, s5, rfl⟩, rfl⟩
  refine ds_ice 2 rfl hp (ds_one (d1_ret (s := .dat (tiL (turnsL trs o l))) (DE.dv (DE.cast (de_srtT (d := 5) (B := 16) (nss := rawL trs o l) (by decide) L.sorted (fun t ht => raw_bd hin t ((raw_perm hin).mem_iff.mp ht)) (de_var 2)) ?_)) ⟨rfl, rfl⟩))
  rw [rawL_srt hin]
  rfl

/-! ### troubles, setups -/
def TRS : List Str := ["removals", "moves", "slips", "stops", "silent", "outs"]
theorem scLTroubles : FnScope ["box", "name"] ["box"] (defScope s_law_troubles) := ⟨rfl, rfl, rfl, by decide +kernel, rfl, by decide +kernel, by decide +kernel⟩
def troD (row : List Int) (a : Nat) : List Str := sel row 4 eq0 a TRS
def pLTroubles (ss : List Dz.Slot) (O : OH) (d : D) (O' : OH) : Prop := ∃ b row a, ss = [.val (.ref b)] ∧ O b = some (Bx row a) ∧ a ≤ 9000 ∧ d = sL (troD row a) ∧ O' = put O b (Bx row (a + 6))
theorem ok_ltroubles {f : Addr} {fd : FuncData} {cdv : Value} (F : FunC K "_law_troubles" "_law_troubles" s_law_troubles f fd cdv) (G : HasF P w K mg base CX0 1 "_law_draw" ["box", "many"] (spF T K pDraw)) : FnOk P w K mg base CX0 2 f fd ["box"] (spF T K pLTroubles) := by
  refine fn_ok (CE := (0 : Addr)) (R := pLTroubles) F scLTroubles (fun ss O d O' ⟨x, n, a, h, _⟩ => by rw [h]; rfl) fun A outer s H E ss O d O' hr h => ?_
  obtain ⟨b, row, a, h1, hO, ha, h2, h3⟩ := h
  subst h1 h2 h3
  have eO : O = put O b (Bx row (a + 0)) := (put_self hO).symm
  refine ds_one (d1_ret (s := .dat (sL (troD row a))) (O1 := put O b (Bx row (a + 6))) (DE.dv (DE.cast (de_lcL (out := sel row 4 eq0 a (TRS.map D.str)) (O2 := put O b (Bx row (a + 6))) (ds := TRS.map .str) 1 (de_lst (ds := TRS.map .str) (da_d de_str (da_d de_str (da_d de_str (da_d de_str (da_d de_str (da_d de_str da_nil))))))) (fun j acc O2 => acc = sel row 4 eq0 a ((TRS.map D.str).take j) ∧ O2 = put O b (Bx row (a + j))) ⟨rfl, eO⟩ (draw_turn (p := eq0) fun j d hj => ⟨?_, fun s H C cl fp => de_var 1⟩) (fun acc O2 h => h) (by decide) scLTroubles.nd (blkOk_by rfl)) ?_)) ⟨rfl, rfl⟩)
  · have hj' : j < 6 := (List.getElem?_eq_some_iff.mp hj).1
    exact difs_one fun s H C cl fp => DT.cast (dt_eq hr (by rfl) (by rfl) (de_callH G hr (da_v (dv_var 0 rfl) (da_d de_int da_nil)) ⟨b, row, a + j, 4, rfl, put_same, by decide, by omega, rfl, by rw [put_put]⟩) de_int) (deq_int _ _)
  · rw [sel_map]
    rfl
theorem scLAll : FnScope [] [] (defScope s_law_all) := ⟨rfl, rfl, rfl, by decide +kernel, rfl, by decide +kernel, by decide +kernel⟩
def pLAll (ss : List Dz.Slot) (O : OH) (d : D) (O' : OH) : Prop := ss = [] ∧ d = sL TRS ∧ O' = O
theorem ok_lall {f : Addr} {fd : FuncData} {cdv : Value} (F : FunC K "_law_all" "_law_all" s_law_all f fd cdv) : FnOk P w K mg base CX0 1 f fd [] (spF T K pLAll) := by
  refine fn_ok (CE := (0 : Addr)) (R := pLAll) F scLAll (fun ss O d O' ⟨h, _⟩ => by rw [h]; rfl) fun A outer s H E ss O d O' hr h => ?_
  obtain ⟨h1, h2, h3⟩ := h
  subst h1 h2 h3
  exact ds_one (d1_ret (s := .dat (sL TRS)) (DE.dv (de_lst (ds := TRS.map .str) (da_d de_str (da_d de_str (da_d de_str (da_d de_str (da_d de_str (da_d de_str da_nil)))))))) ⟨rfl, rfl⟩)
end
end Dg

namespace Dg
open PySem PySem.Spec PyProof.Rows L2 GxR Dz
/-! ### setups that are made -/
def suI (CS : Addr) (p : Str) (ks sg : List Str) : D := insSetup CS (.str p) (.tup (ks.map .str)) (.tup (sg.map .str))
structure SuG (p : Str) (ks sg : List Str) : Prop where
  p : p ∈ PLACES
  k : ks.Sublist KINDS
  s : sg.Sublist SIGHTS
theorem pls_tup {ws : List Str} (h : ws.length ≤ 4000) : PlS (.tup (ws.map .str)) := ⟨by rw [List.length_map]; exact h, fun d hd => by
  obtain ⟨t, _, rfl⟩ := List.mem_map.mp hd
  exact .str t⟩
/-! ### elements, sides -/
def elAt (s e : Int) : Option Int := if s = 0 then none else if s = 3 then some 1 else some e
def oD : Option Int → D
  | none => .non
  | some i => .int i
def nmS (n : Int) : Str := if n = 0 then "gone" else if n = 1 then "outside" else if n = 2 then "inside" else "zone"
def SN : List Str := ["gone", "outside", "inside", "zone"]
def woz (z : Str) : Str := if z = "zone" then "inside" else z
def stepL (k : Int) (e : D) (s : Int) : List D := if k = 0 then [.str "point", e, .int s] else if k = 1 then [.str "slip", e, .int s] else if k = 2 then [.str "out", .int s] else if k = 3 then [.str "drop", .bl true, .int s] else if k = 4 then [.str "drop", .bl false, .int s] else if k = 5 then [.str "cancel", .bl true, .int s] else [.str "cancel", .bl false, .int s]
def T5 (o l k g s : Int) : D := tI [o, l, k, g, s]
def kd0 (o : Int) : List (Key × D) := [(.inl 0, .str "outside"), (.inl 1, .str "zone"), (.inl 2, .str (nmS o))]
def kdA (o l : Int) : List (Key × D) := kd0 o ++ (if l = 4 then [] else [(.inl 3, .str (nmS l))])
def sidesK (o l g : Int) : List (Key × D) := kdA o l ++ [(.inl 4, .str (if g = 2 then "outside" else "inside"))]
theorem k7 {k : Int} (h : 0 ≤ k ∧ k ≤ 6) : k = 0 ∨ k = 1 ∨ k = 2 ∨ k = 3 ∨ k = 4 ∨ k = 5 ∨ k = 6 := by omega
theorem k4 {k : Int} (h : 0 ≤ k ∧ k ≤ 3) : k = 0 ∨ k = 1 ∨ k = 2 ∨ k = 3 := by omega
theorem SN_at {n : Int} (h : 0 ≤ n ∧ n ≤ 3) : atI (SN.map D.str) n = some (.str (nmS n)) := by
  rcases k4 h with rfl | rfl | rfl | rfl <;> rfl
theorem SN_ix {n : Int} (h : 0 ≤ n ∧ n ≤ 3) : SN[n.toNat]? = some (nmS n) ∧ ∀ m, m < n.toNat → SN[m]? ≠ some (nmS n) := by
  rcases k4 h with rfl | rfl | rfl | rfl
  · exact ⟨rfl, fun m hm => absurd hm (by simp)⟩
  · refine ⟨rfl, fun m hm => ?_⟩
    have e : m = 0 := by have : m < 1 := hm; omega
    subst e
    decide
  · refine ⟨rfl, fun m hm => ?_⟩
    have e : m = 0 ∨ m = 1 := by have : m < 2 := hm; omega
    rcases e with rfl | rfl <;> decide
  · refine ⟨rfl, fun m hm => ?_⟩
    have e : m = 0 ∨ m = 1 ∨ m = 2 := by have : m < 3 := hm; omega
    rcases e with rfl | rfl | rfl <;> decide
theorem putKS_new {ss : List (Key × Dz.Slot)} {k : Key} {s : Dz.Slot} (h : (ss.any fun kv => decide (kv.1 = k)) = false) : putKS ss k s = ss ++ [(k, s)] := by
  unfold putKS
  rw [h]
  rfl
section
variable {P : Program} {w : World} {K : PySem.W.Frag} {mg : Str → Option Value} {base : Heap} {T : List Addr} {CE : Addr}
theorem scLMade : FnScope ["told"] ["told"] (defScope s_law_made) := ⟨rfl, rfl, rfl, by decide +kernel, rfl, by decide +kernel, by decide +kernel⟩
def pLMade (CS : Addr) : PR := fun ss O Rn Rx => ∃ p ks sg, ss = [.dat (.lst [.str p, .lst (ks.map .str), .lst (sg.map .str)])] ∧ SuG p ks sg ∧ Rn = (fun v O' => v = .dat (suI CS p ks sg) ∧ O' = O) ∧ Rx = fun _ _ => False
theorem ok_lmade {f g CS : Addr} {fd gd : FuncData} {cdv : Value} (F : FunC K "_law_made" "_law_made" s_law_made f fd cdv) (L : Blt mg) (M : Mk K CS g) (gS : mg "Setup" = some (.ref CS))
    (G : FnOk P w K mg base (L2.CX P w) 4 g gd ["self", "place", "kinds", "sights"] (spX T K CE (pSetup CS))) (bg : Binds K gd ["self", "place", "kinds", "sights"] []) :
    FnOk P w K mg base (L2.CX P w) 6 f fd ["told"] (spX T K CE (pLMade CS)) := by
  refine fn_okX (R := pLMade CS) F scLMade (fun ss O Rn Rx ⟨p, k, s, h, _⟩ => by rw [h]; rfl) fun A outer s H E ss O Rn Rx hr h => ?_
  obtain ⟨p, ks, sg, e1, hG, eN, eX⟩ := h
  subst e1 eN eX
  have kl : ks.length ≤ 5 := hG.k.length_le
  have sl : sg.length ≤ 3 := hG.s.length_le
  have kn : ks.Nodup := KINDS_nd.sublist hG.k
  have sn : sg.Nodup := SIGHTS_nd.sublist hG.s
  have ok : okSetup (.str p) (.tup (ks.map .str)) (.tup (sg.map .str)) = true := by
    unfold okSetup
    rw [isWord_mem, decide_eq_true hG.p, choice_T (fun k h => hG.k.subset h) kn, choice_T (fun k h => hG.s.subset h) sn]
    rfl
  refine ds_one (d1_retX (R := fun s' O' => s' = .dat (suI CS p ks sg) ∧ O' = O) (dvx_makeF (O1 := O) M G hr gS bg
    (da_d (d := .str p) (de_ixL (ds := [.str p, .lst (ks.map .str), .lst (sg.map .str)]) (de_var 0) de_int rfl) (da_d (d := .tup (ks.map .str)) (de_tupleL L.tuple (de_ixL (ds := [.str p, .lst (ks.map .str), .lst (sg.map .str)]) (de_var 0) de_int rfl)) (da_d (d := .tup (sg.map .str)) (de_tupleL L.tuple (de_ixL (ds := [.str p, .lst (ks.map .str), .lst (sg.map .str)]) (de_var 0) de_int rfl)) da_nil))) fun x hx => ?_) fun s' O' q => q)
  refine ⟨_, _, ⟨x, .str p, .tup (ks.map .str), .tup (sg.map .str), rfl, put_same, .str p, .tup _, pls_tup (by omega), .tup _, pls_tup (by omega), .inl ⟨ok, rfl, rfl⟩⟩, fun s' O' h => ?_, fun r O' h => h.elim⟩
  obtain ⟨q1, q2⟩ := h
  subst q1 q2
  refine ⟨rfl, [("place", .str p), ("kinds", .tup (ks.map .str)), ("sights", .tup (sg.map .str))], ?_, rfl, ?_⟩
  · rw [put_same]
    show some (OD.ins CS [("place", .dat (.str p)), ("kinds", .dat (.tup (orderD (ks.map .str) KINDS))), ("sights", .dat (.tup (orderD (sg.map .str) SIGHTS)))]) = _
    rw [order_sub hG.k KINDS_nd, order_sub hG.s SIGHTS_nd]
    rfl
  · rw [put_put, cut_put hx]

def pElAt (ss : List Dz.Slot) (O : OH) (d : D) (O' : OH) : Prop := ∃ s e, ss = [.dat (.int s), .dat (.int e)] ∧ d = oD (elAt s e) ∧ O' = O
theorem scElAt : FnScope ["side", "element"] ["side", "element"] (defScope s_element_at) := ⟨rfl, rfl, rfl, by decide +kernel, rfl, by decide +kernel, by decide +kernel⟩
theorem ok_elat {f : Addr} {fd : FuncData} {cdv uZ : Value} (F : FunC K "element_at" "element_at" s_element_at f fd cdv) (hZ : mg "ZONE" = some uZ) (kZ : kdB K 0 uZ (.int 1) = true) : FnOk P w K mg base CX0 1 f fd ["side", "element"] (spF T K pElAt) := by
  refine fn_ok (CE := (0 : Addr)) (R := pElAt) F scElAt (fun ss O d O' ⟨x, n, h, _⟩ => by rw [h]; rfl) fun A outer s H E ss O d O' hr h => ?_
  obtain ⟨x, e, h1, h2, h3⟩ := h
  subst h1 h2 h3
  refine ds_cons (d1_if (p := decide (x = 0)) (DT.cast (dt_eq (x := .int x) (y := .int 0) hr (by rfl) (by rfl) (de_var 0) de_int) (deq_int _ _)) (fun z => ?_) fun z => ds_nil ?_)
  · have z' := of_decide_eq_true z
    subst z'
    exact ds_one (d1_ret (s := .dat .non) (DE.dv de_non) ⟨rfl, rfl⟩)
  · have z' := of_decide_eq_false z
    refine ds_one (d1_ret (s := .dat (oD (elAt x e))) (DE.dv (de_if (p := decide (x = 3)) (DT.cast (dt_eq (x := .int x) (y := .int 3) hr (by rfl) (by rfl) (de_var 0) de_int) (deq_int _ _)) (fun q => ?_) fun q => ?_)) ⟨rfl, rfl⟩)
    · unfold elAt
      rw [if_neg z', if_pos (of_decide_eq_true q)]
      exact de_gk hZ kZ
    · unfold elAt
      rw [if_neg z', if_neg (of_decide_eq_false q)]
      exact de_var 1

def pTgB (ss : List Dz.Slot) (O : OH) (d : D) (O' : OH) : Prop := ∃ k e s, ss = [.dat (.tup (stepL k e s))] ∧ (0 ≤ k ∧ k ≤ 6) ∧ d = (if k < 2 then e else .non) ∧ O' = O
theorem scTgB : FnScope ["tick"] ["tick"] (defScope s_target_behind) := ⟨rfl, rfl, rfl, by decide +kernel, rfl, by decide +kernel, by decide +kernel⟩
def PS2 : List Str := ["point", "slip"]
theorem ok_tgb {f : Addr} {fd : FuncData} {cdv : Value} (F : FunC K "target_behind" "target_behind" s_target_behind f fd cdv) : FnOk P w K mg base CX0 1 f fd ["tick"] (spF T K pTgB) := by
  refine fn_ok (CE := (0 : Addr)) (R := pTgB) F scTgB (fun ss O d O' ⟨x, n, y, h, _⟩ => by rw [h]; rfl) fun A outer s H E ss O d O' hr h => ?_
  obtain ⟨k, e, st, h1, hk, h2, h3⟩ := h
  subst h1 h2 h3
  refine ds_one (d1_ret (s := .dat (if k < 2 then e else .non)) (DE.dv ?_) ⟨rfl, rfl⟩)
  rcases k7 hk with rfl | rfl | rfl | rfl | rfl | rfl | rfl
  · exact de_if (p := true) (DT.cast (dt_inT (x := .str "point") (ds := PS2.map .str) hr (by rfl) (by rfl) (de_ixT (ds := stepL 0 e st) (de_var 0) de_int rfl) (de_tup (ds := PS2.map .str) (da_d de_str (da_d de_str da_nil)))) (by decide +kernel)) (fun _ => de_ixT (ds := stepL 0 e st) (de_var 0) de_int rfl) fun z => by cases z
  · exact de_if (p := true) (DT.cast (dt_inT (x := .str "slip") (ds := PS2.map .str) hr (by rfl) (by rfl) (de_ixT (ds := stepL 1 e st) (de_var 0) de_int rfl) (de_tup (ds := PS2.map .str) (da_d de_str (da_d de_str da_nil)))) (by decide +kernel)) (fun _ => de_ixT (ds := stepL 1 e st) (de_var 0) de_int rfl) fun z => by cases z
  · exact de_if (p := false) (DT.cast (dt_inT (x := .str "out") (ds := PS2.map .str) hr (by rfl) (by rfl) (de_ixT (ds := stepL 2 e st) (de_var 0) de_int rfl) (de_tup (ds := PS2.map .str) (da_d de_str (da_d de_str da_nil)))) (by decide +kernel)) (fun z => by cases z) fun _ => de_non
  · exact de_if (p := false) (DT.cast (dt_inT (x := .str "drop") (ds := PS2.map .str) hr (by rfl) (by rfl) (de_ixT (ds := stepL 3 e st) (de_var 0) de_int rfl) (de_tup (ds := PS2.map .str) (da_d de_str (da_d de_str da_nil)))) (by decide +kernel)) (fun z => by cases z) fun _ => de_non
  · exact de_if (p := false) (DT.cast (dt_inT (x := .str "drop") (ds := PS2.map .str) hr (by rfl) (by rfl) (de_ixT (ds := stepL 4 e st) (de_var 0) de_int rfl) (de_tup (ds := PS2.map .str) (da_d de_str (da_d de_str da_nil)))) (by decide +kernel)) (fun z => by cases z) fun _ => de_non
  · exact de_if (p := false) (DT.cast (dt_inT (x := .str "cancel") (ds := PS2.map .str) hr (by rfl) (by rfl) (de_ixT (ds := stepL 5 e st) (de_var 0) de_int rfl) (de_tup (ds := PS2.map .str) (da_d de_str (da_d de_str da_nil)))) (by decide +kernel)) (fun z => by cases z) fun _ => de_non
  · exact de_if (p := false) (DT.cast (dt_inT (x := .str "cancel") (ds := PS2.map .str) hr (by rfl) (by rfl) (de_ixT (ds := stepL 6 e st) (de_var 0) de_int rfl) (de_tup (ds := PS2.map .str) (da_d de_str (da_d de_str da_nil)))) (by decide +kernel)) (fun z => by cases z) fun _ => de_non

def pTickOf (ss : List Dz.Slot) (O : OH) (d : D) (O' : OH) : Prop := ∃ o l k g s e, ss = [.dat (T5 o l k g s), .dat e] ∧ (0 ≤ k ∧ k ≤ 6) ∧ d = .tup (stepL k e s) ∧ O' = O
theorem scTickOf : FnScope ["turn", "element", "_", "tick", "stops"] ["turn", "element"] (defScope s_tick_of) := ⟨rfl, rfl, rfl, by decide +kernel, rfl, by decide +kernel, by decide +kernel⟩
theorem ok_tickof {f : Addr} {fd : FuncData} {cdv uP uS uT : Value} (F : FunC K "tick_of" "tick_of" s_tick_of f fd cdv) (hP : mg "POINT" = some uP) (kP : kdB K 0 uP (.int 0) = true) (hS : mg "SLIP" = some uS) (kS : kdB K 0 uS (.int 1) = true) (hT : mg "TICKS" = some uT) (kT : kdB K 2 uT (.tup TICKSD) = true) :
    FnOk P w K mg base CX0 1 f fd ["turn", "element"] (spF T K pTickOf) := by
  refine fn_ok (CE := (0 : Addr)) (R := pTickOf) F scTickOf (fun ss O d O' ⟨_, _, _, _, _, _, h, _⟩ => by rw [h]; rfl) fun A outer s H E ss O d O' hr h => ?_
  obtain ⟨o, l, k, g, st, e, h1, hk, h2, h3⟩ := h
  subst h1 h2 h3
  refine ds_cons (d1_unpack (ds := [.int o, .int l, .int k, .int g, .int st]) (is := [2, 2, 3, 2, 4]) (de_var 0) rfl (by repeat' (first | exact Dz.Names.nil | refine Dz.Names.cons rfl (by first | exact Or.inl rfl | exact Or.inr rfl) (by first | exact .inl rfl | exact .inr rfl) rfl ?_)) ?_ scTickOf.nd)
  show DS T _ _ _ [.dat (T5 o l k g st), .dat e, .dat (.int g), .dat (.int k), .dat (.int st)] O' _
  rcases k7 hk with rfl | rfl | rfl | rfl | rfl | rfl | rfl
  · exact ds_cons (d1_if (p := true) (DT.cast (dt_inT (x := .int 0) (ds := [0, 1].map .int) hr (by rfl) (by rfl) (de_var 3) (de_tup (ds := [.int 0, .int 1]) (da_d (de_gk hP kP) (da_d (de_gk hS kS) da_nil)))) (by rw [in_ints]; decide)) (fun _ => ds_one (d1_ret (s := .dat (.tup (stepL 0 e st))) (DE.dv (de_tup (ds := stepL 0 e st) (DA.cast (da_starT (ds := [.str "point"]) (de_ixT (ds := TICKSD) (de_gk hT kT) (de_var 3) rfl) (da_d (de_var 1) (da_d (de_var 4) da_nil))) rfl) (by show 3 ≤ 10000; decide))) ⟨rfl, rfl⟩)) fun z => by cases z)
  · exact ds_cons (d1_if (p := true) (DT.cast (dt_inT (x := .int 1) (ds := [0, 1].map .int) hr (by rfl) (by rfl) (de_var 3) (de_tup (ds := [.int 0, .int 1]) (da_d (de_gk hP kP) (da_d (de_gk hS kS) da_nil)))) (by rw [in_ints]; decide)) (fun _ => ds_one (d1_ret (s := .dat (.tup (stepL 1 e st))) (DE.dv (de_tup (ds := stepL 1 e st) (DA.cast (da_starT (ds := [.str "slip"]) (de_ixT (ds := TICKSD) (de_gk hT kT) (de_var 3) rfl) (da_d (de_var 1) (da_d (de_var 4) da_nil))) rfl) (by show 3 ≤ 10000; decide))) ⟨rfl, rfl⟩)) fun z => by cases z)
  · exact ds_cons (d1_if (p := false) (DT.cast (dt_inT (x := .int 2) (ds := [0, 1].map .int) hr (by rfl) (by rfl) (de_var 3) (de_tup (ds := [.int 0, .int 1]) (da_d (de_gk hP kP) (da_d (de_gk hS kS) da_nil)))) (by rw [in_ints]; decide)) (fun z => by cases z) fun _ => ds_nil (ds_one (d1_ret (s := .dat (.tup (stepL 2 e st))) (DE.dv (de_tup (ds := stepL 2 e st) (DA.cast (da_starT (ds := [.str "out"]) (de_ixT (ds := TICKSD) (de_gk hT kT) (de_var 3) rfl) (da_d (de_var 4) da_nil)) rfl) (by show 2 ≤ 10000; decide))) ⟨rfl, rfl⟩)))
  · exact ds_cons (d1_if (p := false) (DT.cast (dt_inT (x := .int 3) (ds := [0, 1].map .int) hr (by rfl) (by rfl) (de_var 3) (de_tup (ds := [.int 0, .int 1]) (da_d (de_gk hP kP) (da_d (de_gk hS kS) da_nil)))) (by rw [in_ints]; decide)) (fun z => by cases z) fun _ => ds_nil (ds_one (d1_ret (s := .dat (.tup (stepL 3 e st))) (DE.dv (de_tup (ds := stepL 3 e st) (DA.cast (da_starT (ds := [.str "drop", .bl true]) (de_ixT (ds := TICKSD) (de_gk hT kT) (de_var 3) rfl) (da_d (de_var 4) da_nil)) rfl) (by show 3 ≤ 10000; decide))) ⟨rfl, rfl⟩)))
  · exact ds_cons (d1_if (p := false) (DT.cast (dt_inT (x := .int 4) (ds := [0, 1].map .int) hr (by rfl) (by rfl) (de_var 3) (de_tup (ds := [.int 0, .int 1]) (da_d (de_gk hP kP) (da_d (de_gk hS kS) da_nil)))) (by rw [in_ints]; decide)) (fun z => by cases z) fun _ => ds_nil (ds_one (d1_ret (s := .dat (.tup (stepL 4 e st))) (DE.dv (de_tup (ds := stepL 4 e st) (DA.cast (da_starT (ds := [.str "drop", .bl false]) (de_ixT (ds := TICKSD) (de_gk hT kT) (de_var 3) rfl) (da_d (de_var 4) da_nil)) rfl) (by show 3 ≤ 10000; decide))) ⟨rfl, rfl⟩)))
  · exact ds_cons (d1_if (p := false) (DT.cast (dt_inT (x := .int 5) (ds := [0, 1].map .int) hr (by rfl) (by rfl) (de_var 3) (de_tup (ds := [.int 0, .int 1]) (da_d (de_gk hP kP) (da_d (de_gk hS kS) da_nil)))) (by rw [in_ints]; decide)) (fun z => by cases z) fun _ => ds_nil (ds_one (d1_ret (s := .dat (.tup (stepL 5 e st))) (DE.dv (de_tup (ds := stepL 5 e st) (DA.cast (da_starT (ds := [.str "cancel", .bl true]) (de_ixT (ds := TICKSD) (de_gk hT kT) (de_var 3) rfl) (da_d (de_var 4) da_nil)) rfl) (by show 3 ≤ 10000; decide))) ⟨rfl, rfl⟩)))
  · exact ds_cons (d1_if (p := false) (DT.cast (dt_inT (x := .int 6) (ds := [0, 1].map .int) hr (by rfl) (by rfl) (de_var 3) (de_tup (ds := [.int 0, .int 1]) (da_d (de_gk hP kP) (da_d (de_gk hS kS) da_nil)))) (by rw [in_ints]; decide)) (fun z => by cases z) fun _ => ds_nil (ds_one (d1_ret (s := .dat (.tup (stepL 6 e st))) (DE.dv (de_tup (ds := stepL 6 e st) (DA.cast (da_starT (ds := [.str "cancel", .bl false]) (de_ixT (ds := TICKSD) (de_gk hT kT) (de_var 3) rfl) (da_d (de_var 4) da_nil)) rfl) (by show 3 ≤ 10000; decide))) ⟨rfl, rfl⟩)))

def pWoz (ss : List Dz.Slot) (O : OH) (d : D) (O' : OH) : Prop := ∃ z, ss = [.dat (.str z)] ∧ d = .str (woz z) ∧ O' = O
theorem scWoz : FnScope ["side"] ["side"] (defScope s_without_zone) := ⟨rfl, rfl, rfl, by decide +kernel, rfl, by decide +kernel, by decide +kernel⟩
theorem ok_woz {f : Addr} {fd : FuncData} {cdv : Value} (F : FunC K "without_zone" "without_zone" s_without_zone f fd cdv) : FnOk P w K mg base CX0 1 f fd ["side"] (spF T K pWoz) := by
  refine fn_ok (CE := (0 : Addr)) (R := pWoz) F scWoz (fun ss O d O' ⟨x, h, _⟩ => by rw [h]; rfl) fun A outer s H E ss O d O' hr h => ?_
  obtain ⟨z, h1, h2, h3⟩ := h
  subst h1 h2 h3
  refine ds_one (d1_ret (s := .dat (.str (woz z))) (DE.dv (de_if (p := decide (z = "zone")) (DT.cast (dt_eq (x := .str z) (y := .str "zone") hr (by rfl) (by rfl) (de_var 0) de_str) (deq_str _ _)) (fun q => ?_) fun q => ?_)) ⟨rfl, rfl⟩)
  · unfold woz
    rw [if_pos (of_decide_eq_true q)]
    exact de_str
  · unfold woz
    rw [if_neg (of_decide_eq_false q)]
    exact de_var 0

def pNoS (ss : List Dz.Slot) (O : OH) (d : D) (O' : OH) : Prop := ∃ kd e n, ss = [.dat (.dic kd), .dat (oD e)] ∧ ((e = none ∧ n = 0) ∨ ∃ i, e = some i ∧ (0 ≤ n ∧ n ≤ 3) ∧ (kd.find? fun kv => decide (kv.1 = (.inl i : Key))).map (·.2) = some (.str (nmS n))) ∧ d = .int n ∧ O' = O
theorem scNoS : FnScope ["sides", "element"] ["sides", "element"] (defScope s_number_of_side) := ⟨rfl, rfl, rfl, by decide +kernel, rfl, by decide +kernel, by decide +kernel⟩
theorem ok_nos {f aN : Addr} {fd : FuncData} {cdv : Value} (F : FunC K "number_of_side" "number_of_side" s_number_of_side f fd cdv) (hN : mg "SIDE_NAMES" = some (.ref aN)) (kN : kdB K 1 (.ref aN) (.tup (SN.map .str)) = true) (nN : ndB K (.ref aN) = true) : FnOk P w K mg base CX0 1 f fd ["sides", "element"] (spF T K pNoS) := by
  refine fn_ok (CE := (0 : Addr)) (R := pNoS) F scNoS (fun ss O d O' ⟨_, _, _, h, _⟩ => by rw [h]; rfl) fun A outer s H E ss O d O' hr h => ?_
  obtain ⟨kd, e, n, h1, hc, h2, h3⟩ := h
  subst h1 h2 h3
  refine ds_one (d1_ret (s := .dat (.int n)) (DE.dv ?_) ⟨rfl, rfl⟩)
  rcases hc with ⟨rfl, rfl⟩ | ⟨i, rfl, hn, hk⟩
  · exact de_if (p := true) (DT.cast (dt_isN (x := .non) (de_var 1) de_non) rfl) (fun _ => de_int) fun z => by cases z
  · refine de_if (p := false) (DT.cast (dt_isN (x := .int i) (de_var 1) de_non) rfl) (fun z => by cases z) fun _ => ?_
    obtain ⟨q1, q2⟩ := SN_ix hn
    have e : n = (n.toNat : Int) := by omega
    generalize hm : n.toNat = m at q1 q2 e
    subst e
    have h1 : (bx P w K mg base ["sides", "element"] "number_of_side" s_number_of_side f cdv A outer s H E).mg "SIDE_NAMES" = some (.ref aN) := hN
    exact de_tindex (n := 0) h1 kN nN (de_dgetI hr (de_var 0) (de_var 1) hk) q1 q2
end
end Dg

namespace Dg
open PySem PySem.Spec PyProof.Rows L2 GxR Dz
/-! ### events -/
abbrev Ev := Str × Int × Option Int
def evD (e : Ev) : D := .tup [.str e.1, .int e.2.1, oD e.2.2]
def ptE (x : Int) (c : Option Int) : List Ev := if some x = c then [("over", x, none)] else match c with
  | none => [("enter", x, none), ("over", x, none)]
  | some y => [("enter", x, some y), ("leave", y, some x), ("over", x, none)]
def evA (z : Str) (c : Option Int) : List Ev := match c with
  | none => []
  | some y => [(if z = "drop" then "drop" else "leave", y, none)]
def evB (b : Bool) : List Ev := if b = true then [("end", 0, none)] else []
def evT (z : Str) (b : Bool) (c : Option Int) : List Ev := evA z c ++ evB b
def evP (k x : Int) (c : Option Int) : List Ev := if k = 0 then ptE x c else if k = 1 then [("enter", x, c), ("over", x, none)] else if k = 2 then evT "out" false c else if k = 3 then evT "drop" true c else if k = 4 then evT "drop" false c else if k = 5 then evT "cancel" true c else evT "cancel" false c
def dl (kd : List (Key × D)) (i : Int) : Option D := (kd.find? fun kv => decide (kv.1 = (.inl i : Key))).map (·.2)
def reachP (p : Str) (t : Int) (sd : Str) (st : Bool) : Bool := if p = "capture" then true else if p = "root" then decide (t = 0) || !st else decide (t = 1) || (decide (sd = "inside") && !st)
def ENDS : D := .tup [.str "end", .str "outside", .bl false, .str "none"]
def relS (sg : List Str) (sd : Int → Str) : Option Int → Str
  | none => "none"
  | some r => if ("related" : Str) ∈ sg then woz (sd r) else "none"
def sigP (sg : List Str) (sd : Int → Str) (ev : Ev) (ent : Option Int) : D := if ev.1 = "end" then ENDS else
  .tup [.str ev.1, .str (if ("own" : Str) ∈ sg then sd ev.2.1 else woz (sd ev.2.1)), .bl (decide (("same" : Str) ∈ sg) && decide (some ev.2.1 = ent)), .str (relS sg sd ev.2.2)]
def stB (s : Int) (j : Nat) : Bool := decide (s / 2 ^ j % 2 = 1)
def heardP (p : Str) (ks : List Str) (sd : Int → Str) (s : Int) (j : Nat) (ev : Ev) : Bool := decide (ev.1 ∈ ks) && reachP p ev.2.1 (sd ev.2.1) (stB s j)
def hearStep (p : Str) (ks sg : List Str) (sd : Int → Str) (s : Int) (j : Nat) (ev : Ev) (q : List D × Option Int) : List D × Option Int :=
  if heardP p ks sd s j ev = true then (q.1 ++ [sigP sg sd ev q.2], if ev.1 = "enter" then some ev.2.1 else q.2) else q
def hearP (p : Str) (ks sg : List Str) (sd : Int → Str) (s : Int) (evs : List Ev) (ent : Option Int) : Nat → List D × Option Int
  | 0 => ([], ent)
  | j + 1 => match evs[j]? with
    | some ev => hearStep p ks sg sd s j ev (hearP p ks sg sd s evs ent j)
    | none => hearP p ks sg sd s evs ent j
theorem hearP_len {p : Str} {ks sg : List Str} {sd : Int → Str} {s : Int} {evs : List Ev} {ent : Option Int} : ∀ j, (hearP p ks sg sd s evs ent j).1.length ≤ j
  | 0 => Nat.le_refl _
  | j + 1 => by
    have h := hearP_len (p := p) (ks := ks) (sg := sg) (sd := sd) (s := s) (evs := evs) (ent := ent) j
    unfold hearP
    split
    · unfold hearStep
      split
      · rw [List.length_append, List.length_singleton]; omega
      · omega
    · omega
theorem hearP_at {p : Str} {ks sg : List Str} {sd : Int → Str} {s : Int} {evs : List Ev} {ent : Option Int} {j : Nat} {ev : Ev} (h : evs[j]? = some ev) : hearP p ks sg sd s evs ent (j + 1) = hearStep p ks sg sd s j ev (hearP p ks sg sd s evs ent j) := by
  rw [hearP, h]
theorem deq_oD (x : Int) (c : Option Int) : deq (.int x) (oD c) = decide (some x = c) := by
  cases c with
  | none => rfl
  | some y =>
    show deq (.int x) (.int y) = _
    rw [deq_int]
    by_cases h : x = y
    · subst h; simp
    · have h' : ¬ (some x = some y) := fun z => h (Option.some.inj z)
      rw [decide_eq_false h, decide_eq_false h']
theorem ok_oD (c : Option Int) : D.ok 32 (oD c) = true := by cases c <;> rfl
theorem isNon_oD (c : Option Int) : (oD c).isNon = c.isNone := by cases c <;> rfl
def sM : Option Int → D := oD
section
variable {P : Program} {w : World} {K : PySem.W.Frag} {mg : Str → Option Value} {base : Heap} {T : List Addr} {CE : Addr}
def pSidesIn (ss : List Dz.Slot) (O : OH) (d : D) (O' : OH) : Prop := ∃ o l k g s, ss = [.dat (T5 o l k g s)] ∧ InS o l ∧ d = .dic (sidesK o l g) ∧ O' = O
theorem scSidesIn : FnScope ["turn", "over", "last", "_", "target", "sides"] ["turn"] (defScope s_sides_in) := ⟨rfl, rfl, rfl, by decide +kernel, rfl, by decide +kernel, by decide +kernel⟩
theorem ok_sidesin {f : Addr} {fd : FuncData} {cdv uR uZ uO uL uN uC uS : Value} (F : FunC K "sides_in" "sides_in" s_sides_in f fd cdv) (hR : mg "ROOT" = some uR) (kR : kdB K 0 uR (.int 0) = true) (hZ : mg "ZONE" = some uZ) (kZ : kdB K 0 uZ (.int 1) = true) (hO : mg "OVER_ELEMENT" = some uO) (kO : kdB K 0 uO (.int 2) = true) (hL : mg "LAST_ELEMENT" = some uL) (kL : kdB K 0 uL (.int 3) = true)
    (hN : mg "NEW_ELEMENT" = some uN) (kN : kdB K 0 uN (.int 4) = true) (hC : mg "CURRENT" = some uC) (kC : kdB K 0 uC (.int 4) = true) (hS : mg "SIDE_NAMES" = some uS) (kS : kdB K 1 uS (.tup (SN.map .str)) = true) : FnOk P w K mg base CX0 1 f fd ["turn"] (spF T K pSidesIn) := by
  refine fn_ok (CE := (0 : Addr)) (R := pSidesIn) F scSidesIn (fun ss O d O' ⟨_, _, _, _, _, h, _⟩ => by rw [h]; rfl) fun A outer s H E ss O d O' hr h => ?_
  obtain ⟨o, l, k, g, st, h1, ⟨i1, i2, i3, i4⟩, h2, h3⟩ := h
  subst h1 h2 h3
  refine ds_cons (d1_unpack (ds := [.int o, .int l, .int k, .int g, .int st]) (is := [1, 2, 3, 4, 3]) (de_var 0) rfl (by repeat' (first | exact Dz.Names.nil | refine Dz.Names.cons rfl (by first | exact Or.inl rfl | exact Or.inr rfl) (by first | exact .inl rfl | exact .inr rfl) rfl ?_)) ?_ scSidesIn.nd)
  refine ds_cons (d1_ownDic (kd := [(.inl 0, .str "outside"), (.inl 1, .str "zone"), (.inl 2, .str (nmS o))]) 5 (dp_key (kx := .int 0) keyI (de_gk hR kR) de_str (dp_key (kx := .int 1) keyI (de_gk hZ kZ) de_str (dp_key (kx := .int 2) keyI (de_gk hO kO) (de_ixT (ds := SN.map .str) (de_gk hS kS) (de_var 1) (SN_at ⟨i1, i2⟩)) dp_nil))) (fun p hp => ?_) scSidesIn.nd (by show ([Sum.inl 0, Sum.inl 1, Sum.inl 2] : List Key).Nodup; decide) (by show 3 ≤ 15; decide))
  let ρ0 : List Dz.Slot := [.dat (T5 o l k g st), .dat (.int o), .dat (.int l), .dat (.int st), .dat (.int g), .val (.ref p)]
  refine ds_mid (fun ρ' O2 => ρ' = ρ0 ∧ O2 = put O' p (.dic ((kdA o l).map fun q => (q.1, .dat q.2)))) (d1_if (p := !decide (l = 4)) (DT.cast (dt_ne (x := .int l) (y := .int 4) hr (by rfl) (by rfl) (de_var 2) (de_gk hC kC)) (by rw [deq_int])) (fun z => ?_) fun z => ds_nil ⟨rfl, ?_⟩) ?_
  · have z' : ¬ l = 4 := by simpa using z
    refine ds_one (d1_dput (k := .inl 3) (kx := .int 3) 5 hr rfl (DE.dv (de_ixT (ds := SN.map .str) (de_gk hS kS) (de_var 2) (SN_at ⟨i3, by omega⟩))) (de_gk hL kL) keyI put_same (by show 3 < 10000; decide) ⟨rfl, ?_⟩)
    rw [put_put, putKS_new (by rfl)]
    unfold kdA
    rw [if_neg z']
    rfl
  · have z' : l = 4 := by simpa using z
    unfold kdA
    rw [if_pos z']
    rfl
  rintro ρ' O2 ⟨rfl, rfl⟩
  have hany : (((kdA o l).map fun q => (q.1, Dz.Slot.dat q.2)).any fun kv => decide (kv.1 = (.inl 4 : Key))) = false := by
    unfold kdA
    split <;> rfl
  have hlen : ((kdA o l).map fun q => (q.1, Dz.Slot.dat q.2)).length < 10000 := by
    rw [List.length_map]
    unfold kdA
    split
    · show 3 < 10000; decide
    · show 4 < 10000; decide
  refine ds_cons (d1_dput (k := .inl 4) (kx := .int 4) (s := .dat (.str (if g = 2 then "outside" else "inside"))) 5 hr rfl (DE.dv (de_if (p := decide (g = 2)) (DT.cast (dt_eq (x := .int g) (y := .int 2) hr (by rfl) (by rfl) (de_var 4) de_int) (deq_int _ _)) (fun q => by rw [if_pos (of_decide_eq_true q)]; exact de_str) fun q => by rw [if_neg (of_decide_eq_false q)]; exact de_str)) (de_gk hN kN) keyI put_same hlen ?_)
  rw [put_put, putKS_new hany]
  have e : ((kdA o l).map fun q => (q.1, Dz.Slot.dat q.2)) ++ [((.inl 4 : Key), Dz.Slot.dat (.str (if g = 2 then "outside" else "inside")))] = (sidesK o l g).map fun q => (q.1, .dat q.2) := by
    unfold sidesK
    rw [List.map_append]
    rfl
  rw [e]
  refine ds_freezeDic 5 (kd := sidesK o l g) rfl put_same ?_
  rw [cut_put hp]
  exact ds_one (d1_ret (s := .dat (.dic (sidesK o l g))) (DE.dv (de_var 5)) ⟨rfl, rfl⟩)

def pPtE (ss : List Dz.Slot) (O : OH) (d : D) (O' : OH) : Prop := ∃ x c, ss = [.dat (.int x), .dat (oD c)] ∧ d = .lst ((ptE x c).map evD) ∧ O' = O
theorem scPtE : FnScope ["element", "current"] ["element", "current"] (defScope s_point_events) := ⟨rfl, rfl, rfl, by decide +kernel, rfl, by decide +kernel, by decide +kernel⟩
theorem ok_pte {f : Addr} {fd : FuncData} {cdv : Value} (F : FunC K "point_events" "point_events" s_point_events f fd cdv) : FnOk P w K mg base CX0 1 f fd ["element", "current"] (spF T K pPtE) := by
  refine fn_ok (CE := (0 : Addr)) (R := pPtE) F scPtE (fun ss O d O' ⟨_, _, h, _⟩ => by rw [h]; rfl) fun A outer s H E ss O d O' hr h => ?_
  obtain ⟨x, c, h1, h2, h3⟩ := h
  subst h1 h2 h3
  refine ds_cons (d1_if (p := decide (some x = c)) (DT.cast (dt_eq (x := .int x) (y := oD c) hr (by rfl) (ok_oD c) (de_var 0) (de_var 1)) (deq_oD x c)) (fun z => ?_) fun z => ds_nil ?_)
  · refine ds_one (d1_ret (s := .dat (.lst ((ptE x c).map evD))) (DE.dv ?_) ⟨rfl, rfl⟩)
    have e : ptE x c = [(("over" : Str), x, none)] := by unfold ptE; rw [if_pos (of_decide_eq_true z)]
    rw [e]
    exact de_lst (ds := [evD ("over", x, none)]) (da_d (de_tup (ds := [.str "over", .int x, .non]) (da_d de_str (da_d (de_var 0) (da_d de_non da_nil))) (by show 3 ≤ 10000; decide)) da_nil) (by show 1 ≤ 10000; decide)
  · cases c with
    | none =>
      refine ds_cons (d1_if (p := true) (DT.cast (dt_isN (x := .non) (de_var 1) de_non) rfl) (fun _ => ds_one (d1_ret (s := .dat (.lst ((ptE x none).map evD))) (DE.dv ?_) ⟨rfl, rfl⟩)) fun z => by cases z)
      exact de_lst (ds := [evD ("enter", x, none), evD ("over", x, none)]) (da_d (de_tup (ds := [.str "enter", .int x, .non]) (da_d de_str (da_d (de_var 0) (da_d de_non da_nil))) (by show 3 ≤ 10000; decide)) (da_d (de_tup (ds := [.str "over", .int x, .non]) (da_d de_str (da_d (de_var 0) (da_d de_non da_nil))) (by show 3 ≤ 10000; decide)) da_nil)) (by show 2 ≤ 10000; decide)
    | some y =>
      have e : ptE x (some y) = [(("enter" : Str), x, some y), (("leave" : Str), y, some x), (("over" : Str), x, none)] := by unfold ptE; rw [if_neg (of_decide_eq_false z)]
      rw [e]
      refine ds_cons (d1_if (p := false) (DT.cast (dt_isN (x := .int y) (de_var 1) de_non) rfl) (fun z => by cases z) fun _ => ds_nil (ds_one (d1_ret (s := .dat (.lst [evD ("enter", x, some y), evD ("leave", y, some x), evD ("over", x, none)])) (DE.dv ?_) ⟨rfl, rfl⟩)))
      exact de_lst (ds := [evD ("enter", x, some y), evD ("leave", y, some x), evD ("over", x, none)]) (da_d (de_tup (ds := [.str "enter", .int x, .int y]) (da_d de_str (da_d (de_var 0) (da_d (de_var 1) da_nil))) (by show 3 ≤ 10000; decide)) (da_d (de_tup (ds := [.str "leave", .int y, .int x]) (da_d de_str (da_d (de_var 1) (da_d (de_var 0) da_nil))) (by show 3 ≤ 10000; decide)) (da_d (de_tup (ds := [.str "over", .int x, .non]) (da_d de_str (da_d (de_var 0) (da_d de_non da_nil))) (by show 3 ≤ 10000; decide)) da_nil))) (by show 3 ≤ 10000; decide)

def pEvOf (ss : List Dz.Slot) (O : OH) (d : D) (O' : OH) : Prop := ∃ k e s x c, ss = [.dat (.tup (stepL k e s)), .dat (oD c)] ∧ (0 ≤ k ∧ k ≤ 6) ∧ (k < 2 → e = .int x) ∧ d = .lst ((evP k x c).map evD) ∧ O' = O
theorem scEvOf : FnScope ["tick", "current", "name", "events"] ["tick", "current"] (defScope s_events_of) := ⟨rfl, rfl, rfl, by decide +kernel, rfl, by decide +kernel, by decide +kernel⟩
theorem ok_evof {f : Addr} {fd : FuncData} {cdv uR : Value} (F : FunC K "events_of" "events_of" s_events_of f fd cdv) (hR : mg "ROOT" = some uR) (kR : kdB K 0 uR (.int 0) = true) (G : HasF P w K mg base CX0 1 "point_events" ["element", "current"] (spF T K pPtE)) : FnOk P w K mg base CX0 2 f fd ["tick", "current"] (spF T K pEvOf) := by
  refine fn_ok (CE := (0 : Addr)) (R := pEvOf) F scEvOf (fun ss O d O' ⟨_, _, _, _, _, h, _⟩ => by rw [h]; rfl) fun A outer s H E ss O d O' hr h => ?_
  obtain ⟨k, e, st, x, c, h1, hk, hx, h2, h3⟩ := h
  subst h1 h2 h3
  have tail : ∀ (L : List D) (z : Str) (b : Bool), atI L 0 = some (.str z) → (z = "out" ∧ b = false ∨ z ≠ "out" ∧ atI L 1 = some (.bl b)) → z ≠ "point" → z ≠ "slip" →
      DS T (bx P w K mg base ["tick", "current", "name", "events"] "events_of" s_events_of f cdv A outer s H E) 0 (defBody s_events_of) [.dat (.tup L), .dat (oD c), .no, .no] O' { nx := fun _ o => D.lst ((evT z b c).map evD) = .non ∧ o = O', rt := fun s o => s = .dat (.lst ((evT z b c).map evD)) ∧ o = O' } := by
    intro L z b h0 h1 n1 n2
    refine ds_cons (d1_set 2 (s := .dat (.str z)) (DE.dv (de_ixT (ds := L) (de_var 0) de_int h0)) ?_ scEvOf.nd)
    refine ds_cons (d1_if (p := false) (DT.cast (dt_eq (x := .str z) (y := .str "point") hr (by rfl) (by rfl) (de_var 2) de_str) (by rw [deq_str, decide_eq_false n1])) (fun z => by cases z) fun _ => ds_nil ?_)
    refine ds_cons (d1_if (p := false) (DT.cast (dt_eq (x := .str z) (y := .str "slip") hr (by rfl) (by rfl) (de_var 2) de_str) (by rw [deq_str, decide_eq_false n2])) (fun z => by cases z) fun _ => ds_nil ?_)
    refine ds_cons (d1_own 3 (ss := []) da_nil (fun p hp => ?_) scEvOf.nd)
    have l1 : (evA z c).length ≤ 1 := by cases c <;> simp [evA]
    have eT : evT z b c = evA z c ++ (if b = true then [(("end" : Str), (0 : Int), (none : Option Int))] else []) := rfl
    refine ds_mid (fun ρ' O2 => ρ' = [.dat (.tup L), .dat (oD c), .dat (.str z), .val (.ref p)] ∧ O2 = put O' p (lO ((evA z c).map evD))) ?_ ?_
    · cases c with
      | none => exact d1_if (p := false) (DT.cast (dt_notN (x := .non) (de_var 1) de_non) rfl) (fun z => by cases z) fun _ => ds_nil ⟨rfl, rfl⟩
      | some y => exact d1_if (p := true) (DT.cast (dt_notN (x := .int y) (de_var 1) de_non) rfl) (fun _ => ds_one (d1_app (acc := []) 3 rfl (de_tup (ds := [.str (if z = "drop" then "drop" else "leave"), .int y, .non]) (da_d (de_if (p := decide (z = "drop")) (DT.cast (dt_eq (x := .str z) (y := .str "drop") hr (by rfl) (by rfl) (de_var 2) de_str) (deq_str _ _)) (fun q => by rw [if_pos (of_decide_eq_true q)]; exact de_str) fun q => by rw [if_neg (of_decide_eq_false q)]; exact de_str) (da_d (de_var 1) (da_d de_non da_nil))) (by show 3 ≤ 10000; decide)) (by show 0 < 100000; decide) ⟨rfl, rfl⟩)) fun z => by cases z
    rintro ρ' O2 ⟨rfl, rfl⟩
    refine ds_mid (fun ρ' O2 => ρ' = [.dat (.tup L), .dat (oD c), .dat (.str z), .val (.ref p)] ∧ O2 = put O' p (lO ((evT z b c).map evD))) (d1_if (p := b) (DT.cast (DW.dt (dw_and (p := !decide (z = "out")) (q := b) (DT.cast (dt_ne (x := .str z) (y := .str "out") hr (by rfl) (by rfl) (de_var 2) de_str) (by rw [deq_str])) fun q => dw_and1 (dt_val (de_ixT (ds := L) (de_var 0) de_int ?_)))) ?_) (fun q => ds_one (d1_app 3 rfl (de_tup (ds := [.str "end", .int 0, .non]) (da_d de_str (da_d (de_gk hR kR) (da_d de_non da_nil))) (by show 3 ≤ 10000; decide)) (by rw [List.length_map]; omega) ⟨rfl, ?_⟩)) fun q => ds_nil ⟨rfl, ?_⟩) ?_
    · rcases h1 with ⟨e1, _⟩ | ⟨_, e2⟩
      · rw [e1] at q
        exact absurd q (by decide)
      · exact e2
    · rcases h1 with ⟨e1, e2⟩ | ⟨e1, _⟩
      · rw [e2, Bool.and_false]
      · rw [decide_eq_false e1]; rfl
    · rw [eT, if_pos q, List.map_append]
      rfl
    · rw [eT, if_neg (by rw [q]; decide), List.append_nil]
    rintro ρ' O2 ⟨rfl, rfl⟩
    exact ds_ice 3 rfl hp (ds_one (d1_ret (s := .dat (.lst ((evT z b c).map evD))) (DE.dv (de_var 3)) ⟨rfl, rfl⟩))
  rcases k7 hk with rfl | rfl | rfl | rfl | rfl | rfl | rfl
  · have ex := hx (by decide)
    subst ex
    refine ds_cons (d1_set 2 (s := .dat (.str "point")) (DE.dv (de_ixT (ds := stepL 0 (.int x) st) (de_var 0) de_int rfl)) ?_ scEvOf.nd)
    exact ds_cons (d1_if (p := true) (DT.cast (dt_eq (x := .str "point") (y := .str "point") hr (by rfl) (by rfl) (de_var 2) de_str) (by rw [deq_str]; rfl)) (fun _ => ds_one (d1_ret (s := .dat (.lst ((evP 0 x c).map evD))) (DE.dv (de_callH G hr (da_d (de_ixT (ds := stepL 0 (.int x) st) (de_var 0) de_int rfl) (da_d (de_var 1) da_nil)) ⟨x, c, rfl, rfl, rfl⟩)) ⟨rfl, rfl⟩)) fun z => by cases z)
  · have ex := hx (by decide)
    subst ex
    refine ds_cons (d1_set 2 (s := .dat (.str "slip")) (DE.dv (de_ixT (ds := stepL 1 (.int x) st) (de_var 0) de_int rfl)) ?_ scEvOf.nd)
    refine ds_cons (d1_if (p := false) (DT.cast (dt_eq (x := .str "slip") (y := .str "point") hr (by rfl) (by rfl) (de_var 2) de_str) (by rw [deq_str]; decide)) (fun z => by cases z) fun _ => ds_nil ?_)
    exact ds_cons (d1_if (p := true) (DT.cast (dt_eq (x := .str "slip") (y := .str "slip") hr (by rfl) (by rfl) (de_var 2) de_str) (by rw [deq_str]; rfl)) (fun _ => ds_one (d1_ret (s := .dat (.lst ((evP 1 x c).map evD))) (DE.dv (de_lst (ds := [evD ("enter", x, c), evD ("over", x, none)]) (da_d (de_tup (ds := [.str "enter", .int x, oD c]) (da_d de_str (da_d (de_ixT (ds := stepL 1 (.int x) st) (de_var 0) de_int rfl) (da_d (de_var 1) da_nil))) (by show 3 ≤ 10000; decide)) (da_d (de_tup (ds := [.str "over", .int x, .non]) (da_d de_str (da_d (de_ixT (ds := stepL 1 (.int x) st) (de_var 0) de_int rfl) (da_d de_non da_nil))) (by show 3 ≤ 10000; decide)) da_nil)) (by show 2 ≤ 10000; decide))) ⟨rfl, rfl⟩)) fun z => by cases z)
  · exact tail (stepL 2 e st) "out" false rfl (.inl ⟨rfl, rfl⟩) (by decide) (by decide)
  · exact tail (stepL 3 e st) "drop" true rfl (.inr ⟨by decide, rfl⟩) (by decide) (by decide)
  · exact tail (stepL 4 e st) "drop" false rfl (.inr ⟨by decide, rfl⟩) (by decide) (by decide)
  · exact tail (stepL 5 e st) "cancel" true rfl (.inr ⟨by decide, rfl⟩) (by decide) (by decide)
  · exact tail (stepL 6 e st) "cancel" false rfl (.inr ⟨by decide, rfl⟩) (by decide) (by decide)
end
end Dg

namespace Dg
open PySem PySem.Spec PyProof.Rows L2 GxR Dz
theorem deq_oo (a b : Option Int) : deq (oD a) (oD b) = decide (a = b) := by
  cases a with
  | some x => exact deq_oD x b
  | none => cases b <;> rfl
section
variable {P : Program} {w : World} {K : PySem.W.Frag} {mg : Str → Option Value} {base : Heap} {T : List Addr} {CE : Addr}
def pReach (ss : List Dz.Slot) (O : OH) (d : D) (O' : OH) : Prop := ∃ p t sd st, ss = [.dat (.str p), .dat (.int t), .dat (.str sd), .dat (.bl st)] ∧ d = .bl (reachP p t sd st) ∧ O' = O
theorem scReach : FnScope ["place", "target", "side", "stopped"] ["place", "target", "side", "stopped"] (defScope s_reaches) := ⟨rfl, rfl, rfl, by decide +kernel, rfl, by decide +kernel, by decide +kernel⟩
theorem ok_reach {f : Addr} {fd : FuncData} {cdv uR uZ : Value} (F : FunC K "reaches" "reaches" s_reaches f fd cdv) (hR : mg "ROOT" = some uR) (kR : kdB K 0 uR (.int 0) = true) (hZ : mg "ZONE" = some uZ) (kZ : kdB K 0 uZ (.int 1) = true) : FnOk P w K mg base CX0 1 f fd ["place", "target", "side", "stopped"] (spF T K pReach) := by
  refine fn_ok (CE := (0 : Addr)) (R := pReach) F scReach (fun ss O d O' ⟨_, _, _, _, h, _⟩ => by rw [h]; rfl) fun A outer s H E ss O d O' hr h => ?_
  obtain ⟨p, t, sd, st, h1, h2, h3⟩ := h
  subst h1 h2 h3
  refine ds_cons (d1_if (p := decide (p = "capture")) (DT.cast (dt_eq (x := .str p) (y := .str "capture") hr (by rfl) (by rfl) (de_var 0) de_str) (deq_str _ _)) (fun z => ds_one (d1_ret (s := .dat (.bl true)) (DE.dv de_bl) ⟨by unfold reachP; rw [if_pos (of_decide_eq_true z)], rfl⟩)) fun z => ds_nil ?_)
  have z' := of_decide_eq_false z
  refine ds_cons (d1_if (p := decide (p = "root")) (DT.cast (dt_eq (x := .str p) (y := .str "root") hr (by rfl) (by rfl) (de_var 0) de_str) (deq_str _ _)) (fun z => ds_one (d1_ret (s := .dat (.bl (decide (t = 0) || !st))) (DE.dv (de_or (DE.cast (de_eq (x := .int t) (y := .int 0) hr (by rfl) (by rfl) (de_var 1) (de_gk hR kR)) (by rw [deq_int])) fun _ => de_one (de_not (de_var 3)))) ⟨by unfold reachP; rw [if_neg z', if_pos (of_decide_eq_true z)], rfl⟩)) fun z => ds_nil ?_)
  exact ds_one (d1_ret (s := .dat (.bl (decide (t = 1) || (decide (sd = "inside") && !st)))) (DE.dv (de_or (DE.cast (de_eq (x := .int t) (y := .int 1) hr (by rfl) (by rfl) (de_var 1) (de_gk hZ kZ)) (by rw [deq_int])) fun _ => de_one (de_and (DE.cast (de_eq (x := .str sd) (y := .str "inside") hr (by rfl) (by rfl) (de_var 2) de_str) (by rw [deq_str])) fun _ => de_one (de_not (de_var 3))))) ⟨by unfold reachP; rw [if_neg z', if_neg (of_decide_eq_false z)], rfl⟩)

def EvIn (kd : List (Key × D)) (sd : Int → Str) (ev : Ev) : Prop := dl kd ev.2.1 = some (.str (sd ev.2.1)) ∧ ∀ r, ev.2.2 = some r → dl kd r = some (.str (sd r))
def pSig (CS : Addr) (ss : List Dz.Slot) (O : OH) (d : D) (O' : OH) : Prop := ∃ p ks sg kd sd ev ent, ss = [.dat (suI CS p ks sg), .dat (.dic kd), .dat (evD ev), .dat (oD ent)] ∧ EvIn kd sd ev ∧ d = sigP sg sd ev ent ∧ O' = O
theorem scSig : FnScope ["setup", "sides", "event", "entered", "kind", "target", "related", "side", "same"] ["setup", "sides", "event", "entered"] (defScope s_signal_of) := ⟨rfl, rfl, rfl, by decide +kernel, rfl, by decide +kernel, by decide +kernel⟩
theorem ok_sig {f CS : Addr} {fd : FuncData} {cdv uE : Value} (F : FunC K "signal_of" "signal_of" s_signal_of f fd cdv) (A3 : Fld3 K CS "place" "kinds" "sights") (hE : mg "END_SIGNAL" = some uE) (kE : kdB K 1 uE ENDS = true) (G : HasF P w K mg base CX0 1 "without_zone" ["side"] (spF T K pWoz)) : FnOk P w K mg base CX0 2 f fd ["setup", "sides", "event", "entered"] (spF T K (pSig CS)) := by
  refine fn_ok (CE := (0 : Addr)) (R := pSig CS) F scSig (fun ss O d O' ⟨_, _, _, _, _, _, _, h, _⟩ => by rw [h]; rfl) fun A outer s H E ss O d O' hr h => ?_
  obtain ⟨p, ks, sg, kd, sd, ⟨kind, t, rel⟩, ent, h1, ⟨e1, e2⟩, h2, h3⟩ := h
  subst h1 h2 h3
  have e1 : dl kd t = some (.str (sd t)) := e1
  refine ds_cons (d1_unpack (ds := [.str kind, .int t, oD rel]) (is := [4, 5, 6]) (de_var 2) rfl (by repeat' (first | exact Dz.Names.nil | refine Dz.Names.cons rfl (by first | exact Or.inl rfl | exact Or.inr rfl) (by first | exact .inl rfl | exact .inr rfl) rfl ?_)) ?_ scSig.nd)
  refine ds_cons (d1_if (p := decide (kind = "end")) (DT.cast (dt_eq (x := .str kind) (y := .str "end") hr (by rfl) (by rfl) (de_var 4) de_str) (deq_str _ _)) (fun z => ds_one (d1_ret (s := .dat ENDS) (DE.dv (de_gk hE kE)) ⟨by unfold sigP; rw [if_pos (of_decide_eq_true z)], rfl⟩)) fun z => ds_nil ?_)
  have z' := of_decide_eq_false z
  refine ds_cons (d1_set 7 (s := .dat (.str (sd t))) (DE.dv (de_dgetI hr (de_var 1) (de_var 5) e1)) ?_ scSig.nd)
  have fs : ∀ {ρ : List Dz.Slot} {e : Expr} {pos : Pos}, True := fun {_ _ _} => True.intro
  let r7 : Str := if ("own" : Str) ∈ sg then sd t else woz (sd t)
  refine ds_mid (fun ρ' O2 => ρ' = [.dat (suI CS p ks sg), .dat (.dic kd), .dat (evD (kind, t, rel)), .dat (oD ent), .dat (.str kind), .dat (.int t), .dat (oD rel), .dat (.str r7), .no] ∧ O' = O2) (d1_if (p := !decide (("own" : Str) ∈ sg)) (DT.cast (dt_ninT (x := .str "own") (ds := sg.map .str) hr (by rfl) (oks_strs sg 32) de_str (de_fld (fd := [("place", .str p), ("kinds", .tup (ks.map .str)), ("sights", .tup (sg.map .str))]) A3.cl A3.c (de_var 0) rfl)) (by rw [in_strs])) (fun q => ds_one (d1_set 7 (s := .dat (.str (woz (sd t)))) (DE.dv (de_callH G (hr.mono (by decide)) (da_d (de_var 7) da_nil) ⟨sd t, rfl, rfl, rfl⟩)) ⟨?_, rfl⟩ scSig.nd)) fun q => ds_nil ⟨?_, rfl⟩) ?_
  · have q' : ¬ ("own" : Str) ∈ sg := by simpa using q
    have e : r7 = woz (sd t) := if_neg q'
    rw [e]
    rfl
  · have q' : ("own" : Str) ∈ sg := by simpa using q
    have e : r7 = sd t := if_pos q'
    rw [e]
    rfl
  rintro ρ' O2 ⟨rfl, rfl⟩
  refine ds_cons (d1_set 8 (s := .dat (.bl (decide (("same" : Str) ∈ sg) && decide (some t = ent)))) (DE.dv (de_and (DE.cast (de_inT (x := .str "same") (ds := sg.map .str) hr (by rfl) (oks_strs sg 32) de_str (de_fld (fd := [("place", .str p), ("kinds", .tup (ks.map .str)), ("sights", .tup (sg.map .str))]) A3.cl A3.c (de_var 0) rfl)) (by rw [in_strs])) fun _ => de_one (DE.cast (de_eq (x := .int t) (y := oD ent) hr (by rfl) (ok_oD ent) (de_var 5) (de_var 3)) (by rw [deq_oD])))) ?_ scSig.nd)
  generalize hsm : (decide (("same" : Str) ∈ sg) && decide (some t = ent)) = sm
  have hs : sigP sg sd (kind, t, rel) ent = .tup [.str kind, .str r7, .bl sm, .str (relS sg sd rel)] := by
    unfold sigP
    rw [if_neg z']
    rw [← hsm]
  rw [hs]
  cases rel with
  | none =>
    refine ds_cons (d1_if (p := true) (DT.cast (DW.dt (dw_or (p := !decide (("related" : Str) ∈ sg)) (q := true) (DT.cast (dt_ninT (x := .str "related") (ds := sg.map .str) hr (by rfl) (oks_strs sg 32) de_str (de_fld (fd := [("place", .str p), ("kinds", .tup (ks.map .str)), ("sights", .tup (sg.map .str))]) A3.cl A3.c (de_var 0) rfl)) (by rw [in_strs])) fun _ => dw_or1 (DT.cast (dt_isN (x := .non) (de_var 6) de_non) rfl))) (by rw [Bool.or_true])) (fun _ => ds_one (d1_ret (s := .dat (.tup [.str kind, .str r7, .bl sm, .str "none"])) (DE.dv (de_tup (ds := [.str kind, .str r7, .bl sm, .str "none"]) (da_d (de_var 4) (da_d (de_var 7) (da_d (de_var 8) (da_d de_str da_nil)))) (by show 4 ≤ 10000; decide))) ⟨rfl, rfl⟩)) fun q => by cases q)
  | some r =>
    have e2 : dl kd r = some (.str (sd r)) := e2 r rfl
    refine ds_cons (d1_if (p := !decide (("related" : Str) ∈ sg)) (DT.cast (DW.dt (dw_or (p := !decide (("related" : Str) ∈ sg)) (q := false) (DT.cast (dt_ninT (x := .str "related") (ds := sg.map .str) hr (by rfl) (oks_strs sg 32) de_str (de_fld (fd := [("place", .str p), ("kinds", .tup (ks.map .str)), ("sights", .tup (sg.map .str))]) A3.cl A3.c (de_var 0) rfl)) (by rw [in_strs])) fun _ => dw_or1 (DT.cast (dt_isN (x := .int r) (de_var 6) de_non) rfl))) (by rw [Bool.or_false])) (fun q => ds_one (d1_ret (s := .dat (.tup [.str kind, .str r7, .bl sm, .str "none"])) (DE.dv (de_tup (ds := [.str kind, .str r7, .bl sm, .str "none"]) (da_d (de_var 4) (da_d (de_var 7) (da_d (de_var 8) (da_d de_str da_nil)))) (by show 4 ≤ 10000; decide))) ⟨?_, rfl⟩)) fun q => ds_nil (ds_one (d1_ret (s := .dat (.tup [.str kind, .str r7, .bl sm, .str (woz (sd r))])) (DE.dv (de_tup (ds := [.str kind, .str r7, .bl sm, .str (woz (sd r))]) (da_d (de_var 4) (da_d (de_var 7) (da_d (de_var 8) (da_d (de_callH G (hr.mono (by decide)) (da_d (de_dgetI hr (de_var 1) (de_var 6) e2) da_nil) ⟨sd r, rfl, rfl, rfl⟩) da_nil)))) (by show 4 ≤ 10000; decide))) ⟨?_, rfl⟩)))
    · have q' : ¬ ("related" : Str) ∈ sg := by simpa using q
      show _ = Dz.Slot.dat (.tup [.str kind, .str r7, .bl sm, .str (if ("related" : Str) ∈ sg then woz (sd r) else "none")])
      rw [if_neg q']
    · have q' : ("related" : Str) ∈ sg := by simpa using q
      show _ = Dz.Slot.dat (.tup [.str kind, .str r7, .bl sm, .str (if ("related" : Str) ∈ sg then woz (sd r) else "none")])
      rw [if_pos q']

def pHeard (CS : Addr) (ss : List Dz.Slot) (O : OH) (d : D) (O' : OH) : Prop := ∃ p ks sg kd sd evs s ent, ss = [.dat (suI CS p ks sg), .dat (.dic kd), .dat (.lst (evs.map evD)), .dat (.int s), .dat (oD ent)] ∧ (∀ ev ∈ evs, EvIn kd sd ev) ∧ evs.length ≤ 10 ∧
  d = .tup [.lst (hearP p ks sg sd s evs ent evs.length).1, oD (hearP p ks sg sd s evs ent evs.length).2] ∧ O' = O
theorem scHeard : FnScope ["setup", "sides", "events", "stops", "entered", "signals", "at", "event", "kind", "target", "_", "stopped"] ["setup", "sides", "events", "stops", "entered"] (defScope s_heard) := ⟨rfl, rfl, rfl, by decide +kernel, rfl, by decide +kernel, by decide +kernel⟩
theorem ok_heard {f CS : Addr} {fd : FuncData} {cdv : Value} (F : FunC K "heard" "heard" s_heard f fd cdv) (L : Blt mg) (hen : mg "enumerate" = none) (A3 : Fld3 K CS "place" "kinds" "sights") (G1 : HasF P w K mg base CX0 1 "reaches" ["place", "target", "side", "stopped"] (spF T K pReach)) (G2 : HasF P w K mg base CX0 2 "signal_of" ["setup", "sides", "event", "entered"] (spF T K (pSig CS))) :
    FnOk P w K mg base CX0 3 f fd ["setup", "sides", "events", "stops", "entered"] (spF T K (pHeard CS)) := by
  refine fn_ok (CE := (0 : Addr)) (R := pHeard CS) F scHeard (fun ss O d O' ⟨_, _, _, _, _, _, _, _, h, _⟩ => by rw [h]; rfl) fun A outer s H E ss O d O' hr h => ?_
  obtain ⟨p, ks, sg, kd, sd, evs, st, ent, h1, hin, hl, h2, h3⟩ := h
  subst h1 h2 h3
  have hr1 := hr.mono (show 1 ≤ 2 by decide)
  refine ds_cons (d1_own 5 (ss := []) da_nil (fun c hc => ?_) scHeard.nd)
  refine ds_mid (fun ρ' O2 => (∃ s6 s7 s8 s9 s10 s11, ρ' = [.dat (suI CS p ks sg), .dat (.dic kd), .dat (.lst (evs.map evD)), .dat (.int st), .dat (oD (hearP p ks sg sd st evs ent evs.length).2), .val (.ref c), s6, s7, s8, s9, s10, s11]) ∧ O2 = put O' c (lO (hearP p ks sg sd st evs ent evs.length).1))
    (d1_forEL (ds := evs.map evD) (i1 := 6) (i2 := 7) (fun j ρ' O2 => (∃ s6 s7 s8 s9 s10 s11, ρ' = [.dat (suI CS p ks sg), .dat (.dic kd), .dat (.lst (evs.map evD)), .dat (.int st), .dat (oD (hearP p ks sg sd st evs ent j).2), .val (.ref c), s6, s7, s8, s9, s10, s11]) ∧ O2 = put O' c (lO (hearP p ks sg sd st evs ent j).1))
      (de_var 2) ⟨⟨_, _, _, _, _, _, rfl⟩, rfl⟩ scHeard.nd (by repeat' (first | exact Dz.Names.nil | refine Dz.Names.cons rfl (by first | exact Or.inl rfl | exact Or.inr rfl) (by first | exact .inl rfl | exact .inr rfl) rfl ?_)) ?_ ?_ hen PassesOwn.never) ?_
  · rintro j d ρ' O2 hj ⟨⟨s6, s7, s8, s9, s10, s11, rfl⟩, rfl⟩
    obtain ⟨⟨kind, t, rel⟩, hev, rfl⟩ := at_map hj
    have hi := hin _ (List.mem_of_getElem? hev)
    have hjl := (List.getElem?_eq_some_iff.mp hev).1
    have en := hearP_at (p := p) (ks := ks) (sg := sg) (sd := sd) (s := st) (ent := ent) hev
    have lq := hearP_len (p := p) (ks := ks) (sg := sg) (sd := sd) (s := st) (evs := evs) (ent := ent) j
    generalize hearP p ks sg sd st evs ent j = q at en lq
    obtain ⟨q1, q2⟩ := q
    rw [en]
    have lq : q1.length ≤ j := lq
    refine ds_cons (d1_unpack (ds := [.str kind, .int t, oD rel]) (is := [8, 9, 10]) (de_var 7) rfl (by repeat' (first | exact Dz.Names.nil | refine Dz.Names.cons rfl (by first | exact Or.inl rfl | exact Or.inr rfl) (by first | exact .inl rfl | exact .inr rfl) rfl ?_)) ?_ scHeard.nd)
    refine ds_cons (d1_set 11 (s := .dat (.bl (stB st j))) (DE.dv (DE.cast (de_eq (x := .int (st / 2 ^ j % 2)) (y := .int 1) hr (by rfl) (by rfl) (DE.cast (de_mod (by decide) (de_shr (i := st) (j := (j : Int)) (by omega) (de_var 3) (de_var 6)) de_int) (by rw [Int.toNat_natCast])) de_int) (by rw [deq_int]; rfl))) ?_ scHeard.nd)
    show DS T _ _ _ [.dat (suI CS p ks sg), .dat (.dic kd), .dat (.lst (evs.map evD)), .dat (.int st), .dat (oD q2), .val (.ref c), .dat (.int (j : Int)), .dat (evD (kind, t, rel)), .dat (.str kind), .dat (.int t), .dat (oD rel), .dat (.bl (stB st j))] (put O' c (lO q1)) _
    refine ds_one (d1_if (p := heardP p ks sd st j (kind, t, rel)) (DW.dt (dw_and (p := decide (kind ∈ ks)) (q := reachP p t (sd t) (stB st j)) (DT.cast (dt_inT (x := .str kind) (ds := ks.map .str) hr (by rfl) (oks_strs ks 32) (de_var 8) (de_fld (fd := [("place", .str p), ("kinds", .tup (ks.map .str)), ("sights", .tup (sg.map .str))]) A3.cl A3.b (de_var 0) rfl)) (by rw [in_strs])) fun _ => dw_and1 (dt_val (de_callH G1 hr1 (da_d (de_fld (fd := [("place", .str p), ("kinds", .tup (ks.map .str)), ("sights", .tup (sg.map .str))]) A3.cl A3.a (de_var 0) rfl) (da_d (de_var 9) (da_d (de_dgetI hr (de_var 1) (de_var 9) hi.1) (da_d (de_var 11) da_nil)))) ⟨p, t, sd t, stB st j, rfl, rfl, rfl⟩)))) (fun z => ?_) fun z => ds_nil ?_)
    · have eh : hearStep p ks sg sd st j (kind, t, rel) (q1, q2) = (q1 ++ [sigP sg sd (kind, t, rel) q2], if kind = "enter" then some t else q2) := by unfold hearStep; rw [if_pos z]
      rw [eh]
      refine ds_cons (d1_app 5 rfl (de_callH G2 hr (da_d (de_var 0) (da_d (de_var 1) (da_d (de_var 7) (da_d (de_var 4) da_nil)))) ⟨p, ks, sg, kd, sd, (kind, t, rel), q2, rfl, hi, rfl, rfl⟩) (by omega) ?_)
      refine ds_one (d1_if (p := decide (kind = "enter")) (DT.cast (dt_eq (x := .str kind) (y := .str "enter") hr (by rfl) (by rfl) (de_var 8) de_str) (deq_str _ _)) (fun y => ds_one (d1_set 4 (s := .dat (.int t)) (DE.dv (de_var 9)) ?_ scHeard.nd)) fun y => ds_nil ?_)
      · have e : (if kind = "enter" then some t else q2) = some t := if_pos (of_decide_eq_true y)
        rw [e]
        exact ⟨⟨_, _, _, _, _, _, rfl⟩, rfl⟩
      · have e : (if kind = "enter" then some t else q2) = q2 := if_neg (of_decide_eq_false y)
        rw [e]
        exact ⟨⟨_, _, _, _, _, _, rfl⟩, rfl⟩
    · have eh : hearStep p ks sg sd st j (kind, t, rel) (q1, q2) = (q1, q2) := by unfold hearStep; rw [if_neg (by rw [z]; decide)]
      rw [eh]
      exact ⟨⟨_, _, _, _, _, _, rfl⟩, rfl⟩
  · rintro ρ' O2 ⟨⟨s6, s7, s8, s9, s10, s11, rfl⟩, rfl⟩
    rw [List.length_map]
    exact ⟨⟨_, _, _, _, _, _, rfl⟩, rfl⟩
  rintro ρ' O2 ⟨⟨s6, s7, s8, s9, s10, s11, rfl⟩, rfl⟩
  generalize hearP p ks sg sd st evs ent evs.length = q
  exact ds_ice 5 rfl hc (ds_one (d1_ret (s := .dat (.tup [.lst q.1, oD q.2])) (DE.dv (de_tup (ds := [.lst q.1, oD q.2]) (da_d (de_var 5) (da_d (de_var 4) da_nil)) (by show 2 ≤ 10000; decide))) ⟨rfl, rfl⟩))
end
end Dg

namespace Dg
open PySem PySem.Spec PyProof.Rows L2 GxR Dz
/-! ### what is behind a turn -/
def VS (o l : Int) : Prop := ¬ (o = 3 ∧ l = 3) ∧ ¬ (o = 0 ∧ l = 4)
/-- the turn's tick and target can be -/
structure OkT (o l k g s : Int) : Prop where
  i : InS o l
  v : VS o l
  k0 : 0 ≤ k
  k6 : k ≤ 6
  g0 : 0 ≤ g
  g4 : g ≤ 4
  s0 : 0 ≤ s
  a : g = 0 → k = 0 → o ≠ 0
  b : g = 1 → l = 1 ∨ l = 2 ∨ l = 3
  c : g = 4 → o ≠ 3 ∧ l ≠ 3
  d : 2 ≤ k → g = 0
  e : k = 1 → g ≠ 0 ∧ (o = 1 ∨ o = 2)
def curE (o : Int) : Option Int := elAt o 2
def entE (o l : Int) : Option Int := if l = 4 then curE o else elAt l 3
def tgE (o l g : Int) : Option Int := if g = 0 then curE o else if g = 1 then entE o l else if g = 4 then some 1 else some 4
def nu (o l g i : Int) : Int := if i = 0 then 1 else if i = 1 then 3 else if i = 2 then o else if i = 3 then l else if g = 2 then 1 else 2
def sdF (o l g i : Int) : Str := nmS (nu o l g i)
def tgX (o l g : Int) : Int := (tgE o l g).getD 0
def evB' (o l k g : Int) : List Ev := evP k (tgX o l g) (curE o)
def hrB (p : Str) (ks sg : List Str) (o l k g s : Int) : List D × Option Int := hearP p ks sg (sdF o l g) s (evB' o l k g) (entE o l) (evB' o l k g).length
def cbB (o l k g : Int) : Option Int := if k < 2 then tgE o l g else none
def obB (o l k g : Int) : Int := match cbB o l k g with
  | none => 0
  | some i => nu o l g i
def lbB (o l k g : Int) (e : Option Int) : Int := match e with
  | none => 0
  | some i => if k = 1 ∧ some i = curE o then 0 else if some i = cbB o l k g then 4 else nu o l g i
theorem dl_at {o l g i : Int} (h : i = 0 ∨ i = 1 ∨ i = 2 ∨ (i = 3 ∧ l ≠ 4) ∨ i = 4) : dl (sidesK o l g) i = some (.str (sdF o l g i)) := by
  unfold sidesK kdA kd0 sdF nu
  rcases h with rfl | rfl | rfl | ⟨rfl, h⟩ | rfl
  · rfl
  · rfl
  · rfl
  · rw [if_neg h]
    rfl
  · have e : (if (4 : Int) = 0 then (1 : Int) else if (4 : Int) = 1 then 3 else if (4 : Int) = 2 then o else if (4 : Int) = 3 then l else if g = 2 then 1 else 2) = if g = 2 then 1 else 2 := rfl
    rw [e]
    by_cases h2 : g = 2
    · rw [if_pos h2, if_pos h2]
      by_cases h : l = 4
      · rw [if_pos h]; rfl
      · rw [if_neg h]; rfl
    · rw [if_neg h2, if_neg h2]
      by_cases h : l = 4
      · rw [if_pos h]; rfl
      · rw [if_neg h]; rfl
/-- the elements that there are in a turn -/
def El (l i : Int) : Prop := i = 0 ∨ i = 1 ∨ i = 2 ∨ (i = 3 ∧ l ≠ 4) ∨ i = 4
theorem cur_el {o l i : Int} (h : curE o = some i) : El l i ∧ (i = 1 ∨ i = 2) := by
  unfold curE elAt at h
  split at h
  · cases h
  · split at h
    · cases h
      exact ⟨.inr (.inl rfl), .inl rfl⟩
    · cases h
      exact ⟨.inr (.inr (.inl rfl)), .inr rfl⟩
theorem ent_el {o l i : Int} (h : entE o l = some i) : El l i := by
  unfold entE at h
  split at h
  · exact (cur_el h).1
  · rename_i hl
    unfold elAt at h
    split at h
    · cases h
    · split at h
      · cases h
        exact .inr (.inl rfl)
      · cases h
        exact .inr (.inr (.inr (.inl ⟨rfl, hl⟩)))
theorem tg_el {o l g i : Int} (h : tgE o l g = some i) : El l i := by
  unfold tgE at h
  split at h
  · exact (cur_el h).1
  · split at h
    · exact ent_el h
    · split at h
      · cases h
        exact .inr (.inl rfl)
      · cases h
        exact .inr (.inr (.inr (.inr rfl)))
theorem tg_some {o l k g s : Int} (h : OkT o l k g s) (hk : k < 2) : tgE o l g = some (tgX o l g) := by
  have e : ∃ i, tgE o l g = some i := by
    unfold tgE
    by_cases h0 : g = 0
    · rw [if_pos h0]
      have ho : o ≠ 0 := by
        by_cases hk0 : k = 0
        · exact h.a h0 hk0
        · have hk1 : k = 1 := by have := h.k0; omega
          exact absurd h0 (h.e hk1).1
      unfold curE elAt
      rw [if_neg ho]
      split <;> exact ⟨_, rfl⟩
    · rw [if_neg h0]
      by_cases h1 : g = 1
      · rw [if_pos h1]
        have hl := h.b h1
        unfold entE elAt
        rw [if_neg (by omega), if_neg (by omega)]
        split <;> exact ⟨_, rfl⟩
      · rw [if_neg h1]
        split <;> exact ⟨_, rfl⟩
  obtain ⟨i, e⟩ := e
  unfold tgX
  rw [e]
  rfl
theorem nu_bd {o l g i : Int} (h : InS o l) (hi : El l i) : 0 ≤ nu o l g i ∧ nu o l g i ≤ 3 := by
  obtain ⟨h1, h2, h3, h4⟩ := h
  rcases hi with rfl | rfl | rfl | ⟨rfl, hl⟩ | rfl
  · have e : nu o l g 0 = 1 := rfl
    omega
  · have e : nu o l g 1 = 3 := rfl
    omega
  · have e : nu o l g 2 = o := rfl
    omega
  · have e : nu o l g 3 = l := rfl
    omega
  · have e : nu o l g 4 = if g = 2 then 1 else 2 := rfl
    rw [e]
    split <;> omega
theorem evP_in {o l k g s : Int} (h : OkT o l k g s) : ∀ ev ∈ evB' o l k g, EvIn (sidesK o l g) (sdF o l g) ev ∧ El l ev.2.1 := by
  intro ev hev
  have z : ∀ i, El l i → dl (sidesK o l g) i = some (.str (sdF o l g i)) := fun i hi => dl_at hi
  have hc : ∀ y, curE o = some y → El l y := fun y hy => (cur_el hy).1
  have hx : k < 2 → El l (tgX o l g) := fun hk => tg_el (tg_some h hk)
  have key : El l ev.2.1 ∧ ∀ r, ev.2.2 = some r → El l r := by
    unfold evB' at hev
    generalize tgX o l g = x at hev hx
    generalize curE o = c at hev hc
    have evt : ∀ z b, ev ∈ evT z b c → El l ev.2.1 ∧ ∀ r, ev.2.2 = some r → El l r := by
      intro z b hm
      unfold evT at hm
      rcases List.mem_append.mp hm with hm | hm
      · cases c with
        | none => cases hm
        | some y =>
          have e : ev = ((if z = "drop" then "drop" else "leave" : Str), y, none) := by simpa [evA] using hm
          rw [e]
          exact ⟨hc y rfl, fun r hr => by cases hr⟩
      · unfold evB at hm
        split at hm
        · have e : ev = (("end" : Str), (0 : Int), (none : Option Int)) := by simpa using hm
          rw [e]
          exact ⟨.inl rfl, fun r hr => by cases hr⟩
        · cases hm
    rcases k7 ⟨h.k0, h.k6⟩ with rfl | rfl | rfl | rfl | rfl | rfl | rfl
    · have hx := hx (by decide)
      have hev : ev ∈ ptE x c := hev
      unfold ptE at hev
      split at hev
      · have e : ev = (("over" : Str), x, none) := by simpa using hev
        rw [e]
        exact ⟨hx, fun r hr => by cases hr⟩
      · cases c with
        | none =>
          have e : ev = (("enter" : Str), x, none) ∨ ev = (("over" : Str), x, none) := by simpa using hev
          rcases e with e | e <;> rw [e] <;> exact ⟨hx, fun r hr => by cases hr⟩
        | some y =>
          have e : ev = (("enter" : Str), x, some y) ∨ ev = (("leave" : Str), y, some x) ∨ ev = (("over" : Str), x, none) := by simpa using hev
          rcases e with e | e | e <;> rw [e]
          · exact ⟨hx, fun r hr => by cases hr; exact hc y rfl⟩
          · exact ⟨hc y rfl, fun r hr => by cases hr; exact hx⟩
          · exact ⟨hx, fun r hr => by cases hr⟩
    · have hx := hx (by decide)
      have hev : ev ∈ [(("enter" : Str), x, c), (("over" : Str), x, none)] := hev
      have e : ev = (("enter" : Str), x, c) ∨ ev = (("over" : Str), x, none) := by simpa using hev
      rcases e with e | e <;> rw [e]
      · exact ⟨hx, fun r hr => hc r hr⟩
      · exact ⟨hx, fun r hr => by cases hr⟩
    · exact evt _ _ hev
    · exact evt _ _ hev
    · exact evt _ _ hev
    · exact evt _ _ hev
    · exact evt _ _ hev
  exact ⟨⟨z _ key.1, fun r hr => z r (key.2 r hr)⟩, key.1⟩
theorem evT_len (z : Str) (b : Bool) (c : Option Int) : (evT z b c).length ≤ 2 := by
  unfold evT evB
  cases c <;> cases b <;> simp [evA]
theorem evP_len (k x : Int) (c : Option Int) : (evP k x c).length ≤ 3 := by
  unfold evP ptE
  have h1 := evT_len "out" false c
  have h2 := evT_len "drop" true c
  have h3 := evT_len "drop" false c
  have h4 := evT_len "cancel" true c
  have h5 := evT_len "cancel" false c
  repeat' split
  all_goals first | (simp; done) | omega
theorem hear_ent {p : Str} {ks sg : List Str} {sd : Int → Str} {s : Int} {evs : List Ev} {ent : Option Int} {i : Int} : ∀ j, (hearP p ks sg sd s evs ent j).2 = some i → ent = some i ∨ ∃ ev ∈ evs, ev.2.1 = i
  | 0, h => .inl h
  | j + 1, h => by
    have ih := hear_ent (p := p) (ks := ks) (sg := sg) (sd := sd) (s := s) (evs := evs) (ent := ent) (i := i) j
    unfold hearP at h
    split at h
    · rename_i ev hev
      unfold hearStep at h
      split at h
      · dsimp only at h
        split at h
        · exact .inr ⟨ev, List.mem_of_getElem? hev, Option.some.inj h⟩
        · exact ih h
      · exact ih h
    · exact ih h
theorem mid_if {α : Type} {c : Prop} [Decidable c] {a b : α} (h : c) : (if c then a else b) = a := if_pos h
section
variable {P : Program} {w : World} {K : PySem.W.Frag} {mg : Str → Option Value} {base : Heap} {T : List Addr} {CE : Addr}
def pBehind (CS : Addr) (ss : List Dz.Slot) (O : OH) (d : D) (O' : OH) : Prop := ∃ p ks sg si o l k g s, ss = [.dat (suI CS p ks sg), .dat si, .dat (T5 o l k g s)] ∧ OkT o l k g s ∧
  d = .tup [pD (obB o l k g, lbB o l k g (hrB p ks sg o l k g s).2), .tup (hrB p ks sg o l k g s).1] ∧ O' = O
theorem scBehind : FnScope ["setup", "situation", "turn", "over", "last", "tick", "target", "stops", "current", "entered", "sides", "step", "signals", "current_behind", "over_behind"] ["setup", "situation", "turn"] (defScope s_behind) := ⟨rfl, rfl, rfl, by decide +kernel, rfl, by decide +kernel, by decide +kernel⟩
theorem ok_behind {f CS : Addr} {fd : FuncData} {cdv uO uC uL uN uZ uS : Value} (F : FunC K "behind" "behind" s_behind f fd cdv) (L : Blt mg)
    (hO : mg "OVER_ELEMENT" = some uO) (kO : kdB K 0 uO (.int 2) = true) (hC : mg "CURRENT" = some uC) (kC : kdB K 0 uC (.int 4) = true) (hL : mg "LAST_ELEMENT" = some uL) (kL : kdB K 0 uL (.int 3) = true) (hN : mg "NEW_ELEMENT" = some uN) (kN : kdB K 0 uN (.int 4) = true) (hZ : mg "ZONE" = some uZ) (kZ : kdB K 0 uZ (.int 1) = true) (hS : mg "SLIP" = some uS) (kS : kdB K 0 uS (.int 1) = true)
    (G1 : HasF P w K mg base CX0 1 "element_at" ["side", "element"] (spF T K pElAt)) (G2 : HasF P w K mg base CX0 1 "sides_in" ["turn"] (spF T K pSidesIn)) (G3 : HasF P w K mg base CX0 1 "tick_of" ["turn", "element"] (spF T K pTickOf)) (G4 : HasF P w K mg base CX0 2 "events_of" ["tick", "current"] (spF T K pEvOf))
    (G5 : HasF P w K mg base CX0 3 "heard" ["setup", "sides", "events", "stops", "entered"] (spF T K (pHeard CS))) (G6 : HasF P w K mg base CX0 1 "target_behind" ["tick"] (spF T K pTgB)) (G7 : HasF P w K mg base CX0 1 "number_of_side" ["sides", "element"] (spF T K pNoS)) :
    FnOk P w K mg base CX0 4 f fd ["setup", "situation", "turn"] (spF T K (pBehind CS)) := by
  refine fn_ok (CE := (0 : Addr)) (R := pBehind CS) F scBehind (fun ss O d O' ⟨_, _, _, _, _, _, _, _, _, h, _⟩ => by rw [h]; rfl) fun A outer s H E ss O d O' hr h => ?_
  obtain ⟨p, ks, sg, si, o, l, k, g, st, h1, hT, h2, h3⟩ := h
  subst h1 h2 h3
  have hr1 := hr.mono (show 1 ≤ 3 by decide)
  have hr2 := hr.mono (show 2 ≤ 3 by decide)
  refine ds_cons (d1_unpack (ds := [.int o, .int l, .int k, .int g, .int st]) (is := [3, 4, 5, 6, 7]) (de_var 2) rfl (by repeat' (first | exact Dz.Names.nil | refine Dz.Names.cons rfl (by first | exact Or.inl rfl | exact Or.inr rfl) (by first | exact .inl rfl | exact .inr rfl) rfl ?_)) ?_ scBehind.nd)
  refine ds_cons (d1_set 8 (s := .dat (oD (curE o))) (DE.dv (de_callH G1 hr1 (da_d (de_var 3) (da_d (de_gk hO kO) da_nil)) ⟨o, 2, rfl, rfl, rfl⟩)) ?_ scBehind.nd)
  refine ds_cons (d1_set 9 (s := .dat (oD (entE o l))) (DE.dv (de_if (p := decide (l = 4)) (DT.cast (dt_eq (x := .int l) (y := .int 4) hr (by rfl) (by rfl) (de_var 4) (de_gk hC kC)) (deq_int _ _)) (fun q => by unfold entE; rw [if_pos (of_decide_eq_true q)]; exact de_var 8) fun q => by unfold entE; rw [if_neg (of_decide_eq_false q)]; exact de_callH G1 hr1 (da_d (de_var 4) (da_d (de_gk hL kL) da_nil)) ⟨l, 3, rfl, rfl, rfl⟩)) ?_ scBehind.nd)
  refine ds_cons (d1_set 10 (s := .dat (.dic (sidesK o l g))) (DE.dv (de_callH G2 hr1 (da_d (de_var 2) da_nil) ⟨o, l, k, g, st, rfl, hT.i, rfl, rfl⟩)) ?_ scBehind.nd)
  have hat : atI [oD (curE o), oD (entE o l), .int 4, .int 4, .int 1] g = some (oD (tgE o l g)) := by
    have hg : g = 0 ∨ g = 1 ∨ g = 2 ∨ g = 3 ∨ g = 4 := by have := hT.g0; have := hT.g4; omega
    rcases hg with rfl | rfl | rfl | rfl | rfl <;> rfl
  refine ds_cons (d1_set 11 (s := .dat (.tup (stepL k (oD (tgE o l g)) st))) (DE.dv (de_callH G3 hr1 (da_d (de_var 2) (da_d (de_ixT (ds := [oD (curE o), oD (entE o l), .int 4, .int 4, .int 1]) (de_tup (ds := [oD (curE o), oD (entE o l), .int 4, .int 4, .int 1]) (da_d (de_var 8) (da_d (de_var 9) (da_d (de_gk hN kN) (da_d (de_gk hN kN) (da_d (de_gk hZ kZ) da_nil))))) (by show 5 ≤ 10000; decide)) (de_var 6) hat) da_nil)) ⟨o, l, k, g, st, _, rfl, ⟨hT.k0, hT.k6⟩, rfl, rfl⟩)) ?_ scBehind.nd)
  have hev := evP_in hT
  refine ds_cons (d1_unpack (ds := [.lst (hrB p ks sg o l k g st).1, oD (hrB p ks sg o l k g st).2]) (is := [12, 9]) (de_callH G5 hr (da_d (de_var 0) (da_d (de_var 10) (da_d (de_callH G4 hr2 (da_d (de_var 11) (da_d (de_var 8) da_nil)) ⟨k, oD (tgE o l g), st, tgX o l g, curE o, rfl, ⟨hT.k0, hT.k6⟩, fun hk => by rw [tg_some hT hk]; rfl, rfl, rfl⟩) (da_d (de_var 7) (da_d (de_var 9) da_nil)))))
    ⟨p, ks, sg, sidesK o l g, sdF o l g, evB' o l k g, st, entE o l, rfl, fun ev h => (hev ev h).1, by have := evP_len k (tgX o l g) (curE o); exact Nat.le_trans this (by decide), rfl, rfl⟩) rfl (by repeat' (first | exact Dz.Names.nil | refine Dz.Names.cons rfl (by first | exact Or.inl rfl | exact Or.inr rfl) (by first | exact .inl rfl | exact .inr rfl) rfl ?_)) ?_ scBehind.nd)
  have he : ∀ i, (hrB p ks sg o l k g st).2 = some i → El l i := by
    intro i hi
    rcases hear_ent _ hi with q | ⟨ev, hm, e⟩
    · exact ent_el q
    · rw [← e]
      exact (hev ev hm).2
  generalize hrB p ks sg o l k g st = q at he
  obtain ⟨q1, q2⟩ := q
  have cb : (if k < 2 then oD (tgE o l g) else D.non) = oD (cbB o l k g) := by
    unfold cbB
    split <;> rfl
  refine ds_cons (d1_set 13 (s := .dat (oD (cbB o l k g))) (DE.dv (de_callH G6 hr1 (da_d (de_var 11) da_nil) ⟨k, oD (tgE o l g), st, rfl, ⟨hT.k0, hT.k6⟩, cb.symm, rfl⟩)) ?_ scBehind.nd)
  have nos : ∀ e : Option Int, (∀ i, e = some i → El l i) → (e = none ∧ (match e with | none => (0 : Int) | some i => nu o l g i) = 0) ∨ ∃ i, e = some i ∧ (0 ≤ (match e with | none => (0 : Int) | some i => nu o l g i) ∧ (match e with | none => (0 : Int) | some i => nu o l g i) ≤ 3) ∧ ((sidesK o l g).find? fun kv => decide (kv.1 = (.inl i : Key))).map (·.2) = some (.str (nmS (match e with | none => (0 : Int) | some i => nu o l g i))) := by
    intro e h
    cases e with
    | none => exact .inl ⟨rfl, rfl⟩
    | some i => exact .inr ⟨i, rfl, nu_bd hT.i (h i rfl), dl_at (h i rfl)⟩
  have hcb : ∀ i, cbB o l k g = some i → El l i := fun i hi => by
    unfold cbB at hi
    split at hi
    · exact tg_el hi
    · cases hi
  refine ds_cons (d1_set 14 (s := .dat (.int (obB o l k g))) (DE.dv (de_callH G7 hr1 (da_d (de_var 10) (da_d (de_var 13) da_nil)) ⟨sidesK o l g, cbB o l k g, obB o l k g, rfl, nos _ hcb, rfl, rfl⟩)) ?_ scBehind.nd)
  show DS T _ _ _ [.dat (suI CS p ks sg), .dat si, .dat (T5 o l k g st), .dat (.int o), .dat (.int l), .dat (.int k), .dat (.int g), .dat (.int st), .dat (oD (curE o)), .dat (oD q2), .dat (.dic (sidesK o l g)), .dat (.tup (stepL k (oD (tgE o l g)) st)), .dat (.lst q1), .dat (oD (cbB o l k g)), .dat (.int (obB o l k g))] O' _
  refine ds_cons (d1_if (p := q2.isNone || (decide (k = 1) && decide (q2 = curE o))) (DW.dt (dw_or (p := q2.isNone) (DT.cast (dt_isN (x := oD q2) (de_var 9) de_non) (isNon_oD q2)) fun _ => dw_or1 (DW.dt (dw_and (DT.cast (dt_eq (x := .int k) (y := .int 1) hr (by rfl) (by rfl) (de_var 5) (de_gk hS kS)) (deq_int _ _)) fun _ => dw_and1 (DT.cast (dt_eq (x := oD q2) (y := oD (curE o)) hr (ok_oD _) (ok_oD _) (de_var 9) (de_var 8)) (deq_oo _ _)))))) (fun z => ?_) fun z => ds_nil ?_)
  · have e : lbB o l k g q2 = 0 := by
      unfold lbB
      cases q2 with
      | none => rfl
      | some i =>
        have z' : k = 1 ∧ some i = curE o := by simpa using z
        exact if_pos z'
    refine ds_one (d1_ret (s := .dat (.tup [pD (obB o l k g, 0), .tup q1])) (DE.dv (de_tup (ds := [pD (obB o l k g, 0), .tup q1]) (da_d (de_tup (ds := [.int (obB o l k g), .int 0]) (da_d (de_var 14) (da_d de_int da_nil)) (by show 2 ≤ 10000; decide)) (da_d (de_tupleL L.tuple (de_var 12)) da_nil)) (by show 2 ≤ 10000; decide))) ⟨by rw [e], rfl⟩)
  · have z1 : ∃ i, q2 = some i := by
      cases q2 with
      | none => cases z
      | some i => exact ⟨i, rfl⟩
    obtain ⟨i, rfl⟩ := z1
    have z2 : ¬ (k = 1 ∧ some i = curE o) := by
      rintro ⟨y1, y2⟩
      rw [decide_eq_true y1, decide_eq_true y2] at z
      cases z
    refine ds_cons (d1_if (p := decide (some i = cbB o l k g)) (DT.cast (dt_eq (x := oD (some i)) (y := oD (cbB o l k g)) hr (ok_oD _) (ok_oD _) (de_var 9) (de_var 13)) (deq_oo _ _)) (fun y => ?_) fun y => ds_nil ?_)
    · have e : lbB o l k g (some i) = 4 := by
        show (if k = 1 ∧ some i = curE o then (0 : Int) else if some i = cbB o l k g then 4 else nu o l g i) = 4
        rw [if_neg z2, if_pos (of_decide_eq_true y)]
      refine ds_one (d1_ret (s := .dat (.tup [pD (obB o l k g, 4), .tup q1])) (DE.dv (de_tup (ds := [pD (obB o l k g, 4), .tup q1]) (da_d (de_tup (ds := [.int (obB o l k g), .int 4]) (da_d (de_var 14) (da_d (de_gk hC kC) da_nil)) (by show 2 ≤ 10000; decide)) (da_d (de_tupleL L.tuple (de_var 12)) da_nil)) (by show 2 ≤ 10000; decide))) ⟨by rw [e], rfl⟩)
    · have e : lbB o l k g (some i) = nu o l g i := by
        show (if k = 1 ∧ some i = curE o then (0 : Int) else if some i = cbB o l k g then 4 else nu o l g i) = nu o l g i
        rw [if_neg z2, if_neg (of_decide_eq_false y)]
      refine ds_one (d1_ret (s := .dat (.tup [pD (obB o l k g, nu o l g i), .tup q1])) (DE.dv (de_tup (ds := [pD (obB o l k g, nu o l g i), .tup q1]) (da_d (de_tup (ds := [.int (obB o l k g), .int (nu o l g i)]) (da_d (de_var 14) (da_d (de_callH G7 hr1 (da_d (de_var 10) (da_d (de_var 9) da_nil)) ⟨sidesK o l g, some i, nu o l g i, rfl, nos (some i) he, rfl, rfl⟩) da_nil)) (by show 2 ≤ 10000; decide)) (da_d (de_tupleL L.tuple (de_var 12)) da_nil)) (by show 2 ≤ 10000; decide))) ⟨by rw [e], rfl⟩)
end
end Dg

namespace Dg
open PySem PySem.Spec PyProof.Rows L2 GxR Dz
/-! ### the law's own reckoning of what is behind a turn -/
def suD (p : Str) (ks sg : List Str) : D := .lst [.str p, .lst (ks.map .str), .lst (sg.map .str)]
def lreach (p : Str) (ks : List Str) (kind : Str) (n : Int) (ir st : Bool) : Bool := if kind ∈ ks then (if kind = "end" then !decide (p = "zone") else if p = "zone" then decide (n = 3) || (decide (n = 2) && !st) else decide (p = "capture") || (ir || !st)) else false
def sdL (n : Int) : Str := if n = 0 then "" else if n = 1 then "outside" else "inside"
def rlL (n : Int) : Str := if n = 0 then "none" else if n = 1 then "outside" else "inside"
def lsig (sg : List Str) (kind : Str) (n : Int) (same : Bool) (rel : Int) : D := if kind = "end" then ENDS else .tup [.str kind, .str (if n = 3 ∧ ("own" : Str) ∈ sg then "zone" else sdL n), .bl (same && decide (("same" : Str) ∈ sg)), .str (if ("related" : Str) ∈ sg then rlL rel else "none")]
def lsit (o l k g x : Int) (ent : Bool) : Int × Int := if k < 2 ∧ g = 0 then (o, l) else if k < 2 ∧ (ent = true ∨ g = 1) then (x, 4) else if k < 2 then (x, if l = 4 then o * (if k = 1 then 0 else 1) else l) else (0, if l = 4 then o * (if k = 1 then 0 else 1) else l)
abbrev LEv := Str × Int × Bool × Int
def levD (e : LEv) : D := .tup [.str e.1, .int e.2.1, .bl e.2.2.1, .int e.2.2.2]
def lx (o l g : Int) : Int := if g = 0 then o else if g = 1 then l else if g = 2 then 1 else if g = 3 then 2 else 3
def lnm (k : Int) : Str := if k = 2 then "leave" else if k = 3 then "drop" else if k = 4 then "drop" else "leave"
def lEvs (o l k g : Int) : List LEv := if k < 2 ∧ g = 0 then [("over", o, decide (l = 4), 0)] else if k < 2 then (if k = 0 ∧ 0 < o then [("enter", lx o l g, decide (g = 1), o), ("leave", o, decide (l = 4), lx o l g), ("over", lx o l g, decide (g = 1), 0)] else [("enter", lx o l g, decide (g = 1), o), ("over", lx o l g, decide (g = 1), 0)]) else if 0 < o then [(lnm k, o, decide (l = 4), 0)] else []
def lstep (p : Str) (ks sg : List Str) (s : Int) (j : Nat) (ev : LEv) (q : List D × Bool) : List D × Bool :=
  if lreach p ks ev.1 ev.2.1 false (stB s j) = true then (q.1 ++ [lsig sg ev.1 ev.2.1 (if q.2 = true then decide (ev.1 = "over") else ev.2.2.1) ev.2.2.2], q.2 || decide (ev.1 = "enter")) else q
def lhear (p : Str) (ks sg : List Str) (s : Int) (evs : List LEv) : Nat → List D × Bool
  | 0 => ([], false)
  | j + 1 => match evs[j]? with
    | some ev => lstep p ks sg s j ev (lhear p ks sg s evs j)
    | none => lhear p ks sg s evs j
theorem lhear_at {p : Str} {ks sg : List Str} {s : Int} {evs : List LEv} {j : Nat} {ev : LEv} (h : evs[j]? = some ev) : lhear p ks sg s evs (j + 1) = lstep p ks sg s j ev (lhear p ks sg s evs j) := by
  rw [lhear, h]
theorem lhear_len {p : Str} {ks sg : List Str} {s : Int} {evs : List LEv} : ∀ j, (lhear p ks sg s evs j).1.length ≤ j
  | 0 => Nat.le_refl _
  | j + 1 => by
    have h := lhear_len (p := p) (ks := ks) (sg := sg) (s := s) (evs := evs) j
    unfold lhear
    split
    · unfold lstep
      split
      · rw [List.length_append, List.length_singleton]; omega
      · omega
    · omega
def lh (p : Str) (ks sg : List Str) (o l k g s : Int) : List D × Bool := lhear p ks sg s (lEvs o l k g) (lEvs o l k g).length
def lsigs (p : Str) (ks sg : List Str) (o l k g s : Int) : List D := (lh p ks sg o l k g s).1 ++ (if k ∈ ([3, 5] : List Int) ∧ lreach p ks "end" 1 true false = true then [ENDS] else [])
def lsitB (p : Str) (ks sg : List Str) (o l k g s : Int) : Int × Int := lsit o l k g (lx o l g) (lh p ks sg o l k g s).2
theorem lEvs_len (o l k g : Int) : (lEvs o l k g).length ≤ 3 := by
  unfold lEvs
  repeat' split
  all_goals simp
section
variable {P : Program} {w : World} {K : PySem.W.Frag} {mg : Str → Option Value} {base : Heap} {T : List Addr} {CE : Addr}
def pLReach (ss : List Dz.Slot) (O : OH) (d : D) (O' : OH) : Prop := ∃ p ks sg kind n ir st, ss = [.dat (suD p ks sg), .dat (.str kind), .dat (.int n), .dat (.bl ir), .dat (.bl st)] ∧ d = .bl (lreach p ks kind n ir st) ∧ O' = O
theorem scLReach : FnScope ["setup", "kind", "number", "is_root", "stopped"] ["setup", "kind", "number", "is_root", "stopped"] (defScope s_law_reaches) := ⟨rfl, rfl, rfl, by decide +kernel, rfl, by decide +kernel, by decide +kernel⟩
theorem ok_lreach {f : Addr} {fd : FuncData} {cdv : Value} (F : FunC K "_law_reaches" "_law_reaches" s_law_reaches f fd cdv) : FnOk P w K mg base CX0 1 f fd ["setup", "kind", "number", "is_root", "stopped"] (spF T K pLReach) := by
  refine fn_ok (CE := (0 : Addr)) (R := pLReach) F scLReach (fun ss O d O' ⟨_, _, _, _, _, _, _, h, _⟩ => by rw [h]; rfl) fun A outer s H E ss O d O' hr h => ?_
  obtain ⟨p, ks, sg, kind, n, ir, st, h1, h2, h3⟩ := h
  subst h1 h2 h3
  refine ds_cons (d1_if (p := !decide (kind ∈ ks)) (DT.cast (dt_ninL (x := .str kind) (ds := ks.map .str) hr (by rfl) (oks_strs ks 32) (de_var 1) (de_ixL (ds := [.str p, .lst (ks.map .str), .lst (sg.map .str)]) (de_var 0) de_int rfl)) (by rw [in_strs])) (fun z => ds_one (d1_ret (s := .dat (.bl false)) (DE.dv de_bl) ⟨by unfold lreach; rw [if_neg (by simpa using z)], rfl⟩)) fun z => ds_nil ?_)
  have z1 : kind ∈ ks := by simpa using z
  refine ds_cons (d1_if (p := decide (kind = "end")) (DT.cast (dt_eq (x := .str kind) (y := .str "end") hr (by rfl) (by rfl) (de_var 1) de_str) (deq_str _ _)) (fun z => ds_one (d1_ret (s := .dat (.bl (!decide (p = "zone")))) (DE.dv (DE.cast (de_ne (x := .str p) (y := .str "zone") hr (by rfl) (by rfl) (de_ixL (ds := [.str p, .lst (ks.map .str), .lst (sg.map .str)]) (de_var 0) de_int rfl) de_str) (by rw [deq_str]))) ⟨by unfold lreach; rw [if_pos z1, if_pos (of_decide_eq_true z)], rfl⟩)) fun z => ds_nil ?_)
  have z2 := of_decide_eq_false z
  refine ds_cons (d1_if (p := decide (p = "zone")) (DT.cast (dt_eq (x := .str p) (y := .str "zone") hr (by rfl) (by rfl) (de_ixL (ds := [.str p, .lst (ks.map .str), .lst (sg.map .str)]) (de_var 0) de_int rfl) de_str) (deq_str _ _)) (fun z => ds_one (d1_ret (s := .dat (.bl (decide (n = 3) || (decide (n = 2) && !st)))) (DE.dv (de_or (DE.cast (de_eq (x := .int n) (y := .int 3) hr (by rfl) (by rfl) (de_var 2) de_int) (by rw [deq_int])) fun _ => de_one (de_and (DE.cast (de_eq (x := .int n) (y := .int 2) hr (by rfl) (by rfl) (de_var 2) de_int) (by rw [deq_int])) fun _ => de_one (de_not (de_var 4))))) ⟨by unfold lreach; rw [if_pos z1, if_neg z2, if_pos (of_decide_eq_true z)], rfl⟩)) fun z => ds_nil ?_)
  exact ds_one (d1_ret (s := .dat (.bl (decide (p = "capture") || (ir || !st)))) (DE.dv (de_or (DE.cast (de_eq (x := .str p) (y := .str "capture") hr (by rfl) (by rfl) (de_ixL (ds := [.str p, .lst (ks.map .str), .lst (sg.map .str)]) (de_var 0) de_int rfl) de_str) (by rw [deq_str])) fun _ => de_or (de_var 3) fun _ => de_one (de_not (de_var 4)))) ⟨by unfold lreach; rw [if_pos z1, if_neg z2, if_neg (of_decide_eq_false z)], rfl⟩)

def pLSig (ss : List Dz.Slot) (O : OH) (d : D) (O' : OH) : Prop := ∃ p ks sg kind n same rel, ss = [.dat (suD p ks sg), .dat (.str kind), .dat (.int n), .dat (.bl same), .dat (.int rel)] ∧ (0 ≤ n ∧ n ≤ 3) ∧ (0 ≤ rel ∧ rel ≤ 3) ∧ d = lsig sg kind n same rel ∧ O' = O
theorem scLSig : FnScope ["setup", "kind", "number", "same", "related", "side", "told"] ["setup", "kind", "number", "same", "related"] (defScope s_law_signal) := ⟨rfl, rfl, rfl, by decide +kernel, rfl, by decide +kernel, by decide +kernel⟩
theorem sdL_at {n : Int} (h : 0 ≤ n ∧ n ≤ 3) : atI [D.str "", .str "outside", .str "inside", .str "inside"] n = some (.str (sdL n)) := by
  rcases k4 h with rfl | rfl | rfl | rfl <;> rfl
theorem rlL_at {n : Int} (h : 0 ≤ n ∧ n ≤ 3) : atI [D.str "none", .str "outside", .str "inside", .str "inside"] n = some (.str (rlL n)) := by
  rcases k4 h with rfl | rfl | rfl | rfl <;> rfl
theorem ok_lsig {f : Addr} {fd : FuncData} {cdv : Value} (F : FunC K "_law_signal" "_law_signal" s_law_signal f fd cdv) : FnOk P w K mg base CX0 1 f fd ["setup", "kind", "number", "same", "related"] (spF T K pLSig) := by
  refine fn_ok (CE := (0 : Addr)) (R := pLSig) F scLSig (fun ss O d O' ⟨_, _, _, _, _, _, _, h, _⟩ => by rw [h]; rfl) fun A outer s H E ss O d O' hr h => ?_
  obtain ⟨p, ks, sg, kind, n, same, rel, h1, hn, hrl, h2, h3⟩ := h
  subst h1 h2 h3
  refine ds_cons (d1_if (p := decide (kind = "end")) (DT.cast (dt_eq (x := .str kind) (y := .str "end") hr (by rfl) (by rfl) (de_var 1) de_str) (deq_str _ _)) (fun z => ds_one (d1_ret (s := .dat ENDS) (DE.dv (de_tup (ds := [.str "end", .str "outside", .bl false, .str "none"]) (da_d de_str (da_d de_str (da_d de_bl (da_d de_str da_nil)))))) ⟨by unfold lsig; rw [if_pos (of_decide_eq_true z)], rfl⟩)) fun z => ds_nil ?_)
  have z1 := of_decide_eq_false z
  refine ds_cons (d1_set 5 (s := .dat (.str (sdL n))) (DE.dv (de_ixL (ds := [D.str "", .str "outside", .str "inside", .str "inside"]) (de_lst (ds := [D.str "", .str "outside", .str "inside", .str "inside"]) (da_d de_str (da_d de_str (da_d de_str (da_d de_str da_nil))))) (de_var 2) (sdL_at hn))) ?_ scLSig.nd)
  refine ds_mid (fun ρ' O2 => ρ' = [.dat (suD p ks sg), .dat (.str kind), .dat (.int n), .dat (.bl same), .dat (.int rel), .dat (.str (if n = 3 ∧ ("own" : Str) ∈ sg then "zone" else sdL n)), .no] ∧ O' = O2) (d1_if (p := decide (n = 3) && decide (("own" : Str) ∈ sg)) (DW.dt (dw_and (DT.cast (dt_eq (x := .int n) (y := .int 3) hr (by rfl) (by rfl) (de_var 2) de_int) (deq_int _ _)) fun _ => dw_and1 (DT.cast (dt_inL (x := .str "own") (ds := sg.map .str) hr (by rfl) (oks_strs sg 32) de_str (de_ixL (ds := [.str p, .lst (ks.map .str), .lst (sg.map .str)]) (de_var 0) de_int rfl)) (in_strs sg _)))) (fun q => ds_one (d1_set 5 (s := .dat (.str "zone")) (DE.dv de_str) ⟨?_, rfl⟩ scLSig.nd)) fun q => ds_nil ⟨?_, rfl⟩) ?_
  · have q' : n = 3 ∧ ("own" : Str) ∈ sg := by simpa using q
    rw [if_pos q']
    rfl
  · have q' : ¬ (n = 3 ∧ ("own" : Str) ∈ sg) := by
      rintro ⟨y1, y2⟩
      rw [decide_eq_true y1, decide_eq_true y2] at q
      cases q
    rw [if_neg q']
    rfl
  rintro ρ' O2 ⟨rfl, rfl⟩
  generalize hsd : (if n = 3 ∧ ("own" : Str) ∈ sg then ("zone" : Str) else sdL n) = s5
  refine ds_cons (d1_set 6 (s := .dat (.str "none")) (DE.dv de_str) ?_ scLSig.nd)
  refine ds_mid (fun ρ' O2 => ρ' = [.dat (suD p ks sg), .dat (.str kind), .dat (.int n), .dat (.bl same), .dat (.int rel), .dat (.str s5), .dat (.str (if ("related" : Str) ∈ sg then rlL rel else "none"))] ∧ O' = O2) (d1_if (p := decide (("related" : Str) ∈ sg)) (DT.cast (dt_inL (x := .str "related") (ds := sg.map .str) hr (by rfl) (oks_strs sg 32) de_str (de_ixL (ds := [.str p, .lst (ks.map .str), .lst (sg.map .str)]) (de_var 0) de_int rfl)) (in_strs sg _)) (fun q => ds_one (d1_set 6 (s := .dat (.str (rlL rel))) (DE.dv (de_ixL (ds := [D.str "none", .str "outside", .str "inside", .str "inside"]) (de_lst (ds := [D.str "none", .str "outside", .str "inside", .str "inside"]) (da_d de_str (da_d de_str (da_d de_str (da_d de_str da_nil))))) (de_var 4) (rlL_at hrl))) ⟨?_, rfl⟩ scLSig.nd)) fun q => ds_nil ⟨?_, rfl⟩) ?_
  · rw [if_pos (of_decide_eq_true q)]
    rfl
  · rw [if_neg (of_decide_eq_false q)]
    rfl
  rintro ρ' O2 ⟨rfl, rfl⟩
  generalize htd : (if ("related" : Str) ∈ sg then rlL rel else ("none" : Str)) = s6
  have e : lsig sg kind n same rel = .tup [.str kind, .str s5, .bl (same && decide (("same" : Str) ∈ sg)), .str s6] := by
    unfold lsig
    rw [if_neg z1, hsd, htd]
  rw [e]
  exact ds_one (d1_ret (s := .dat (.tup [.str kind, .str s5, .bl (same && decide (("same" : Str) ∈ sg)), .str s6])) (DE.dv (de_tup (ds := [.str kind, .str s5, .bl (same && decide (("same" : Str) ∈ sg)), .str s6]) (da_d (de_var 1) (da_d (de_var 5) (da_d (de_and (de_var 3) fun _ => de_one (DE.cast (de_inL (x := .str "same") (ds := sg.map .str) hr (by rfl) (oks_strs sg 32) de_str (de_ixL (ds := [.str p, .lst (ks.map .str), .lst (sg.map .str)]) (de_var 0) de_int rfl)) (by rw [in_strs]))) (da_d (de_var 6) da_nil)))) (by show 4 ≤ 10000; decide))) ⟨rfl, rfl⟩)

def pLSit (ss : List Dz.Slot) (O : OH) (d : D) (O' : OH) : Prop := ∃ o l k g s x ent, ss = [.dat (T5 o l k g s), .dat (.int x), .dat (.bl ent)] ∧ (0 ≤ o ∧ o ≤ 3) ∧ d = pD (lsit o l k g x ent) ∧ O' = O
theorem scLSit : FnScope ["turn", "x", "entered", "over", "last", "tick", "target", "stops", "old"] ["turn", "x", "entered"] (defScope s_law_situation) := ⟨rfl, rfl, rfl, by decide +kernel, rfl, by decide +kernel, by decide +kernel⟩
theorem ok_lsit {f : Addr} {fd : FuncData} {cdv : Value} (F : FunC K "_law_situation" "_law_situation" s_law_situation f fd cdv) (L : Blt mg) : FnOk P w K mg base CX0 1 f fd ["turn", "x", "entered"] (spF T K pLSit) := by
  refine fn_ok (CE := (0 : Addr)) (R := pLSit) F scLSit (fun ss O d O' ⟨_, _, _, _, _, _, _, h, _⟩ => by rw [h]; rfl) fun A outer s H E ss O d O' hr h => ?_
  obtain ⟨o, l, k, g, st, x, ent, h1, ho, h2, h3⟩ := h
  subst h1 h2 h3
  refine ds_cons (d1_unpack (ds := [.int o, .int l, .int k, .int g, .int st]) (is := [3, 4, 5, 6, 7]) (de_var 0) rfl (by repeat' (first | exact Dz.Names.nil | refine Dz.Names.cons rfl (by first | exact Or.inl rfl | exact Or.inr rfl) (by first | exact .inl rfl | exact .inr rfl) rfl ?_)) ?_ scLSit.nd)
  have pr : ∀ {a b : Int}, pD (a, b) = .tup [.int a, .int b] := rfl
  refine ds_cons (d1_if (p := decide (k < 2) && decide (g = 0)) (DW.dt (dw_and (dt_lt (de_var 5) de_int) fun _ => dw_and1 (DT.cast (dt_eq (x := .int g) (y := .int 0) hr (by rfl) (by rfl) (de_var 6) de_int) (deq_int _ _)))) (fun z => ds_one (d1_ret (s := .dat (pD (o, l))) (DE.dv (de_tup (ds := [.int o, .int l]) (da_d (de_var 3) (da_d (de_var 4) da_nil)) (by show 2 ≤ 10000; decide))) ⟨?_, rfl⟩)) fun z => ds_nil ?_)
  · have z' : k < 2 ∧ g = 0 := by simpa using z
    unfold lsit
    rw [if_pos z']
  have z1 : ¬ (k < 2 ∧ g = 0) := by
    rintro ⟨y1, y2⟩
    rw [decide_eq_true y1, decide_eq_true y2] at z
    cases z
  refine ds_cons (d1_if (p := decide (k < 2) && (ent || decide (g = 1))) (DW.dt (dw_and (dt_lt (de_var 5) de_int) fun _ => dw_and1 (DW.dt (dw_or (p := ent) (dt_val (de_var 2)) fun _ => dw_or1 (DT.cast (dt_eq (x := .int g) (y := .int 1) hr (by rfl) (by rfl) (de_var 6) de_int) (deq_int _ _)))))) (fun z => ds_one (d1_ret (s := .dat (pD (x, 4))) (DE.dv (de_tup (ds := [.int x, .int 4]) (da_d (de_var 1) (da_d de_int da_nil)) (by show 2 ≤ 10000; decide))) ⟨?_, rfl⟩)) fun z => ds_nil ?_)
  · have z' : k < 2 ∧ (ent = true ∨ g = 1) := by simpa using z
    unfold lsit
    rw [if_neg z1, if_pos z']
  have z2 : ¬ (k < 2 ∧ (ent = true ∨ g = 1)) := by
    rintro ⟨y1, y2⟩
    have q : (decide (k < 2) && (ent || decide (g = 1))) = true := by simpa using And.intro y1 y2
    rw [q] at z
    cases z
  refine ds_cons (d1_set 8 (s := .dat (.int l)) (DE.dv (de_var 4)) ?_ scLSit.nd)
  let old : Int := if l = 4 then o * (if k = 1 then 0 else 1) else l
  refine ds_mid (fun ρ' O2 => ρ' = [.dat (T5 o l k g st), .dat (.int x), .dat (.bl ent), .dat (.int o), .dat (.int l), .dat (.int k), .dat (.int g), .dat (.int st), .dat (.int old)] ∧ O' = O2) (d1_if (p := decide (l = 4)) (DT.cast (dt_eq (x := .int l) (y := .int 4) hr (by rfl) (by rfl) (de_var 4) de_int) (deq_int _ _)) (fun q => ds_one (d1_set 8 (s := .dat (.int (o * (if (!decide (k = 1)) = true then 1 else 0)))) (DE.dv (de_mul (.inl (by omega)) (de_var 3) (de_intB L.int (DE.cast (de_ne (x := .int k) (y := .int 1) hr (by rfl) (by rfl) (de_var 5) de_int) (by rw [deq_int]))))) ⟨?_, rfl⟩ scLSit.nd)) fun q => ds_nil ⟨?_, rfl⟩) ?_
  · have e : old = o * (if (!decide (k = 1)) = true then 1 else 0) := by
      show (if l = 4 then o * (if k = 1 then 0 else 1) else l) = _
      rw [if_pos (of_decide_eq_true q)]
      by_cases h : k = 1
      · rw [if_pos h, decide_eq_true h]; rfl
      · rw [if_neg h, decide_eq_false h]; rfl
    rw [e]
    rfl
  · have e : old = l := if_neg (of_decide_eq_false q)
    rw [e]
    rfl
  rintro ρ' O2 ⟨rfl, rfl⟩
  refine ds_cons (d1_if (p := decide (k < 2)) (dt_lt (de_var 5) de_int) (fun z => ds_one (d1_ret (s := .dat (pD (x, old))) (DE.dv (de_tup (ds := [.int x, .int old]) (da_d (de_var 1) (da_d (de_var 8) da_nil)) (by show 2 ≤ 10000; decide))) ⟨?_, rfl⟩)) fun z => ds_nil (ds_one (d1_ret (s := .dat (pD (0, old))) (DE.dv (de_tup (ds := [.int 0, .int old]) (da_d de_int (da_d (de_var 8) da_nil)) (by show 2 ≤ 10000; decide))) ⟨?_, rfl⟩)))
  · unfold lsit
    rw [if_neg z1, if_neg z2, if_pos (of_decide_eq_true z)]
  · unfold lsit
    rw [if_neg z1, if_neg z2, if_neg (of_decide_eq_false z)]
end
end Dg

namespace Dg
open PySem PySem.Spec PyProof.Rows L2 GxR Dz
theorem lx_bd {o l k g s : Int} (h : OkT o l k g s) : 0 ≤ lx o l g ∧ lx o l g ≤ 3 := by
  obtain ⟨h1, h2, h3, h4⟩ := h.i
  unfold lx
  by_cases g0 : g = 0
  · rw [if_pos g0]; exact ⟨h1, h2⟩
  · rw [if_neg g0]
    by_cases g1 : g = 1
    · rw [if_pos g1]
      have := h.b g1
      omega
    · rw [if_neg g1]
      split
      · omega
      · split <;> omega
def LOk (e : LEv) : Prop := (0 ≤ e.2.1 ∧ e.2.1 ≤ 3) ∧ 0 ≤ e.2.2.2 ∧ e.2.2.2 ≤ 3
theorem lEvs_ok {o l k g s : Int} (h : OkT o l k g s) : ∀ e ∈ lEvs o l k g, LOk e := by
  have hx := lx_bd h
  obtain ⟨h1, h2, h3, h4⟩ := h.i
  intro e he
  unfold lEvs at he
  split at he
  · have q : e = (("over" : Str), o, decide (l = 4), 0) := by simpa using he
    rw [q]; exact ⟨⟨h1, h2⟩, by show (0 : Int) ≤ 0; decide, by show (0 : Int) ≤ 3; decide⟩
  · split at he
    · split at he
      · have q : e = (("enter" : Str), lx o l g, decide (g = 1), o) ∨ e = (("leave" : Str), o, decide (l = 4), lx o l g) ∨ e = (("over" : Str), lx o l g, decide (g = 1), 0) := by simpa using he
        rcases q with q | q | q <;> rw [q]
        · exact ⟨hx, h1, h2⟩
        · exact ⟨⟨h1, h2⟩, hx⟩
        · exact ⟨hx, by show (0 : Int) ≤ 0; decide, by show (0 : Int) ≤ 3; decide⟩
      · have q : e = (("enter" : Str), lx o l g, decide (g = 1), o) ∨ e = (("over" : Str), lx o l g, decide (g = 1), 0) := by simpa using he
        rcases q with q | q <;> rw [q]
        · exact ⟨hx, h1, h2⟩
        · exact ⟨hx, by show (0 : Int) ≤ 0; decide, by show (0 : Int) ≤ 3; decide⟩
    · split at he
      · have q : e = (lnm k, o, decide (l = 4), 0) := by simpa using he
        rw [q]; exact ⟨⟨h1, h2⟩, by show (0 : Int) ≤ 0; decide, by show (0 : Int) ≤ 3; decide⟩
      · cases he
section
variable {P : Program} {w : World} {K : PySem.W.Frag} {mg : Str → Option Value} {base : Heap} {T : List Addr} {CE : Addr}
def pLBehind (ss : List Dz.Slot) (O : OH) (d : D) (O' : OH) : Prop := ∃ p ks sg o l k g s, ss = [.dat (suD p ks sg), .dat (T5 o l k g s)] ∧ OkT o l k g s ∧ d = .lst [pD (lsitB p ks sg o l k g s), .lst (lsigs p ks sg o l k g s)] ∧ O' = O
theorem scLBehind : FnScope ["setup", "turn", "over", "last", "tick", "target", "stops", "x", "events", "signals", "entered", "k", "kind", "number", "same", "related"] ["setup", "turn"] (defScope s_law_behind) := ⟨rfl, rfl, rfl, by decide +kernel, rfl, by decide +kernel, by decide +kernel⟩
theorem ok_lbehind {f : Addr} {fd : FuncData} {cdv : Value} (F : FunC K "_law_behind" "_law_behind" s_law_behind f fd cdv) (L : Blt mg) (G1 : HasF P w K mg base CX0 1 "_law_reaches" ["setup", "kind", "number", "is_root", "stopped"] (spF T K pLReach)) (G2 : HasF P w K mg base CX0 1 "_law_signal" ["setup", "kind", "number", "same", "related"] (spF T K pLSig)) (G3 : HasF P w K mg base CX0 1 "_law_situation" ["turn", "x", "entered"] (spF T K pLSit)) :
    FnOk P w K mg base CX0 2 f fd ["setup", "turn"] (spF T K pLBehind) := by
  refine fn_ok (CE := (0 : Addr)) (R := pLBehind) F scLBehind (fun ss O d O' ⟨_, _, _, _, _, _, _, _, h, _⟩ => by rw [h]; rfl) fun A outer s H E ss O d O' hr h => ?_
  obtain ⟨p, ks, sg, o, l, k, g, st, h1, hT, h2, h3⟩ := h
  subst h1 h2 h3
  have hok := lEvs_ok hT
  have hel := lEvs_len o l k g
  obtain ⟨i1, i2, i3, i4⟩ := hT.i
  refine ds_cons (d1_unpack (ds := [.int o, .int l, .int k, .int g, .int st]) (is := [2, 3, 4, 5, 6]) (de_var 1) rfl (by repeat' (first | exact Dz.Names.nil | refine Dz.Names.cons rfl (by first | exact Or.inl rfl | exact Or.inr rfl) (by first | exact .inl rfl | exact .inr rfl) rfl ?_)) ?_ scLBehind.nd)
  have hat : atI [D.int o, .int l, .int 1, .int 2, .int 3] g = some (.int (lx o l g)) := by
    have hg : g = 0 ∨ g = 1 ∨ g = 2 ∨ g = 3 ∨ g = 4 := by have := hT.g0; have := hT.g4; omega
    rcases hg with rfl | rfl | rfl | rfl | rfl <;> rfl
  refine ds_cons (d1_set 7 (s := .dat (.int (lx o l g))) (DE.dv (de_ixL (ds := [D.int o, .int l, .int 1, .int 2, .int 3]) (de_lst (ds := [D.int o, .int l, .int 1, .int 2, .int 3]) (da_d (de_var 2) (da_d (de_var 3) (da_d de_int (da_d de_int (da_d de_int da_nil))))) (by show 5 ≤ 10000; decide)) (de_var 5) hat)) ?_ scLBehind.nd)
  refine ds_cons (d1_set 8 (s := .dat (.lst [])) (DE.dv (de_lst (ds := []) da_nil)) ?_ scLBehind.nd)
  refine ds_mid (fun ρ' O2 => (ρ' = [.dat (suD p ks sg), .dat (T5 o l k g st), .dat (.int o), .dat (.int l), .dat (.int k), .dat (.int g), .dat (.int st), .dat (.int (lx o l g)), .dat (.lst ((lEvs o l k g).map levD)), .no, .no, .no, .no, .no, .no, .no] ∧ O' = O2) ∨
    ∃ c, O' c = none ∧ ρ' = [.dat (suD p ks sg), .dat (T5 o l k g st), .dat (.int o), .dat (.int l), .dat (.int k), .dat (.int g), .dat (.int st), .dat (.int (lx o l g)), .val (.ref c), .no, .no, .no, .no, .no, .no, .no] ∧ O2 = put O' c (lO ((lEvs o l k g).map levD))) ?_ ?_
  · refine d1_if (p := decide (k < 2) && decide (g = 0)) (DW.dt (dw_and (dt_lt (de_var 4) de_int) fun _ => dw_and1 (DT.cast (dt_eq (x := .int g) (y := .int 0) hr (by rfl) (by rfl) (de_var 5) de_int) (deq_int _ _)))) (fun z => ?_) fun z => ?_
    · have z' : k < 2 ∧ g = 0 := by simpa using z
      have e : lEvs o l k g = [(("over" : Str), o, decide (l = 4), 0)] := by unfold lEvs; rw [if_pos z']
      rw [e]
      exact ds_one (d1_set 8 (s := .dat (.lst [levD ("over", o, decide (l = 4), 0)])) (DE.dv (de_lst (ds := [levD ("over", o, decide (l = 4), 0)]) (da_d (de_tup (ds := [.str "over", .int o, .bl (decide (l = 4)), .int 0]) (da_d de_str (da_d (de_var 2) (da_d (DE.cast (de_eq (x := .int l) (y := .int 4) hr (by rfl) (by rfl) (de_var 3) de_int) (by rw [deq_int])) (da_d de_int da_nil)))) (by show 4 ≤ 10000; decide)) da_nil) (by show 1 ≤ 10000; decide))) (.inl ⟨rfl, rfl⟩) scLBehind.nd)
    have z1 : ¬ (k < 2 ∧ g = 0) := by
      rintro ⟨y1, y2⟩
      rw [decide_eq_true y1, decide_eq_true y2] at z
      cases z
    refine ds_one (d1_if (p := decide (k < 2)) (dt_lt (de_var 4) de_int) (fun z => ?_) fun z => ?_)
    · have z2 := of_decide_eq_true z
      refine ds_cons (d1_own 8 (ss := [.dat (levD ("enter", lx o l g, decide (g = 1), o)), .dat (levD ("over", lx o l g, decide (g = 1), 0))]) (da_d (d := levD ("enter", lx o l g, decide (g = 1), o)) (de_tup (ds := [.str "enter", .int (lx o l g), .bl (decide (g = 1)), .int o]) (da_d de_str (da_d (de_var 7) (da_d (DE.cast (de_eq (x := .int g) (y := .int 1) hr (by rfl) (by rfl) (de_var 5) de_int) (by rw [deq_int])) (da_d (de_var 2) da_nil)))) (by show 4 ≤ 10000; decide))
        (da_d (d := levD ("over", lx o l g, decide (g = 1), 0)) (de_tup (ds := [.str "over", .int (lx o l g), .bl (decide (g = 1)), .int 0]) (da_d de_str (da_d (de_var 7) (da_d (DE.cast (de_eq (x := .int g) (y := .int 1) hr (by rfl) (by rfl) (de_var 5) de_int) (by rw [deq_int])) (da_d de_int da_nil)))) (by show 4 ≤ 10000; decide)) da_nil)) (fun c hc => ?_) scLBehind.nd (by show 2 ≤ 10000; decide))
      refine ds_one (d1_if (p := decide (k = 0) && decide (0 < o)) (DW.dt (dw_and (DT.cast (dt_eq (x := .int k) (y := .int 0) hr (by rfl) (by rfl) (de_var 4) de_int) (deq_int _ _)) fun _ => dw_and1 (dt_gt (de_var 2) de_int))) (fun y => ?_) fun y => ds_nil (.inr ⟨c, hc, rfl, ?_⟩))
      · have y' : k = 0 ∧ 0 < o := by simpa using y
        refine ds_one (d1_insert 8 (k := 1) (ss := [.dat (levD ("enter", lx o l g, decide (g = 1), o)), .dat (levD ("over", lx o l g, decide (g = 1), 0))]) (s := .dat (levD ("leave", o, decide (l = 4), lx o l g))) (O1 := put O' c (.lst [.dat (levD ("enter", lx o l g, decide (g = 1), o)), .dat (levD ("over", lx o l g, decide (g = 1), 0))])) rfl put_same de_int (DE.dv (de_tup (ds := [.str "leave", .int o, .bl (decide (l = 4)), .int (lx o l g)]) (da_d de_str (da_d (de_var 2) (da_d (DE.cast (de_eq (x := .int l) (y := .int 4) hr (by rfl) (by rfl) (de_var 3) de_int) (by rw [deq_int])) (da_d (de_var 7) da_nil)))) (by show 4 ≤ 10000; decide))) put_same (by decide) (by show 2 < 100000; decide) (.inr ⟨c, hc, rfl, ?_⟩))
        rw [put_put]
        have e : lEvs o l k g = [(("enter" : Str), lx o l g, decide (g = 1), o), (("leave" : Str), o, decide (l = 4), lx o l g), (("over" : Str), lx o l g, decide (g = 1), 0)] := by unfold lEvs; rw [if_neg z1, if_pos z2, if_pos y']
        rw [e]
        rfl
      · have y' : ¬ (k = 0 ∧ 0 < o) := by
          rintro ⟨y1, y2⟩
          rw [decide_eq_true y1, decide_eq_true y2] at y
          cases y
        have e : lEvs o l k g = [(("enter" : Str), lx o l g, decide (g = 1), o), (("over" : Str), lx o l g, decide (g = 1), 0)] := by unfold lEvs; rw [if_neg z1, if_pos z2, if_neg y']
        rw [e]
        rfl
    · have z2 := of_decide_eq_false z
      refine ds_one (d1_if (p := decide (0 < o)) (dt_gt (de_var 2) de_int) (fun y => ?_) fun y => ds_nil (.inl ⟨?_, rfl⟩))
      · have y' := of_decide_eq_true y
        have e : lEvs o l k g = [(lnm k, o, decide (l = 4), 0)] := by unfold lEvs; rw [if_neg z1, if_neg z2, if_pos y']
        have hnm : atI [D.str "leave", .str "drop", .str "drop", .str "leave", .str "leave"] (k - 2) = some (.str (lnm k)) := by
          have hk := hT.k6
          have : k = 2 ∨ k = 3 ∨ k = 4 ∨ k = 5 ∨ k = 6 := by omega
          rcases this with rfl | rfl | rfl | rfl | rfl <;> rfl
        rw [e]
        exact ds_one (d1_set 8 (s := .dat (.lst [levD (lnm k, o, decide (l = 4), 0)])) (DE.dv (de_lst (ds := [levD (lnm k, o, decide (l = 4), 0)]) (da_d (de_tup (ds := [.str (lnm k), .int o, .bl (decide (l = 4)), .int 0]) (da_d (de_ixL (ds := [D.str "leave", .str "drop", .str "drop", .str "leave", .str "leave"]) (de_lst (ds := [D.str "leave", .str "drop", .str "drop", .str "leave", .str "leave"]) (da_d de_str (da_d de_str (da_d de_str (da_d de_str (da_d de_str da_nil)))))) (de_sub (de_var 4) de_int) hnm) (da_d (de_var 2) (da_d (DE.cast (de_eq (x := .int l) (y := .int 4) hr (by rfl) (by rfl) (de_var 3) de_int) (by rw [deq_int])) (da_d de_int da_nil)))) (by show 4 ≤ 10000; decide)) da_nil) (by show 1 ≤ 10000; decide))) (.inl ⟨rfl, rfl⟩) scLBehind.nd)
      · have e : lEvs o l k g = [] := by unfold lEvs; rw [if_neg z1, if_neg z2, if_neg (of_decide_eq_false y)]
        rw [e]
        rfl
  have nb := hT
  rintro ρ' O2 hI
  unfold lsigs lsitB lh
  generalize hevs : lEvs o l k g = evs at hI hok hel
  have go : ∀ (E0 : DEn) , E0 = { nx := fun _ q => D.lst [pD (lsit o l k g (lx o l g) (lhear p ks sg st evs evs.length).2), .lst ((lhear p ks sg st evs evs.length).1 ++ (if k ∈ ([3, 5] : List Int) ∧ lreach p ks "end" 1 true false = true then [ENDS] else []))] = .non ∧ q = O', rt := fun s q => s = .dat (.lst [pD (lsit o l k g (lx o l g) (lhear p ks sg st evs evs.length).2), .lst ((lhear p ks sg st evs evs.length).1 ++ (if k ∈ ([3, 5] : List Int) ∧ lreach p ks "end" 1 true false = true then [ENDS] else []))]) ∧ q = O' } →
      DS T (bx P w K mg base ["setup", "turn", "over", "last", "tick", "target", "stops", "x", "events", "signals", "entered", "k", "kind", "number", "same", "related"] "_law_behind" s_law_behind f cdv A outer s H E) 0 ((defBody s_law_behind).drop 4) [.dat (suD p ks sg), .dat (T5 o l k g st), .dat (.int o), .dat (.int l), .dat (.int k), .dat (.int g), .dat (.int st), .dat (.int (lx o l g)), .dat (.lst (evs.map levD)), .no, .no, .no, .no, .no, .no, .no] O' E0 := by
    rintro E0 rfl
    refine ds_cons (d1_own 9 (ss := []) da_nil (fun c hc => ?_) scLBehind.nd)
    refine ds_cons (d1_set 10 (s := .dat (.bl false)) (DE.dv de_bl) ?_ scLBehind.nd)
    refine ds_mid (fun ρ' O2 => (∃ s11 s12 s13 s14 s15, ρ' = [.dat (suD p ks sg), .dat (T5 o l k g st), .dat (.int o), .dat (.int l), .dat (.int k), .dat (.int g), .dat (.int st), .dat (.int (lx o l g)), .dat (.lst (evs.map levD)), .val (.ref c), .dat (.bl (lhear p ks sg st evs evs.length).2), s11, s12, s13, s14, s15]) ∧ O2 = put O' c (lO (lhear p ks sg st evs evs.length).1))
      (d1_forR (m := (evs.length : Int)) 11 (fun j ρ' O2 => (∃ s11 s12 s13 s14 s15, ρ' = [.dat (suD p ks sg), .dat (T5 o l k g st), .dat (.int o), .dat (.int l), .dat (.int k), .dat (.int g), .dat (.int st), .dat (.int (lx o l g)), .dat (.lst (evs.map levD)), .val (.ref c), .dat (.bl (lhear p ks sg st evs j).2), s11, s12, s13, s14, s15]) ∧ O2 = put O' c (lO (lhear p ks sg st evs j).1))
        (DE.cast (de_lenL (ds := evs.map levD) L.len (de_var 8)) (by rw [List.length_map])) (by omega) ⟨⟨_, _, _, _, _, rfl⟩, rfl⟩ scLBehind.nd ?_ ?_ L.range PassesOwn.never) ?_
    · rintro j ρ' O2 hj ⟨⟨s11, s12, s13, s14, s15, rfl⟩, rfl⟩
      have hjl : j < evs.length := by omega
      obtain ⟨⟨kind, n, sm, rel⟩, hev⟩ : ∃ ev, evs[j]? = some ev := ⟨_, List.getElem?_eq_getElem hjl⟩
      have hb : LOk (kind, n, sm, rel) := hok _ (List.mem_of_getElem? hev)
      have en := lhear_at (p := p) (ks := ks) (sg := sg) (s := st) hev
      have lq := lhear_len (p := p) (ks := ks) (sg := sg) (s := st) (evs := evs) j
      generalize lhear p ks sg st evs j = q at en lq
      obtain ⟨q1, q2⟩ := q
      rw [en]
      have lq : q1.length ≤ j := lq
      have hatj : atI (evs.map levD) (j : Int) = some (levD (kind, n, sm, rel)) := by
        rw [atI_D (by omega) (by rw [List.length_map]; omega)]
        rw [List.getD_eq_getElem?_getD, Int.toNat_natCast, List.getElem?_map, hev]
        rfl
      refine ds_cons (d1_unpack (ds := [.str kind, .int n, .bl sm, .int rel]) (is := [12, 13, 14, 15]) (de_ixL (ds := evs.map levD) (de_var 8) (de_var 11) hatj) rfl (by repeat' (first | exact Dz.Names.nil | refine Dz.Names.cons rfl (by first | exact Or.inl rfl | exact Or.inr rfl) (by first | exact .inl rfl | exact .inr rfl) rfl ?_)) ?_ scLBehind.nd)
      show DS T _ _ _ [.dat (suD p ks sg), .dat (T5 o l k g st), .dat (.int o), .dat (.int l), .dat (.int k), .dat (.int g), .dat (.int st), .dat (.int (lx o l g)), .dat (.lst (evs.map levD)), .val (.ref c), .dat (.bl q2), .dat (.int (j : Int)), .dat (.str kind), .dat (.int n), .dat (.bl sm), .dat (.int rel)] (put O' c (lO q1)) _
      have hj3 : j = 0 ∨ j = 1 ∨ j = 2 := by omega
      have hp2 : atI [D.int 1, .int 2, .int 4] (j : Int) = some (.int ((2 : Int) ^ j)) ∧ CDiv st ((2 : Int) ^ j) := by
        rcases hj3 with rfl | rfl | rfl
        · exact ⟨rfl, by show 0 < (2 : Int) ^ 0 ∧ _; decide⟩
        · exact ⟨rfl, by show 0 < (2 : Int) ^ 1 ∧ _; decide⟩
        · exact ⟨rfl, by show 0 < (2 : Int) ^ 2 ∧ _; decide⟩
      refine ds_one (d1_if (p := lreach p ks kind n false (stB st j)) (dt_val (de_callH G1 hr (da_d (de_var 0) (da_d (de_var 12) (da_d (de_var 13) (da_d de_bl (da_d (DE.cast (de_eq (x := .int (st / 2 ^ j % 2)) (y := .int 1) hr (by rfl) (by rfl) (de_mod (by decide) (de_intI L.int (de_fdiv hp2.2 (de_var 6) (de_ixL (ds := [D.int 1, .int 2, .int 4]) (de_lst (ds := [D.int 1, .int 2, .int 4]) (da_d de_int (da_d de_int (da_d de_int da_nil)))) (de_var 11) hp2.1))) de_int) de_int) (by rw [deq_int]; rfl)) da_nil))))) ⟨p, ks, sg, kind, n, false, stB st j, rfl, rfl, rfl⟩)) (fun z => ?_) fun z => ds_nil ?_)
      · have eh : lstep p ks sg st j (kind, n, sm, rel) (q1, q2) = (q1 ++ [lsig sg kind n (if q2 = true then decide (kind = "over") else sm) rel], q2 || decide (kind = "enter")) := by unfold lstep; rw [if_pos z]
        rw [eh]
        refine ds_mid (fun ρ' O2 => ρ' = [.dat (suD p ks sg), .dat (T5 o l k g st), .dat (.int o), .dat (.int l), .dat (.int k), .dat (.int g), .dat (.int st), .dat (.int (lx o l g)), .dat (.lst (evs.map levD)), .val (.ref c), .dat (.bl q2), .dat (.int (j : Int)), .dat (.str kind), .dat (.int n), .dat (.bl (if q2 = true then decide (kind = "over") else sm)), .dat (.int rel)] ∧ O2 = put O' c (lO q1)) (d1_if (p := q2) (dt_val (de_var 10)) (fun y => ds_one (d1_set 14 (s := .dat (.bl (decide (kind = "over")))) (DE.dv (DE.cast (de_eq (x := .str kind) (y := .str "over") hr (by rfl) (by rfl) (de_var 12) de_str) (by rw [deq_str]))) ⟨by rw [if_pos y]; rfl, rfl⟩ scLBehind.nd)) fun y => ds_nil ⟨by rw [if_neg (by rw [y]; decide)], rfl⟩) ?_
        rintro ρ' O2 ⟨rfl, rfl⟩
        generalize (if q2 = true then decide (kind = "over") else sm) = sm'
        refine ds_cons (d1_app 9 rfl (de_callH G2 hr (da_d (de_var 0) (da_d (de_var 12) (da_d (de_var 13) (da_d (de_var 14) (da_d (de_var 15) da_nil))))) ⟨p, ks, sg, kind, n, sm', rel, rfl, hb.1, hb.2, rfl, rfl⟩) (by omega) ?_)
        refine ds_one (d1_set 10 (s := .dat (.bl (q2 || decide (kind = "enter")))) (DE.dv (de_or (de_var 10) fun _ => de_one (DE.cast (de_eq (x := .str kind) (y := .str "enter") hr (by rfl) (by rfl) (de_var 12) de_str) (by rw [deq_str])))) ⟨⟨_, _, _, _, _, rfl⟩, rfl⟩ scLBehind.nd)
      · have eh : lstep p ks sg st j (kind, n, sm, rel) (q1, q2) = (q1, q2) := by unfold lstep; rw [if_neg (by rw [z]; decide)]
        rw [eh]
        exact ⟨⟨_, _, _, _, _, rfl⟩, rfl⟩
    · rintro ρ' O2 ⟨⟨s11, s12, s13, s14, s15, rfl⟩, rfl⟩
      rw [Int.toNat_natCast]
      exact ⟨⟨_, _, _, _, _, rfl⟩, rfl⟩
    rintro ρ' O2 ⟨⟨s11, s12, s13, s14, s15, rfl⟩, rfl⟩
    have lq := lhear_len (p := p) (ks := ks) (sg := sg) (s := st) (evs := evs) evs.length
    generalize lhear p ks sg st evs evs.length = q at lq
    obtain ⟨q1, q2⟩ := q
    have lq : q1.length ≤ evs.length := lq
    refine ds_mid (fun ρ' O2 => (∃ s11 s12 s13 s14 s15, ρ' = [.dat (suD p ks sg), .dat (T5 o l k g st), .dat (.int o), .dat (.int l), .dat (.int k), .dat (.int g), .dat (.int st), .dat (.int (lx o l g)), .dat (.lst (evs.map levD)), .val (.ref c), .dat (.bl q2), s11, s12, s13, s14, s15]) ∧ O2 = put O' c (lO (q1 ++ (if k ∈ ([3, 5] : List Int) ∧ lreach p ks "end" 1 true false = true then [ENDS] else [])))) (d1_if (p := decide (k ∈ ([3, 5] : List Int)) && lreach p ks "end" 1 true false) (DW.dt (dw_and (DT.cast (dt_inT (x := .int k) (ds := [3, 5].map .int) hr (by rfl) (by rfl) (de_var 4) (de_tup (ds := [.int 3, .int 5]) (da_d de_int (da_d de_int da_nil)))) (in_ints [3, 5] k)) fun _ => dw_and1 (dt_val (de_callH G1 hr (da_d (de_var 0) (da_d de_str (da_d de_int (da_d de_bl (da_d de_bl da_nil))))) ⟨p, ks, sg, "end", 1, true, false, rfl, rfl, rfl⟩)))) (fun z => ds_one (d1_app 9 rfl (de_callH G2 hr (da_d (de_var 0) (da_d de_str (da_d de_int (da_d de_bl (da_d de_int da_nil))))) ⟨p, ks, sg, "end", 1, false, 0, rfl, by decide, by decide, rfl, rfl⟩) (by omega) ⟨⟨_, _, _, _, _, rfl⟩, ?_⟩)) fun z => ds_nil ⟨⟨_, _, _, _, _, rfl⟩, ?_⟩) ?_
    · have z' : k ∈ ([3, 5] : List Int) ∧ lreach p ks "end" 1 true false = true := by simpa using z
      rw [if_pos z']
      rfl
    · have z' : ¬ (k ∈ ([3, 5] : List Int) ∧ lreach p ks "end" 1 true false = true) := by
        rintro ⟨y1, y2⟩
        rw [decide_eq_true y1, y2] at z
        cases z
      rw [if_neg z', List.append_nil]
    rintro ρ' O2 ⟨⟨s11, s12, s13, s14, s15, rfl⟩, rfl⟩
    generalize hsg : q1 ++ (if k ∈ ([3, 5] : List Int) ∧ lreach p ks "end" 1 true false = true then [ENDS] else []) = sgs
    refine ds_ice 9 rfl hc (ds_one (d1_ret (s := .dat (.lst [pD (lsit o l k g (lx o l g) q2), .lst sgs])) (DE.dv (de_lst (ds := [pD (lsit o l k g (lx o l g) q2), .lst sgs]) (da_d (de_callH G3 hr (da_d (de_var 1) (da_d (de_var 7) (da_d (de_var 10) da_nil))) ⟨o, l, k, g, st, lx o l g, q2, rfl, ⟨i1, i2⟩, rfl, rfl⟩) (da_d (de_var 9) da_nil)) (by show 2 ≤ 10000; decide))) ⟨?_, rfl⟩))
    rw [← hsg]
  rcases hI with ⟨rfl, rfl⟩ | ⟨c, hc, rfl, rfl⟩
  · exact go _ rfl
  · exact ds_ice 8 rfl hc (go _ rfl)
end
end Dg

namespace Dg
open PySem PySem.Spec PyProof.Rows L2 GxR Dz
/-! ### the program's reckoning is the law's -/
def mainP (k x : Int) (c : Option Int) : List Ev := if k = 0 then ptE x c else if k = 1 then [("enter", x, c), ("over", x, none)] else if k = 2 then evA "out" c else if k = 3 then evA "drop" c else if k = 4 then evA "drop" c else evA "cancel" c
def endP (k : Int) : List Ev := evB (decide (k = 3) || decide (k = 5))
theorem evP_split {k : Int} (h : 0 ≤ k ∧ k ≤ 6) (x : Int) (c : Option Int) : evP k x c = mainP k x c ++ endP k := by
  rcases k7 h with rfl | rfl | rfl | rfl | rfl | rfl | rfl
  · exact (List.append_nil _).symm
  · rfl
  · rfl
  · rfl
  · rfl
  · rfl
  · rfl
def relN (o l g : Int) : Option Int → Int
  | none => 0
  | some r => nu o l g r
def conv (o l g : Int) (ev : Ev) : LEv := (ev.1, nu o l g ev.2.1, decide (some ev.2.1 = entE o l), relN o l g ev.2.2)
def inB (n : Int) : Bool := decide (1 ≤ n) && decide (n ≤ 3)
def evC (o l g : Int) (ev : Ev) : Bool := decide (ev.1 ≠ "end") && (decide (ev.2.1 ≠ 0) && (decide (ev.2.1 = 1) == decide (nu o l g ev.2.1 = 3) && (inB (nu o l g ev.2.1) && match ev.2.2 with | none => true | some r => inB (nu o l g r))))
def laterC (t0 : Int) (ev : Ev) : Bool := decide (ev.1 ≠ "enter") && (decide (ev.1 = "over") == decide (ev.2.1 = t0))
def headC (o l k g : Int) : List Ev → Bool
  | [] => true
  | ev :: evs => if ev.1 = "enter" then evs.all (laterC ev.2.1) && decide ((obB o l k g, lbB o l k g (some ev.2.1)) = lsit o l k g (lx o l g) true) else evs.all fun e => decide (e.1 ≠ "enter")
theorem headC_cons (o l k g : Int) (ev : Ev) (evs : List Ev) : headC o l k g (ev :: evs) = if ev.1 = "enter" then evs.all (laterC ev.2.1) && decide ((obB o l k g, lbB o l k g (some ev.2.1)) = lsit o l k g (lx o l g) true) else evs.all fun e => decide (e.1 ≠ "enter") := rfl
def mnB (o l k g : Int) : List Ev := mainP k (tgX o l g) (curE o)
def chk (o l k g : Int) : Bool := decide ((mnB o l k g).map (conv o l g) = lEvs o l k g) && ((mnB o l k g).all (evC o l g) && (headC o l k g (mnB o l k g) && decide ((obB o l k g, lbB o l k g (entE o l)) = lsit o l k g (lx o l g) false)))
def okb (o l k g : Int) : Bool := !(decide (o = 3) && decide (l = 3)) && (!(decide (o = 0) && decide (l = 4)) && ((!(decide (g = 0) && decide (k = 0)) || decide (o ≠ 0)) && ((!decide (g = 1) || (decide (l = 1) || (decide (l = 2) || decide (l = 3)))) && ((!decide (g = 4) || (decide (o ≠ 3) && decide (l ≠ 3))) && ((!decide (2 ≤ k) || decide (g = 0)) && (!decide (k = 1) || (decide (g ≠ 0) && (decide (o = 1) || decide (o = 2)))))))))
theorem chk_fin : ∀ (o : Fin 4) (l : Fin 5) (k : Fin 7) (g : Fin 5), okb (o.val : Int) (l.val : Int) (k.val : Int) (g.val : Int) = true → chk (o.val : Int) (l.val : Int) (k.val : Int) (g.val : Int) = true := by decide +kernel
theorem okb_of {o l k g s : Int} (h : OkT o l k g s) : okb o l k g = true := by
  obtain ⟨i, ⟨v1, v2⟩, _, _, _, _, _, a, b, c, d, e⟩ := h
  unfold okb
  simp only [Bool.and_eq_true, Bool.or_eq_true, Bool.not_eq_true', Bool.and_eq_false_iff, decide_eq_true_eq, decide_eq_false_iff_not]
  refine ⟨?_, ?_, ?_, ?_, ?_, ?_, ?_⟩
  · by_cases z : o = 3
    · exact .inr fun y => v1 ⟨z, y⟩
    · exact .inl z
  · by_cases z : o = 0
    · exact .inr fun y => v2 ⟨z, y⟩
    · exact .inl z
  · by_cases z : g = 0
    · by_cases y : k = 0
      · exact .inr (a z y)
      · exact .inl (.inr y)
    · exact .inl (.inl z)
  · by_cases z : g = 1
    · exact .inr (b z)
    · exact .inl z
  · by_cases z : g = 4
    · exact .inr (c z)
    · exact .inl z
  · by_cases z : 2 ≤ k
    · exact .inr (d z)
    · exact .inl z
  · by_cases z : k = 1
    · exact .inr (e z)
    · exact .inl z
theorem fin_of {n : Nat} {i : Int} (h0 : 0 ≤ i) (h1 : i < n) : ∃ f : Fin n, (f.val : Int) = i := ⟨⟨i.toNat, by omega⟩, by show (i.toNat : Int) = i; omega⟩
theorem chk_of {o l k g s : Int} (h : OkT o l k g s) : chk o l k g = true := by
  have hb := okb_of h
  obtain ⟨⟨i1, i2, i3, i4⟩, _, k0, k6, g0, g4, _⟩ := h
  obtain ⟨fo, rfl⟩ := fin_of (n := 4) i1 (by omega)
  obtain ⟨fl, rfl⟩ := fin_of (n := 5) i3 (by omega)
  obtain ⟨fk, rfl⟩ := fin_of (n := 7) k0 (by omega)
  obtain ⟨fg, rfl⟩ := fin_of (n := 5) g0 (by omega)
  exact chk_fin fo fl fk fg hb
theorem inB_cases {n : Int} (h : inB n = true) : n = 1 ∨ n = 2 ∨ n = 3 := by
  have h' : 1 ≤ n ∧ n ≤ 3 := by simpa [inB] using h
  omega
theorem reach_eq {p : Str} {ks : List Str} {kind : Str} {t n : Int} {st : Bool} (hp : p ∈ PLACES) (h1 : kind ≠ "end") (h2 : t ≠ 0) (h3 : (decide (t = 1)) = decide (n = 3)) (h4 : inB n = true) : (decide (kind ∈ ks) && reachP p t (nmS n) st) = lreach p ks kind n false st := by
  unfold lreach reachP
  by_cases hk : kind ∈ ks
  · rw [decide_eq_true hk, if_pos hk, if_neg h1, Bool.true_and]
    have hp' : p = "zone" ∨ p = "root" ∨ p = "capture" := by simpa [PLACES] using hp
    have en : (decide (nmS n = "inside")) = decide (n = 2) := by
      rcases inB_cases h4 with rfl | rfl | rfl <;> decide +kernel
    rcases hp' with rfl | rfl | rfl
    · rw [if_neg (by decide), if_neg (by decide), if_pos rfl, h3, en]
    · rw [if_neg (by decide), if_pos rfl, if_neg (by decide), decide_eq_false h2]
      have e : decide (("root" : Str) = "capture") = false := by decide
      rw [e, Bool.false_or, Bool.false_or]
    · rw [if_pos rfl, if_neg (by decide)]
      have e : decide (("capture" : Str) = "capture") = true := by decide
      rw [e, Bool.true_or]
  · rw [decide_eq_false hk, if_neg hk, Bool.false_and]
theorem sig_eq {sg : List Str} {o l g : Int} {ev : Ev} {ent : Option Int} {same : Bool} (h1 : ev.1 ≠ "end") (h2 : inB (nu o l g ev.2.1) = true) (h3 : (match ev.2.2 with | none => true | some r => inB (nu o l g r)) = true) (h4 : decide (some ev.2.1 = ent) = same) :
    sigP sg (sdF o l g) ev ent = lsig sg ev.1 (nu o l g ev.2.1) same (relN o l g ev.2.2) := by
  unfold sigP lsig
  rw [if_neg h1, if_neg h1, h4, Bool.and_comm same]
  have e1 : (if ("own" : Str) ∈ sg then sdF o l g ev.2.1 else woz (sdF o l g ev.2.1)) = (if nu o l g ev.2.1 = 3 ∧ ("own" : Str) ∈ sg then ("zone" : Str) else sdL (nu o l g ev.2.1)) := by
    unfold sdF
    by_cases ho : ("own" : Str) ∈ sg
    · rw [if_pos ho]
      rcases inB_cases h2 with q | q | q <;> rw [q]
      · rw [if_neg (by rintro ⟨y, _⟩; exact absurd y (by decide))]; rfl
      · rw [if_neg (by rintro ⟨y, _⟩; exact absurd y (by decide))]; rfl
      · rw [if_pos ⟨rfl, ho⟩]; rfl
    · rw [if_neg ho, if_neg (fun y => ho y.2)]
      rcases inB_cases h2 with q | q | q <;> rw [q] <;> decide +kernel
  have e2 : relS sg (sdF o l g) ev.2.2 = (if ("related" : Str) ∈ sg then rlL (relN o l g ev.2.2) else ("none" : Str)) := by
    cases hr : ev.2.2 with
    | none =>
      show ("none" : Str) = _
      split
      · rfl
      · rfl
    | some r =>
      rw [hr] at h3
      have h3 : inB (nu o l g r) = true := h3
      show (if ("related" : Str) ∈ sg then woz (nmS (nu o l g r)) else "none") = (if ("related" : Str) ∈ sg then rlL (nu o l g r) else ("none" : Str))
      split
      · rcases inB_cases h3 with q | q | q <;> rw [q] <;> decide +kernel
      · rfl
  rw [e1, e2]
section
variable {p : Str} {ks sg : List Str} {o l k g s : Int}
theorem hear_eq (hp : p ∈ PLACES) (tl : List Ev) (h1 : (mnB o l k g).map (conv o l g) = lEvs o l k g) (h2 : (mnB o l k g).all (evC o l g) = true) (h3 : headC o l k g (mnB o l k g) = true) : ∀ j, j ≤ (mnB o l k g).length →
    (hearP p ks sg (sdF o l g) s (mnB o l k g ++ tl) (entE o l) j).1 = (lhear p ks sg s (lEvs o l k g) j).1 ∧
    ((lhear p ks sg s (lEvs o l k g) j).2 = false → (hearP p ks sg (sdF o l g) s (mnB o l k g ++ tl) (entE o l) j).2 = entE o l) ∧
    ((lhear p ks sg s (lEvs o l k g) j).2 = true → 1 ≤ j ∧ ∃ ev0 evs, mnB o l k g = ev0 :: evs ∧ ev0.1 = "enter" ∧ (hearP p ks sg (sdF o l g) s (mnB o l k g ++ tl) (entE o l) j).2 = some ev0.2.1)
  | 0, _ => ⟨rfl, fun _ => rfl, fun h => by cases h⟩
  | j + 1, hj => by
    obtain ⟨a1, a2, a3⟩ := hear_eq hp tl h1 h2 h3 j (Nat.le_of_succ_le hj)
    obtain ⟨ev, hev⟩ : ∃ ev, (mnB o l k g)[j]? = some ev := ⟨_, List.getElem?_eq_getElem (by omega)⟩
    have hev2 : (mnB o l k g ++ tl)[j]? = some ev := by rw [List.getElem?_append_left (by omega)]; exact hev
    have hev3 : (lEvs o l k g)[j]? = some (conv o l g ev) := by rw [← h1, List.getElem?_map, hev]; rfl
    rw [hearP_at hev2, lhear_at hev3]
    have hc : evC o l g ev = true := List.all_eq_true.mp h2 ev (List.mem_of_getElem? hev)
    unfold evC at hc
    simp only [Bool.and_eq_true, decide_eq_true_eq, beq_iff_eq] at hc
    obtain ⟨c1, c2, c3, c4, c5⟩ := hc
    have hreach : heardP p ks (sdF o l g) s j ev = lreach p ks ev.1 (nu o l g ev.2.1) false (stB s j) := reach_eq hp c1 c2 c3 c4
    generalize hearP p ks sg (sdF o l g) s (mnB o l k g ++ tl) (entE o l) j = q at a1 a2 a3
    generalize lhear p ks sg s (lEvs o l k g) j = r at a1 a2 a3
    obtain ⟨q1, q2⟩ := q
    obtain ⟨r1, r2⟩ := r
    have a1 : q1 = r1 := a1
    have a2 : r2 = false → q2 = entE o l := a2
    have a3 : r2 = true → 1 ≤ j ∧ ∃ ev0 evs, mnB o l k g = ev0 :: evs ∧ ev0.1 = "enter" ∧ q2 = some ev0.2.1 := a3
    unfold hearStep lstep
    show _ ∧ _
    rw [hreach]
    have hl : lreach p ks (conv o l g ev).1 (conv o l g ev).2.1 false (stB s j) = lreach p ks ev.1 (nu o l g ev.2.1) false (stB s j) := rfl
    rw [hl]
    cases hh : lreach p ks ev.1 (nu o l g ev.2.1) false (stB s j) with
    | false =>
      rw [if_neg (by decide), if_neg (by decide)]
      exact ⟨a1, a2, fun z => ⟨by omega, (a3 z).2⟩⟩
    | true =>
      rw [if_pos rfl, if_pos rfl]
      have hsame : decide (some ev.2.1 = q2) = (if r2 = true then decide (ev.1 = "over") else decide (some ev.2.1 = entE o l)) := by
        cases hr : r2 with
        | false => rw [if_neg (by decide), a2 hr]
        | true =>
          rw [if_pos rfl]
          obtain ⟨j1, ev0, evs, e0, e1, e2⟩ := a3 hr
          rw [e2]
          rw [e0] at h3 hev
          rw [headC_cons, if_pos e1, Bool.and_eq_true] at h3
          obtain ⟨j', rfl⟩ : ∃ j', j = j' + 1 := ⟨j - 1, by omega⟩
          have hm : ev ∈ evs := List.mem_of_getElem? (by simpa using hev)
          have hlc := List.all_eq_true.mp h3.1 ev hm
          unfold laterC at hlc
          simp only [Bool.and_eq_true, beq_iff_eq] at hlc
          rw [hlc.2]
          by_cases z : ev.2.1 = ev0.2.1
          · rw [z]; simp
          · rw [decide_eq_false z, decide_eq_false (fun y => z (Option.some.inj y))]
      refine ⟨?_, ?_, ?_⟩
      · show q1 ++ [sigP sg (sdF o l g) ev q2] = r1 ++ [lsig sg ev.1 (nu o l g ev.2.1) (if r2 = true then decide (ev.1 = "over") else decide (some ev.2.1 = entE o l)) (relN o l g ev.2.2)]
        rw [a1, sig_eq c1 c4 c5 hsame]
      · intro z
        have z' : (r2 || decide (ev.1 = "enter")) = false := z
        rw [Bool.or_eq_false_iff] at z'
        show (if ev.1 = "enter" then some ev.2.1 else q2) = entE o l
        rw [if_neg (of_decide_eq_false z'.2)]
        exact a2 z'.1
      · intro z
        have z' : (r2 || decide (ev.1 = "enter")) = true := z
        refine ⟨by omega, ?_⟩
        by_cases y : ev.1 = "enter"
        · have ej : j = 0 := by
            cases hm : mnB o l k g with
            | nil => rw [hm] at hev; cases hev
            | cons ev0 evs =>
              rw [hm] at h3 hev
              cases j with
              | zero => rfl
              | succ j' =>
                exfalso
                have hmem : ev ∈ evs := List.mem_of_getElem? (by simpa using hev)
                rw [headC_cons] at h3
                split at h3
                · rw [Bool.and_eq_true] at h3
                  have q := List.all_eq_true.mp h3.1 ev hmem
                  unfold laterC at q
                  rw [Bool.and_eq_true] at q
                  exact (of_decide_eq_true q.1) y
                · have q := List.all_eq_true.mp h3 ev hmem
                  exact (of_decide_eq_true q) y
          subst ej
          cases hm : mnB o l k g with
          | nil => rw [hm] at hev; cases hev
          | cons ev0 evs =>
            rw [hm] at hev
            have e : ev0 = ev := by simpa using hev
            subst e
            exact ⟨ev0, evs, rfl, y, by show (if ev0.1 = "enter" then some ev0.2.1 else q2) = some ev0.2.1; rw [if_pos y]⟩
        · rw [decide_eq_false y, Bool.or_false] at z'
          obtain ⟨_, ev0, evs, e0, e1, e2⟩ := a3 z'
          exact ⟨ev0, evs, e0, e1, by show (if ev.1 = "enter" then some ev.2.1 else q2) = _; rw [if_neg y]; exact e2⟩
/-- what the program tells of a turn is what the law reckons -/
theorem behind_eq (hp : p ∈ PLACES) (h : OkT o l k g s) : (hrB p ks sg o l k g s).1 = lsigs p ks sg o l k g s ∧ (obB o l k g, lbB o l k g (hrB p ks sg o l k g s).2) = lsitB p ks sg o l k g s := by
  have hc := chk_of h
  unfold chk at hc
  simp only [Bool.and_eq_true, decide_eq_true_eq] at hc
  obtain ⟨h1, h2, h3, h4⟩ := hc
  have es : evB' o l k g = mnB o l k g ++ endP k := evP_split ⟨h.k0, h.k6⟩ _ _
  obtain ⟨a1, a2, a3⟩ := hear_eq (p := p) (ks := ks) (sg := sg) (s := s) hp (endP k) h1 h2 h3 _ (Nat.le_refl _)
  have hlen : (lEvs o l k g).length = (mnB o l k g).length := by rw [← h1, List.length_map]
  have key : (hrB p ks sg o l k g s).1 = lsigs p ks sg o l k g s ∧ (hrB p ks sg o l k g s).2 = (hearP p ks sg (sdF o l g) s (mnB o l k g ++ endP k) (entE o l) (mnB o l k g).length).2 := by
    unfold hrB lsigs lh
    rw [es, hlen]
    by_cases hk : k = 3 ∨ k = 5
    · have ee : endP k = [(("end" : Str), (0 : Int), (none : Option Int))] := by rcases hk with rfl | rfl <;> rfl
      rw [ee] at a1 a2 a3 ⊢
      have hmem : k ∈ ([3, 5] : List Int) := by simpa using hk
      have hat : (mnB o l k g ++ [(("end" : Str), (0 : Int), (none : Option Int))])[(mnB o l k g).length]? = some (("end" : Str), (0 : Int), (none : Option Int)) := by
        rw [List.getElem?_append_right (Nat.le_refl _), Nat.sub_self]
        rfl
      have hl2 : (mnB o l k g ++ [(("end" : Str), (0 : Int), (none : Option Int))]).length = (mnB o l k g).length + 1 := by rw [List.length_append]; rfl
      rw [hl2, hearP_at hat]
      generalize hearP p ks sg (sdF o l g) s (mnB o l k g ++ [(("end" : Str), (0 : Int), (none : Option Int))]) (entE o l) (mnB o l k g).length = q at a1 a2 a3
      have hr : heardP p ks (sdF o l g) s (mnB o l k g).length (("end" : Str), (0 : Int), (none : Option Int)) = lreach p ks "end" 1 true false := by
        unfold heardP lreach reachP
        show (decide (("end" : Str) ∈ ks) && _) = _
        by_cases z : ("end" : Str) ∈ ks
        · rw [decide_eq_true z, if_pos z, if_pos rfl, Bool.true_and]
          have hp' : p = "zone" ∨ p = "root" ∨ p = "capture" := by simpa [PLACES] using hp
          rcases hp' with rfl | rfl | rfl
          · rw [if_neg (by decide), if_neg (by decide)]
            have e : decide (sdF o l g (0 : Int) = "inside") = false := by
              show decide (nmS 1 = "inside") = false
              decide +kernel
            show (decide ((0 : Int) = 1) || (decide (sdF o l g (0 : Int) = "inside") && _)) = _
            rw [e, Bool.false_and]
            decide
          · rw [if_neg (by decide), if_pos rfl]
            show (decide ((0 : Int) = 0) || _) = _
            have e : decide ((0 : Int) = 0) = true := by decide
            rw [e, Bool.true_or]
            decide
          · rw [if_pos rfl]
            decide
        · rw [decide_eq_false z, if_neg z, Bool.false_and]
      unfold hearStep
      rw [hr]
      cases hh : lreach p ks "end" 1 true false with
      | true =>
        rw [if_pos rfl, if_pos (show k ∈ ([3, 5] : List Int) ∧ true = true from ⟨hmem, rfl⟩)]
        refine ⟨?_, ?_⟩
        · show q.1 ++ [sigP sg (sdF o l g) (("end" : Str), (0 : Int), (none : Option Int)) q.2] = _
          rw [a1]
          rfl
        · show (if (("end" : Str)) = "enter" then some (0 : Int) else q.2) = q.2
          rw [if_neg (by decide)]
      | false =>
        rw [if_neg (by decide), if_neg (show ¬ (k ∈ ([3, 5] : List Int) ∧ false = true) from fun y => by cases y.2), List.append_nil]
        exact ⟨a1, rfl⟩
    · have ee : endP k = [] := by
        unfold endP evB
        rw [if_neg (by simpa using hk)]
      have hmem : ¬ k ∈ ([3, 5] : List Int) := by simpa using hk
      rw [ee] at a1 ⊢
      rw [if_neg (fun y => hmem y.1), List.append_nil, List.append_nil]
      rw [List.append_nil] at a1
      exact ⟨a1, rfl⟩
  refine ⟨key.1, ?_⟩
  rw [key.2]
  unfold lsitB lh
  rw [hlen]
  cases hr : (lhear p ks sg s (lEvs o l k g) (mnB o l k g).length).2 with
  | false => rw [a2 hr]; exact h4
  | true =>
    obtain ⟨_, ev0, evs, e0, e1, e2⟩ := a3 hr
    rw [e2]
    rw [e0] at h3
    rw [headC_cons, if_pos e1, Bool.and_eq_true] at h3
    exact of_decide_eq_true h3.2
end
end Dg

namespace Dg
open PySem PySem.Spec PyProof.Rows L2 GxR Dz
theorem deq_tI : ∀ a b : List Int, deq (tI a) (tI b) = decide (a = b)
  | [], [] => rfl
  | [], _ :: _ => rfl
  | _ :: _, [] => rfl
  | x :: a, y :: b => by
    have ih := deq_tI a b
    have e : deq (tI (x :: a)) (tI (y :: b)) = (deq (.int x) (.int y) && deq (tI a) (tI b)) := by
      simp [deq, tI, D.py, D.pys, PyData.eqv, PyData.eqvAll]
    rw [e, ih, deq_int]
    by_cases h1 : x = y
    · subst h1
      by_cases h2 : a = b
      · subst h2; simp
      · simp [h2]
    · simp [h1]
theorem deq_pD (a b : Int × Int) : deq (pD a) (pD b) = decide (a = b) := by
  obtain ⟨x, y⟩ := a
  obtain ⟨z, u⟩ := b
  have e : deq (pD (x, y)) (pD (z, u)) = deq (tI [x, y]) (tI [z, u]) := rfl
  rw [e, deq_tI]
  simp [Prod.ext_iff]
theorem in_pairs (ps : List (Int × Int)) (p : Int × Int) : ((ps.map pD).any fun z => deq z (pD p)) = decide (p ∈ ps) := by
  induction ps with
  | nil => rfl
  | cons q ps ih =>
    rw [List.map_cons, List.any_cons, ih, deq_pD]
    by_cases h : q = p
    · subst h; simp
    · have h' : ¬ p = q := fun z => h z.symm
      simp [h, h']
theorem in_tups (ts : List (List Int)) (t : List Int) : ((ts.map tI).any fun z => deq z (tI t)) = decide (t ∈ ts) := by
  induction ts with
  | nil => rfl
  | cons q ts ih =>
    rw [List.map_cons, List.any_cons, ih, deq_tI]
    by_cases h : q = t
    · subst h; simp
    · have h' : ¬ t = q := fun z => h z.symm
      simp [h, h']
theorem ok_tI (ns : List Int) (n : Nat) : D.ok (n + 1) (tI ns) = true := ok_tup fun d hd => by
  obtain ⟨i, _, rfl⟩ := List.mem_map.mp hd
  cases n <;> rfl
theorem oks_tups (ts : List (List Int)) (n : Nat) : D.oks (n + 1) (ts.map tI) = true := by
  rw [oks_all, List.all_map]
  exact List.all_eq_true.mpr fun t _ => ok_tI t n
theorem ok_tiL (ts : List (List Int)) : D.ok 32 (tiL ts) = true := ok_lst fun d hd => by
  obtain ⟨t, _, rfl⟩ := List.mem_map.mp hd
  exact ok_tI t 30
/-! ### turns that are possible -/
theorem tgts_mem {o l t : Int} : t ∈ tgts o l ↔ t = 2 ∨ t = 3 ∨ (t = 1 ∧ (l = 1 ∨ l = 2 ∨ l = 3)) ∨ (t = 4 ∧ o ≠ 3 ∧ l ≠ 3) := by
  unfold tgts
  rw [List.mem_append, List.mem_append]
  by_cases h1 : l ∈ ([1, 2, 3] : List Int)
  · have h1' : l = 1 ∨ l = 2 ∨ l = 3 := by simpa using h1
    rw [if_pos h1]
    by_cases h2 : o ≠ 3 ∧ l ≠ 3
    · rw [if_pos h2]
      simp only [List.mem_cons, List.not_mem_nil, or_false]
      omega
    · rw [if_neg h2]
      simp only [List.mem_cons, List.not_mem_nil, or_false]
      omega
  · have h1' : ¬ (l = 1 ∨ l = 2 ∨ l = 3) := by simpa using h1
    rw [if_neg h1]
    by_cases h2 : o ≠ 3 ∧ l ≠ 3
    · rw [if_pos h2]
      simp only [List.mem_cons, List.not_mem_nil, or_false]
      omega
    · rw [if_neg h2]
      simp only [List.mem_cons, List.not_mem_nil, or_false]
      omega
theorem ticks_mem {trs : List Str} {o l : Int} {p : Int × Int} (h : p ∈ ticksP trs o l) : (p.1 = 0 ∧ p.2 ∈ tgts o l) ∨ (p = (0, 0) ∧ 0 < o) ∨ (p.1 = 1 ∧ p.2 ∈ tgts o l ∧ (o = 1 ∨ o = 2)) ∨ (2 ≤ p.1 ∧ p.1 ≤ 6 ∧ p.2 = 0) := by
  unfold ticksP ticksE at h
  rcases List.mem_append.mp h with h | h
  · rcases List.mem_append.mp h with h | h
    · rcases List.mem_append.mp h with h | h
      · obtain ⟨t, ht, rfl⟩ := List.mem_map.mp h
        exact .inl ⟨rfl, ht⟩
      · split at h
        · rename_i ho
          exact .inr (.inl ⟨by simpa using h, ho⟩)
        · cases h
    · split at h
      · rename_i ho
        obtain ⟨t, ht, rfl⟩ := List.mem_map.mp h
        exact .inr (.inr (.inl ⟨rfl, ht, by simpa using ho.2⟩))
      · cases h
  · unfold ticksF at h
    obtain ⟨k, hk, rfl⟩ := List.mem_map.mp h
    obtain ⟨h1, h2⟩ := List.mem_filter.mp hk
    have h1 := List.mem_range.mp h1
    refine .inr (.inr (.inr ⟨?_, ?_, rfl⟩))
    · show (2 : Int) ≤ (k : Int)
      by_cases z : 2 ≤ k
      · omega
      · exfalso
        unfold isLetN at h2
        rw [if_neg (by omega), if_neg (by omega), if_neg (by omega), if_neg (by omega), if_neg (by omega)] at h2
        cases h2
    · show (k : Int) ≤ 6
      omega
theorem drift_vs {trs : List Str} {o l : Int} (h : InS o l) (v : VS o l) : ∀ s ∈ drift trs o l, VS s.1 s.2 := by
  intro s hs
  obtain ⟨h1, h2, h3, h4⟩ := h
  obtain ⟨v1, v2⟩ := v
  unfold drift at hs
  obtain ⟨o', ho', hs⟩ := List.mem_flatMap.mp hs
  split at hs
  · have e : s = (o', if 0 < o' then 4 else 0) := by simpa using hs
    subst e
    refine ⟨?_, ?_⟩
    · rintro ⟨_, q⟩
      have q : (if 0 < o' then (4 : Int) else 0) = 3 := q
      split at q <;> omega
    · rintro ⟨q0, q⟩
      have q0 : o' = 0 := q0
      have q : (if 0 < o' then (4 : Int) else 0) = 4 := q
      rw [if_neg (by omega)] at q
      omega
  · rename_i hl
    obtain ⟨l', hl', rfl⟩ := List.mem_map.mp hs
    refine ⟨?_, ?_⟩
    · rintro ⟨q0, q⟩
      have q0 : o' = 3 := q0
      have q : l' = 3 := q
      refine v1 ⟨?_, ?_⟩
      · rcases dside_mem ho' with e | ⟨z, e⟩
        · omega
        · have z' : o = 1 ∨ o = 2 := by simpa using z
          omega
      · rcases dside_mem hl' with e | ⟨z, e⟩
        · omega
        · have z' : l = 1 ∨ l = 2 := by simpa using z
          omega
    · rintro ⟨_, q⟩
      have q : l' = 4 := q
      rcases dside_mem hl' with e | ⟨z, e⟩
      · omega
      · have z' : l = 1 ∨ l = 2 := by simpa using z
        omega
theorem okT_of {trs : List Str} {o l : Int} (hi : InS o l) (hv : VS o l) {t : List Int} (h : t ∈ turnsL trs o l) : ∃ o' l' k g s, t = [o', l', k, g, s] ∧ OkT o' l' k g s := by
  obtain ⟨⟨o', l'⟩, hs, ht⟩ := turnsL_mem.mp h
  obtain ⟨⟨k, g⟩, hp, n, hn, rfl⟩ := turnsAt_mem.mp ht
  have i' : InS o' l' := drift_in hi _ hs
  have v' : VS o' l' := drift_vs hi hv _ hs
  refine ⟨o', l', k, g, n, rfl, ?_⟩
  have b := ticks_in hp
  have b1 : 0 ≤ k := b.1
  have b2 : k ≤ 6 := b.2.1
  have b3 : 0 ≤ g := b.2.2.1
  have b4 : g ≤ 4 := b.2.2.2
  have hm := ticks_mem hp
  have hm : (k = 0 ∧ g ∈ tgts o' l') ∨ ((k, g) = (0, 0) ∧ 0 < o') ∨ (k = 1 ∧ g ∈ tgts o' l' ∧ (o' = 1 ∨ o' = 2)) ∨ (2 ≤ k ∧ k ≤ 6 ∧ g = 0) := hm
  have tg : ∀ {g : Int}, g ∈ tgts o' l' → g ≠ 0 ∧ (g = 1 → l' = 1 ∨ l' = 2 ∨ l' = 3) ∧ (g = 4 → o' ≠ 3 ∧ l' ≠ 3) := fun {g} hg => by
    rcases tgts_mem.mp hg with q | q | q | q
    · exact ⟨by omega, fun _ => by omega, fun _ => by omega⟩
    · exact ⟨by omega, fun _ => by omega, fun _ => by omega⟩
    · exact ⟨by omega, fun _ => q.2, fun _ => by omega⟩
    · exact ⟨by omega, fun _ => by omega, fun _ => q.2⟩
  refine ⟨i', v', b1, b2, b3, b4, by omega, ?_, ?_, ?_, ?_, ?_⟩
  · intro g0 k0
    rcases hm with ⟨_, q⟩ | ⟨_, q⟩ | ⟨q, _⟩ | ⟨q, _⟩
    · exact absurd g0 (tg q).1
    · omega
    · omega
    · omega
  · intro g1
    rcases hm with ⟨_, q⟩ | ⟨q, _⟩ | ⟨_, q, _⟩ | ⟨_, _, q⟩
    · exact (tg q).2.1 g1
    · have := congrArg Prod.snd q
      have : g = 0 := this
      omega
    · exact (tg q).2.1 g1
    · omega
  · intro g4
    rcases hm with ⟨_, q⟩ | ⟨q, _⟩ | ⟨_, q, _⟩ | ⟨_, _, q⟩
    · exact (tg q).2.2 g4
    · have := congrArg Prod.snd q
      have : g = 0 := this
      omega
    · exact (tg q).2.2 g4
    · omega
  · intro k2
    rcases hm with ⟨q, _⟩ | ⟨q, _⟩ | ⟨q, _⟩ | ⟨_, _, q⟩
    · omega
    · have := congrArg Prod.fst q
      have : k = 0 := this
      omega
    · omega
    · exact q
  · intro k1
    rcases hm with ⟨q, _⟩ | ⟨q, _⟩ | ⟨_, q, r⟩ | ⟨q, _, _⟩
    · omega
    · have := congrArg Prod.fst q
      have : k = 0 := this
      omega
    · exact ⟨(tg q).1, r⟩
    · omega
/-! ### the situation behind is one -/
def vsB (p : Int × Int) : Bool := decide (0 ≤ p.1) && (decide (p.1 ≤ 3) && (decide (0 ≤ p.2) && (decide (p.2 ≤ 4) && (!(decide (p.1 = 3) && decide (p.2 = 3)) && !(decide (p.1 = 0) && decide (p.2 = 4))))))
theorem sit_fin : ∀ (o : Fin 4) (l : Fin 5) (k : Fin 7) (g : Fin 5), okb (o.val : Int) (l.val : Int) (k.val : Int) (g.val : Int) = true → (vsB (lsit (o.val : Int) (l.val : Int) (k.val : Int) (g.val : Int) (lx (o.val : Int) (l.val : Int) (g.val : Int)) true) && vsB (lsit (o.val : Int) (l.val : Int) (k.val : Int) (g.val : Int) (lx (o.val : Int) (l.val : Int) (g.val : Int)) false)) = true := by decide +kernel
theorem vs_of {p : Int × Int} (h : vsB p = true) : InS p.1 p.2 ∧ VS p.1 p.2 := by
  unfold vsB at h
  simp only [Bool.and_eq_true, Bool.not_eq_true', Bool.and_eq_false_iff, decide_eq_true_eq, decide_eq_false_iff_not] at h
  obtain ⟨h1, h2, h3, h4, h5, h6⟩ := h
  refine ⟨⟨h1, h2, h3, h4⟩, ?_, ?_⟩
  · rintro ⟨q1, q2⟩
    rcases h5 with q | q
    · exact q q1
    · exact q q2
  · rintro ⟨q1, q2⟩
    rcases h6 with q | q
    · exact q q1
    · exact q q2
theorem sit_ok {o l k g s : Int} (h : OkT o l k g s) (e : Bool) : InS (lsit o l k g (lx o l g) e).1 (lsit o l k g (lx o l g) e).2 ∧ VS (lsit o l k g (lx o l g) e).1 (lsit o l k g (lx o l g) e).2 := by
  have hb := okb_of h
  obtain ⟨⟨i1, i2, i3, i4⟩, _, k0, k6, g0, g4, _⟩ := h
  obtain ⟨fo, rfl⟩ := fin_of (n := 4) i1 (by omega)
  obtain ⟨fl, rfl⟩ := fin_of (n := 5) i3 (by omega)
  obtain ⟨fk, rfl⟩ := fin_of (n := 7) k0 (by omega)
  obtain ⟨fg, rfl⟩ := fin_of (n := 5) g0 (by omega)
  have q := sit_fin fo fl fk fg hb
  rw [Bool.and_eq_true] at q
  cases e with
  | true => exact vs_of q.1
  | false => exact vs_of q.2
/-! ### scenarios -/
def Five (t : List Int) : Prop := ∃ a b c d e : Int, t = [a, b, c, d, e] ∧ 0 ≤ a ∧ 0 ≤ b ∧ 0 ≤ c ∧ 0 ≤ d ∧ 0 ≤ e
def nxt (p : Str) (ks sg : List Str) (t : List Int) : Int × Int := match t with
  | [o, l, k, g, s] => lsitB p ks sg o l k g s
  | _ => (0, 0)
def scB (p : Str) (ks sg trs : List Str) : Int × Int → List (List Int) → Bool
  | _, [] => true
  | s, t :: ts => decide (t ∈ turnsL trs s.1 s.2) && scB p ks sg trs (nxt p ks sg t) ts
def possB (trs : List Str) (o l o' l' k g s : Int) : Bool := decide ((o', l') ∈ drift trs o l) && (decide ((k, g) ∈ ticksP trs o' l') && decide (s < (stopsN trs : Int)))
theorem poss_mem {trs : List Str} {o l o' l' k g s : Int} (hs : 0 ≤ s) : possB trs o l o' l' k g s = decide ([o', l', k, g, s] ∈ turnsL trs o l) := by
  unfold possB
  by_cases h : [o', l', k, g, s] ∈ turnsL trs o l
  · rw [decide_eq_true h]
    obtain ⟨⟨o1, l1⟩, hd, ht⟩ := turnsL_mem.mp h
    obtain ⟨⟨k1, g1⟩, hp, n, hn, e⟩ := turnsAt_mem.mp ht
    have e : [o', l', k, g, s] = [o1, l1, k1, g1, (n : Int)] := e
    simp only [List.cons.injEq, and_true] at e
    obtain ⟨rfl, rfl, rfl, rfl, rfl⟩ := e
    rw [decide_eq_true hd, decide_eq_true hp, decide_eq_true (by omega)]
    rfl
  · rw [decide_eq_false h]
    cases hq : (decide ((o', l') ∈ drift trs o l) && (decide ((k, g) ∈ ticksP trs o' l') && decide (s < (stopsN trs : Int)))) with
    | false => rfl
    | true =>
      exfalso
      simp only [Bool.and_eq_true, decide_eq_true_eq] at hq
      obtain ⟨q1, q2, q3⟩ := hq
      refine h (turnsL_mem.mpr ⟨(o', l'), q1, turnsAt_mem.mpr ⟨(k, g), q2, s.toNat, by omega, ?_⟩⟩)
      have e : (s.toNat : Int) = s := by omega
      rw [e]
theorem nxt_ok {p : Str} {ks sg trs : List Str} {s : Int × Int} (hi : InS s.1 s.2) (hv : VS s.1 s.2) {t : List Int} (h : t ∈ turnsL trs s.1 s.2) : InS (nxt p ks sg t).1 (nxt p ks sg t).2 ∧ VS (nxt p ks sg t).1 (nxt p ks sg t).2 := by
  obtain ⟨o', l', k, g, st, rfl, hT⟩ := okT_of hi hv h
  exact sit_ok hT _
theorem five_of {trs : List Str} {o l : Int} (hi : InS o l) (hv : VS o l) {t : List Int} (h : t ∈ turnsL trs o l) : Five t := by
  obtain ⟨o', l', k, g, st, rfl, hT⟩ := okT_of hi hv h
  exact ⟨_, _, _, _, _, rfl, hT.i.1, hT.i.2.2.1, hT.k0, hT.g0, hT.s0⟩
theorem first_sit : InS 0 0 ∧ VS 0 0 := ⟨⟨by decide, by decide, by decide, by decide⟩, fun h => absurd h.1 (by decide), fun h => absurd h.2 (by decide)⟩
/-- the situation behind a part of a scenario -/
def sitA (p : Str) (ks sg : List Str) (s0 : Int × Int) (ts : List (List Int)) : Int × Int := ts.foldl (fun _ t => nxt p ks sg t) s0
theorem scB_snoc {p : Str} {ks sg trs : List Str} {t : List Int} : ∀ (ts : List (List Int)) (s : Int × Int), scB p ks sg trs s (ts ++ [t]) = (scB p ks sg trs s ts && decide (t ∈ turnsL trs (sitA p ks sg s ts).1 (sitA p ks sg s ts).2))
  | [], s => by
    show (decide (t ∈ turnsL trs s.1 s.2) && true) = (true && decide (t ∈ turnsL trs s.1 s.2))
    rw [Bool.and_true, Bool.true_and]
  | u :: ts, s => by
    show (decide (u ∈ turnsL trs s.1 s.2) && scB p ks sg trs (nxt p ks sg u) (ts ++ [t])) = ((decide (u ∈ turnsL trs s.1 s.2) && scB p ks sg trs (nxt p ks sg u) ts) && _)
    rw [scB_snoc ts, Bool.and_assoc]
    rfl
theorem sitA_ok {p : Str} {ks sg trs : List Str} : ∀ (ts : List (List Int)) (s : Int × Int), InS s.1 s.2 → VS s.1 s.2 → scB p ks sg trs s ts = true → InS (sitA p ks sg s ts).1 (sitA p ks sg s ts).2 ∧ VS (sitA p ks sg s ts).1 (sitA p ks sg s ts).2
  | [], s, hi, hv, _ => ⟨hi, hv⟩
  | t :: ts, s, hi, hv, h => by
    have h' : (decide (t ∈ turnsL trs s.1 s.2) && scB p ks sg trs (nxt p ks sg t) ts) = true := h
    rw [Bool.and_eq_true] at h'
    obtain ⟨q1, q2⟩ := nxt_ok (p := p) (ks := ks) (sg := sg) hi hv (of_decide_eq_true h'.1)
    exact sitA_ok ts _ q1 q2 h'.2
theorem sitA_snoc {p : Str} {ks sg : List Str} {s : Int × Int} (ts : List (List Int)) (t : List Int) : sitA p ks sg s (ts ++ [t]) = nxt p ks sg t := by
  unfold sitA
  rw [List.foldl_append]
  rfl
theorem scB_take {p : Str} {ks sg trs : List Str} {s : Int × Int} {ts : List (List Int)} {j : Nat} {t : List Int} (h : ts[j]? = some t) : scB p ks sg trs s (ts.take (j + 1)) = (scB p ks sg trs s (ts.take j) && decide (t ∈ turnsL trs (sitA p ks sg s (ts.take j)).1 (sitA p ks sg s (ts.take j)).2)) := by
  rw [List.take_add_one, h]
  exact scB_snoc _ _
theorem sitA_take {p : Str} {ks sg : List Str} {s : Int × Int} {ts : List (List Int)} {j : Nat} {t : List Int} (h : ts[j]? = some t) : sitA p ks sg s (ts.take (j + 1)) = nxt p ks sg t := by
  rw [List.take_add_one, h]
  exact sitA_snoc _ _
theorem scB_false {p : Str} {ks sg trs : List Str} : ∀ (j : Nat) (ts : List (List Int)) (s : Int × Int), scB p ks sg trs s (ts.take j) = false → scB p ks sg trs s ts = false
  | 0, _, _, h => by cases h
  | _ + 1, [], _, h => h
  | j + 1, t :: ts, s, h => by
    have h' : (decide (t ∈ turnsL trs s.1 s.2) && scB p ks sg trs (nxt p ks sg t) (ts.take j)) = false := h
    show (decide (t ∈ turnsL trs s.1 s.2) && scB p ks sg trs (nxt p ks sg t) ts) = false
    rw [Bool.and_eq_false_iff] at h' ⊢
    rcases h' with h' | h'
    · exact .inl h'
    · exact .inr (scB_false j ts _ h')
end Dg

namespace Dg
open PySem PySem.Spec PyProof.Rows L2 GxR Dz
section
variable {P : Program} {w : World} {K : PySem.W.Frag} {mg : Str → Option Value} {base : Heap} {T : List Addr} {CE fI : Addr}
def pPoss (ss : List Dz.Slot) (O : OH) (d : D) (O' : OH) : Prop := ∃ o l trs t, ss = [.dat (pD (o, l)), .dat (tI t), .dat (sL trs)] ∧ Five t ∧ d = .bl (decide (t ∈ turnsL trs o l)) ∧ O' = O
theorem scPoss : FnScope ["situation", "turn", "troubles", "part", "over", "last", "tick", "target", "stops"] ["situation", "turn", "troubles"] (defScope s_is_possible) := ⟨rfl, rfl, rfl, by decide +kernel, rfl, by decide +kernel, by decide +kernel⟩
theorem ok_poss {f c tb : Addr} {fd : FuncData} (F : FunC K "is_possible" "is_possible" s_is_possible f fd (.ref c)) (L : Blt mg) (hT : tb ∈ T) (TB : TabB base mg c tb) (G1 : HasF P w K mg base CX0 1 "is_number" ["value"] (spF T K pNum)) (G2 : HasF P w K mg base CX0 2 "drifted" ["situation", "troubles"] (spF T K pDrift)) (G3 : HasF P w K mg base CX0 2 "ticks_at" ["over", "last", "troubles"] (spF T K pTicks)) (G4 : HasF P w K mg base CX0 1 "stops_bound" ["troubles"] (spF T K pStopsB)) :
    FnOk P w K mg base CX0 4 f fd ["situation", "turn", "troubles"] (spF T K pPoss) := by
  refine fn_ok (CE := (0 : Addr)) (R := pPoss) F scPoss (fun ss O d O' ⟨_, _, _, _, h, _⟩ => by rw [h]; rfl) fun A outer s H E ss O d O' hr h => ?_
  obtain ⟨o, l, trs, t, h1, ⟨o', l', k, g, st, rfl, q1, q2, q3, q4, q5⟩, h2, h3⟩ := h
  subst h1 h2 h3
  have hr1 := hr.mono (show 1 ≤ 3 by decide)
  have hr2 := hr.mono (show 2 ≤ 3 by decide)
  have hall : ([D.int o', .int l', .int k, .int g, .int st] : List D).all isNum = true := by
    simp only [List.all_cons, List.all_nil, isNum, decide_eq_true q1, decide_eq_true q2, decide_eq_true q3, decide_eq_true q4, decide_eq_true q5]
    rfl
  refine ds_cons (d1_if (p := false) (DT.cast (dt_not (DW.dt (dw_and (p := true) (q := true) (dt_val (de_isTup L (.tup [.int o', .int l', .int k, .int g, .int st]) (de_var 1))) fun _ => dw_and (p := true) (q := true) (DT.cast (dt_eq (x := .int 5) (y := .int 5) hr (by rfl) (by rfl) (de_lenT (ds := [.int o', .int l', .int k, .int g, .int st]) L.len (de_var 1)) de_int) (by rw [deq_int]; rfl)) fun _ => dw_and1 (DT.cast (dt_val (de_allT 3 (k := 2) hr hT TB rfl scPoss.nd L.all (blkOk_by rfl) (by exact ⟨rfl, rfl, by decide +kernel, rfl, rfl⟩) (ds := [.int o', .int l', .int k, .int g, .int st]) (f := isNum) (de_var 1) (fun d hd s' H' cl C code fp A' hr' => de_callH G1 (hr'.mono (by decide)) (da_d (de_var 3) da_nil) ⟨d, rfl, by
    simp only [List.mem_cons, List.not_mem_nil, or_false] at hd
    rcases hd with rfl | rfl | rfl | rfl | rfl <;> exact .int _, rfl, rfl⟩))) hall)))) rfl) (fun z => by cases z) fun _ => ds_nil ?_)
  refine ds_cons (d1_unpack (ds := [.int o', .int l', .int k, .int g, .int st]) (is := [4, 5, 6, 7, 8]) (de_var 1) rfl (by repeat' (first | exact Dz.Names.nil | refine Dz.Names.cons rfl (by first | exact Or.inl rfl | exact Or.inr rfl) (by first | exact .inl rfl | exact .inr rfl) rfl ?_)) ?_ scPoss.nd)
  refine ds_one (d1_ret (s := .dat (.bl (possB trs o l o' l' k g st))) (DE.dv (de_and (DE.cast (de_inL (x := pD (o', l')) (ds := (drift trs o l).map pD) hr (by rfl) (ok_pairs _ 31) (de_tup (ds := [.int o', .int l']) (da_d (de_var 4) (da_d (de_var 5) da_nil)) (by show 2 ≤ 10000; decide)) (de_callH G2 hr2 (da_d (de_var 0) (da_d (de_var 2) da_nil)) ⟨o, l, trs, rfl, rfl, rfl⟩)) (by rw [in_pairs])) fun _ =>
    de_and (DE.cast (de_inL (x := pD (k, g)) (ds := (ticksP trs o' l').map pD) hr (by rfl) (ok_pairs _ 31) (de_tup (ds := [.int k, .int g]) (da_d (de_var 6) (da_d (de_var 7) da_nil)) (by show 2 ≤ 10000; decide)) (de_callH G3 hr2 (da_d (de_var 4) (da_d (de_var 5) (da_d (de_var 2) da_nil))) ⟨o', l', trs, rfl, rfl, rfl⟩)) (by rw [in_pairs])) fun _ =>
      de_one (de_lt (de_var 8) (de_callH G4 hr1 (da_d (de_var 2) da_nil) ⟨trs, rfl, rfl, rfl⟩)))) ⟨?_, rfl⟩)
  rw [poss_mem q5]

def pIsSc (CS : Addr) (ss : List Dz.Slot) (O : OH) (d : D) (O' : OH) : Prop := ∃ p ks sg ts trs, ss = [.dat (suI CS p ks sg), .dat (tiL ts), .dat (sL trs)] ∧ SuG p ks sg ∧ (∀ t ∈ ts, Five t) ∧ d = .bl (scB p ks sg trs (0, 0) ts) ∧ O' = O
theorem scIsSc : FnScope ["setup", "scenario", "troubles", "situation", "turn", "_"] ["setup", "scenario", "troubles"] (defScope s_is_scenario) := ⟨rfl, rfl, rfl, by decide +kernel, rfl, by decide +kernel, by decide +kernel⟩
theorem ok_issc {f CS : Addr} {fd : FuncData} {cdv uF : Value} (F : FunC K "is_scenario" "is_scenario" s_is_scenario f fd cdv) (L : Blt mg) (hF : mg "FIRST_SITUATION" = some uF) (kF : kdB K 1 uF (pD (0, 0)) = true) (G1 : HasF P w K mg base CX0 4 "is_possible" ["situation", "turn", "troubles"] (spF T K pPoss)) (G2 : HasF P w K mg base CX0 4 "behind" ["setup", "situation", "turn"] (spF T K (pBehind CS))) :
    FnOk P w K mg base CX0 5 f fd ["setup", "scenario", "troubles"] (spF T K (pIsSc CS)) := by
  refine fn_ok (CE := (0 : Addr)) (R := pIsSc CS) F scIsSc (fun ss O d O' ⟨_, _, _, _, _, h, _⟩ => by rw [h]; rfl) fun A outer s H E ss O d O' hr h => ?_
  obtain ⟨p, ks, sg, ts, trs, h1, hG, h5, h2, h3⟩ := h
  subst h1 h2 h3
  refine ds_cons (d1_if (p := false) (DT.cast (dt_not (dt_val (de_isList L (.lst (ts.map tI)) (de_var 1)))) rfl) (fun z => by cases z) fun _ => ds_nil ?_)
  refine ds_cons (d1_set 3 (s := .dat (pD (0, 0))) (DE.dv (de_gk hF kF)) ?_ scIsSc.nd)
  refine ds_cons (d1_forL (ds := ts.map tI) 4 (fun j ρ' O2 => (∃ s4 s5, ρ' = [.dat (suI CS p ks sg), .dat (tiL ts), .dat (sL trs), .dat (pD (sitA p ks sg (0, 0) (ts.take j))), s4, s5]) ∧ O' = O2 ∧ scB p ks sg trs (0, 0) (ts.take j) = true)
    (de_var 1) ⟨⟨_, _, rfl⟩, rfl, rfl⟩ scIsSc.nd ?_ ?_ PassesOwn.never)
  · rintro j d ρ' O2 hj ⟨⟨s4, s5, rfl⟩, rfl, hsc⟩
    obtain ⟨t, ht, rfl⟩ := at_map hj
    have h5t := h5 t (List.mem_of_getElem? ht)
    obtain ⟨i1, i2⟩ := sitA_ok (ts.take j) (0, 0) first_sit.1 first_sit.2 hsc
    have e1 := scB_take (p := p) (ks := ks) (sg := sg) (trs := trs) (s := (0, 0)) ht
    have e2 := sitA_take (p := p) (ks := ks) (sg := sg) (s := (0, 0)) ht
    have e3 := scB_false (p := p) (ks := ks) (sg := sg) (trs := trs) (j + 1) ts (0, 0)
    generalize sitA p ks sg (0, 0) (ts.take j) = sit at i1 i2 e1
    obtain ⟨o, l⟩ := sit
    rw [hsc, Bool.true_and] at e1
    refine ds_cons (d1_if (p := !decide (t ∈ turnsL trs o l)) (dt_not (dt_val (de_callH G1 hr (da_d (de_var 3) (da_d (de_var 4) (da_d (de_var 2) da_nil))) ⟨o, l, trs, t, rfl, h5t, rfl, rfl⟩))) (fun z => ?_) fun z => ds_nil ?_)
    · have z' : decide (t ∈ turnsL trs o l) = false := by simpa using z
      refine ds_one (d1_ret (s := .dat (.bl false)) (DE.dv de_bl) ⟨?_, rfl⟩)
      rw [e3 (by rw [e1]; exact z')]
    · have z' : t ∈ turnsL trs o l := by simpa using z
      obtain ⟨o', l', k, g, st, rfl, hT⟩ := okT_of i1 i2 z'
      obtain ⟨b1, b2⟩ := behind_eq (p := p) (ks := ks) (sg := sg) hG.p hT
      refine ds_one (d1_unpack (ds := [pD (obB o' l' k g, lbB o' l' k g (hrB p ks sg o' l' k g st).2), .tup (hrB p ks sg o' l' k g st).1]) (is := [3, 5]) (de_callH G2 hr (da_d (de_var 0) (da_d (de_var 3) (da_d (de_var 4) da_nil))) ⟨p, ks, sg, _, o', l', k, g, st, rfl, hT, rfl, rfl⟩) rfl (by repeat' (first | exact Dz.Names.nil | refine Dz.Names.cons rfl (by first | exact Or.inl rfl | exact Or.inr rfl) (by first | exact .inl rfl | exact .inr rfl) rfl ?_)) ?_ scIsSc.nd)
      have b3 : nxt p ks sg [o', l', k, g, st] = (obB o' l' k g, lbB o' l' k g (hrB p ks sg o' l' k g st).2) := b2.symm
      refine ⟨?_, rfl, by rw [e1]; exact decide_eq_true z'⟩
      rw [e2, b3]
      exact ⟨_, _, rfl⟩
  · rintro ρ' O2 ⟨⟨s4, s5, rfl⟩, rfl, hsc⟩
    rw [List.length_map, List.take_length] at hsc
    exact ds_one (d1_ret (s := .dat (.bl true)) (DE.dv de_bl) ⟨by rw [hsc], rfl⟩)

/-! ### the law's scenarios -/
def pLIsSc (ss : List Dz.Slot) (O : OH) (d : D) (O' : OH) : Prop := ∃ p ks sg ts trs, ss = [.dat (suD p ks sg), .dat (tiL ts), .dat (sL trs)] ∧ d = .bl (scB p ks sg trs (0, 0) ts) ∧ O' = O
theorem scLIsSc : FnScope ["setup", "scenario", "troubles", "situation", "turn"] ["setup", "scenario", "troubles"] (defScope s_law_is_scenario) := ⟨rfl, rfl, rfl, by decide +kernel, rfl, by decide +kernel, by decide +kernel⟩
theorem ok_lissc {f : Addr} {fd : FuncData} {cdv : Value} (F : FunC K "_law_is_scenario" "_law_is_scenario" s_law_is_scenario f fd cdv) (G1 : HasF P w K mg base CX0 3 "_law_turns" ["situation", "troubles"] (spF T K pTurns)) (G2 : HasF P w K mg base CX0 2 "_law_behind" ["setup", "turn"] (spF T K pLBehind)) :
    FnOk P w K mg base CX0 4 f fd ["setup", "scenario", "troubles"] (spF T K pLIsSc) := by
  refine fn_ok (CE := (0 : Addr)) (R := pLIsSc) F scLIsSc (fun ss O d O' ⟨_, _, _, _, _, h, _⟩ => by rw [h]; rfl) fun A outer s H E ss O d O' hr h => ?_
  obtain ⟨p, ks, sg, ts, trs, h1, h2, h3⟩ := h
  subst h1 h2 h3
  have hr2 := hr.mono (show 2 ≤ 3 by decide)
  refine ds_cons (d1_set 3 (s := .dat (pD (0, 0))) (DE.dv (de_tup (ds := [.int 0, .int 0]) (da_d de_int (da_d de_int da_nil)))) ?_ scLIsSc.nd)
  refine ds_cons (d1_forL (ds := ts.map tI) 4 (fun j ρ' O2 => (∃ s4, ρ' = [.dat (suD p ks sg), .dat (tiL ts), .dat (sL trs), .dat (pD (sitA p ks sg (0, 0) (ts.take j))), s4]) ∧ O' = O2 ∧ scB p ks sg trs (0, 0) (ts.take j) = true)
    (de_var 1) ⟨⟨_, rfl⟩, rfl, rfl⟩ scLIsSc.nd ?_ ?_ PassesOwn.never)
  · rintro j d ρ' O2 hj ⟨⟨s4, rfl⟩, rfl, hsc⟩
    obtain ⟨t, ht, rfl⟩ := at_map hj
    obtain ⟨i1, i2⟩ := sitA_ok (ts.take j) (0, 0) first_sit.1 first_sit.2 hsc
    have e1 := scB_take (p := p) (ks := ks) (sg := sg) (trs := trs) (s := (0, 0)) ht
    have e2 := sitA_take (p := p) (ks := ks) (sg := sg) (s := (0, 0)) ht
    have e3 := scB_false (p := p) (ks := ks) (sg := sg) (trs := trs) (j + 1) ts (0, 0)
    generalize sitA p ks sg (0, 0) (ts.take j) = sit at i1 i2 e1
    obtain ⟨o, l⟩ := sit
    rw [hsc, Bool.true_and] at e1
    refine ds_cons (d1_if (p := !decide (t ∈ turnsL trs o l)) (DT.cast (dt_ninL (x := tI t) (ds := (turnsL trs o l).map tI) hr (ok_tI t 31) (oks_tups _ 31) (de_var 4) (de_callH G1 hr (da_d (de_var 3) (da_d (de_var 2) da_nil)) ⟨o, l, trs, rfl, i1, rfl, rfl⟩)) (by rw [in_tups])) (fun z => ?_) fun z => ds_nil ?_)
    · have z' : decide (t ∈ turnsL trs o l) = false := by simpa using z
      refine ds_one (d1_ret (s := .dat (.bl false)) (DE.dv de_bl) ⟨?_, rfl⟩)
      rw [e3 (by rw [e1]; exact z')]
    · have z' : t ∈ turnsL trs o l := by simpa using z
      obtain ⟨o', l', k, g, st, rfl, hT⟩ := okT_of i1 i2 z'
      refine ds_one (d1_set 3 (s := .dat (pD (lsitB p ks sg o' l' k g st))) (DE.dv (de_ixL (ds := [pD (lsitB p ks sg o' l' k g st), .lst (lsigs p ks sg o' l' k g st)]) (de_callH G2 hr2 (da_d (de_var 0) (da_d (de_var 4) da_nil)) ⟨p, ks, sg, o', l', k, g, st, rfl, hT, rfl, rfl⟩) de_int rfl)) ?_ scLIsSc.nd)
      refine ⟨?_, rfl, by rw [e1]; exact decide_eq_true z'⟩
      rw [e2]
      exact ⟨_, rfl⟩
  · rintro ρ' O2 ⟨⟨s4, rfl⟩, rfl, hsc⟩
    rw [List.length_map, List.take_length] at hsc
    exact ds_one (d1_ret (s := .dat (.bl true)) (DE.dv de_bl) ⟨by rw [hsc], rfl⟩)

theorem zero_turn (trs : List Str) {o l : Int} (hi : InS o l) (hv : VS o l) : [o, l, 0, 2, 0] ∈ turnsL trs o l := by
  refine turnsL_mem.mpr ⟨(o, l), ?_, turnsAt_mem.mpr ⟨(0, 2), ?_, 0, ?_, rfl⟩⟩
  · unfold drift
    refine List.mem_flatMap.mpr ⟨o, by unfold driftSides; exact List.mem_cons_self, ?_⟩
    split
    · rename_i hl
      subst hl
      have ho : o ≠ 0 := fun z => hv.2 ⟨z, rfl⟩
      have ho1 : 0 ≤ o := hi.1
      rw [if_pos (by omega)]
      exact List.mem_singleton.mpr rfl
    · exact List.mem_map.mpr ⟨l, by unfold driftSides; exact List.mem_cons_self, rfl⟩
  · unfold ticksP ticksE
    refine List.mem_append_left _ (List.mem_append_left _ (List.mem_append_left _ (List.mem_map.mpr ⟨2, ?_, rfl⟩)))
    exact tgts_mem.mpr (.inl rfl)
  · unfold stopsN
    split <;> decide
theorem put_put_b {O : OH} {b c : Addr} (h : b ≠ c) {x y z : OD} : put (put (put O b x) c y) b z = put (put O b z) c y := by
  funext q
  unfold put
  by_cases h1 : q = b
  · by_cases h2 : q = c
    · exact absurd (h1.symm.trans h2) h
    · simp [h1, h]
  · simp [h1]
def lt2 : D → Bool
  | .tup [_, _, .int k, _, _] => decide (k < 2)
  | _ => false
/-- a scenario that is drawn -/
structure ScG (p : Str) (ks sg trs : List Str) (ts : List (List Int)) : Prop where
  sc : scB p ks sg trs (0, 0) ts = true
  five : ∀ t ∈ ts, Five t
  len : ts.length ≤ 6
def pLScen : PR := fun ss O Rn Rx => ∃ b row a p ks sg trs, ss = [.val (.ref b), .dat (suD p ks sg), .dat (sL trs), .dat (.int 6)] ∧ O b = some (Bx row a) ∧ a ≤ 5000 ∧ Rn = (fun v O' => ∃ ts a', v = .dat (tiL ts) ∧ O' = put O b (Bx row a') ∧ a' ≤ a + 13 ∧ ScG p ks sg trs ts) ∧ Rx = fun _ _ => False
theorem scLScen : FnScope ["box", "setup", "troubles", "most", "out", "situation", "k", "ways", "turn"] ["box", "setup", "troubles", "most"] (defScope s_law_scenario) := ⟨rfl, rfl, rfl, by decide +kernel, rfl, by decide +kernel, by decide +kernel⟩
theorem ok_lscen {f : Addr} {fd : FuncData} {cdv : Value} (F : FunC K "_law_scenario" "_law_scenario" s_law_scenario f fd cdv) (L : Blt mg) (G0 : HasF P w K mg base CX0 1 "_law_draw" ["box", "many"] (spF T K pDraw)) (G1 : HasF P w K mg base CX0 3 "_law_turns" ["situation", "troubles"] (spF T K pTurns)) (G2 : HasF P w K mg base CX0 2 "_law_behind" ["setup", "turn"] (spF T K pLBehind)) :
    FnOk P w K mg base (L2.CX P w) 4 f fd ["box", "setup", "troubles", "most"] (spX T K CE pLScen) := by
  refine fn_okX (R := pLScen) F scLScen (fun ss O Rn Rx ⟨_, _, _, _, _, _, _, h, _⟩ => by rw [h]; rfl) fun A outer s H E ss O Rn Rx hr h => ?_
  obtain ⟨b, row, a, p, ks, sg, trs, e1, hO, ha, eN, eX⟩ := h
  subst e1 eN eX
  have hr1 := hr.mono (show 1 ≤ 3 by decide)
  have hr2 := hr.mono (show 2 ≤ 3 by decide)
  refine ds_cons (d1_own 4 (ss := []) da_nil (fun c hc => ?_) scLScen.nd)
  have hbc : b ≠ c := fun z => by rw [z, hc] at hO; cases hO
  refine ds_cons (d1_set 5 (s := .dat (pD (0, 0))) (DE.dv (de_tup (ds := [.int 0, .int 0]) (da_d de_int (da_d de_int da_nil)))) ?_ scLScen.nd)
  have put2 : ∀ (x y : OD), put (put O c x) b y = put (put O b y) c x := fun x y => by
    funext q
    unfold put
    by_cases h1 : q = b
    · by_cases h2 : q = c
      · exact absurd (h1.symm.trans h2) hbc
      · simp [h1, hbc]
    · simp [h1]
  have pb : ∀ {x y : OD}, put (put O b y) c x b = some y := fun {x y} => by rw [put_ne hbc, put_same]
  have m0 : 0 ≤ drw row a 7 := drw_0 row a (by decide)
  have m1 : drw row a 7 < 7 := drw_lt row a (by decide)
  have hO1 : put O c (lO []) b = some (Bx row a) := by rw [put_ne hbc]; exact hO
  show DS T _ _ _ [.val (.ref b), .dat (suD p ks sg), .dat (sL trs), .dat (.int 6), .val (.ref c), .dat (pD (0, 0)), .no, .no, .no] (put O c (lO [])) _
  refine ds_cons (d1_forR (m := drw row a 7) (O1 := put (put O b (Bx row (a + 1))) c (lO [])) 6 (fun j ρ' O2 => ∃ ts a', (∃ s6 s7 s8, ρ' = [.val (.ref b), .dat (suD p ks sg), .dat (sL trs), .dat (.int 6), .val (.ref c), .dat (pD (sitA p ks sg (0, 0) ts)), s6, s7, s8]) ∧ O2 = put (put O b (Bx row a')) c (lO (ts.map tI)) ∧ a' ≤ a + 1 + 2 * j ∧ scB p ks sg trs (0, 0) ts = true ∧ (∀ t ∈ ts, Five t) ∧ ts.length = j)
    (de_callH G0 hr1 (da_v (dv_var 0 rfl) (da_d (de_add (de_var 3) de_int) da_nil)) ⟨b, row, a, 7, rfl, hO1, by decide, by omega, rfl, by rw [put2]⟩) (by omega) ⟨[], a + 1, ⟨_, _, _, rfl⟩, rfl, by omega, rfl, fun t h => (by cases h), rfl⟩ scLScen.nd ?_ ?_ L.range (passes_of rfl))
  · rintro j ρ' O2 hj ⟨ts, a', ⟨s6, s7, s8, rfl⟩, rfl, ha', hsc, h5, hlen⟩
    have hj6 : j < 6 := by omega
    obtain ⟨i1, i2⟩ := sitA_ok ts (0, 0) first_sit.1 first_sit.2 hsc
    have en : ∀ t, scB p ks sg trs (0, 0) (ts ++ [t]) = (scB p ks sg trs (0, 0) ts && decide (t ∈ turnsL trs (sitA p ks sg (0, 0) ts).1 (sitA p ks sg (0, 0) ts).2)) := fun t => scB_snoc ts (0, 0)
    generalize hsit' : sitA p ks sg (0, 0) ts = sit at i1 i2 en ⊢
    obtain ⟨o, l⟩ := sit
    have hl := turnsL_len trs o l
    refine ds_cons (d1_set 7 (s := .dat (tiL (turnsL trs o l))) (DE.dv (de_callH G1 hr (da_d (de_var 5) (da_d (de_var 2) da_nil)) ⟨o, l, trs, rfl, i1, rfl, rfl⟩)) ?_ scLScen.nd)
    refine ds_mid (fun ρ' O2 => ∃ ws : List (List Int), ρ' = [.val (.ref b), .dat (suD p ks sg), .dat (sL trs), .dat (.int 6), .val (.ref c), .dat (pD (o, l)), .dat (.int (j : Int)), .dat (tiL ws), s8] ∧ O2 = put (put O b (Bx row (a' + 1))) c (lO (ts.map tI)) ∧
        (∀ t ∈ ws, t ∈ turnsL trs o l) ∧ 0 < ws.length ∧ ws.length ≤ 1200)
      (d1_if (p := decide (drw row a' 2 = 0)) (O1 := put (put O b (Bx row (a' + 1))) c (lO (ts.map tI))) (DT.cast (dt_eq (x := .int (drw row a' 2)) (y := .int 0) hr (by rfl) (by rfl) (de_callH G0 hr1 (da_v (dv_var 0 rfl) (da_d de_int da_nil)) ⟨b, row, a', 2, rfl, pb, by decide, by omega, rfl, by rw [put_put_b hbc]⟩) de_int) (deq_int _ _)) (fun z => ?_) fun z => ds_nil ⟨turnsL trs o l, rfl, rfl, fun t h => h, List.length_pos_of_mem (zero_turn trs i1 i2), hl⟩) ?_
    · refine ds_one (d1_ice 7 (out := ((turnsL trs o l).map tI).filterMap fun d => if lt2 d = true then some d else none) (O1 := put (put O b (Bx row (a' + 1))) c (lO (ts.map tI))) (d1_ownLcP (f := fun d => if lt2 d = true then some d else none) 8 7 (ds := (turnsL trs o l).map tI) (de_var 7) (fun d hd => ?_) (fun c2 hc2 => ⟨c2, hc2, rfl, rfl⟩) (by rw [List.length_map]; omega) scLScen.nd (blkOk_by rfl)) ?_)
      · obtain ⟨t, ht, rfl⟩ := List.mem_map.mp hd
        obtain ⟨o', l', k, g, st, rfl, hT⟩ := okT_of i1 i2 ht
        have e : lt2 (tI [o', l', k, g, st]) = decide (k < 2) := rfl
        by_cases hk : k < 2
        · exact .inl ⟨_, by rw [e, decide_eq_true hk]; rfl, difs_one fun s H C cl fp => DT.cast (dt_lt (de_ixT (ds := [.int o', .int l', .int k, .int g, .int st]) (de_var 8) de_int rfl) de_int) (decide_eq_true hk), fun s H C cl fp => de_var 8⟩
        · exact .inr ⟨by rw [e, decide_eq_false hk]; rfl, difs_one fun s H C cl fp => DT.cast (dt_lt (de_ixT (ds := [.int o', .int l', .int k, .int g, .int st]) (de_var 8) de_int rfl) de_int) (decide_eq_false hk)⟩
      · refine ⟨(turnsL trs o l).filter fun t => lt2 (tI t), ?_, rfl, fun t h => (List.mem_filter.mp h).1, List.length_pos_of_mem (List.mem_filter.mpr ⟨zero_turn trs i1 i2, rfl⟩), Nat.le_trans (List.length_filter_le _ _) hl⟩
        have e : ((turnsL trs o l).map tI).filterMap (fun d => if lt2 d = true then some d else none) = ((turnsL trs o l).filter fun t => lt2 (tI t)).map tI := by
          rw [List.filterMap_map]
          generalize turnsL trs o l = xs
          induction xs with
          | nil => rfl
          | cons x xs ih =>
            rw [List.filterMap_cons, List.filter_cons]
            by_cases hx : lt2 (tI x) = true
            · simp only [Function.comp, hx, if_true, List.map_cons]
              rw [← ih]
            · simp only [Function.comp, hx]
              simpa using ih
        rw [e]
        rfl
    rintro ρ' O2 ⟨ws, rfl, rfl, hws, hw0, hwl⟩
    have n0 : 0 ≤ drw row (a' + 1) 840 % (ws.length : Int) := Int.emod_nonneg _ (by omega)
    have n1 : drw row (a' + 1) 840 % (ws.length : Int) < (ws.length : Int) := Int.emod_lt_of_pos _ (by omega)
    obtain ⟨t, htm, hat⟩ : ∃ t, t ∈ ws ∧ atI (ws.map tI) (drw row (a' + 1) 840 % (ws.length : Int)) = some (tI t) := by
      have hlt : (drw row (a' + 1) 840 % (ws.length : Int)).toNat < ws.length := by omega
      refine ⟨ws[(drw row (a' + 1) 840 % (ws.length : Int)).toNat], List.getElem_mem hlt, ?_⟩
      rw [atI_D n0 (by rw [List.length_map]; exact n1), List.getD_eq_getElem?_getD, List.getElem?_map, List.getElem?_eq_getElem hlt]
      rfl
    have htt := hws t htm
    obtain ⟨o', l', k, g, st, rfl, hT⟩ := okT_of i1 i2 htt
    refine ds_cons (d1_set 8 (s := .dat (tI [o', l', k, g, st])) (O1 := put (put O b (Bx row (a' + 2))) c (lO (ts.map tI))) (DE.dv (de_ixL (ds := ws.map tI) (O1 := put (put O b (Bx row (a' + 1))) c (lO (ts.map tI))) (de_var 7) (de_mod (by omega) (de_intI L.int (de_callH G0 hr1 (da_v (dv_var 0 rfl) (da_d de_int da_nil)) ⟨b, row, a' + 1, 840, rfl, pb, by decide, by omega, rfl, by rw [put_put_b hbc]⟩)) (DE.cast (de_lenL (ds := ws.map tI) L.len (de_var 7)) (by rw [List.length_map]))) hat)) ?_ scLScen.nd)
    refine ds_cons (d1_app 4 rfl (de_var 8) (by rw [List.length_map]; omega) ?_)
    refine ds_one (d1_set 5 (s := .dat (pD (lsitB p ks sg o' l' k g st))) (DE.dv (de_ixL (ds := [pD (lsitB p ks sg o' l' k g st), .lst (lsigs p ks sg o' l' k g st)]) (de_callH G2 hr2 (da_d (de_var 1) (da_d (de_var 8) da_nil)) ⟨p, ks, sg, o', l', k, g, st, rfl, hT, rfl, rfl⟩) de_int rfl)) ?_ scLScen.nd)
    refine ⟨ts ++ [[o', l', k, g, st]], a' + 2, ?_, ?_, by omega, ?_, ?_, by rw [List.length_append, hlen]; rfl⟩
    · rw [sitA_snoc]
      exact ⟨_, _, _, rfl⟩
    · rw [List.map_append]
      rfl
    · rw [en, hsc, decide_eq_true htt]
      rfl
    · intro t ht
      rcases List.mem_append.mp ht with h | h
      · exact h5 t h
      · rw [List.mem_singleton.mp h]
        exact five_of i1 i2 htt
  · rintro ρ' O2 ⟨ts, a', ⟨s6, s7, s8, rfl⟩, rfl, ha', hsc, h5, hlen⟩
    have hcb : put O b (Bx row a') c = none := by rw [put_ne (Ne.symm hbc)]; exact hc
    exact ds_ice 4 rfl hcb (ds_one (d1_ret (s := .dat (tiL ts)) (DE.dv (de_var 4)) ⟨ts, a', rfl, rfl, by omega, hsc, h5, by omega⟩))
end
end Dg

namespace Dg
open PySem PySem.Spec PyProof.Rows L2 GxR Dz
theorem five_set {t : List Int} {v : Int} (h : Five t) (hv : 0 ≤ v) {n : Nat} (hn : n < 5) : Five (t.set n v) := by
  obtain ⟨a, b, c, d, e, rfl, h1, h2, h3, h4, h5⟩ := h
  have q : n = 0 ∨ n = 1 ∨ n = 2 ∨ n = 3 ∨ n = 4 := by omega
  rcases q with rfl | rfl | rfl | rfl | rfl
  · exact ⟨v, b, c, d, e, rfl, hv, h2, h3, h4, h5⟩
  · exact ⟨a, v, c, d, e, rfl, h1, hv, h3, h4, h5⟩
  · exact ⟨a, b, v, d, e, rfl, h1, h2, hv, h4, h5⟩
  · exact ⟨a, b, c, v, e, rfl, h1, h2, h3, hv, h5⟩
  · exact ⟨a, b, c, d, v, rfl, h1, h2, h3, h4, hv⟩
theorem ixN_nat {n : Nat} {i : Int} (h0 : 0 ≤ i) (h1 : i < n) : ixN n i = some i.toNat := by
  unfold ixN
  simp only [h0, h1]
  first | rfl | simp [h0, h1] | (split <;> first | rfl | omega)
section
variable {P : Program} {w : World} {K : PySem.W.Frag} {mg : Str → Option Value} {base : Heap} {T : List Addr} {CE fI : Addr}
def pLSpoil : PR := fun ss O Rn Rx => ∃ b row a ts, ss = [.val (.ref b), .dat (tiL ts)] ∧ O b = some (Bx row a) ∧ a ≤ 5000 ∧ (∀ t ∈ ts, Five t) ∧ ts.length ≤ 6 ∧ Rn = (fun v O' => ∃ ts' a', v = .dat (tiL ts') ∧ O' = put O b (Bx row a') ∧ a' ≤ a + 7 ∧ (∀ t ∈ ts', Five t) ∧ ts'.length ≤ 6) ∧ Rx = fun _ _ => False
theorem scLSpoil : FnScope ["box", "scenario", "out", "at", "turn", "part"] ["box", "scenario"] (defScope s_law_spoiled) := ⟨rfl, rfl, rfl, by decide +kernel, rfl, by decide +kernel, by decide +kernel⟩
theorem ok_lspoil {f : Addr} {fd : FuncData} {cdv : Value} (F : FunC K "_law_spoiled" "_law_spoiled" s_law_spoiled f fd cdv) (L : Blt mg) (G0 : HasF P w K mg base CX0 1 "_law_draw" ["box", "many"] (spF T K pDraw)) :
    FnOk P w K mg base (L2.CX P w) 2 f fd ["box", "scenario"] (spX T K CE pLSpoil) := by
  refine fn_okX (R := pLSpoil) F scLSpoil (fun ss O Rn Rx ⟨_, _, _, _, h, _⟩ => by rw [h]; rfl) fun A outer s H E ss O Rn Rx hr h => ?_
  obtain ⟨b, row, a, ts, e1, hO, ha, h5, hl, eN, eX⟩ := h
  subst e1 eN eX
  refine ds_cons (d1_ownList 2 (ds := ts.map tI) L.list (de_var 1) (.inl rfl) (fun c hc => ?_) scLSpoil.nd)
  have hbc : b ≠ c := fun z => by rw [z, hc] at hO; cases hO
  have hO1 : ∀ x, put O c x b = some (Bx row a) := fun x => by rw [put_ne hbc]; exact hO
  have put2 : ∀ (x y : OD), put (put O c x) b y = put (put O b y) c x := fun x y => by
    funext q
    unfold put
    by_cases h1 : q = b
    · by_cases h2 : q = c
      · exact absurd (h1.symm.trans h2) hbc
      · simp [h1, hbc]
    · simp [h1]
  have pb : ∀ {x y : OD}, put (put O b y) c x b = some y := fun {x y} => by rw [put_ne hbc, put_same]
  show DS T _ _ _ [.val (.ref b), .dat (tiL ts), .val (.ref c), .no, .no, .no] (put O c (lO (ts.map tI))) _
  refine ds_cons (d1_if (p := decide ((ts.length : Int) = 0)) (DT.cast (dt_eq (x := .int (ts.length : Int)) (y := .int 0) hr (by rfl) (by rfl) (DE.cast (de_lenO L.len (dv_var 2 rfl) put_same) (by rw [List.length_map, List.length_map])) de_int) (deq_int _ _)) (fun z => ?_) fun z => ds_nil ?_)
  · refine ds_ice 2 rfl hc (ds_one (d1_ret (s := .dat (tiL ts)) (DE.dv (de_var 2)) ⟨ts, a, rfl, (put_self hO).symm, by omega, h5, hl⟩))
  have z' : ¬ (ts.length : Int) = 0 := of_decide_eq_false z
  have n0 : 0 ≤ drw row a (ts.length : Int) := drw_0 row a (by omega)
  have n1 : drw row a (ts.length : Int) < (ts.length : Int) := drw_lt row a (by omega)
  generalize hix : drw row a (ts.length : Int) = ix at n0 n1
  refine ds_cons (d1_set 3 (s := .dat (.int ix)) (O1 := put (put O b (Bx row (a + 1))) c (lO (ts.map tI))) (DE.dv (de_callH G0 hr (da_v (dv_var 0 rfl) (da_d (DE.cast (de_lenO L.len (dv_var 2 rfl) put_same) (by rw [List.length_map, List.length_map])) da_nil)) ⟨b, row, a, (ts.length : Int), rfl, hO1 _, by omega, by omega, by rw [hix], by rw [put2]⟩)) ?_ scLSpoil.nd)
  obtain ⟨t, ht, hat⟩ : ∃ t, ts[ix.toNat]? = some t ∧ atI ((ts.map tI).map Dz.Slot.dat) ix = some (.dat (tI t)) := by
    have hlt : ix.toNat < ts.length := by omega
    refine ⟨ts[ix.toNat], List.getElem?_eq_getElem hlt, ?_⟩
    unfold atI
    rw [ixN_nat n0 (by rw [List.length_map, List.length_map]; exact n1)]
    show ((ts.map tI).map Dz.Slot.dat)[ix.toNat]? = _
    rw [List.getElem?_map, List.getElem?_map, List.getElem?_eq_getElem hlt]
    rfl
  have h5t := h5 t (List.mem_of_getElem? ht)
  have lt5 : t.length = 5 := by obtain ⟨_, _, _, _, _, rfl, _⟩ := h5t; rfl
  refine ds_cons (d1_ownList 4 (ds := t.map .int) (O1 := put (put O b (Bx row (a + 1))) c (lO (ts.map tI))) L.list (DV.de (dv_ixO 2 rfl (de_var 3) put_same hat)) (.inr rfl) (fun c2 hc2 => ?_) scLSpoil.nd)
  have hb2 : b ≠ c2 := fun z => by rw [← z, put_ne hbc, put_same] at hc2; cases hc2
  have hcc : c ≠ c2 := fun z => by rw [← z, put_same] at hc2; cases hc2
  have pb3 : ∀ {x y u : OD}, put (put (put O b y) c x) c2 u b = some y := fun {x y u} => by rw [put_ne hb2]; exact pb
  have put3 : ∀ (x y y' u : OD), put (put (put (put O b y) c x) c2 u) b y' = put (put (put O b y') c x) c2 u := fun x y y' u => by
    funext q
    unfold put
    by_cases h1 : q = b
    · by_cases h2 : q = c
      · exact absurd (h1.symm.trans h2) hbc
      · by_cases h3 : q = c2
        · exact absurd (h1.symm.trans h3) hb2
        · simp [h1, hbc, hb2]
    · simp [h1]
  show DS T _ _ _ [.val (.ref b), .dat (tiL ts), .val (.ref c), .dat (.int ix), .val (.ref c2), .no] (put (put (put O b (Bx row (a + 1))) c (lO (ts.map tI))) c2 (lO (t.map .int))) _
  have p0 : 0 ≤ drw row (a + 1) 5 := drw_0 row _ (by decide)
  have p1 : drw row (a + 1) 5 < 5 := drw_lt row _ (by decide)
  refine ds_cons (d1_set 5 (s := .dat (.int (drw row (a + 1) 5))) (O1 := put (put (put O b (Bx row (a + 2))) c (lO (ts.map tI))) c2 (lO (t.map .int))) (DE.dv (de_callH G0 hr (da_v (dv_var 0 rfl) (da_d de_int da_nil)) ⟨b, row, a + 1, 5, rfl, pb3, by decide, by omega, rfl, by rw [put3]⟩)) ?_ scLSpoil.nd)
  generalize drw row (a + 1) 5 = pt at p0 p1
  let L5 : List Int := [drw row (a + 2) 4, drw row (a + 3) 5, drw row (a + 4) 7, drw row (a + 5) 5, drw row (a + 6) 8]
  obtain ⟨v, hv0, hatv⟩ : ∃ v, 0 ≤ v ∧ atI (L5.map D.int) pt = some (.int v) := by
    have q : pt = 0 ∨ pt = 1 ∨ pt = 2 ∨ pt = 3 ∨ pt = 4 := by omega
    rcases q with rfl | rfl | rfl | rfl | rfl
    · exact ⟨_, drw_0 row (a + 2) (many := 4) (by decide), rfl⟩
    · exact ⟨_, drw_0 row (a + 3) (many := 5) (by decide), rfl⟩
    · exact ⟨_, drw_0 row (a + 4) (many := 7) (by decide), rfl⟩
    · exact ⟨_, drw_0 row (a + 5) (many := 5) (by decide), rfl⟩
    · exact ⟨_, drw_0 row (a + 6) (many := 8) (by decide), rfl⟩
  have hj5 : ixN ((t.map D.int).map Dz.Slot.dat).length pt = some pt.toNat := ixN_nat p0 (by rw [List.length_map, List.length_map, lt5]; exact p1)
  refine ds_cons (d1_setitem 4 (s := .dat (.int v)) (ss := (t.map D.int).map .dat) (O2 := put (put (put O b (Bx row (a + 7))) c (lO (ts.map tI))) c2 (lO (t.map .int))) rfl (DE.dv (de_ixL (ds := L5.map .int) (O1 := put (put (put O b (Bx row (a + 7))) c (lO (ts.map tI))) c2 (lO (t.map .int))) (de_lst (ds := L5.map .int)
      (da_d (O1 := put (put (put O b (Bx row (a + 3))) c (lO (ts.map tI))) c2 (lO (t.map .int))) (de_callH G0 hr (da_v (dv_var 0 rfl) (da_d de_int da_nil)) ⟨b, row, a + 2, 4, rfl, pb3, by decide, by omega, rfl, by rw [put3]⟩)
      (da_d (O1 := put (put (put O b (Bx row (a + 4))) c (lO (ts.map tI))) c2 (lO (t.map .int))) (de_callH G0 hr (da_v (dv_var 0 rfl) (da_d de_int da_nil)) ⟨b, row, a + 3, 5, rfl, pb3, by decide, by omega, rfl, by rw [put3]⟩)
      (da_d (O1 := put (put (put O b (Bx row (a + 5))) c (lO (ts.map tI))) c2 (lO (t.map .int))) (de_callH G0 hr (da_v (dv_var 0 rfl) (da_d de_int da_nil)) ⟨b, row, a + 4, 7, rfl, pb3, by decide, by omega, rfl, by rw [put3]⟩)
      (da_d (O1 := put (put (put O b (Bx row (a + 6))) c (lO (ts.map tI))) c2 (lO (t.map .int))) (de_callH G0 hr (da_v (dv_var 0 rfl) (da_d de_int da_nil)) ⟨b, row, a + 5, 5, rfl, pb3, by decide, by omega, rfl, by rw [put3]⟩)
      (da_d (O1 := put (put (put O b (Bx row (a + 7))) c (lO (ts.map tI))) c2 (lO (t.map .int))) (de_callH G0 hr (da_v (dv_var 0 rfl) (da_d de_int da_nil)) ⟨b, row, a + 6, 8, rfl, pb3, by decide, by omega, rfl, by rw [put3]⟩) da_nil))))) (by show 5 ≤ 10000; decide)) (de_var 5) hatv)) (de_var 5) put_same hj5 ?_)
  rw [put_put]
  have es : ((t.map D.int).map Dz.Slot.dat).set pt.toNat (.dat (.int v)) = ((t.set pt.toNat v).map D.int).map .dat := by
    rw [List.map_set, List.map_set]
  rw [es]
  have hcc2 : put (put O b (Bx row (a + 7))) c (lO (ts.map tI)) c2 = none := by
    rw [put_ne (Ne.symm hcc), put_ne (Ne.symm hb2)]
    rw [put_ne (Ne.symm hcc), put_ne (Ne.symm hb2)] at hc2
    exact hc2
  refine ds_ice 4 (acc := (t.set pt.toNat v).map D.int) rfl hcc2 ?_
  have hj6 : ixN ((ts.map tI).map Dz.Slot.dat).length ix = some ix.toNat := ixN_nat n0 (by rw [List.length_map, List.length_map]; exact n1)
  refine ds_cons (d1_setitem 2 (s := .dat (tI (t.set pt.toNat v))) (ss := (ts.map tI).map .dat) (O1 := put (put O b (Bx row (a + 7))) c (lO (ts.map tI))) (O2 := put (put O b (Bx row (a + 7))) c (lO (ts.map tI))) rfl (DE.dv (de_tupleL L.tuple (de_var 4))) (de_var 3) put_same hj6 ?_)
  rw [put_put]
  have es2 : ((ts.map tI).map Dz.Slot.dat).set ix.toNat (.dat (tI (t.set pt.toNat v))) = ((ts.set ix.toNat (t.set pt.toNat v)).map tI).map .dat := by
    rw [List.map_set, List.map_set]
  rw [es2]
  have hcb : put O b (Bx row (a + 7)) c = none := by rw [put_ne (Ne.symm hbc)]; exact hc
  refine ds_ice 2 (acc := (ts.set ix.toNat (t.set pt.toNat v)).map tI) rfl hcb (ds_one (d1_ret (s := .dat (tiL (ts.set ix.toNat (t.set pt.toNat v)))) (DE.dv (de_var 2)) ⟨ts.set ix.toNat (t.set pt.toNat v), a + 7, rfl, rfl, by omega, fun u hu => ?_, by rw [List.length_set]; exact hl⟩))
  rcases List.mem_or_eq_of_mem_set hu with q | q
  · exact h5 u q
  · rw [q]
    exact five_set h5t hv0 (by omega)
end
end Dg

namespace Dg
open PySem PySem.Spec PyProof.Rows L2 GxR Dz
theorem suA_le (row : List Int) (a : Nat) : suA row a ≤ a + 8 := by
  unfold suA
  split <;> omega
theorem lsig_ok (sg : List Str) (kind : Str) (n : Int) (same : Bool) (rel : Int) (m : Nat) : D.ok (m + 2) (lsig sg kind n same rel) = true := by
  unfold lsig
  split
  · rfl
  · rfl
theorem lhear_ok {p : Str} {ks sg : List Str} {s : Int} {evs : List LEv} (m : Nat) : ∀ j, ∀ d ∈ (lhear p ks sg s evs j).1, D.ok (m + 2) d = true
  | 0 => fun d hd => by cases hd
  | j + 1 => by
    have h := lhear_ok (p := p) (ks := ks) (sg := sg) (s := s) (evs := evs) m j
    unfold lhear
    split
    · unfold lstep
      split
      · intro d hd
        rcases List.mem_append.mp hd with q | q
        · exact h d q
        · rw [List.mem_singleton.mp q]
          exact lsig_ok _ _ _ _ _ _
      · exact h
    · exact h
theorem lsigs_ok (p : Str) (ks sg : List Str) (o l k g s : Int) (m : Nat) : ∀ d ∈ lsigs p ks sg o l k g s, D.ok (m + 2) d = true := by
  intro d hd
  unfold lsigs at hd
  rcases List.mem_append.mp hd with q | q
  · exact lhear_ok m _ d q
  · split at q
    · rw [List.mem_singleton.mp q]
      rfl
    · cases q
def bhD (p : Str) (ks sg : List Str) (o l k g s : Int) : D := .tup [pD (lsitB p ks sg o l k g s), .tup (lsigs p ks sg o l k g s)]
theorem bhD_ok (p : Str) (ks sg : List Str) (o l k g s : Int) : D.ok 32 (bhD p ks sg o l k g s) = true := ok_tup fun d hd => by
  have q : d = pD (lsitB p ks sg o l k g s) ∨ d = .tup (lsigs p ks sg o l k g s) := by simpa using hd
  rcases q with rfl | rfl
  · rfl
  · exact ok_tup fun d hd => lsigs_ok p ks sg o l k g s 28 d hd
section
variable {P : Program} {w : World} {K : PySem.W.Frag} {mg : Str → Option Value} {base : Heap} {T : List Addr} {CE fI : Addr}
theorem scLaw : FnScope ["script", "box", "turn", "setup", "troubles", "over", "situation", "ways", "every", "again", "one", "told", "scenario", "other", "answer"] ["script"] (defScope sLaw) := ⟨rfl, rfl, rfl, by decide +kernel, rfl, by decide +kernel, by decide +kernel⟩
def pLaw : PR := fun ss O Rn Rx => ∃ ns : List Int, ss = [.dat (.kst (ns.map .int))] ∧ Rn = (fun v _ => v = .dat (.bl true)) ∧ Rx = fun _ _ => False
theorem ok_law {f CS : Addr} {fd : FuncData} {cdv : Value} (F : FunC K "law" "law" sLaw f fd cdv) (L : Blt mg)
    (Frow : HasF P w K mg base CX0 2 "_law_row" ["script", "first", "last"] (spF T K pRow)) (Fset : HasF P w K mg base CX0 3 "_law_setup" ["box"] (spF T K pLSetup)) (Ftr : HasF P w K mg base CX0 2 "_law_troubles" ["box"] (spF T K pLTroubles)) (Fdr : HasF P w K mg base CX0 1 "_law_draw" ["box", "many"] (spF T K pDraw))
    (Flt : HasF P w K mg base CX0 3 "_law_turns" ["situation", "troubles"] (spF T K pTurns)) (Ft : HasF P w K mg base CX0 4 "turns" ["situation", "troubles"] (spF T K pTurns)) (Fal : HasF P w K mg base CX0 1 "_law_all" [] (spF T K pLAll)) (Flb : HasF P w K mg base CX0 2 "_law_behind" ["setup", "turn"] (spF T K pLBehind))
    (Fb : HasF P w K mg base CX0 4 "behind" ["setup", "situation", "turn"] (spF T K (pBehind CS))) (Fm : HasF P w K mg base (L2.CX P w) 6 "_law_made" ["told"] (spX T K CE (pLMade CS))) (Fsc : HasF P w K mg base (L2.CX P w) 4 "_law_scenario" ["box", "setup", "troubles", "most"] (spX T K CE pLScen))
    (Fis : HasF P w K mg base CX0 5 "is_scenario" ["setup", "scenario", "troubles"] (spF T K (pIsSc CS))) (Fsp : HasF P w K mg base (L2.CX P w) 2 "_law_spoiled" ["box", "scenario"] (spX T K CE pLSpoil)) (Fli : HasF P w K mg base CX0 4 "_law_is_scenario" ["setup", "scenario", "troubles"] (spF T K pLIsSc)) :
    FnOk P w K mg base (L2.CX P w) 7 f fd ["script"] (spX T K CE pLaw) := by
  obtain ⟨_, _, Gm, hm, km, bm⟩ := Fm
  obtain ⟨_, _, Gsc, hsc, ksc, bsc⟩ := Fsc
  obtain ⟨_, _, Gsp, hsp, ksp, bsp⟩ := Fsp
  refine fn_okX (R := pLaw) F scLaw (fun ss O Rn Rx ⟨ns, h, _⟩ => by rw [h]; rfl) fun A outer s H E ss O Rn Rx hr h => ?_
  obtain ⟨ns, e1, eN, eX⟩ := h
  subst e1 eN eX
  have hr1 := hr.mono (show 1 ≤ 6 by decide)
  have hr2 := hr.mono (show 2 ≤ 6 by decide)
  have hr3 := hr.mono (show 3 ≤ 6 by decide)
  have hr4 := hr.mono (show 4 ≤ 6 by decide)
  have hr5 := hr.mono (show 5 ≤ 6 by decide)
  refine ds_cons (d1_own 1 (ss := [.dat (.lst ((rowF ns 0 50).map .int)), .dat (.int 0)]) (O1 := O) (da_d (de_callH Frow hr2 (da_d (de_var 0) (da_d de_int (da_d de_int da_nil))) ⟨ns, 0, 50, rfl, by decide, by decide, by decide, by decide, rfl, rfl⟩) (da_d de_int da_nil)) (fun b hb => ?_) scLaw.nd (by show 2 ≤ 10000; decide))
  generalize rowF ns 0 50 = row
  have eB : (OD.lst [.dat (.lst (row.map .int)), .dat (.int 0)]) = Bx row 0 := rfl
  rw [eB]
  refine ds_cons (d1_forR (O1 := put O b (Bx row 0)) 2 (fun j ρ' O2 => (∃ s2 s3 s4 s5 s6 s7 s8 s9 s10 s11 s12 s13 s14, ρ' = [.dat (.kst (ns.map .int)), .val (.ref b), s2, s3, s4, s5, s6, s7, s8, s9, s10, s11, s12, s13, s14]) ∧ ∃ a, O2 = put O b (Bx row a) ∧ a ≤ 200 * j) de_int (by decide) ⟨⟨_, _, _, _, _, _, _, _, _, _, _, _, _, rfl⟩, 0, rfl, Nat.le_refl _⟩ scLaw.nd ?_ ?_ L.range (passes_of rfl))
  · rintro j ρ' O2 hj ⟨⟨s2, s3, s4, s5, s6, s7, s8, s9, s10, s11, s12, s13, s14, rfl⟩, a, rfl, hal⟩
    have ha : a ≤ 600 := by omega
    obtain ⟨p, ks, sg, hsu⟩ := su_ok row a
    have hG : SuG p ks sg := ⟨hsu.p, hsu.k, hsu.s⟩
    have suA1 : suA row a + 3 ≤ a + 11 := Nat.add_le_add_right (suA_le row a) 3
    refine ds_cons (d1_set 3 (s := .dat (suD p ks sg)) (O1 := put O b (Bx row (suA row a + 3))) (DE.dv (de_callH Fset hr3 (da_v (dv_var 1 rfl) da_nil) ⟨b, row, a, rfl, put_same, by omega, hsu.eq.symm, by rw [put_put]⟩)) ?_ scLaw.nd)
    generalize suA row a + 3 = a1 at suA1
    refine ds_cons (d1_set 4 (s := .dat (sL (troD row a1))) (O1 := put O b (Bx row (a1 + 6))) (DE.dv (de_callH Ftr hr2 (da_v (dv_var 1 rfl) da_nil) ⟨b, row, a1, rfl, put_same, by omega, rfl, by rw [put_put]⟩)) ?_ scLaw.nd)
    generalize troD row a1 = trs
    have o0 : 0 ≤ drw row (a1 + 6) 4 := drw_0 row _ (by decide)
    have o3 : drw row (a1 + 6) 4 < 4 := drw_lt row _ (by decide)
    refine ds_cons (d1_set 5 (s := .dat (.int (drw row (a1 + 6) 4))) (O1 := put O b (Bx row (a1 + 7))) (DE.dv (de_callH Fdr hr1 (da_v (dv_var 1 rfl) (da_d de_int da_nil)) ⟨b, row, a1 + 6, 4, rfl, put_same, by decide, by omega, rfl, by rw [put_put]⟩)) ?_ scLaw.nd)
    generalize drw row (a1 + 6) 4 = ov at o0 o3
    have mB : (if decide (0 < ov) = true then (1 : Int) else 0) = 0 ∧ ov = 0 ∨ (if decide (0 < ov) = true then (1 : Int) else 0) = 1 ∧ 0 < ov := by
      by_cases z : 0 < ov
      · exact .inr ⟨if_pos (decide_eq_true z), z⟩
      · exact .inl ⟨if_neg (by rw [decide_eq_false z]; decide), by omega⟩
    generalize hmn : (if decide (0 < ov) = true then (1 : Int) else 0) = mn at mB
    have l0 : 0 ≤ drw row (a1 + 7) (4 + mn) := drw_0 row _ (by omega)
    have l1 : drw row (a1 + 7) (4 + mn) < 4 + mn := drw_lt row _ (by omega)
    generalize hla : drw row (a1 + 7) (4 + mn) = la at l0 l1
    have hat : atI [D.int 0, .int 1, .int 2, .int 3, .int 4] la = some (.int la) := by
      have q : la = 0 ∨ la = 1 ∨ la = 2 ∨ la = 3 ∨ la = 4 := by omega
      rcases q with rfl | rfl | rfl | rfl | rfl <;> rfl
    refine ds_cons (d1_set 6 (s := .dat (pD (ov, la))) (O1 := put O b (Bx row (a1 + 8))) (DE.dv (de_tup (ds := [.int ov, .int la]) (da_d (de_var 5) (da_d (de_ixL (ds := [D.int 0, .int 1, .int 2, .int 3, .int 4]) (de_lst (ds := [D.int 0, .int 1, .int 2, .int 3, .int 4]) (da_d de_int (da_d de_int (da_d de_int (da_d de_int (da_d de_int da_nil)))))) (de_callH Fdr hr1 (da_v (dv_var 1 rfl) (da_d (DE.cast (de_add de_int (de_intB L.int (de_gt (de_var 5) de_int))) (by rw [hmn])) da_nil)) ⟨b, row, a1 + 7, 4 + mn, rfl, put_same, by omega, by omega, by rw [hla], by rw [put_put]⟩) hat) da_nil)) (by show 2 ≤ 10000; decide))) ?_ scLaw.nd)
    refine ds_mid (fun ρ' O2 => ∃ o l, ρ' = [.dat (.kst (ns.map .int)), .val (.ref b), .dat (.int (j : Int)), .dat (suD p ks sg), .dat (sL trs), .dat (.int ov), .dat (pD (o, l)), s7, s8, s9, s10, s11, s12, s13, s14] ∧ O2 = put O b (Bx row (a1 + 8)) ∧ InS o l ∧ VS o l)
      (d1_if (p := decide ((ov, la) = (3, 3))) (O1 := put O b (Bx row (a1 + 8))) (DT.cast (dt_eq (x := pD (ov, la)) (y := pD (3, 3)) hr1 (by rfl) (by rfl) (de_var 6) (de_tup (ds := [.int 3, .int 3]) (da_d de_int (da_d de_int da_nil)))) (deq_pD _ _)) (fun z => ds_one (d1_set 6 (s := .dat (pD (3, 4))) (DE.dv (de_tup (ds := [.int 3, .int 4]) (da_d de_int (da_d de_int da_nil)))) ⟨3, 4, rfl, rfl, ⟨by decide, by decide, by decide, by decide⟩, fun h => absurd h.2 (by decide), fun h => absurd h.1 (by decide)⟩ scLaw.nd)) fun z => ds_nil ⟨ov, la, rfl, rfl, ⟨o0, by omega, l0, by omega⟩, fun h => of_decide_eq_false z (by rw [h.1, h.2]), fun h => by omega⟩) ?_
    rintro ρ' O2 ⟨o, l, rfl, rfl, i1, i2⟩
    refine ds_cons (d1_set 7 (s := .dat (tiL (turnsL trs o l))) (O1 := put O b (Bx row (a1 + 8))) (DE.dv (de_callH Flt hr3 (da_d (de_var 6) (da_d (de_var 4) da_nil)) ⟨o, l, trs, rfl, i1, rfl, rfl⟩)) ?_ scLaw.nd)
    refine ds_cons (d1_if (p := false) (O1 := put O b (Bx row (a1 + 8))) (DT.cast (dt_ne (x := tiL (turnsL trs o l)) (y := tiL (turnsL trs o l)) hr1 (ok_tiL _) (ok_tiL _) (de_callH Ft hr4 (da_d (de_var 6) (da_d (de_listL L.list (de_var 4)) da_nil)) ⟨o, l, trs, rfl, i1, rfl, rfl⟩) (de_var 7)) (by rw [deq_refl (ok_tiL _)]; rfl)) (fun z => by cases z) fun _ => ds_nil ?_)
    refine ds_cons (d1_set 8 (s := .dat (tiL (turnsL TRS o l))) (O1 := put O b (Bx row (a1 + 8))) (DE.dv (de_callH Flt hr3 (da_d (de_var 6) (da_d (de_callH0 Fal hr1 ⟨rfl, rfl, rfl⟩) da_nil)) ⟨o, l, TRS, rfl, i1, rfl, rfl⟩)) ?_ scLaw.nd)
    have hlen0 : 0 < (turnsL TRS o l).length := List.length_pos_of_mem (zero_turn TRS i1 i2)
    refine ds_cons (d1_forR (O1 := put O b (Bx row (a1 + 8))) 9 (fun t ρ' O2 => (∃ s9 s10 s11, ρ' = [.dat (.kst (ns.map .int)), .val (.ref b), .dat (.int (j : Int)), .dat (suD p ks sg), .dat (sL trs), .dat (.int ov), .dat (pD (o, l)), .dat (tiL (turnsL trs o l)), .dat (tiL (turnsL TRS o l)), s9, s10, s11, s12, s13, s14]) ∧ ∃ a', O2 = put O b (Bx row a') ∧ a' ≤ a1 + 8 + 2 * t)
      de_int (by decide) ⟨⟨_, _, _, rfl⟩, a1 + 8, rfl, Nat.le_refl _⟩ scLaw.nd ?_ ?_ L.range (passes_of rfl))
    · rintro t ρ' O2 ht ⟨⟨s9, s10, s11, rfl⟩, a', rfl, ha'⟩
      have ht8 : t < 8 := by omega
      have c0 : 0 ≤ drw row a' 840 := drw_0 row _ (by decide)
      have c1 : drw row a' 840 < 840 := drw_lt row _ (by decide)
      generalize hc : drw row a' 840 = c at c0 c1
      generalize he : drw row (a' + 1) 3 = e
      have n0 : 0 ≤ (c * 3 + e) % ((turnsL TRS o l).length : Int) := Int.emod_nonneg _ (by omega)
      have n1 : (c * 3 + e) % ((turnsL TRS o l).length : Int) < ((turnsL TRS o l).length : Int) := Int.emod_lt_of_pos _ (by omega)
      obtain ⟨u, hum, hau⟩ : ∃ u, u ∈ turnsL TRS o l ∧ atI ((turnsL TRS o l).map tI) ((c * 3 + e) % ((turnsL TRS o l).length : Int)) = some (tI u) := by
        have hlt : ((c * 3 + e) % ((turnsL TRS o l).length : Int)).toNat < (turnsL TRS o l).length := by omega
        refine ⟨(turnsL TRS o l)[((c * 3 + e) % ((turnsL TRS o l).length : Int)).toNat], List.getElem_mem hlt, ?_⟩
        rw [atI_D n0 (by rw [List.length_map]; exact n1), List.getD_eq_getElem?_getD, List.getElem?_map, List.getElem?_eq_getElem hlt]
        rfl
      obtain ⟨o', l', k, g, st, rfl, hT⟩ := okT_of i1 i2 hum
      obtain ⟨q1, q2⟩ := behind_eq (p := p) (ks := ks) (sg := sg) hG.p hT
      refine ds_cons (d1_set 10 (s := .dat (tI [o', l', k, g, st])) (O1 := put O b (Bx row (a' + 2))) (DE.dv (de_ixL (ds := (turnsL TRS o l).map tI) (O1 := put O b (Bx row a')) (de_var 8) (de_mod (by omega) (de_intI L.int (de_add (de_mul (.inl ⟨by omega, by omega⟩) (de_callH Fdr hr1 (da_v (dv_var 1 rfl) (da_d de_int da_nil)) ⟨b, row, a', 840, rfl, put_same, by decide, by omega, by rw [hc], rfl⟩) de_int) (de_callH Fdr hr1 (da_v (dv_var 1 rfl) (da_d de_int da_nil)) ⟨b, row, a' + 1, 3, rfl, put_same, by decide, by omega, by rw [he], by rw [put_put, put_put]⟩))) (DE.cast (de_lenL (ds := (turnsL TRS o l).map tI) L.len (de_var 8)) (by rw [List.length_map]))) hau)) ?_ scLaw.nd)
      refine ds_cons (d1_set 11 (s := .dat (.lst [pD (lsitB p ks sg o' l' k g st), .lst (lsigs p ks sg o' l' k g st)])) (O1 := put O b (Bx row (a' + 2))) (DE.dv (de_callH Flb hr2 (da_d (de_var 3) (da_d (de_var 10) da_nil)) ⟨p, ks, sg, o', l', k, g, st, rfl, hT, rfl, rfl⟩)) ?_ scLaw.nd)
      refine ds_one (d1_if (p := false) (O1 := put O b (Bx row (a' + 2))) (DT.cast (dt_ne (x := bhD p ks sg o' l' k g st) (y := bhD p ks sg o' l' k g st) hr1 (bhD_ok _ _ _ _ _ _ _ _) (bhD_ok _ _ _ _ _ _ _ _)
        (de_callH Fb hr4 (da_v (dv_callX Gm hr hm km bm (da_d (de_var 3) da_nil) ⟨p, ks, sg, rfl, hG, rfl, rfl⟩) (da_d (de_var 6) (da_d (de_var 10) da_nil))) ⟨p, ks, sg, pD (o, l), o', l', k, g, st, rfl, hT, by rw [q1, q2]; rfl, rfl⟩)
        (de_tup (ds := [pD (lsitB p ks sg o' l' k g st), .tup (lsigs p ks sg o' l' k g st)]) (da_d (de_ixL (ds := [pD (lsitB p ks sg o' l' k g st), .lst (lsigs p ks sg o' l' k g st)]) (de_var 11) de_int rfl) (da_d (de_tupleL L.tuple (de_ixL (ds := [pD (lsitB p ks sg o' l' k g st), .lst (lsigs p ks sg o' l' k g st)]) (de_var 11) de_int rfl)) da_nil)) (by show 2 ≤ 10000; decide))) (by rw [deq_refl (bhD_ok _ _ _ _ _ _ _ _)]; rfl)) (fun z => by cases z) fun _ => ds_nil ?_)
      exact ⟨⟨_, _, _, rfl⟩, a' + 2, rfl, by omega⟩
    rintro ρ' O2 ⟨⟨s9, s10, s11, rfl⟩, a2, rfl, ha2⟩
    have ha2' : a2 ≤ a1 + 24 := ha2
    refine ds_mid (fun ρ' O2 => ∃ ts a', ρ' = [.dat (.kst (ns.map .int)), .val (.ref b), .dat (.int (j : Int)), .dat (suD p ks sg), .dat (sL trs), .dat (.int ov), .dat (pD (o, l)), .dat (tiL (turnsL trs o l)), .dat (tiL (turnsL TRS o l)), s9, s10, s11, .dat (tiL ts), s13, s14] ∧ O2 = put O b (Bx row a') ∧ a' ≤ a2 + 13 ∧ ScG p ks sg trs ts)
      (d1_setX (R := fun v O' => ∃ ts a', v = .dat (tiL ts) ∧ O' = put (put O b (Bx row a2)) b (Bx row a') ∧ a' ≤ a2 + 13 ∧ ScG p ks sg trs ts) 12 (dvn_call Gsc hr4 hsc ksc bsc (da_v (dv_var 1 rfl) (da_d (de_var 3) (da_d (de_var 4) (da_d de_int da_nil)))) ⟨b, row, a2, p, ks, sg, trs, rfl, put_same, by omega, rfl, rfl⟩) ?_ scLaw.nd) ?_
    · rintro s' O' ⟨ts, a', rfl, rfl, h1, h2⟩
      exact ⟨ts, a', rfl, by rw [put_put], h1, h2⟩
    rintro ρ' O2 ⟨ts, a3, rfl, rfl, ha3, hSc⟩
    refine ds_cons (d1_if (p := false) (O1 := put O b (Bx row a3)) (DT.cast (dt_isnotB (p := true) (q := true) (de_callH Fis hr5 (da_v (dv_callX Gm hr hm km bm (da_d (de_var 3) da_nil) ⟨p, ks, sg, rfl, hG, rfl, rfl⟩) (da_d (de_listL L.list (de_var 12)) (da_d (de_listL L.list (de_var 4)) da_nil))) ⟨p, ks, sg, ts, trs, rfl, hG, hSc.five, by rw [hSc.sc], rfl⟩) de_bl) rfl) (fun z => by cases z) fun _ => ds_nil ?_)
    refine ds_mid (fun ρ' O2 => ∃ us a', ρ' = [.dat (.kst (ns.map .int)), .val (.ref b), .dat (.int (j : Int)), .dat (suD p ks sg), .dat (sL trs), .dat (.int ov), .dat (pD (o, l)), .dat (tiL (turnsL trs o l)), .dat (tiL (turnsL TRS o l)), s9, s10, s11, .dat (tiL ts), .dat (tiL us), s14] ∧ O2 = put O b (Bx row a') ∧ a' ≤ a3 + 7 ∧ ∀ t ∈ us, Five t)
      (d1_setX (R := fun v O' => ∃ us a', v = .dat (tiL us) ∧ O' = put (put O b (Bx row a3)) b (Bx row a') ∧ a' ≤ a3 + 7 ∧ (∀ t ∈ us, Five t) ∧ us.length ≤ 6) 13 (dvn_call Gsp hr2 hsp ksp bsp (da_v (dv_var 1 rfl) (da_d (de_var 12) da_nil)) ⟨b, row, a3, ts, rfl, put_same, by omega, hSc.five, hSc.len, rfl, rfl⟩) ?_ scLaw.nd) ?_
    · rintro s' O' ⟨us, a', rfl, rfl, h1, h2, h3⟩
      exact ⟨us, a', rfl, by rw [put_put], h1, h2⟩
    rintro ρ' O2 ⟨us, a4, rfl, rfl, ha4, h5⟩
    refine ds_cons (d1_set 14 (s := .dat (.bl (scB p ks sg trs (0, 0) us))) (O1 := put O b (Bx row a4)) (DE.dv (de_callH Fis hr5 (da_v (dv_callX Gm hr hm km bm (da_d (de_var 3) da_nil) ⟨p, ks, sg, rfl, hG, rfl, rfl⟩) (da_d (de_listL L.list (de_var 13)) (da_d (de_listL L.list (de_var 4)) da_nil))) ⟨p, ks, sg, us, trs, rfl, hG, h5, rfl, rfl⟩)) ?_ scLaw.nd)
    generalize hbb : scB p ks sg trs (0, 0) us = bb
    refine ds_one (d1_if (p := false) (O1 := put O b (Bx row a4)) (DT.cast (DW.dt (dw_or (p := false) (DT.cast (dt_not (dt_val (de_isBool L (x := .bl bb) (.bl _) (de_var 14)))) rfl) fun _ => dw_or1 (p := false) (DT.cast (dt_ne (x := .bl bb) (y := .bl bb) hr1 (by rfl) (by rfl) (de_var 14) (de_callH Fli hr4 (da_d (de_var 3) (da_d (de_var 13) (da_d (de_var 4) da_nil))) ⟨p, ks, sg, us, trs, rfl, by rw [hbb], rfl⟩)) (by cases bb <;> decide +kernel)))) rfl) (fun z => by cases z) fun _ => ds_nil ?_)
    exact ⟨⟨_, _, _, _, _, _, _, _, _, _, _, _, _, rfl⟩, a4, rfl, by omega⟩
  · rintro ρ' O2 ⟨⟨s2, s3, s4, s5, s6, s7, s8, s9, s10, s11, s12, s13, s14, rfl⟩, a, rfl, hal⟩
    exact ds_one (d1_ret (s := .dat (.bl true)) (O1 := put O b (Bx row a)) (DE.dv de_bl) rfl)
end
end Dg

namespace Dg
open PySem PySem.Spec PyProof.Rows L2 GxR Dz
theorem func_mk {K : PySem.W.Frag} {x qual : Str} {st : Stmt} {f : Addr} {oc : Value} {od an : Option Addr} {osl : Array (Option Value)} {kV doc pm cdv ct : Value} (l : K.lookup f = some ⟨oc, od, .func (PySem.W.fnOf x qual (defArgs st) (defBody st) (defScope st) .none kV doc pm an cdv ct), osl⟩)
    (c : PySem.W.codeIn K cdv qual = true) (k : PySem.W.keepIn K (.ref f) = true) : FunC K x qual st f (PySem.W.fnOf x qual (defArgs st) (defBody st) (defScope st) .none kV doc pm an cdv ct) cdv := ⟨⟨oc, od, kV, doc, pm, an, ct, osl, rfl, l, c⟩, k⟩
/-- the end of a law, with the empty tables of its defs' code objects -/
theorem walk_dz {l : PySem.W.OpenLaw} {n k : Nat} {q : Program} {loose : List Str} {XP : (Str → Option Value) → Heap → Prop} {YP : World → Heap → Prop} {d : DefRec} {K : Params → PySem.W.Frag} {CX : World → CXT} {x : Str}
    (hn : l.most = some n) (hz : n ≤ sizeLine) (hdf : d.params.defaults = []) (room : Room k callerA) (hY : ∀ (w : World) (h : Heap), YP w h → (K w.params).In h)
    (F : ∀ (w : World) (mg : Str → Option Value) (fa : Addr) (h : Heap), (K w.params).In h → h.Ns mainGlobals mg → mg d.name = some (.ref fa) →
      (∀ (y : Str) (c P : Addr), ((recsOf q).any fun e => e.name == y) = true → PySem.W.tabIn (K w.params) y = some (c, P) → h.get? P = some { cls := .none, data := .fields #[] }) → LamX.LawAtS l w (K w.params) (CX w) k n x mg fa h)
    (no : ∀ (w : World) (H : Hp) (s : Shared) (e : Value) (s' : Shared), CX w [] H s (fun _ _ _ => False) e s' → False) : PySem.W.WalkO q loose XP YP l.row.toRowW d [] (fun f vs => PySem.call f vs) := by
  refine Att.attach_callB hn hdf fun w s0 s1 mg mb fa o pm cd doc a vs ns G Y ho hd hcd hmg hobj hit short bits gens => ?_
  have KX := hY w _ Y
  obtain ⟨fd, cs, sp, e1, e2, e3, e4, e5, e6⟩ := F w mg fa _ KX G.T.g hmg fun y c P hr ht => by
    obtain ⟨r, m1, m2⟩ := List.any_eq_true.mp hr
    cases hf : (recsOf q).find? fun e => e.name == y with
    | none => exact absurd m2 (by simpa using List.find?_eq_none.mp hf r m1)
    | some r' => exact (PySem.W.tab_of G.T KX hf ht).2
  exact LamX.law_callTs KX G.T.g G.T.b G.T.builtins G.T.nolimit gens e1 e2 e3 G.T.bmain hobj hit (Nat.le_trans short hz) room e6 e4 (fun H hH hS => e5 H a ns short bits hH hS) fun H e s' => no w H s1 e s'
theorem cx_no {P : Program} {w : World} {H : Hp} {s : Shared} {e : Value} {s' : Shared} (z : L2.CX P w [] H s (fun _ _ _ => False) e s') : False := by
  obtain ⟨_, _, _, _, _, _, _, _, _, _, _, _, z⟩ := z
  exact z
def spEnd (K : PySem.W.Frag) (T : List Addr) (CE : Addr) : Sp := spX T K CE pLaw
theorem all_mk {l : PySem.W.OpenLaw} {w : World} {K : PySem.W.Frag} {h : Heap} {mg : Str → Option Value} {fa : Addr} (X : K.In h) (G : h.Ns mainGlobals mg) (hfa : mg "law" = some (.ref fa)) (hT : ∀ P ∈ [265, 169], h.get? P = some { cls := .none, data := .fields #[] })
    {f_n0 : Addr} {od_n0 an_n0 : Option Addr} {sl_n0 : Array (Option Value)} {oc_n0 kV_n0 dc_n0 pm_n0 ct_n0 : Value}
    {cd_n0 : Value}
    {f_n1 : Addr} {od_n1 an_n1 : Option Addr} {sl_n1 : Array (Option Value)} {oc_n1 kV_n1 dc_n1 pm_n1 ct_n1 : Value}
    {cd_n1 : Value}
    {f_n2 : Addr} {od_n2 an_n2 : Option Addr} {sl_n2 : Array (Option Value)} {oc_n2 kV_n2 dc_n2 pm_n2 ct_n2 : Value}
    {cd_n2 : Value}
    {f_n3 : Addr} {od_n3 an_n3 : Option Addr} {sl_n3 : Array (Option Value)} {oc_n3 kV_n3 dc_n3 pm_n3 ct_n3 : Value}
    {cd_n3 : Value}
    {f_n4 : Addr} {od_n4 an_n4 : Option Addr} {sl_n4 : Array (Option Value)} {oc_n4 kV_n4 dc_n4 pm_n4 ct_n4 : Value}
    {cd_n4 : Value}
    {f_n5 : Addr} {od_n5 an_n5 : Option Addr} {sl_n5 : Array (Option Value)} {oc_n5 kV_n5 dc_n5 pm_n5 ct_n5 : Value}
    {cd_n5 : Value}
    {f_n6 : Addr} {od_n6 an_n6 : Option Addr} {sl_n6 : Array (Option Value)} {oc_n6 kV_n6 dc_n6 pm_n6 ct_n6 : Value}
    {cd_n6 : Value}
    {f_n7 : Addr} {od_n7 an_n7 : Option Addr} {sl_n7 : Array (Option Value)} {oc_n7 kV_n7 dc_n7 pm_n7 ct_n7 : Value}
    {cd_n7 : Value}
    {f_n8 : Addr} {od_n8 an_n8 : Option Addr} {sl_n8 : Array (Option Value)} {oc_n8 kV_n8 dc_n8 pm_n8 ct_n8 : Value}
    {cd_n8 : Value}
    {f_n9 : Addr} {od_n9 an_n9 : Option Addr} {sl_n9 : Array (Option Value)} {oc_n9 kV_n9 dc_n9 pm_n9 ct_n9 : Value}
    {cd_n9 : Value}
    {f_n10 : Addr} {od_n10 an_n10 : Option Addr} {sl_n10 : Array (Option Value)} {oc_n10 kV_n10 dc_n10 pm_n10 ct_n10 : Value}
    {cd_n10 : Value}
    {f_n11 : Addr} {od_n11 an_n11 : Option Addr} {sl_n11 : Array (Option Value)} {oc_n11 kV_n11 dc_n11 pm_n11 ct_n11 : Value}
    {cd_n11 : Value}
    {f_n12 : Addr} {od_n12 an_n12 : Option Addr} {sl_n12 : Array (Option Value)} {oc_n12 kV_n12 dc_n12 pm_n12 ct_n12 : Value}
    {cd_n12 : Value}
    {f_n13 : Addr} {od_n13 an_n13 : Option Addr} {sl_n13 : Array (Option Value)} {oc_n13 kV_n13 dc_n13 pm_n13 ct_n13 : Value}
    {cd_n13 : Value}
    {f_n14 : Addr} {od_n14 an_n14 : Option Addr} {sl_n14 : Array (Option Value)} {oc_n14 kV_n14 dc_n14 pm_n14 ct_n14 : Value}
    {cd_n14 : Value}
    {f_n15 : Addr} {od_n15 an_n15 : Option Addr} {sl_n15 : Array (Option Value)} {oc_n15 kV_n15 dc_n15 pm_n15 ct_n15 : Value}
    {cd_n15 : Value}
    {f_n16 : Addr} {od_n16 an_n16 : Option Addr} {sl_n16 : Array (Option Value)} {oc_n16 kV_n16 dc_n16 pm_n16 ct_n16 : Value}
    {cd_n16 : Value}
    {f_n17 : Addr} {od_n17 an_n17 : Option Addr} {sl_n17 : Array (Option Value)} {oc_n17 kV_n17 dc_n17 pm_n17 ct_n17 : Value}
    {cd_n17 : Value}
    {f_n18 : Addr} {od_n18 an_n18 : Option Addr} {sl_n18 : Array (Option Value)} {oc_n18 kV_n18 dc_n18 pm_n18 ct_n18 : Value}
    {cd_n18 : Value}
    {f_n19 : Addr} {od_n19 an_n19 : Option Addr} {sl_n19 : Array (Option Value)} {oc_n19 kV_n19 dc_n19 pm_n19 ct_n19 : Value}
    {cd_n19 : Value}
    {f_n20 : Addr} {od_n20 an_n20 : Option Addr} {sl_n20 : Array (Option Value)} {oc_n20 kV_n20 dc_n20 pm_n20 ct_n20 : Value}
    {cd_n20 : Value}
    {f_n21 : Addr} {od_n21 an_n21 : Option Addr} {sl_n21 : Array (Option Value)} {oc_n21 kV_n21 dc_n21 pm_n21 ct_n21 : Value}
    {cd_n21 : Value}
    {f_n22 : Addr} {od_n22 an_n22 : Option Addr} {sl_n22 : Array (Option Value)} {oc_n22 kV_n22 dc_n22 pm_n22 ct_n22 : Value}
    {cd_n22 : Value}
    {f_n23 : Addr} {od_n23 an_n23 : Option Addr} {sl_n23 : Array (Option Value)} {oc_n23 kV_n23 dc_n23 pm_n23 ct_n23 : Value}
    {cd_n23 : Value}
    {f_n24 : Addr} {od_n24 an_n24 : Option Addr} {sl_n24 : Array (Option Value)} {oc_n24 kV_n24 dc_n24 pm_n24 ct_n24 : Value}
    {cd_n24 : Value}
    {f_n25 : Addr} {od_n25 an_n25 : Option Addr} {sl_n25 : Array (Option Value)} {oc_n25 kV_n25 dc_n25 pm_n25 ct_n25 : Value}
    {cd_n25 : Value}
    {f_n26 : Addr} {od_n26 an_n26 : Option Addr} {sl_n26 : Array (Option Value)} {oc_n26 kV_n26 dc_n26 pm_n26 ct_n26 : Value}
    {cd_n26 : Value}
    {f_n27 : Addr} {od_n27 an_n27 : Option Addr} {sl_n27 : Array (Option Value)} {oc_n27 kV_n27 dc_n27 pm_n27 ct_n27 : Value}
    {cd_n27 : Value}
    {f_n28 : Addr} {od_n28 an_n28 : Option Addr} {sl_n28 : Array (Option Value)} {oc_n28 kV_n28 dc_n28 pm_n28 ct_n28 : Value}
    {cd_n28 : Value}
    {f_n29 : Addr} {od_n29 an_n29 : Option Addr} {sl_n29 : Array (Option Value)} {oc_n29 kV_n29 dc_n29 pm_n29 ct_n29 : Value}
    {cd_n29 : Value}
    {f_n30 : Addr} {od_n30 an_n30 : Option Addr} {sl_n30 : Array (Option Value)} {oc_n30 kV_n30 dc_n30 pm_n30 ct_n30 : Value}
    {f_n31 : Addr} {od_n31 an_n31 : Option Addr} {sl_n31 : Array (Option Value)} {oc_n31 kV_n31 dc_n31 pm_n31 ct_n31 : Value}
    {cd_n31 : Value}
    {f_n32 : Addr} {od_n32 an_n32 : Option Addr} {sl_n32 : Array (Option Value)} {oc_n32 kV_n32 dc_n32 pm_n32 ct_n32 : Value}
    {cd_n32 : Value}
    {f_n33 : Addr} {od_n33 an_n33 : Option Addr} {sl_n33 : Array (Option Value)} {oc_n33 kV_n33 dc_n33 pm_n33 ct_n33 : Value}
    {cd_n33 : Value}
    {f_n34 : Addr} {od_n34 an_n34 : Option Addr} {sl_n34 : Array (Option Value)} {oc_n34 kV_n34 dc_n34 pm_n34 ct_n34 : Value}
    {cd_n34 : Value}
    {f_n35 : Addr} {od_n35 an_n35 : Option Addr} {sl_n35 : Array (Option Value)} {oc_n35 kV_n35 dc_n35 pm_n35 ct_n35 : Value}
    {cd_n35 : Value}
    {f_n36 : Addr} {od_n36 an_n36 : Option Addr} {sl_n36 : Array (Option Value)} {oc_n36 kV_n36 dc_n36 pm_n36 ct_n36 : Value}
    {cd_n36 : Value}
    {f_n37 : Addr} {od_n37 an_n37 : Option Addr} {sl_n37 : Array (Option Value)} {oc_n37 kV_n37 dc_n37 pm_n37 ct_n37 : Value}
    {cd_n37 : Value}
    {f_n38 : Addr} {od_n38 an_n38 : Option Addr} {sl_n38 : Array (Option Value)} {oc_n38 kV_n38 dc_n38 pm_n38 ct_n38 : Value}
    {cd_n38 : Value}
    {f_n39 : Addr} {od_n39 an_n39 : Option Addr} {sl_n39 : Array (Option Value)} {oc_n39 kV_n39 dc_n39 pm_n39 ct_n39 : Value}
    {cd_n39 : Value}
    {f_n40 : Addr} {od_n40 an_n40 : Option Addr} {sl_n40 : Array (Option Value)} {oc_n40 kV_n40 dc_n40 pm_n40 ct_n40 : Value}
    {cd_n40 : Value}
    {f_n41 : Addr} {od_n41 an_n41 : Option Addr} {sl_n41 : Array (Option Value)} {oc_n41 kV_n41 dc_n41 pm_n41 ct_n41 : Value}
    {cd_n41 : Value}
    {f_n42 : Addr} {od_n42 an_n42 : Option Addr} {sl_n42 : Array (Option Value)} {oc_n42 kV_n42 dc_n42 pm_n42 ct_n42 : Value}
    {f_n43 : Addr} {od_n43 an_n43 : Option Addr} {sl_n43 : Array (Option Value)} {oc_n43 kV_n43 dc_n43 pm_n43 ct_n43 : Value}
    {cd_n43 : Value}
    {f_n44 : Addr} {od_n44 an_n44 : Option Addr} {sl_n44 : Array (Option Value)} {oc_n44 kV_n44 dc_n44 pm_n44 ct_n44 : Value}
    {cd_n44 : Value}
    {f_n45 : Addr} {od_n45 an_n45 : Option Addr} {sl_n45 : Array (Option Value)} {oc_n45 kV_n45 dc_n45 pm_n45 ct_n45 : Value}
    {cd_n45 : Value}
    {f_n46 : Addr} {od_n46 an_n46 : Option Addr} {sl_n46 : Array (Option Value)} {oc_n46 kV_n46 dc_n46 pm_n46 ct_n46 : Value}
    {cd_n46 : Value}
    {f_eI : Addr} {od_eI an_eI : Option Addr} {sl_eI : Array (Option Value)} {oc_eI kV_eI dc_eI pm_eI ct_eI cd_eI : Value}
    {C0 : Addr}
    {f_sI : Addr} {od_sI an_sI : Option Addr} {sl_sI : Array (Option Value)} {oc_sI kV_sI dc_sI pm_sI ct_sI cd_sI : Value}
    {CS : Addr}
    {nm q : Str} {N : Addr} {bs : List Value} {sn : List Str} {sub : List Value} {ab : Bool} {col : Option Bool} {dd : Option Addr} {m0 m1 m2 m3 m5 : Option Value}
    {u_CURRENT : Value}
    {u_POINT : Value}
    {u_SLIP : Value}
    {u_TICKS : Value}
    {u_OVER_ELEMENT : Value}
    {u_LAST_ELEMENT : Value}
    {u_NEW_ELEMENT : Value}
    {u_ZONE : Value}
    {u_ROOT : Value}
    {aSIDE_NAMES : Addr}
    {u_PLACES : Value}
    {u_KINDS : Value}
    {u_SIGHTS : Value}
    {u_END_SIGNAL : Value}
    {u_FIRST_SITUATION : Value}
    (a_n0 : PySem.W.nsIn K mainGlobals "_law_cell" = some (some (.ref f_n0)))
    (l_n0 : K.lookup f_n0 = some ⟨oc_n0, od_n0, .func (PySem.W.fnOf "_law_cell" "_law_cell" (defArgs sLCell) (defBody sLCell) (defScope sLCell) .none kV_n0 dc_n0 pm_n0 an_n0 (cd_n0) ct_n0), sl_n0⟩)
    (c_n0 : PySem.W.codeIn K (cd_n0) "_law_cell" = true)
    (k_n0 : PySem.W.keepIn K (.ref f_n0) = true)
    (a_n1 : PySem.W.nsIn K mainGlobals "_law_row" = some (some (.ref f_n1)))
    (l_n1 : K.lookup f_n1 = some ⟨oc_n1, od_n1, .func (PySem.W.fnOf "_law_row" "_law_row" (defArgs sLRow) (defBody sLRow) (defScope sLRow) .none kV_n1 dc_n1 pm_n1 an_n1 (cd_n1) ct_n1), sl_n1⟩)
    (c_n1 : PySem.W.codeIn K (cd_n1) "_law_row" = true)
    (k_n1 : PySem.W.keepIn K (.ref f_n1) = true)
    (a_n2 : PySem.W.nsIn K mainGlobals "_law_draw" = some (some (.ref f_n2)))
    (l_n2 : K.lookup f_n2 = some ⟨oc_n2, od_n2, .func (PySem.W.fnOf "_law_draw" "_law_draw" (defArgs sLDraw) (defBody sLDraw) (defScope sLDraw) .none kV_n2 dc_n2 pm_n2 an_n2 (cd_n2) ct_n2), sl_n2⟩)
    (c_n2 : PySem.W.codeIn K (cd_n2) "_law_draw" = true)
    (k_n2 : PySem.W.keepIn K (.ref f_n2) = true)
    (a_n3 : PySem.W.nsIn K mainGlobals "_law_some" = some (some (.ref f_n3)))
    (l_n3 : K.lookup f_n3 = some ⟨oc_n3, od_n3, .func (PySem.W.fnOf "_law_some" "_law_some" (defArgs sLSome) (defBody sLSome) (defScope sLSome) .none kV_n3 dc_n3 pm_n3 an_n3 (cd_n3) ct_n3), sl_n3⟩)
    (c_n3 : PySem.W.codeIn K (cd_n3) "_law_some" = true)
    (k_n3 : PySem.W.keepIn K (.ref f_n3) = true)
    (a_n4 : PySem.W.nsIn K mainGlobals "_law_kinds" = some (some (.ref f_n4)))
    (l_n4 : K.lookup f_n4 = some ⟨oc_n4, od_n4, .func (PySem.W.fnOf "_law_kinds" "_law_kinds" (defArgs sLKinds) (defBody sLKinds) (defScope sLKinds) .none kV_n4 dc_n4 pm_n4 an_n4 (cd_n4) ct_n4), sl_n4⟩)
    (c_n4 : PySem.W.codeIn K (cd_n4) "_law_kinds" = true)
    (k_n4 : PySem.W.keepIn K (.ref f_n4) = true)
    (a_n5 : PySem.W.nsIn K mainGlobals "_law_setup" = some (some (.ref f_n5)))
    (l_n5 : K.lookup f_n5 = some ⟨oc_n5, od_n5, .func (PySem.W.fnOf "_law_setup" "_law_setup" (defArgs sLSetup) (defBody sLSetup) (defScope sLSetup) .none kV_n5 dc_n5 pm_n5 an_n5 (cd_n5) ct_n5), sl_n5⟩)
    (c_n5 : PySem.W.codeIn K (cd_n5) "_law_setup" = true)
    (k_n5 : PySem.W.keepIn K (.ref f_n5) = true)
    (a_n6 : PySem.W.nsIn K mainGlobals "_law_troubles" = some (some (.ref f_n6)))
    (l_n6 : K.lookup f_n6 = some ⟨oc_n6, od_n6, .func (PySem.W.fnOf "_law_troubles" "_law_troubles" (defArgs s_law_troubles) (defBody s_law_troubles) (defScope s_law_troubles) .none kV_n6 dc_n6 pm_n6 an_n6 (cd_n6) ct_n6), sl_n6⟩)
    (c_n6 : PySem.W.codeIn K (cd_n6) "_law_troubles" = true)
    (k_n6 : PySem.W.keepIn K (.ref f_n6) = true)
    (a_n7 : PySem.W.nsIn K mainGlobals "_law_ways" = some (some (.ref f_n7)))
    (l_n7 : K.lookup f_n7 = some ⟨oc_n7, od_n7, .func (PySem.W.fnOf "_law_ways" "_law_ways" (defArgs s_law_ways) (defBody s_law_ways) (defScope s_law_ways) .none kV_n7 dc_n7 pm_n7 an_n7 (cd_n7) ct_n7), sl_n7⟩)
    (c_n7 : PySem.W.codeIn K (cd_n7) "_law_ways" = true)
    (k_n7 : PySem.W.keepIn K (.ref f_n7) = true)
    (a_n8 : PySem.W.nsIn K mainGlobals "_law_targets" = some (some (.ref f_n8)))
    (l_n8 : K.lookup f_n8 = some ⟨oc_n8, od_n8, .func (PySem.W.fnOf "_law_targets" "_law_targets" (defArgs s_law_targets) (defBody s_law_targets) (defScope s_law_targets) .none kV_n8 dc_n8 pm_n8 an_n8 (cd_n8) ct_n8), sl_n8⟩)
    (c_n8 : PySem.W.codeIn K (cd_n8) "_law_targets" = true)
    (k_n8 : PySem.W.keepIn K (.ref f_n8) = true)
    (a_n9 : PySem.W.nsIn K mainGlobals "_law_turns_at" = some (some (.ref f_n9)))
    (l_n9 : K.lookup f_n9 = some ⟨oc_n9, od_n9, .func (PySem.W.fnOf "_law_turns_at" "_law_turns_at" (defArgs s_law_turns_at) (defBody s_law_turns_at) (defScope s_law_turns_at) .none kV_n9 dc_n9 pm_n9 an_n9 (cd_n9) ct_n9), sl_n9⟩)
    (c_n9 : PySem.W.codeIn K (cd_n9) "_law_turns_at" = true)
    (k_n9 : PySem.W.keepIn K (.ref f_n9) = true)
    (a_n10 : PySem.W.nsIn K mainGlobals "_law_turns" = some (some (.ref f_n10)))
    (l_n10 : K.lookup f_n10 = some ⟨oc_n10, od_n10, .func (PySem.W.fnOf "_law_turns" "_law_turns" (defArgs s_law_turns) (defBody s_law_turns) (defScope s_law_turns) .none kV_n10 dc_n10 pm_n10 an_n10 (cd_n10) ct_n10), sl_n10⟩)
    (c_n10 : PySem.W.codeIn K (cd_n10) "_law_turns" = true)
    (k_n10 : PySem.W.keepIn K (.ref f_n10) = true)
    (a_n11 : PySem.W.nsIn K mainGlobals "drifted_sides" = some (some (.ref f_n11)))
    (l_n11 : K.lookup f_n11 = some ⟨oc_n11, od_n11, .func (PySem.W.fnOf "drifted_sides" "drifted_sides" (defArgs s_drifted_sides) (defBody s_drifted_sides) (defScope s_drifted_sides) .none kV_n11 dc_n11 pm_n11 an_n11 (cd_n11) ct_n11), sl_n11⟩)
    (c_n11 : PySem.W.codeIn K (cd_n11) "drifted_sides" = true)
    (k_n11 : PySem.W.keepIn K (.ref f_n11) = true)
    (a_n12 : PySem.W.nsIn K mainGlobals "drifted" = some (some (.ref f_n12)))
    (l_n12 : K.lookup f_n12 = some ⟨oc_n12, od_n12, .func (PySem.W.fnOf "drifted" "drifted" (defArgs s_drifted) (defBody s_drifted) (defScope s_drifted) .none kV_n12 dc_n12 pm_n12 an_n12 (cd_n12) ct_n12), sl_n12⟩)
    (c_n12 : PySem.W.codeIn K (cd_n12) "drifted" = true)
    (k_n12 : PySem.W.keepIn K (.ref f_n12) = true)
    (a_n13 : PySem.W.nsIn K mainGlobals "other_targets" = some (some (.ref f_n13)))
    (l_n13 : K.lookup f_n13 = some ⟨oc_n13, od_n13, .func (PySem.W.fnOf "other_targets" "other_targets" (defArgs s_other_targets) (defBody s_other_targets) (defScope s_other_targets) .none kV_n13 dc_n13 pm_n13 an_n13 (cd_n13) ct_n13), sl_n13⟩)
    (c_n13 : PySem.W.codeIn K (cd_n13) "other_targets" = true)
    (k_n13 : PySem.W.keepIn K (.ref f_n13) = true)
    (a_n14 : PySem.W.nsIn K mainGlobals "is_let" = some (some (.ref f_n14)))
    (l_n14 : K.lookup f_n14 = some ⟨oc_n14, od_n14, .func (PySem.W.fnOf "is_let" "is_let" (defArgs s_is_let) (defBody s_is_let) (defScope s_is_let) .none kV_n14 dc_n14 pm_n14 an_n14 (cd_n14) ct_n14), sl_n14⟩)
    (c_n14 : PySem.W.codeIn K (cd_n14) "is_let" = true)
    (k_n14 : PySem.W.keepIn K (.ref f_n14) = true)
    (a_n15 : PySem.W.nsIn K mainGlobals "ticks_at" = some (some (.ref f_n15)))
    (l_n15 : K.lookup f_n15 = some ⟨oc_n15, od_n15, .func (PySem.W.fnOf "ticks_at" "ticks_at" (defArgs s_ticks_at) (defBody s_ticks_at) (defScope s_ticks_at) .none kV_n15 dc_n15 pm_n15 an_n15 (cd_n15) ct_n15), sl_n15⟩)
    (c_n15 : PySem.W.codeIn K (cd_n15) "ticks_at" = true)
    (k_n15 : PySem.W.keepIn K (.ref f_n15) = true)
    (a_n16 : PySem.W.nsIn K mainGlobals "stops_bound" = some (some (.ref f_n16)))
    (l_n16 : K.lookup f_n16 = some ⟨oc_n16, od_n16, .func (PySem.W.fnOf "stops_bound" "stops_bound" (defArgs s_stops_bound) (defBody s_stops_bound) (defScope s_stops_bound) .none kV_n16 dc_n16 pm_n16 an_n16 (cd_n16) ct_n16), sl_n16⟩)
    (c_n16 : PySem.W.codeIn K (cd_n16) "stops_bound" = true)
    (k_n16 : PySem.W.keepIn K (.ref f_n16) = true)
    (a_n17 : PySem.W.nsIn K mainGlobals "turns_at" = some (some (.ref f_n17)))
    (l_n17 : K.lookup f_n17 = some ⟨oc_n17, od_n17, .func (PySem.W.fnOf "turns_at" "turns_at" (defArgs s_turns_at) (defBody s_turns_at) (defScope s_turns_at) .none kV_n17 dc_n17 pm_n17 an_n17 (cd_n17) ct_n17), sl_n17⟩)
    (c_n17 : PySem.W.codeIn K (cd_n17) "turns_at" = true)
    (k_n17 : PySem.W.keepIn K (.ref f_n17) = true)
    (a_n18 : PySem.W.nsIn K mainGlobals "turns" = some (some (.ref f_n18)))
    (l_n18 : K.lookup f_n18 = some ⟨oc_n18, od_n18, .func (PySem.W.fnOf "turns" "turns" (defArgs s_turns) (defBody s_turns) (defScope s_turns) .none kV_n18 dc_n18 pm_n18 an_n18 (cd_n18) ct_n18), sl_n18⟩)
    (c_n18 : PySem.W.codeIn K (cd_n18) "turns" = true)
    (k_n18 : PySem.W.keepIn K (.ref f_n18) = true)
    (a_n19 : PySem.W.nsIn K mainGlobals "_law_all" = some (some (.ref f_n19)))
    (l_n19 : K.lookup f_n19 = some ⟨oc_n19, od_n19, .func (PySem.W.fnOf "_law_all" "_law_all" (defArgs s_law_all) (defBody s_law_all) (defScope s_law_all) .none kV_n19 dc_n19 pm_n19 an_n19 (cd_n19) ct_n19), sl_n19⟩)
    (c_n19 : PySem.W.codeIn K (cd_n19) "_law_all" = true)
    (k_n19 : PySem.W.keepIn K (.ref f_n19) = true)
    (a_n20 : PySem.W.nsIn K mainGlobals "_law_reaches" = some (some (.ref f_n20)))
    (l_n20 : K.lookup f_n20 = some ⟨oc_n20, od_n20, .func (PySem.W.fnOf "_law_reaches" "_law_reaches" (defArgs s_law_reaches) (defBody s_law_reaches) (defScope s_law_reaches) .none kV_n20 dc_n20 pm_n20 an_n20 (cd_n20) ct_n20), sl_n20⟩)
    (c_n20 : PySem.W.codeIn K (cd_n20) "_law_reaches" = true)
    (k_n20 : PySem.W.keepIn K (.ref f_n20) = true)
    (a_n21 : PySem.W.nsIn K mainGlobals "_law_signal" = some (some (.ref f_n21)))
    (l_n21 : K.lookup f_n21 = some ⟨oc_n21, od_n21, .func (PySem.W.fnOf "_law_signal" "_law_signal" (defArgs s_law_signal) (defBody s_law_signal) (defScope s_law_signal) .none kV_n21 dc_n21 pm_n21 an_n21 (cd_n21) ct_n21), sl_n21⟩)
    (c_n21 : PySem.W.codeIn K (cd_n21) "_law_signal" = true)
    (k_n21 : PySem.W.keepIn K (.ref f_n21) = true)
    (a_n22 : PySem.W.nsIn K mainGlobals "_law_situation" = some (some (.ref f_n22)))
    (l_n22 : K.lookup f_n22 = some ⟨oc_n22, od_n22, .func (PySem.W.fnOf "_law_situation" "_law_situation" (defArgs s_law_situation) (defBody s_law_situation) (defScope s_law_situation) .none kV_n22 dc_n22 pm_n22 an_n22 (cd_n22) ct_n22), sl_n22⟩)
    (c_n22 : PySem.W.codeIn K (cd_n22) "_law_situation" = true)
    (k_n22 : PySem.W.keepIn K (.ref f_n22) = true)
    (a_n23 : PySem.W.nsIn K mainGlobals "_law_behind" = some (some (.ref f_n23)))
    (l_n23 : K.lookup f_n23 = some ⟨oc_n23, od_n23, .func (PySem.W.fnOf "_law_behind" "_law_behind" (defArgs s_law_behind) (defBody s_law_behind) (defScope s_law_behind) .none kV_n23 dc_n23 pm_n23 an_n23 (cd_n23) ct_n23), sl_n23⟩)
    (c_n23 : PySem.W.codeIn K (cd_n23) "_law_behind" = true)
    (k_n23 : PySem.W.keepIn K (.ref f_n23) = true)
    (a_n24 : PySem.W.nsIn K mainGlobals "element_at" = some (some (.ref f_n24)))
    (l_n24 : K.lookup f_n24 = some ⟨oc_n24, od_n24, .func (PySem.W.fnOf "element_at" "element_at" (defArgs s_element_at) (defBody s_element_at) (defScope s_element_at) .none kV_n24 dc_n24 pm_n24 an_n24 (cd_n24) ct_n24), sl_n24⟩)
    (c_n24 : PySem.W.codeIn K (cd_n24) "element_at" = true)
    (k_n24 : PySem.W.keepIn K (.ref f_n24) = true)
    (a_n25 : PySem.W.nsIn K mainGlobals "sides_in" = some (some (.ref f_n25)))
    (l_n25 : K.lookup f_n25 = some ⟨oc_n25, od_n25, .func (PySem.W.fnOf "sides_in" "sides_in" (defArgs s_sides_in) (defBody s_sides_in) (defScope s_sides_in) .none kV_n25 dc_n25 pm_n25 an_n25 (cd_n25) ct_n25), sl_n25⟩)
    (c_n25 : PySem.W.codeIn K (cd_n25) "sides_in" = true)
    (k_n25 : PySem.W.keepIn K (.ref f_n25) = true)
    (a_n26 : PySem.W.nsIn K mainGlobals "tick_of" = some (some (.ref f_n26)))
    (l_n26 : K.lookup f_n26 = some ⟨oc_n26, od_n26, .func (PySem.W.fnOf "tick_of" "tick_of" (defArgs s_tick_of) (defBody s_tick_of) (defScope s_tick_of) .none kV_n26 dc_n26 pm_n26 an_n26 (cd_n26) ct_n26), sl_n26⟩)
    (c_n26 : PySem.W.codeIn K (cd_n26) "tick_of" = true)
    (k_n26 : PySem.W.keepIn K (.ref f_n26) = true)
    (a_n27 : PySem.W.nsIn K mainGlobals "point_events" = some (some (.ref f_n27)))
    (l_n27 : K.lookup f_n27 = some ⟨oc_n27, od_n27, .func (PySem.W.fnOf "point_events" "point_events" (defArgs s_point_events) (defBody s_point_events) (defScope s_point_events) .none kV_n27 dc_n27 pm_n27 an_n27 (cd_n27) ct_n27), sl_n27⟩)
    (c_n27 : PySem.W.codeIn K (cd_n27) "point_events" = true)
    (k_n27 : PySem.W.keepIn K (.ref f_n27) = true)
    (a_n28 : PySem.W.nsIn K mainGlobals "events_of" = some (some (.ref f_n28)))
    (l_n28 : K.lookup f_n28 = some ⟨oc_n28, od_n28, .func (PySem.W.fnOf "events_of" "events_of" (defArgs s_events_of) (defBody s_events_of) (defScope s_events_of) .none kV_n28 dc_n28 pm_n28 an_n28 (cd_n28) ct_n28), sl_n28⟩)
    (c_n28 : PySem.W.codeIn K (cd_n28) "events_of" = true)
    (k_n28 : PySem.W.keepIn K (.ref f_n28) = true)
    (a_n29 : PySem.W.nsIn K mainGlobals "is_word" = some (some (.ref f_n29)))
    (l_n29 : K.lookup f_n29 = some ⟨oc_n29, od_n29, .func (PySem.W.fnOf "is_word" "is_word" (defArgs sIsWord) (defBody sIsWord) (defScope sIsWord) .none kV_n29 dc_n29 pm_n29 an_n29 (cd_n29) ct_n29), sl_n29⟩)
    (c_n29 : PySem.W.codeIn K (cd_n29) "is_word" = true)
    (k_n29 : PySem.W.keepIn K (.ref f_n29) = true)
    (a_n30 : PySem.W.nsIn K mainGlobals "is_choice" = some (some (.ref f_n30)))
    (l_n30 : K.lookup f_n30 = some ⟨oc_n30, od_n30, .func (PySem.W.fnOf "is_choice" "is_choice" (defArgs sIsChoice) (defBody sIsChoice) (defScope sIsChoice) .none kV_n30 dc_n30 pm_n30 an_n30 (.ref 269) ct_n30), sl_n30⟩)
    (c_n30 : PySem.W.codeIn K (.ref 269) "is_choice" = true)
    (k_n30 : PySem.W.keepIn K (.ref f_n30) = true)
    (a_n31 : PySem.W.nsIn K mainGlobals "in_order" = some (some (.ref f_n31)))
    (l_n31 : K.lookup f_n31 = some ⟨oc_n31, od_n31, .func (PySem.W.fnOf "in_order" "in_order" (defArgs sInOrder) (defBody sInOrder) (defScope sInOrder) .none kV_n31 dc_n31 pm_n31 an_n31 (cd_n31) ct_n31), sl_n31⟩)
    (c_n31 : PySem.W.codeIn K (cd_n31) "in_order" = true)
    (k_n31 : PySem.W.keepIn K (.ref f_n31) = true)
    (a_n32 : PySem.W.nsIn K mainGlobals "reaches" = some (some (.ref f_n32)))
    (l_n32 : K.lookup f_n32 = some ⟨oc_n32, od_n32, .func (PySem.W.fnOf "reaches" "reaches" (defArgs s_reaches) (defBody s_reaches) (defScope s_reaches) .none kV_n32 dc_n32 pm_n32 an_n32 (cd_n32) ct_n32), sl_n32⟩)
    (c_n32 : PySem.W.codeIn K (cd_n32) "reaches" = true)
    (k_n32 : PySem.W.keepIn K (.ref f_n32) = true)
    (a_n33 : PySem.W.nsIn K mainGlobals "without_zone" = some (some (.ref f_n33)))
    (l_n33 : K.lookup f_n33 = some ⟨oc_n33, od_n33, .func (PySem.W.fnOf "without_zone" "without_zone" (defArgs s_without_zone) (defBody s_without_zone) (defScope s_without_zone) .none kV_n33 dc_n33 pm_n33 an_n33 (cd_n33) ct_n33), sl_n33⟩)
    (c_n33 : PySem.W.codeIn K (cd_n33) "without_zone" = true)
    (k_n33 : PySem.W.keepIn K (.ref f_n33) = true)
    (a_n34 : PySem.W.nsIn K mainGlobals "signal_of" = some (some (.ref f_n34)))
    (l_n34 : K.lookup f_n34 = some ⟨oc_n34, od_n34, .func (PySem.W.fnOf "signal_of" "signal_of" (defArgs s_signal_of) (defBody s_signal_of) (defScope s_signal_of) .none kV_n34 dc_n34 pm_n34 an_n34 (cd_n34) ct_n34), sl_n34⟩)
    (c_n34 : PySem.W.codeIn K (cd_n34) "signal_of" = true)
    (k_n34 : PySem.W.keepIn K (.ref f_n34) = true)
    (a_n35 : PySem.W.nsIn K mainGlobals "heard" = some (some (.ref f_n35)))
    (l_n35 : K.lookup f_n35 = some ⟨oc_n35, od_n35, .func (PySem.W.fnOf "heard" "heard" (defArgs s_heard) (defBody s_heard) (defScope s_heard) .none kV_n35 dc_n35 pm_n35 an_n35 (cd_n35) ct_n35), sl_n35⟩)
    (c_n35 : PySem.W.codeIn K (cd_n35) "heard" = true)
    (k_n35 : PySem.W.keepIn K (.ref f_n35) = true)
    (a_n36 : PySem.W.nsIn K mainGlobals "target_behind" = some (some (.ref f_n36)))
    (l_n36 : K.lookup f_n36 = some ⟨oc_n36, od_n36, .func (PySem.W.fnOf "target_behind" "target_behind" (defArgs s_target_behind) (defBody s_target_behind) (defScope s_target_behind) .none kV_n36 dc_n36 pm_n36 an_n36 (cd_n36) ct_n36), sl_n36⟩)
    (c_n36 : PySem.W.codeIn K (cd_n36) "target_behind" = true)
    (k_n36 : PySem.W.keepIn K (.ref f_n36) = true)
    (a_n37 : PySem.W.nsIn K mainGlobals "number_of_side" = some (some (.ref f_n37)))
    (l_n37 : K.lookup f_n37 = some ⟨oc_n37, od_n37, .func (PySem.W.fnOf "number_of_side" "number_of_side" (defArgs s_number_of_side) (defBody s_number_of_side) (defScope s_number_of_side) .none kV_n37 dc_n37 pm_n37 an_n37 (cd_n37) ct_n37), sl_n37⟩)
    (c_n37 : PySem.W.codeIn K (cd_n37) "number_of_side" = true)
    (k_n37 : PySem.W.keepIn K (.ref f_n37) = true)
    (a_n38 : PySem.W.nsIn K mainGlobals "behind" = some (some (.ref f_n38)))
    (l_n38 : K.lookup f_n38 = some ⟨oc_n38, od_n38, .func (PySem.W.fnOf "behind" "behind" (defArgs s_behind) (defBody s_behind) (defScope s_behind) .none kV_n38 dc_n38 pm_n38 an_n38 (cd_n38) ct_n38), sl_n38⟩)
    (c_n38 : PySem.W.codeIn K (cd_n38) "behind" = true)
    (k_n38 : PySem.W.keepIn K (.ref f_n38) = true)
    (a_n39 : PySem.W.nsIn K mainGlobals "_law_made" = some (some (.ref f_n39)))
    (l_n39 : K.lookup f_n39 = some ⟨oc_n39, od_n39, .func (PySem.W.fnOf "_law_made" "_law_made" (defArgs s_law_made) (defBody s_law_made) (defScope s_law_made) .none kV_n39 dc_n39 pm_n39 an_n39 (cd_n39) ct_n39), sl_n39⟩)
    (c_n39 : PySem.W.codeIn K (cd_n39) "_law_made" = true)
    (k_n39 : PySem.W.keepIn K (.ref f_n39) = true)
    (a_n40 : PySem.W.nsIn K mainGlobals "_law_scenario" = some (some (.ref f_n40)))
    (l_n40 : K.lookup f_n40 = some ⟨oc_n40, od_n40, .func (PySem.W.fnOf "_law_scenario" "_law_scenario" (defArgs s_law_scenario) (defBody s_law_scenario) (defScope s_law_scenario) .none kV_n40 dc_n40 pm_n40 an_n40 (cd_n40) ct_n40), sl_n40⟩)
    (c_n40 : PySem.W.codeIn K (cd_n40) "_law_scenario" = true)
    (k_n40 : PySem.W.keepIn K (.ref f_n40) = true)
    (a_n41 : PySem.W.nsIn K mainGlobals "is_number" = some (some (.ref f_n41)))
    (l_n41 : K.lookup f_n41 = some ⟨oc_n41, od_n41, .func (PySem.W.fnOf "is_number" "is_number" (defArgs sIsNumber) (defBody sIsNumber) (defScope sIsNumber) .none kV_n41 dc_n41 pm_n41 an_n41 (cd_n41) ct_n41), sl_n41⟩)
    (c_n41 : PySem.W.codeIn K (cd_n41) "is_number" = true)
    (k_n41 : PySem.W.keepIn K (.ref f_n41) = true)
    (a_n42 : PySem.W.nsIn K mainGlobals "is_possible" = some (some (.ref f_n42)))
    (l_n42 : K.lookup f_n42 = some ⟨oc_n42, od_n42, .func (PySem.W.fnOf "is_possible" "is_possible" (defArgs s_is_possible) (defBody s_is_possible) (defScope s_is_possible) .none kV_n42 dc_n42 pm_n42 an_n42 (.ref 173) ct_n42), sl_n42⟩)
    (c_n42 : PySem.W.codeIn K (.ref 173) "is_possible" = true)
    (k_n42 : PySem.W.keepIn K (.ref f_n42) = true)
    (a_n43 : PySem.W.nsIn K mainGlobals "is_scenario" = some (some (.ref f_n43)))
    (l_n43 : K.lookup f_n43 = some ⟨oc_n43, od_n43, .func (PySem.W.fnOf "is_scenario" "is_scenario" (defArgs s_is_scenario) (defBody s_is_scenario) (defScope s_is_scenario) .none kV_n43 dc_n43 pm_n43 an_n43 (cd_n43) ct_n43), sl_n43⟩)
    (c_n43 : PySem.W.codeIn K (cd_n43) "is_scenario" = true)
    (k_n43 : PySem.W.keepIn K (.ref f_n43) = true)
    (a_n44 : PySem.W.nsIn K mainGlobals "_law_spoiled" = some (some (.ref f_n44)))
    (l_n44 : K.lookup f_n44 = some ⟨oc_n44, od_n44, .func (PySem.W.fnOf "_law_spoiled" "_law_spoiled" (defArgs s_law_spoiled) (defBody s_law_spoiled) (defScope s_law_spoiled) .none kV_n44 dc_n44 pm_n44 an_n44 (cd_n44) ct_n44), sl_n44⟩)
    (c_n44 : PySem.W.codeIn K (cd_n44) "_law_spoiled" = true)
    (k_n44 : PySem.W.keepIn K (.ref f_n44) = true)
    (a_n45 : PySem.W.nsIn K mainGlobals "_law_is_scenario" = some (some (.ref f_n45)))
    (l_n45 : K.lookup f_n45 = some ⟨oc_n45, od_n45, .func (PySem.W.fnOf "_law_is_scenario" "_law_is_scenario" (defArgs s_law_is_scenario) (defBody s_law_is_scenario) (defScope s_law_is_scenario) .none kV_n45 dc_n45 pm_n45 an_n45 (cd_n45) ct_n45), sl_n45⟩)
    (c_n45 : PySem.W.codeIn K (cd_n45) "_law_is_scenario" = true)
    (k_n45 : PySem.W.keepIn K (.ref f_n45) = true)
    (a_n46 : PySem.W.nsIn K mainGlobals "law" = some (some (.ref f_n46)))
    (l_n46 : K.lookup f_n46 = some ⟨oc_n46, od_n46, .func (PySem.W.fnOf "law" "law" (defArgs sLaw) (defBody sLaw) (defScope sLaw) .none kV_n46 dc_n46 pm_n46 an_n46 (cd_n46) ct_n46), sl_n46⟩)
    (c_n46 : PySem.W.codeIn K (cd_n46) "law" = true)
    (k_n46 : PySem.W.keepIn K (.ref f_n46) = true)
    (g_eI : PySem.W.nsIn K mainGlobals "DragError" = some (some (.ref C0)))
    (a_eI : PySem.W.findIn K (.ref C0) "__init__" = some (some (.ref f_eI)))
    (l_eI : K.lookup f_eI = some ⟨oc_eI, od_eI, .func (PySem.W.fnOf "__init__" "DragError.__init__" (defArgs sErrI) (defBody sErrI) (defScope sErrI) .none kV_eI dc_eI pm_eI an_eI cd_eI ct_eI), sl_eI⟩)
    (c_eI : PySem.W.codeIn K cd_eI "DragError.__init__" = true)
    (k_eI : PySem.W.keepIn K (.ref f_eI) = true)
    (g_sI : PySem.W.nsIn K mainGlobals "Setup" = some (some (.ref CS)))
    (a_sI : PySem.W.findIn K (.ref CS) "__init__" = some (some (.ref f_sI)))
    (l_sI : K.lookup f_sI = some ⟨oc_sI, od_sI, .func (PySem.W.fnOf "__init__" "Setup.__init__" (defArgs sSetupI) (defBody sSetupI) (defScope sSetupI) .none kV_sI dc_sI pm_sI an_sI cd_sI ct_sI), sl_sI⟩)
    (c_sI : PySem.W.codeIn K cd_sI "Setup.__init__" = true)
    (k_sI : PySem.W.keepIn K (.ref f_sI) = true)
    (eX : K.lookup C0 = some (excClassObj nm q C0 N bs [.type "ValueError", .type "Exception", .type "BaseException", .type "object"] true sn sub ab col dd m0 m1 m2 m3 m5 "ValueError.__new__"))
    (eS : PySem.W.findIn K (.ref C0) "__setattr__" = some (some (.builtin "object.__setattr__")))
    (eB : PySem.W.subIn K (.ref C0) (.type "BaseException") = some true)
    (eT : PySem.W.typeIn K (.ref C0) = some (.type "type"))
    (eK : PySem.W.keepIn K (.ref C0) = true)
    (eF : PySem.W.typeIn K (.ref f_eI) = some (.type "function"))
    (eN : PySem.W.findIn K (.ref C0) "reason" = some none)
    (eV : PySem.W.findCls K (.type "ValueError") (.type "type") "__init__" = some (.val (.builtin "ValueError.__init__")))
    (eY : xfB K C0 = true)
    (eE : PySem.W.exmOne K (.ref C0) (.ref C0) = some true)
    (pg_sI : PySem.W.plainGet K CS Str.empty = true)
    (hd_sI : PySem.W.hasDictIn K CS = true)
    (po_sI : PySem.W.plainOver K CS = true)
    (sa_sI : PySem.W.findIn K (.ref CS) "__setattr__" = some (some (.builtin "object.__setattr__")))
    (mk_sI : PySem.W.makesIn K CS = true)
    (fn_sI : PySem.W.isFn K (.ref f_sI) = true)
    (kp_sI : PySem.W.keepIn K (.ref CS) = true)
    (no0_sI : PySem.W.findIn K (.ref CS) "place" = some none)
    (no1_sI : PySem.W.findIn K (.ref CS) "kinds" = some none)
    (no2_sI : PySem.W.findIn K (.ref CS) "sights" = some none)
    (z_isinstance : PySem.W.nsIn K mainGlobals "isinstance" = some none)
    (z_int : PySem.W.nsIn K mainGlobals "int" = some none)
    (z_bool : PySem.W.nsIn K mainGlobals "bool" = some none)
    (z_str : PySem.W.nsIn K mainGlobals "str" = some none)
    (z_list : PySem.W.nsIn K mainGlobals "list" = some none)
    (z_tuple : PySem.W.nsIn K mainGlobals "tuple" = some none)
    (z_len : PySem.W.nsIn K mainGlobals "len" = some none)
    (z_set : PySem.W.nsIn K mainGlobals "set" = some none)
    (z_all : PySem.W.nsIn K mainGlobals "all" = some none)
    (z_sorted : PySem.W.nsIn K mainGlobals "sorted" = some none)
    (z_range : PySem.W.nsIn K mainGlobals "range" = some none)
    (z_abs : PySem.W.nsIn K mainGlobals "abs" = some none)
    (z_enumerate : PySem.W.nsIn K mainGlobals "enumerate" = some none)
    (z_ValueError : PySem.W.nsIn K mainGlobals "ValueError" = some none)
    (a_CURRENT : PySem.W.nsIn K mainGlobals "CURRENT" = some (some u_CURRENT))
    (k_CURRENT : kdB K 0 u_CURRENT (.int 4) = true)
    (a_POINT : PySem.W.nsIn K mainGlobals "POINT" = some (some u_POINT))
    (k_POINT : kdB K 0 u_POINT (.int 0) = true)
    (a_SLIP : PySem.W.nsIn K mainGlobals "SLIP" = some (some u_SLIP))
    (k_SLIP : kdB K 0 u_SLIP (.int 1) = true)
    (a_TICKS : PySem.W.nsIn K mainGlobals "TICKS" = some (some u_TICKS))
    (k_TICKS : kdB K 2 u_TICKS (.tup TICKSD) = true)
    (a_OVER_ELEMENT : PySem.W.nsIn K mainGlobals "OVER_ELEMENT" = some (some u_OVER_ELEMENT))
    (k_OVER_ELEMENT : kdB K 0 u_OVER_ELEMENT (.int 2) = true)
    (a_LAST_ELEMENT : PySem.W.nsIn K mainGlobals "LAST_ELEMENT" = some (some u_LAST_ELEMENT))
    (k_LAST_ELEMENT : kdB K 0 u_LAST_ELEMENT (.int 3) = true)
    (a_NEW_ELEMENT : PySem.W.nsIn K mainGlobals "NEW_ELEMENT" = some (some u_NEW_ELEMENT))
    (k_NEW_ELEMENT : kdB K 0 u_NEW_ELEMENT (.int 4) = true)
    (a_ZONE : PySem.W.nsIn K mainGlobals "ZONE" = some (some u_ZONE))
    (k_ZONE : kdB K 0 u_ZONE (.int 1) = true)
    (a_ROOT : PySem.W.nsIn K mainGlobals "ROOT" = some (some u_ROOT))
    (k_ROOT : kdB K 0 u_ROOT (.int 0) = true)
    (a_SIDE_NAMES : PySem.W.nsIn K mainGlobals "SIDE_NAMES" = some (some (.ref aSIDE_NAMES)))
    (k_SIDE_NAMES : kdB K 1 (.ref aSIDE_NAMES) (.tup (SN.map .str)) = true)
    (nd_SIDE_NAMES : ndB K (.ref aSIDE_NAMES) = true)
    (a_PLACES : PySem.W.nsIn K mainGlobals "PLACES" = some (some u_PLACES))
    (k_PLACES : kdB K 1 u_PLACES (.tup (PLACES.map .str)) = true)
    (a_KINDS : PySem.W.nsIn K mainGlobals "KINDS" = some (some u_KINDS))
    (k_KINDS : kdB K 1 u_KINDS (.tup (KINDS.map .str)) = true)
    (a_SIGHTS : PySem.W.nsIn K mainGlobals "SIGHTS" = some (some u_SIGHTS))
    (k_SIGHTS : kdB K 1 u_SIGHTS (.tup (SIGHTS.map .str)) = true)
    (a_END_SIGNAL : PySem.W.nsIn K mainGlobals "END_SIGNAL" = some (some u_END_SIGNAL))
    (k_END_SIGNAL : kdB K 1 u_END_SIGNAL (ENDS) = true)
    (a_FIRST_SITUATION : PySem.W.nsIn K mainGlobals "FIRST_SITUATION" = some (some u_FIRST_SITUATION))
    (k_FIRST_SITUATION : kdB K 1 u_FIRST_SITUATION (pD (0, 0)) = true)
    (hd_is_choice : PySem.W.codeHdIn K 269 265 = true)
    (nt_is_choice : K.lookup 265 = none)
    (hd_is_possible : PySem.W.codeHdIn K 173 169 = true)
    (nt_is_possible : K.lookup 169 = none) :
    LamX.LawAtS l w K (L2.CX l.prog w) 7 63 "script" mg fa h := by
  have e := hfa.symm.trans (PySem.W.mg_of X G a_n46)
  cases e
  have L : Blt mg := ⟨PySem.W.mg_none_of X G z_isinstance, PySem.W.mg_none_of X G z_int, PySem.W.mg_none_of X G z_bool, PySem.W.mg_none_of X G z_str, PySem.W.mg_none_of X G z_list, PySem.W.mg_none_of X G z_tuple, PySem.W.mg_none_of X G z_len, PySem.W.mg_none_of X G z_set, PySem.W.mg_none_of X G z_all, PySem.W.mg_none_of X G z_sorted, PySem.W.mg_none_of X G z_range, PySem.W.mg_none_of X G z_abs⟩
  have V : Err K mg C0 f_eI := ⟨⟨⟨nm, q, N, bs, _, sn, sub, ab, col, dd, m0, m1, m2, m3, m5, eX, by decide +kernel⟩, eS, eB, eT, eK⟩, a_eI, eF, PySem.W.mg_of X G g_eI, eN, eV, PySem.W.mg_none_of X G z_ValueError, xfB_ok eY, eE⟩
  have AS : Fld3 K CS "place" "kinds" "sights" := ⟨⟨pg_sI, hd_sI, po_sI, sa_sI⟩, no0_sI, no1_sI, no2_sI⟩
  have F_n0 := func_mk (st := sLCell) l_n0 c_n0 k_n0
  have b_n0 := F_n0.binds (ps := ["script", "k"]) fun _ _ _ _ _ _ us hl => match us, hl with | [_, _], _ => rfl
  have m_n0 := PySem.W.mg_of X G a_n0
  have F_n1 := func_mk (st := sLRow) l_n1 c_n1 k_n1
  have b_n1 := F_n1.binds (ps := ["script", "first", "last"]) fun _ _ _ _ _ _ us hl => match us, hl with | [_, _, _], _ => rfl
  have m_n1 := PySem.W.mg_of X G a_n1
  have F_n2 := func_mk (st := sLDraw) l_n2 c_n2 k_n2
  have b_n2 := F_n2.binds (ps := ["box", "many"]) fun _ _ _ _ _ _ us hl => match us, hl with | [_, _], _ => rfl
  have m_n2 := PySem.W.mg_of X G a_n2
  have F_n3 := func_mk (st := sLSome) l_n3 c_n3 k_n3
  have b_n3 := F_n3.binds (ps := ["box", "names"]) fun _ _ _ _ _ _ us hl => match us, hl with | [_, _], _ => rfl
  have m_n3 := PySem.W.mg_of X G a_n3
  have F_n4 := func_mk (st := sLKinds) l_n4 c_n4 k_n4
  have b_n4 := F_n4.binds (ps := []) fun _ _ _ _ _ _ us hl => match us, hl with | [], _ => rfl
  have m_n4 := PySem.W.mg_of X G a_n4
  have F_n5 := func_mk (st := sLSetup) l_n5 c_n5 k_n5
  have b_n5 := F_n5.binds (ps := ["box"]) fun _ _ _ _ _ _ us hl => match us, hl with | [_], _ => rfl
  have m_n5 := PySem.W.mg_of X G a_n5
  have F_n6 := func_mk (st := s_law_troubles) l_n6 c_n6 k_n6
  have b_n6 := F_n6.binds (ps := ["box"]) fun _ _ _ _ _ _ us hl => match us, hl with | [_], _ => rfl
  have m_n6 := PySem.W.mg_of X G a_n6
  have F_n7 := func_mk (st := s_law_ways) l_n7 c_n7 k_n7
  have b_n7 := F_n7.binds (ps := ["number", "troubles"]) fun _ _ _ _ _ _ us hl => match us, hl with | [_, _], _ => rfl
  have m_n7 := PySem.W.mg_of X G a_n7
  have F_n8 := func_mk (st := s_law_targets) l_n8 c_n8 k_n8
  have b_n8 := F_n8.binds (ps := ["over", "last"]) fun _ _ _ _ _ _ us hl => match us, hl with | [_, _], _ => rfl
  have m_n8 := PySem.W.mg_of X G a_n8
  have F_n9 := func_mk (st := s_law_turns_at) l_n9 c_n9 k_n9
  have b_n9 := F_n9.binds (ps := ["over", "last", "troubles"]) fun _ _ _ _ _ _ us hl => match us, hl with | [_, _, _], _ => rfl
  have m_n9 := PySem.W.mg_of X G a_n9
  have F_n10 := func_mk (st := s_law_turns) l_n10 c_n10 k_n10
  have b_n10 := F_n10.binds (ps := ["situation", "troubles"]) fun _ _ _ _ _ _ us hl => match us, hl with | [_, _], _ => rfl
  have m_n10 := PySem.W.mg_of X G a_n10
  have F_n11 := func_mk (st := s_drifted_sides) l_n11 c_n11 k_n11
  have b_n11 := F_n11.binds (ps := ["side", "troubles"]) fun _ _ _ _ _ _ us hl => match us, hl with | [_, _], _ => rfl
  have m_n11 := PySem.W.mg_of X G a_n11
  have F_n12 := func_mk (st := s_drifted) l_n12 c_n12 k_n12
  have b_n12 := F_n12.binds (ps := ["situation", "troubles"]) fun _ _ _ _ _ _ us hl => match us, hl with | [_, _], _ => rfl
  have m_n12 := PySem.W.mg_of X G a_n12
  have F_n13 := func_mk (st := s_other_targets) l_n13 c_n13 k_n13
  have b_n13 := F_n13.binds (ps := ["over", "last"]) fun _ _ _ _ _ _ us hl => match us, hl with | [_, _], _ => rfl
  have m_n13 := PySem.W.mg_of X G a_n13
  have F_n14 := func_mk (st := s_is_let) l_n14 c_n14 k_n14
  have b_n14 := F_n14.binds (ps := ["parts", "troubles"]) fun _ _ _ _ _ _ us hl => match us, hl with | [_, _], _ => rfl
  have m_n14 := PySem.W.mg_of X G a_n14
  have F_n15 := func_mk (st := s_ticks_at) l_n15 c_n15 k_n15
  have b_n15 := F_n15.binds (ps := ["over", "last", "troubles"]) fun _ _ _ _ _ _ us hl => match us, hl with | [_, _, _], _ => rfl
  have m_n15 := PySem.W.mg_of X G a_n15
  have F_n16 := func_mk (st := s_stops_bound) l_n16 c_n16 k_n16
  have b_n16 := F_n16.binds (ps := ["troubles"]) fun _ _ _ _ _ _ us hl => match us, hl with | [_], _ => rfl
  have m_n16 := PySem.W.mg_of X G a_n16
  have F_n17 := func_mk (st := s_turns_at) l_n17 c_n17 k_n17
  have b_n17 := F_n17.binds (ps := ["situation", "troubles"]) fun _ _ _ _ _ _ us hl => match us, hl with | [_, _], _ => rfl
  have m_n17 := PySem.W.mg_of X G a_n17
  have F_n18 := func_mk (st := s_turns) l_n18 c_n18 k_n18
  have b_n18 := F_n18.binds (ps := ["situation", "troubles"]) fun _ _ _ _ _ _ us hl => match us, hl with | [_, _], _ => rfl
  have m_n18 := PySem.W.mg_of X G a_n18
  have F_n19 := func_mk (st := s_law_all) l_n19 c_n19 k_n19
  have b_n19 := F_n19.binds (ps := []) fun _ _ _ _ _ _ us hl => match us, hl with | [], _ => rfl
  have m_n19 := PySem.W.mg_of X G a_n19
  have F_n20 := func_mk (st := s_law_reaches) l_n20 c_n20 k_n20
  have b_n20 := F_n20.binds (ps := ["setup", "kind", "number", "is_root", "stopped"]) fun _ _ _ _ _ _ us hl => match us, hl with | [_, _, _, _, _], _ => rfl
  have m_n20 := PySem.W.mg_of X G a_n20
  have F_n21 := func_mk (st := s_law_signal) l_n21 c_n21 k_n21
  have b_n21 := F_n21.binds (ps := ["setup", "kind", "number", "same", "related"]) fun _ _ _ _ _ _ us hl => match us, hl with | [_, _, _, _, _], _ => rfl
  have m_n21 := PySem.W.mg_of X G a_n21
  have F_n22 := func_mk (st := s_law_situation) l_n22 c_n22 k_n22
  have b_n22 := F_n22.binds (ps := ["turn", "x", "entered"]) fun _ _ _ _ _ _ us hl => match us, hl with | [_, _, _], _ => rfl
  have m_n22 := PySem.W.mg_of X G a_n22
  have F_n23 := func_mk (st := s_law_behind) l_n23 c_n23 k_n23
  have b_n23 := F_n23.binds (ps := ["setup", "turn"]) fun _ _ _ _ _ _ us hl => match us, hl with | [_, _], _ => rfl
  have m_n23 := PySem.W.mg_of X G a_n23
  have F_n24 := func_mk (st := s_element_at) l_n24 c_n24 k_n24
  have b_n24 := F_n24.binds (ps := ["side", "element"]) fun _ _ _ _ _ _ us hl => match us, hl with | [_, _], _ => rfl
  have m_n24 := PySem.W.mg_of X G a_n24
  have F_n25 := func_mk (st := s_sides_in) l_n25 c_n25 k_n25
  have b_n25 := F_n25.binds (ps := ["turn"]) fun _ _ _ _ _ _ us hl => match us, hl with | [_], _ => rfl
  have m_n25 := PySem.W.mg_of X G a_n25
  have F_n26 := func_mk (st := s_tick_of) l_n26 c_n26 k_n26
  have b_n26 := F_n26.binds (ps := ["turn", "element"]) fun _ _ _ _ _ _ us hl => match us, hl with | [_, _], _ => rfl
  have m_n26 := PySem.W.mg_of X G a_n26
  have F_n27 := func_mk (st := s_point_events) l_n27 c_n27 k_n27
  have b_n27 := F_n27.binds (ps := ["element", "current"]) fun _ _ _ _ _ _ us hl => match us, hl with | [_, _], _ => rfl
  have m_n27 := PySem.W.mg_of X G a_n27
  have F_n28 := func_mk (st := s_events_of) l_n28 c_n28 k_n28
  have b_n28 := F_n28.binds (ps := ["tick", "current"]) fun _ _ _ _ _ _ us hl => match us, hl with | [_, _], _ => rfl
  have m_n28 := PySem.W.mg_of X G a_n28
  have F_n29 := func_mk (st := sIsWord) l_n29 c_n29 k_n29
  have b_n29 := F_n29.binds (ps := ["value", "words"]) fun _ _ _ _ _ _ us hl => match us, hl with | [_, _], _ => rfl
  have m_n29 := PySem.W.mg_of X G a_n29
  have F_n30 := func_mk (st := sIsChoice) l_n30 c_n30 k_n30
  have b_n30 := F_n30.binds (ps := ["chosen", "words"]) fun _ _ _ _ _ _ us hl => match us, hl with | [_, _], _ => rfl
  have m_n30 := PySem.W.mg_of X G a_n30
  have F_n31 := func_mk (st := sInOrder) l_n31 c_n31 k_n31
  have b_n31 := F_n31.binds (ps := ["chosen", "words"]) fun _ _ _ _ _ _ us hl => match us, hl with | [_, _], _ => rfl
  have m_n31 := PySem.W.mg_of X G a_n31
  have F_n32 := func_mk (st := s_reaches) l_n32 c_n32 k_n32
  have b_n32 := F_n32.binds (ps := ["place", "target", "side", "stopped"]) fun _ _ _ _ _ _ us hl => match us, hl with | [_, _, _, _], _ => rfl
  have m_n32 := PySem.W.mg_of X G a_n32
  have F_n33 := func_mk (st := s_without_zone) l_n33 c_n33 k_n33
  have b_n33 := F_n33.binds (ps := ["side"]) fun _ _ _ _ _ _ us hl => match us, hl with | [_], _ => rfl
  have m_n33 := PySem.W.mg_of X G a_n33
  have F_n34 := func_mk (st := s_signal_of) l_n34 c_n34 k_n34
  have b_n34 := F_n34.binds (ps := ["setup", "sides", "event", "entered"]) fun _ _ _ _ _ _ us hl => match us, hl with | [_, _, _, _], _ => rfl
  have m_n34 := PySem.W.mg_of X G a_n34
  have F_n35 := func_mk (st := s_heard) l_n35 c_n35 k_n35
  have b_n35 := F_n35.binds (ps := ["setup", "sides", "events", "stops", "entered"]) fun _ _ _ _ _ _ us hl => match us, hl with | [_, _, _, _, _], _ => rfl
  have m_n35 := PySem.W.mg_of X G a_n35
  have F_n36 := func_mk (st := s_target_behind) l_n36 c_n36 k_n36
  have b_n36 := F_n36.binds (ps := ["tick"]) fun _ _ _ _ _ _ us hl => match us, hl with | [_], _ => rfl
  have m_n36 := PySem.W.mg_of X G a_n36
  have F_n37 := func_mk (st := s_number_of_side) l_n37 c_n37 k_n37
  have b_n37 := F_n37.binds (ps := ["sides", "element"]) fun _ _ _ _ _ _ us hl => match us, hl with | [_, _], _ => rfl
  have m_n37 := PySem.W.mg_of X G a_n37
  have F_n38 := func_mk (st := s_behind) l_n38 c_n38 k_n38
  have b_n38 := F_n38.binds (ps := ["setup", "situation", "turn"]) fun _ _ _ _ _ _ us hl => match us, hl with | [_, _, _], _ => rfl
  have m_n38 := PySem.W.mg_of X G a_n38
  have F_n39 := func_mk (st := s_law_made) l_n39 c_n39 k_n39
  have b_n39 := F_n39.binds (ps := ["told"]) fun _ _ _ _ _ _ us hl => match us, hl with | [_], _ => rfl
  have m_n39 := PySem.W.mg_of X G a_n39
  have F_n40 := func_mk (st := s_law_scenario) l_n40 c_n40 k_n40
  have b_n40 := F_n40.binds (ps := ["box", "setup", "troubles", "most"]) fun _ _ _ _ _ _ us hl => match us, hl with | [_, _, _, _], _ => rfl
  have m_n40 := PySem.W.mg_of X G a_n40
  have F_n41 := func_mk (st := sIsNumber) l_n41 c_n41 k_n41
  have b_n41 := F_n41.binds (ps := ["value"]) fun _ _ _ _ _ _ us hl => match us, hl with | [_], _ => rfl
  have m_n41 := PySem.W.mg_of X G a_n41
  have F_n42 := func_mk (st := s_is_possible) l_n42 c_n42 k_n42
  have b_n42 := F_n42.binds (ps := ["situation", "turn", "troubles"]) fun _ _ _ _ _ _ us hl => match us, hl with | [_, _, _], _ => rfl
  have m_n42 := PySem.W.mg_of X G a_n42
  have F_n43 := func_mk (st := s_is_scenario) l_n43 c_n43 k_n43
  have b_n43 := F_n43.binds (ps := ["setup", "scenario", "troubles"]) fun _ _ _ _ _ _ us hl => match us, hl with | [_, _, _], _ => rfl
  have m_n43 := PySem.W.mg_of X G a_n43
  have F_n44 := func_mk (st := s_law_spoiled) l_n44 c_n44 k_n44
  have b_n44 := F_n44.binds (ps := ["box", "scenario"]) fun _ _ _ _ _ _ us hl => match us, hl with | [_, _], _ => rfl
  have m_n44 := PySem.W.mg_of X G a_n44
  have F_n45 := func_mk (st := s_law_is_scenario) l_n45 c_n45 k_n45
  have b_n45 := F_n45.binds (ps := ["setup", "scenario", "troubles"]) fun _ _ _ _ _ _ us hl => match us, hl with | [_, _, _], _ => rfl
  have m_n45 := PySem.W.mg_of X G a_n45
  have F_n46 := func_mk (st := sLaw) l_n46 c_n46 k_n46
  have b_n46 := F_n46.binds (ps := ["script"]) fun _ _ _ _ _ _ us hl => match us, hl with | [_], _ => rfl
  have m_n46 := PySem.W.mg_of X G a_n46
  have F_eI := func_mk (st := sErrI) l_eI c_eI k_eI
  have b_eI := F_eI.binds (ps := ["self", "reason"]) fun _ _ _ _ _ _ us hl => match us, hl with | [_, _], _ => rfl
  have F_sI := func_mk (st := sSetupI) l_sI c_sI k_sI
  have b_sI := F_sI.binds (ps := ["self", "place", "kinds", "sights"]) fun _ _ _ _ _ _ us hl => match us, hl with | [_, _, _, _], _ => rfl
  have m_sI := PySem.W.mg_of X G g_sI
  have MS : Mk K CS f_sI := ⟨mk_sI, a_sI, fn_sI, kp_sI⟩
  have m_CURRENT := PySem.W.mg_of X G a_CURRENT
  have m_POINT := PySem.W.mg_of X G a_POINT
  have m_SLIP := PySem.W.mg_of X G a_SLIP
  have m_TICKS := PySem.W.mg_of X G a_TICKS
  have m_OVER_ELEMENT := PySem.W.mg_of X G a_OVER_ELEMENT
  have m_LAST_ELEMENT := PySem.W.mg_of X G a_LAST_ELEMENT
  have m_NEW_ELEMENT := PySem.W.mg_of X G a_NEW_ELEMENT
  have m_ZONE := PySem.W.mg_of X G a_ZONE
  have m_ROOT := PySem.W.mg_of X G a_ROOT
  have m_SIDE_NAMES := PySem.W.mg_of X G a_SIDE_NAMES
  have m_PLACES := PySem.W.mg_of X G a_PLACES
  have m_KINDS := PySem.W.mg_of X G a_KINDS
  have m_SIGHTS := PySem.W.mg_of X G a_SIGHTS
  have m_END_SIGNAL := PySem.W.mg_of X G a_END_SIGNAL
  have m_FIRST_SITUATION := PySem.W.mg_of X G a_FIRST_SITUATION
  refine ⟨PySem.W.fnOf "law" "law" (defArgs sLaw) (defBody sLaw) (defScope sLaw) .none kV_n46 dc_n46 pm_n46 an_n46 cd_n46 ct_n46, [(269, 265), (173, 169)], spEnd K [265, 169] C0, ?_, ?_, ?_, fun s u => .of_eq rfl, ?_, fun base Xb Gb TB => ?_⟩
  · intro p hp
    simp only [List.mem_cons, List.not_mem_nil, or_false] at hp
    rcases hp with rfl | rfl
    · exact hT 265 (by simp)
    · exact hT 169 (by simp)
  · intro p hp
    simp only [List.mem_cons, List.not_mem_nil, or_false] at hp
    rcases hp with rfl | rfl
    · exact nt_is_choice
    · exact nt_is_possible
  · intro p hp
    simp only [List.mem_cons, List.not_mem_nil, or_false] at hp
    rcases hp with rfl | rfl
    · exact PySem.W.codeHd_of_K X hd_is_choice
    · exact PySem.W.codeHd_of_K X hd_is_possible
  · intro H a ns hl hb ht hS
    have tb : ∀ P ∈ ([265, 169] : List Addr), H P = some (.tbl #[]) := fun P hP => by
      simp only [List.mem_cons, List.not_mem_nil, or_false] at hP
      rcases hP with rfl | rfl
      · exact ht (269, 265) (by simp)
      · exact ht (173, 169) (by simp)
    have bs : Same (fun b => if b ∈ ([265, 169] : List Addr) then none else H b) H := fun b u e => by
      have e' : (if b ∈ ([265, 169] : List Addr) then none else H b) = some u := e
      split at e'
      · cases e'
      · exact e'
    have sq : SqL K (fun b => if b ∈ ([265, 169] : List Addr) then none else H b) a (ns.map L2.V.int) := by
      have na : ∀ u, H a = some u → u ≠ .tbl #[] → (fun b => if b ∈ ([265, 169] : List Addr) then none else H b) a = some u := fun u e ne => by
        show (if a ∈ ([265, 169] : List Addr) then none else H a) = some u
        rw [if_neg (fun z => by rw [tb a z] at e; exact ne (Option.some.inj e).symm)]
        exact e
      rcases hS with (hS | ⟨o, hS⟩) | hS
      · exact .inl (.inl (na _ hS (fun z => by cases z)))
      · exact .inl (.inr ⟨o, na _ hS (fun z => by cases z)⟩)
      · exact .inr hS
    refine ⟨[.dat (.kst (ns.map .int))], _, O0, _, _, ⟨ns, rfl, rfl, rfl⟩, .cons (show SlotOk K _ (some (.ref a)) (.dat (.kst (ns.map .int))) from .kst sq (ints_rp ns)) .nil, ⟨bs, (fun _ _ e => by cases e), fun P hP => ⟨if_pos hP, rfl⟩, fun P hP => ⟨#[], tb P hP, by trivial⟩⟩, fun s O' v B' H' h _ r => ?_, fun _ _ _ _ _ _ h => h.elim⟩
    subst h
    cases (show Rp K B' v (.bl true) from r)
    rfl
  · have t_is_choice : TabB base mg 269 265 := let z := TB (269, 265) (by simp); ⟨z.code, z.bm, z.gP⟩
    have t_is_possible : TabB base mg 173 169 := let z := TB (173, 169) (by simp); ⟨z.code, z.bm, z.gP⟩
    have T_is_choice : (265 : Addr) ∈ [265, 169] := by simp
    have T_is_possible : (169 : Addr) ∈ [265, 169] := by simp
    have G_n0 := ok_cell (mg := mg) (P := l.prog) (w := w) (base := base) (T := [265, 169]) F_n0 L
    have G_n1 := ok_row (mg := mg) (P := l.prog) (w := w) (base := base) (T := [265, 169]) F_n1 L G_n0 m_n0 k_n0 b_n0
    have G_n2 := ok_draw (mg := mg) (P := l.prog) (w := w) (base := base) (T := [265, 169]) F_n2 L
    have G_n3 := ok_some (mg := mg) (P := l.prog) (w := w) (base := base) (T := [265, 169]) F_n3 G_n2 m_n2 k_n2 b_n2
    have G_n4 := ok_kinds (mg := mg) (P := l.prog) (w := w) (base := base) (T := [265, 169]) F_n4 
    have G_n5 := ok_lsetup (mg := mg) (P := l.prog) (w := w) (base := base) (T := [265, 169]) F_n5 G_n2 m_n2 k_n2 b_n2 G_n3 m_n3 k_n3 b_n3 G_n4 m_n4 k_n4 b_n4
    have G_n6 := ok_ltroubles (mg := mg) (P := l.prog) (w := w) (base := base) (T := [265, 169]) F_n6 ⟨_, _, G_n2, m_n2, k_n2, b_n2⟩
    have G_n7 := ok_lways (mg := mg) (P := l.prog) (w := w) (base := base) (T := [265, 169]) F_n7 
    have G_n8 := ok_ltgts (mg := mg) (P := l.prog) (w := w) (base := base) (T := [265, 169]) F_n8 
    have G_n9 := ok_lturnsat (mg := mg) (P := l.prog) (w := w) (base := base) (T := [265, 169]) F_n9 L ⟨_, _, G_n8, m_n8, k_n8, b_n8⟩
    have G_n10 := ok_lturns (mg := mg) (P := l.prog) (w := w) (base := base) (T := [265, 169]) F_n10 L ⟨_, _, G_n7, m_n7, k_n7, b_n7⟩ ⟨_, _, G_n9, m_n9, k_n9, b_n9⟩
    have G_n11 := ok_dsides (mg := mg) (P := l.prog) (w := w) (base := base) (T := [265, 169]) F_n11 
    have G_n12 := ok_drift (mg := mg) (P := l.prog) (w := w) (base := base) (T := [265, 169]) F_n12 ⟨_, _, G_n11, m_n11, k_n11, b_n11⟩ m_CURRENT k_CURRENT
    have G_n13 := ok_tgts (mg := mg) (P := l.prog) (w := w) (base := base) (T := [265, 169]) F_n13 
    have G_n14 := ok_islet (mg := mg) (P := l.prog) (w := w) (base := base) (T := [265, 169]) F_n14 
    have G_n15 := ok_ticks (mg := mg) (P := l.prog) (w := w) (base := base) (T := [265, 169]) F_n15 L (PySem.W.mg_none_of X G z_enumerate) ⟨_, _, G_n13, m_n13, k_n13, b_n13⟩ ⟨_, _, G_n14, m_n14, k_n14, b_n14⟩ m_POINT k_POINT m_SLIP k_SLIP m_TICKS k_TICKS
    have G_n16 := ok_stopsb (mg := mg) (P := l.prog) (w := w) (base := base) (T := [265, 169]) F_n16 
    have G_n17 := ok_turnsat (mg := mg) (P := l.prog) (w := w) (base := base) (T := [265, 169]) F_n17 L ⟨_, _, G_n15, m_n15, k_n15, b_n15⟩ ⟨_, _, G_n16, m_n16, k_n16, b_n16⟩
    have G_n18 := ok_turns (mg := mg) (P := l.prog) (w := w) (base := base) (T := [265, 169]) F_n18 L ⟨_, _, G_n12, m_n12, k_n12, b_n12⟩ ⟨_, _, G_n17, m_n17, k_n17, b_n17⟩
    have G_n19 := ok_lall (mg := mg) (P := l.prog) (w := w) (base := base) (T := [265, 169]) F_n19 
    have G_n20 := ok_lreach (mg := mg) (P := l.prog) (w := w) (base := base) (T := [265, 169]) F_n20 
    have G_n21 := ok_lsig (mg := mg) (P := l.prog) (w := w) (base := base) (T := [265, 169]) F_n21 
    have G_n22 := ok_lsit (mg := mg) (P := l.prog) (w := w) (base := base) (T := [265, 169]) F_n22 L
    have G_n23 := ok_lbehind (mg := mg) (P := l.prog) (w := w) (base := base) (T := [265, 169]) F_n23 L ⟨_, _, G_n20, m_n20, k_n20, b_n20⟩ ⟨_, _, G_n21, m_n21, k_n21, b_n21⟩ ⟨_, _, G_n22, m_n22, k_n22, b_n22⟩
    have G_n24 := ok_elat (mg := mg) (P := l.prog) (w := w) (base := base) (T := [265, 169]) F_n24 m_ZONE k_ZONE
    have G_n25 := ok_sidesin (mg := mg) (P := l.prog) (w := w) (base := base) (T := [265, 169]) F_n25 m_ROOT k_ROOT m_ZONE k_ZONE m_OVER_ELEMENT k_OVER_ELEMENT m_LAST_ELEMENT k_LAST_ELEMENT m_NEW_ELEMENT k_NEW_ELEMENT m_CURRENT k_CURRENT m_SIDE_NAMES k_SIDE_NAMES
    have G_n26 := ok_tickof (mg := mg) (P := l.prog) (w := w) (base := base) (T := [265, 169]) F_n26 m_POINT k_POINT m_SLIP k_SLIP m_TICKS k_TICKS
    have G_n27 := ok_pte (mg := mg) (P := l.prog) (w := w) (base := base) (T := [265, 169]) F_n27 
    have G_n28 := ok_evof (mg := mg) (P := l.prog) (w := w) (base := base) (T := [265, 169]) F_n28 m_ROOT k_ROOT ⟨_, _, G_n27, m_n27, k_n27, b_n27⟩
    have G_n29 := ok_word (mg := mg) (P := l.prog) (w := w) (base := base) (T := [265, 169]) F_n29 L
    have G_n30 := ok_choice (mg := mg) (P := l.prog) (w := w) (base := base) (T := [265, 169]) F_n30 L T_is_choice t_is_choice G_n29 m_n29 k_n29 b_n29
    have G_n31 := ok_order (mg := mg) (P := l.prog) (w := w) (base := base) (T := [265, 169]) F_n31 L
    have G_n32 := ok_reach (mg := mg) (P := l.prog) (w := w) (base := base) (T := [265, 169]) F_n32 m_ROOT k_ROOT m_ZONE k_ZONE
    have G_n33 := ok_woz (mg := mg) (P := l.prog) (w := w) (base := base) (T := [265, 169]) F_n33 
    have EI := ok_errI (P := l.prog) (w := w) (base := base) F_eI V
    have GS := ok_setup (T := [265, 169]) F_sI V AS m_PLACES k_PLACES m_KINDS k_KINDS m_SIGHTS k_SIGHTS EI b_eI G_n29 m_n29 k_n29 b_n29 G_n30 m_n30 k_n30 b_n30 G_n31 m_n31 k_n31 b_n31
    have G_n34 := ok_sig (mg := mg) (P := l.prog) (w := w) (base := base) (T := [265, 169]) F_n34 AS m_END_SIGNAL k_END_SIGNAL ⟨_, _, G_n33, m_n33, k_n33, b_n33⟩
    have G_n35 := ok_heard (mg := mg) (P := l.prog) (w := w) (base := base) (T := [265, 169]) F_n35 L (PySem.W.mg_none_of X G z_enumerate) AS ⟨_, _, G_n32, m_n32, k_n32, b_n32⟩ ⟨_, _, G_n34, m_n34, k_n34, b_n34⟩
    have G_n36 := ok_tgb (mg := mg) (P := l.prog) (w := w) (base := base) (T := [265, 169]) F_n36 
    have G_n37 := ok_nos (mg := mg) (P := l.prog) (w := w) (base := base) (T := [265, 169]) F_n37 m_SIDE_NAMES k_SIDE_NAMES nd_SIDE_NAMES
    have G_n38 := ok_behind (mg := mg) (P := l.prog) (w := w) (base := base) (T := [265, 169]) F_n38 L m_OVER_ELEMENT k_OVER_ELEMENT m_CURRENT k_CURRENT m_LAST_ELEMENT k_LAST_ELEMENT m_NEW_ELEMENT k_NEW_ELEMENT m_ZONE k_ZONE m_SLIP k_SLIP ⟨_, _, G_n24, m_n24, k_n24, b_n24⟩ ⟨_, _, G_n25, m_n25, k_n25, b_n25⟩ ⟨_, _, G_n26, m_n26, k_n26, b_n26⟩ ⟨_, _, G_n28, m_n28, k_n28, b_n28⟩ ⟨_, _, G_n35, m_n35, k_n35, b_n35⟩ ⟨_, _, G_n36, m_n36, k_n36, b_n36⟩ ⟨_, _, G_n37, m_n37, k_n37, b_n37⟩
    have G_n39 := ok_lmade (mg := mg) (P := l.prog) (w := w) (base := base) (T := [265, 169]) (CE := C0) F_n39 L MS m_sI GS b_sI
    have G_n40 := ok_lscen (mg := mg) (P := l.prog) (w := w) (base := base) (T := [265, 169]) (CE := C0) F_n40 L ⟨_, _, G_n2, m_n2, k_n2, b_n2⟩ ⟨_, _, G_n10, m_n10, k_n10, b_n10⟩ ⟨_, _, G_n23, m_n23, k_n23, b_n23⟩
    have G_n41 := ok_num (mg := mg) (P := l.prog) (w := w) (base := base) (T := [265, 169]) F_n41 L
    have G_n42 := ok_poss (mg := mg) (P := l.prog) (w := w) (base := base) (T := [265, 169]) F_n42 L T_is_possible t_is_possible ⟨_, _, G_n41, m_n41, k_n41, b_n41⟩ ⟨_, _, G_n12, m_n12, k_n12, b_n12⟩ ⟨_, _, G_n15, m_n15, k_n15, b_n15⟩ ⟨_, _, G_n16, m_n16, k_n16, b_n16⟩
    have G_n43 := ok_issc (mg := mg) (P := l.prog) (w := w) (base := base) (T := [265, 169]) F_n43 L m_FIRST_SITUATION k_FIRST_SITUATION ⟨_, _, G_n42, m_n42, k_n42, b_n42⟩ ⟨_, _, G_n38, m_n38, k_n38, b_n38⟩
    have G_n44 := ok_lspoil (mg := mg) (P := l.prog) (w := w) (base := base) (T := [265, 169]) (CE := C0) F_n44 L ⟨_, _, G_n2, m_n2, k_n2, b_n2⟩
    have G_n45 := ok_lissc (mg := mg) (P := l.prog) (w := w) (base := base) (T := [265, 169]) F_n45 ⟨_, _, G_n10, m_n10, k_n10, b_n10⟩ ⟨_, _, G_n23, m_n23, k_n23, b_n23⟩
    exact ok_law (mg := mg) (P := l.prog) (w := w) (base := base) (T := [265, 169]) (CE := C0) F_n46 L ⟨_, _, G_n1, m_n1, k_n1, b_n1⟩ ⟨_, _, G_n5, m_n5, k_n5, b_n5⟩ ⟨_, _, G_n6, m_n6, k_n6, b_n6⟩ ⟨_, _, G_n2, m_n2, k_n2, b_n2⟩ ⟨_, _, G_n10, m_n10, k_n10, b_n10⟩ ⟨_, _, G_n18, m_n18, k_n18, b_n18⟩ ⟨_, _, G_n19, m_n19, k_n19, b_n19⟩ ⟨_, _, G_n23, m_n23, k_n23, b_n23⟩ ⟨_, _, G_n38, m_n38, k_n38, b_n38⟩ ⟨_, _, G_n39, m_n39, k_n39, b_n39⟩ ⟨_, _, G_n40, m_n40, k_n40, b_n40⟩ ⟨_, _, G_n43, m_n43, k_n43, b_n43⟩ ⟨_, _, G_n44, m_n44, k_n44, b_n44⟩ ⟨_, _, G_n45, m_n45, k_n45, b_n45⟩
end Dg

open PySem PySem.W PyProof.Rows
set_option maxHeartbeats 0 in
theorem PySem.Challenge.cw_dragtold_k07_turns_holds : PySem.Challenge.rw_dragtold_k07_turns.Holds := by
  w_on; o_law; k_head; (case hw => w_witness2)
  k_fill
  refine Dg.walk_dz (l := PySem.Challenge.rw_dragtold_k07_turns) (n := 63) (k := 7) (x := "script") (CX := fun w => L2.CX PySem.Challenge.rw_dragtold_k07_turns.prog w) rfl (by decide) rfl ⟨rfl, by decide, by decide⟩ (fun w h Y => PySem.W.kIn_of Y) ?F (fun w H s e s' z => Dg.cx_no z)
  case F =>
    intro w mg fa h KX G hmg tabs
    have hT : ∀ P ∈ [265, 169], h.get? P = some { cls := .none, data := .fields #[] } := fun P hP => by
      simp only [List.mem_cons, List.not_mem_nil, or_false] at hP
      rcases hP with e | e
      · rw [e]; exact tabs "is_choice" 269 265 (by kernel_rfl) (by kernel_rfl)
      · rw [e]; exact tabs "is_possible" 173 169 (by kernel_rfl) (by kernel_rfl)
    refine' Dg.all_mk KX G hmg hT ?zz_a_n0 ?zz_l_n0 ?zz_c_n0 ?zz_k_n0 ?zz_a_n1 ?zz_l_n1 ?zz_c_n1 ?zz_k_n1 ?zz_a_n2 ?zz_l_n2 ?zz_c_n2 ?zz_k_n2 ?zz_a_n3 ?zz_l_n3 ?zz_c_n3 ?zz_k_n3 ?zz_a_n4 ?zz_l_n4 ?zz_c_n4 ?zz_k_n4 ?zz_a_n5 ?zz_l_n5 ?zz_c_n5 ?zz_k_n5 ?zz_a_n6 ?zz_l_n6 ?zz_c_n6 ?zz_k_n6 ?zz_a_n7 ?zz_l_n7 ?zz_c_n7 ?zz_k_n7 ?zz_a_n8 ?zz_l_n8 ?zz_c_n8 ?zz_k_n8 ?zz_a_n9 ?zz_l_n9 ?zz_c_n9 ?zz_k_n9 ?zz_a_n10 ?zz_l_n10 ?zz_c_n10 ?zz_k_n10 ?zz_a_n11 ?zz_l_n11 ?zz_c_n11 ?zz_k_n11 ?zz_a_n12 ?zz_l_n12 ?zz_c_n12 ?zz_k_n12 ?zz_a_n13 ?zz_l_n13 ?zz_c_n13 ?zz_k_n13 ?zz_a_n14 ?zz_l_n14 ?zz_c_n14 ?zz_k_n14 ?zz_a_n15 ?zz_l_n15 ?zz_c_n15 ?zz_k_n15 ?zz_a_n16 ?zz_l_n16 ?zz_c_n16 ?zz_k_n16 ?zz_a_n17 ?zz_l_n17 ?zz_c_n17 ?zz_k_n17 ?zz_a_n18 ?zz_l_n18 ?zz_c_n18 ?zz_k_n18 ?zz_a_n19 ?zz_l_n19 ?zz_c_n19 ?zz_k_n19 ?zz_a_n20 ?zz_l_n20 ?zz_c_n20 ?zz_k_n20 ?zz_a_n21 ?zz_l_n21 ?zz_c_n21 ?zz_k_n21 ?zz_a_n22 ?zz_l_n22 ?zz_c_n22 ?zz_k_n22 ?zz_a_n23 ?zz_l_n23 ?zz_c_n23 ?zz_k_n23 ?zz_a_n24 ?zz_l_n24 ?zz_c_n24 ?zz_k_n24 ?zz_a_n25 ?zz_l_n25 ?zz_c_n25 ?zz_k_n25 ?zz_a_n26 ?zz_l_n26 ?zz_c_n26 ?zz_k_n26 ?zz_a_n27 ?zz_l_n27 ?zz_c_n27 ?zz_k_n27 ?zz_a_n28 ?zz_l_n28 ?zz_c_n28 ?zz_k_n28 ?zz_a_n29 ?zz_l_n29 ?zz_c_n29 ?zz_k_n29 ?zz_a_n30 ?zz_l_n30 ?zz_c_n30 ?zz_k_n30 ?zz_a_n31 ?zz_l_n31 ?zz_c_n31 ?zz_k_n31 ?zz_a_n32 ?zz_l_n32 ?zz_c_n32 ?zz_k_n32 ?zz_a_n33 ?zz_l_n33 ?zz_c_n33 ?zz_k_n33 ?zz_a_n34 ?zz_l_n34 ?zz_c_n34 ?zz_k_n34 ?zz_a_n35 ?zz_l_n35 ?zz_c_n35 ?zz_k_n35 ?zz_a_n36 ?zz_l_n36 ?zz_c_n36 ?zz_k_n36 ?zz_a_n37 ?zz_l_n37 ?zz_c_n37 ?zz_k_n37 ?zz_a_n38 ?zz_l_n38 ?zz_c_n38 ?zz_k_n38 ?zz_a_n39 ?zz_l_n39 ?zz_c_n39 ?zz_k_n39 ?zz_a_n40 ?zz_l_n40 ?zz_c_n40 ?zz_k_n40 ?zz_a_n41 ?zz_l_n41 ?zz_c_n41 ?zz_k_n41 ?zz_a_n42 ?zz_l_n42 ?zz_c_n42 ?zz_k_n42 ?zz_a_n43 ?zz_l_n43 ?zz_c_n43 ?zz_k_n43 ?zz_a_n44 ?zz_l_n44 ?zz_c_n44 ?zz_k_n44 ?zz_a_n45 ?zz_l_n45 ?zz_c_n45 ?zz_k_n45 ?zz_a_n46 ?zz_l_n46 ?zz_c_n46 ?zz_k_n46 ?zz_g_eI ?zz_a_eI ?zz_l_eI ?zz_c_eI ?zz_k_eI ?zz_g_sI ?zz_a_sI ?zz_l_sI ?zz_c_sI ?zz_k_sI ?zz_eX ?zz_eS ?zz_eB ?zz_eT ?zz_eK ?zz_eF ?zz_eN ?zz_eV ?zz_eY ?zz_eE ?zz_pg_sI ?zz_hd_sI ?zz_po_sI ?zz_sa_sI ?zz_mk_sI ?zz_fn_sI ?zz_kp_sI ?zz_no0_sI ?zz_no1_sI ?zz_no2_sI ?zz_z_isinstance ?zz_z_int ?zz_z_bool ?zz_z_str ?zz_z_list ?zz_z_tuple ?zz_z_len ?zz_z_set ?zz_z_all ?zz_z_sorted ?zz_z_range ?zz_z_abs ?zz_z_enumerate ?zz_z_ValueError ?zz_a_CURRENT ?zz_k_CURRENT ?zz_a_POINT ?zz_k_POINT ?zz_a_SLIP ?zz_k_SLIP ?zz_a_TICKS ?zz_k_TICKS ?zz_a_OVER_ELEMENT ?zz_k_OVER_ELEMENT ?zz_a_LAST_ELEMENT ?zz_k_LAST_ELEMENT ?zz_a_NEW_ELEMENT ?zz_k_NEW_ELEMENT ?zz_a_ZONE ?zz_k_ZONE ?zz_a_ROOT ?zz_k_ROOT ?zz_a_SIDE_NAMES ?zz_k_SIDE_NAMES ?zz_nd_SIDE_NAMES ?zz_a_PLACES ?zz_k_PLACES ?zz_a_KINDS ?zz_k_KINDS ?zz_a_SIGHTS ?zz_k_SIGHTS ?zz_a_END_SIGNAL ?zz_k_END_SIGNAL ?zz_a_FIRST_SITUATION ?zz_k_FIRST_SITUATION ?zz_hd_is_choice ?zz_nt_is_choice ?zz_hd_is_possible ?zz_nt_is_possible
    (case zz_a_n0 => first | k_is | rfl | kernel_rfl)
    (case zz_l_n0 => first | k_is | rfl | kernel_rfl)
    (case zz_c_n0 => first | k_is | rfl | kernel_rfl)
    (case zz_k_n0 => first | k_is | rfl | kernel_rfl)
    (case zz_a_n1 => first | k_is | rfl | kernel_rfl)
    (case zz_l_n1 => first | k_is | rfl | kernel_rfl)
    (case zz_c_n1 => first | k_is | rfl | kernel_rfl)
    (case zz_k_n1 => first | k_is | rfl | kernel_rfl)
    (case zz_a_n2 => first | k_is | rfl | kernel_rfl)
    (case zz_l_n2 => first | k_is | rfl | kernel_rfl)
    (case zz_c_n2 => first | k_is | rfl | kernel_rfl)
    (case zz_k_n2 => first | k_is | rfl | kernel_rfl)
    (case zz_a_n3 => first | k_is | rfl | kernel_rfl)
    (case zz_l_n3 => first | k_is | rfl | kernel_rfl)
    (case zz_c_n3 => first | k_is | rfl | kernel_rfl)
    (case zz_k_n3 => first | k_is | rfl | kernel_rfl)
    (case zz_a_n4 => first | k_is | rfl | kernel_rfl)
    (case zz_l_n4 => first | k_is | rfl | kernel_rfl)
    (case zz_c_n4 => first | k_is | rfl | kernel_rfl)
    (case zz_k_n4 => first | k_is | rfl | kernel_rfl)
    (case zz_a_n5 => first | k_is | rfl | kernel_rfl)
    (case zz_l_n5 => first | k_is | rfl | kernel_rfl)
    (case zz_c_n5 => first | k_is | rfl | kernel_rfl)
    (case zz_k_n5 => first | k_is | rfl | kernel_rfl)
    (case zz_a_n6 => first | k_is | rfl | kernel_rfl)
    (case zz_l_n6 => first | k_is | rfl | kernel_rfl)
    (case zz_c_n6 => first | k_is | rfl | kernel_rfl)
    (case zz_k_n6 => first | k_is | rfl | kernel_rfl)
    (case zz_a_n7 => first | k_is | rfl | kernel_rfl)
    (case zz_l_n7 => first | k_is | rfl | kernel_rfl)
    (case zz_c_n7 => first | k_is | rfl | kernel_rfl)
    (case zz_k_n7 => first | k_is | rfl | kernel_rfl)
    (case zz_a_n8 => first | k_is | rfl | kernel_rfl)
    (case zz_l_n8 => first | k_is | rfl | kernel_rfl)
    (case zz_c_n8 => first | k_is | rfl | kernel_rfl)
    (case zz_k_n8 => first | k_is | rfl | kernel_rfl)
    (case zz_a_n9 => first | k_is | rfl | kernel_rfl)
    (case zz_l_n9 => first | k_is | rfl | kernel_rfl)
    (case zz_c_n9 => first | k_is | rfl | kernel_rfl)
    (case zz_k_n9 => first | k_is | rfl | kernel_rfl)
    (case zz_a_n10 => first | k_is | rfl | kernel_rfl)
    (case zz_l_n10 => first | k_is | rfl | kernel_rfl)
    (case zz_c_n10 => first | k_is | rfl | kernel_rfl)
    (case zz_k_n10 => first | k_is | rfl | kernel_rfl)
    (case zz_a_n11 => first | k_is | rfl | kernel_rfl)
    (case zz_l_n11 => first | k_is | rfl | kernel_rfl)
    (case zz_c_n11 => first | k_is | rfl | kernel_rfl)
    (case zz_k_n11 => first | k_is | rfl | kernel_rfl)
    (case zz_a_n12 => first | k_is | rfl | kernel_rfl)
    (case zz_l_n12 => first | k_is | rfl | kernel_rfl)
    (case zz_c_n12 => first | k_is | rfl | kernel_rfl)
    (case zz_k_n12 => first | k_is | rfl | kernel_rfl)
    (case zz_a_n13 => first | k_is | rfl | kernel_rfl)
    (case zz_l_n13 => first | k_is | rfl | kernel_rfl)
    (case zz_c_n13 => first | k_is | rfl | kernel_rfl)
    (case zz_k_n13 => first | k_is | rfl | kernel_rfl)
    (case zz_a_n14 => first | k_is | rfl | kernel_rfl)
    (case zz_l_n14 => first | k_is | rfl | kernel_rfl)
    (case zz_c_n14 => first | k_is | rfl | kernel_rfl)
    (case zz_k_n14 => first | k_is | rfl | kernel_rfl)
    (case zz_a_n15 => first | k_is | rfl | kernel_rfl)
    (case zz_l_n15 => first | k_is | rfl | kernel_rfl)
    (case zz_c_n15 => first | k_is | rfl | kernel_rfl)
    (case zz_k_n15 => first | k_is | rfl | kernel_rfl)
    (case zz_a_n16 => first | k_is | rfl | kernel_rfl)
    (case zz_l_n16 => first | k_is | rfl | kernel_rfl)
    (case zz_c_n16 => first | k_is | rfl | kernel_rfl)
    (case zz_k_n16 => first | k_is | rfl | kernel_rfl)
    (case zz_a_n17 => first | k_is | rfl | kernel_rfl)
    (case zz_l_n17 => first | k_is | rfl | kernel_rfl)
    (case zz_c_n17 => first | k_is | rfl | kernel_rfl)
    (case zz_k_n17 => first | k_is | rfl | kernel_rfl)
    (case zz_a_n18 => first | k_is | rfl | kernel_rfl)
    (case zz_l_n18 => first | k_is | rfl | kernel_rfl)
    (case zz_c_n18 => first | k_is | rfl | kernel_rfl)
    (case zz_k_n18 => first | k_is | rfl | kernel_rfl)
    (case zz_a_n19 => first | k_is | rfl | kernel_rfl)
    (case zz_l_n19 => first | k_is | rfl | kernel_rfl)
    (case zz_c_n19 => first | k_is | rfl | kernel_rfl)
    (case zz_k_n19 => first | k_is | rfl | kernel_rfl)
    (case zz_a_n20 => first | k_is | rfl | kernel_rfl)
    (case zz_l_n20 => first | k_is | rfl | kernel_rfl)
    (case zz_c_n20 => first | k_is | rfl | kernel_rfl)
    (case zz_k_n20 => first | k_is | rfl | kernel_rfl)
    (case zz_a_n21 => first | k_is | rfl | kernel_rfl)
    (case zz_l_n21 => first | k_is | rfl | kernel_rfl)
    (case zz_c_n21 => first | k_is | rfl | kernel_rfl)
    (case zz_k_n21 => first | k_is | rfl | kernel_rfl)
    (case zz_a_n22 => first | k_is | rfl | kernel_rfl)
    (case zz_l_n22 => first | k_is | rfl | kernel_rfl)
    (case zz_c_n22 => first | k_is | rfl | kernel_rfl)
    (case zz_k_n22 => first | k_is | rfl | kernel_rfl)
    (case zz_a_n23 => first | k_is | rfl | kernel_rfl)
    (case zz_l_n23 => first | k_is | rfl | kernel_rfl)
    (case zz_c_n23 => first | k_is | rfl | kernel_rfl)
    (case zz_k_n23 => first | k_is | rfl | kernel_rfl)
    (case zz_a_n24 => first | k_is | rfl | kernel_rfl)
    (case zz_l_n24 => first | k_is | rfl | kernel_rfl)
    (case zz_c_n24 => first | k_is | rfl | kernel_rfl)
    (case zz_k_n24 => first | k_is | rfl | kernel_rfl)
    (case zz_a_n25 => first | k_is | rfl | kernel_rfl)
    (case zz_l_n25 => first | k_is | rfl | kernel_rfl)
    (case zz_c_n25 => first | k_is | rfl | kernel_rfl)
    (case zz_k_n25 => first | k_is | rfl | kernel_rfl)
    (case zz_a_n26 => first | k_is | rfl | kernel_rfl)
    (case zz_l_n26 => first | k_is | rfl | kernel_rfl)
    (case zz_c_n26 => first | k_is | rfl | kernel_rfl)
    (case zz_k_n26 => first | k_is | rfl | kernel_rfl)
    (case zz_a_n27 => first | k_is | rfl | kernel_rfl)
    (case zz_l_n27 => first | k_is | rfl | kernel_rfl)
    (case zz_c_n27 => first | k_is | rfl | kernel_rfl)
    (case zz_k_n27 => first | k_is | rfl | kernel_rfl)
    (case zz_a_n28 => first | k_is | rfl | kernel_rfl)
    (case zz_l_n28 => first | k_is | rfl | kernel_rfl)
    (case zz_c_n28 => first | k_is | rfl | kernel_rfl)
    (case zz_k_n28 => first | k_is | rfl | kernel_rfl)
    (case zz_a_n29 => first | k_is | rfl | kernel_rfl)
    (case zz_l_n29 => first | k_is | rfl | kernel_rfl)
    (case zz_c_n29 => first | k_is | rfl | kernel_rfl)
    (case zz_k_n29 => first | k_is | rfl | kernel_rfl)
    (case zz_a_n30 => first | k_is | rfl | kernel_rfl)
    (case zz_l_n30 => first | k_is | rfl | kernel_rfl)
    (case zz_c_n30 => first | k_is | rfl | kernel_rfl)
    (case zz_k_n30 => first | k_is | rfl | kernel_rfl)
    (case zz_a_n31 => first | k_is | rfl | kernel_rfl)
    (case zz_l_n31 => first | k_is | rfl | kernel_rfl)
    (case zz_c_n31 => first | k_is | rfl | kernel_rfl)
    (case zz_k_n31 => first | k_is | rfl | kernel_rfl)
    (case zz_a_n32 => first | k_is | rfl | kernel_rfl)
    (case zz_l_n32 => first | k_is | rfl | kernel_rfl)
    (case zz_c_n32 => first | k_is | rfl | kernel_rfl)
    (case zz_k_n32 => first | k_is | rfl | kernel_rfl)
    (case zz_a_n33 => first | k_is | rfl | kernel_rfl)
    (case zz_l_n33 => first | k_is | rfl | kernel_rfl)
    (case zz_c_n33 => first | k_is | rfl | kernel_rfl)
    (case zz_k_n33 => first | k_is | rfl | kernel_rfl)
    (case zz_a_n34 => first | k_is | rfl | kernel_rfl)
    (case zz_l_n34 => first | k_is | rfl | kernel_rfl)
    (case zz_c_n34 => first | k_is | rfl | kernel_rfl)
    (case zz_k_n34 => first | k_is | rfl | kernel_rfl)
    (case zz_a_n35 => first | k_is | rfl | kernel_rfl)
    (case zz_l_n35 => first | k_is | rfl | kernel_rfl)
    (case zz_c_n35 => first | k_is | rfl | kernel_rfl)
    (case zz_k_n35 => first | k_is | rfl | kernel_rfl)
    (case zz_a_n36 => first | k_is | rfl | kernel_rfl)
    (case zz_l_n36 => first | k_is | rfl | kernel_rfl)
    (case zz_c_n36 => first | k_is | rfl | kernel_rfl)
    (case zz_k_n36 => first | k_is | rfl | kernel_rfl)
    (case zz_a_n37 => first | k_is | rfl | kernel_rfl)
    (case zz_l_n37 => first | k_is | rfl | kernel_rfl)
    (case zz_c_n37 => first | k_is | rfl | kernel_rfl)
    (case zz_k_n37 => first | k_is | rfl | kernel_rfl)
    (case zz_a_n38 => first | k_is | rfl | kernel_rfl)
    (case zz_l_n38 => first | k_is | rfl | kernel_rfl)
    (case zz_c_n38 => first | k_is | rfl | kernel_rfl)
    (case zz_k_n38 => first | k_is | rfl | kernel_rfl)
    (case zz_a_n39 => first | k_is | rfl | kernel_rfl)
    (case zz_l_n39 => first | k_is | rfl | kernel_rfl)
    (case zz_c_n39 => first | k_is | rfl | kernel_rfl)
    (case zz_k_n39 => first | k_is | rfl | kernel_rfl)
    (case zz_a_n40 => first | k_is | rfl | kernel_rfl)
    (case zz_l_n40 => first | k_is | rfl | kernel_rfl)
    (case zz_c_n40 => first | k_is | rfl | kernel_rfl)
    (case zz_k_n40 => first | k_is | rfl | kernel_rfl)
    (case zz_a_n41 => first | k_is | rfl | kernel_rfl)
    (case zz_l_n41 => first | k_is | rfl | kernel_rfl)
    (case zz_c_n41 => first | k_is | rfl | kernel_rfl)
    (case zz_k_n41 => first | k_is | rfl | kernel_rfl)
    (case zz_a_n42 => first | k_is | rfl | kernel_rfl)
    (case zz_l_n42 => first | k_is | rfl | kernel_rfl)
    (case zz_c_n42 => first | k_is | rfl | kernel_rfl)
    (case zz_k_n42 => first | k_is | rfl | kernel_rfl)
    (case zz_a_n43 => first | k_is | rfl | kernel_rfl)
    (case zz_l_n43 => first | k_is | rfl | kernel_rfl)
    (case zz_c_n43 => first | k_is | rfl | kernel_rfl)
    (case zz_k_n43 => first | k_is | rfl | kernel_rfl)
    (case zz_a_n44 => first | k_is | rfl | kernel_rfl)
    (case zz_l_n44 => first | k_is | rfl | kernel_rfl)
    (case zz_c_n44 => first | k_is | rfl | kernel_rfl)
    (case zz_k_n44 => first | k_is | rfl | kernel_rfl)
    (case zz_a_n45 => first | k_is | rfl | kernel_rfl)
    (case zz_l_n45 => first | k_is | rfl | kernel_rfl)
    (case zz_c_n45 => first | k_is | rfl | kernel_rfl)
    (case zz_k_n45 => first | k_is | rfl | kernel_rfl)
    (case zz_a_n46 => first | k_is | rfl | kernel_rfl)
    (case zz_l_n46 => first | k_is | rfl | kernel_rfl)
    (case zz_c_n46 => first | k_is | rfl | kernel_rfl)
    (case zz_k_n46 => first | k_is | rfl | kernel_rfl)
    (case zz_g_eI => first | k_is | rfl | kernel_rfl)
    (case zz_a_eI => first | k_is | rfl | kernel_rfl)
    (case zz_l_eI => first | k_is | rfl | kernel_rfl)
    (case zz_c_eI => first | k_is | rfl | kernel_rfl)
    (case zz_k_eI => first | k_is | rfl | kernel_rfl)
    (case zz_g_sI => first | k_is | rfl | kernel_rfl)
    (case zz_a_sI => first | k_is | rfl | kernel_rfl)
    (case zz_l_sI => first | k_is | rfl | kernel_rfl)
    (case zz_c_sI => first | k_is | rfl | kernel_rfl)
    (case zz_k_sI => first | k_is | rfl | kernel_rfl)
    (case zz_eX => first | k_is | rfl | kernel_rfl)
    (case zz_eS => first | k_is | rfl | kernel_rfl)
    (case zz_eB => first | k_is | rfl | kernel_rfl)
    (case zz_eT => first | k_is | rfl | kernel_rfl)
    (case zz_eK => first | k_is | rfl | kernel_rfl)
    (case zz_eF => first | k_is | rfl | kernel_rfl)
    (case zz_eN => first | k_is | rfl | kernel_rfl)
    (case zz_eV => first | k_is | rfl | kernel_rfl)
    (case zz_eY => first | k_is | rfl | kernel_rfl)
    (case zz_eE => first | k_is | rfl | kernel_rfl)
    (case zz_pg_sI => first | k_is | rfl | kernel_rfl)
    (case zz_hd_sI => first | k_is | rfl | kernel_rfl)
    (case zz_po_sI => first | k_is | rfl | kernel_rfl)
    (case zz_sa_sI => first | k_is | rfl | kernel_rfl)
    (case zz_mk_sI => first | k_is | rfl | kernel_rfl)
    (case zz_fn_sI => first | k_is | rfl | kernel_rfl)
    (case zz_kp_sI => first | k_is | rfl | kernel_rfl)
    (case zz_no0_sI => first | k_is | rfl | kernel_rfl)
    (case zz_no1_sI => first | k_is | rfl | kernel_rfl)
    (case zz_no2_sI => first | k_is | rfl | kernel_rfl)
    (case zz_z_isinstance => first | k_is | rfl | kernel_rfl)
    (case zz_z_int => first | k_is | rfl | kernel_rfl)
    (case zz_z_bool => first | k_is | rfl | kernel_rfl)
    (case zz_z_str => first | k_is | rfl | kernel_rfl)
    (case zz_z_list => first | k_is | rfl | kernel_rfl)
    (case zz_z_tuple => first | k_is | rfl | kernel_rfl)
    (case zz_z_len => first | k_is | rfl | kernel_rfl)
    (case zz_z_set => first | k_is | rfl | kernel_rfl)
    (case zz_z_all => first | k_is | rfl | kernel_rfl)
    (case zz_z_sorted => first | k_is | rfl | kernel_rfl)
    (case zz_z_range => first | k_is | rfl | kernel_rfl)
    (case zz_z_abs => first | k_is | rfl | kernel_rfl)
    (case zz_z_enumerate => first | k_is | rfl | kernel_rfl)
    (case zz_z_ValueError => first | k_is | rfl | kernel_rfl)
    (case zz_a_CURRENT => first | k_is | rfl | kernel_rfl)
    (case zz_k_CURRENT => first | k_is | rfl | kernel_rfl)
    (case zz_a_POINT => first | k_is | rfl | kernel_rfl)
    (case zz_k_POINT => first | k_is | rfl | kernel_rfl)
    (case zz_a_SLIP => first | k_is | rfl | kernel_rfl)
    (case zz_k_SLIP => first | k_is | rfl | kernel_rfl)
    (case zz_a_TICKS => first | k_is | rfl | kernel_rfl)
    (case zz_k_TICKS => first | k_is | rfl | kernel_rfl)
    (case zz_a_OVER_ELEMENT => first | k_is | rfl | kernel_rfl)
    (case zz_k_OVER_ELEMENT => first | k_is | rfl | kernel_rfl)
    (case zz_a_LAST_ELEMENT => first | k_is | rfl | kernel_rfl)
    (case zz_k_LAST_ELEMENT => first | k_is | rfl | kernel_rfl)
    (case zz_a_NEW_ELEMENT => first | k_is | rfl | kernel_rfl)
    (case zz_k_NEW_ELEMENT => first | k_is | rfl | kernel_rfl)
    (case zz_a_ZONE => first | k_is | rfl | kernel_rfl)
    (case zz_k_ZONE => first | k_is | rfl | kernel_rfl)
    (case zz_a_ROOT => first | k_is | rfl | kernel_rfl)
    (case zz_k_ROOT => first | k_is | rfl | kernel_rfl)
    (case zz_a_SIDE_NAMES => first | k_is | rfl | kernel_rfl)
    (case zz_k_SIDE_NAMES => first | k_is | rfl | kernel_rfl)
    (case zz_nd_SIDE_NAMES => first | k_is | rfl | kernel_rfl)
    (case zz_a_PLACES => first | k_is | rfl | kernel_rfl)
    (case zz_k_PLACES => first | k_is | rfl | kernel_rfl)
    (case zz_a_KINDS => first | k_is | rfl | kernel_rfl)
    (case zz_k_KINDS => first | k_is | rfl | kernel_rfl)
    (case zz_a_SIGHTS => first | k_is | rfl | kernel_rfl)
    (case zz_k_SIGHTS => first | k_is | rfl | kernel_rfl)
    (case zz_a_END_SIGNAL => first | k_is | rfl | kernel_rfl)
    (case zz_k_END_SIGNAL => first | k_is | rfl | kernel_rfl)
    (case zz_a_FIRST_SITUATION => first | k_is | rfl | kernel_rfl)
    (case zz_k_FIRST_SITUATION => first | k_is | rfl | kernel_rfl)
    (case zz_hd_is_choice => first | k_is | rfl | kernel_rfl)
    (case zz_nt_is_choice => first | k_is | rfl | kernel_rfl)
    (case zz_hd_is_possible => first | k_is | rfl | kernel_rfl)
    (case zz_nt_is_possible => first | k_is | rfl | kernel_rfl)

