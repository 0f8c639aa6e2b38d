import PyProof.Rows.All
import Wide.All
import OpenK.AllK
import Wide.FinOn
import HandS.ForMost
import HandS.AnyAll
import HandS.GenList
import HandS.ForExc
import HandS.Star
import HandS.IsInst
import HandS.ExcInit
import HandS.ExcField
import KE.DataEq
import HandS.Zip
import HandS.Strs
import HandS.SortInts
import HandS.Style
import HandS.Comp
import KE.KUnpackStar
import HandS.Walk
import HandS.More
import KE.GoesMore
import HandS.TupSets
import HandS.SortOrd
import HandS.Flow
import HandS.NoneIn
import HandS.TupAny
import HandS.Conv
import HandS.EndTab
import KE.KNestM
import HandS.HeadHook3
import PySem.Challenge.RW_dragtold_k05_stages
set_option Elab.async false
set_option linter.all false
set_option maxRecDepth 100000
set_option maxHeartbeats 8000000
/-! all(test for x in xs), the test by the layer's own rules (it may call defs) -/
namespace Dz
open PySem PySem.Spec PyProof.Rows L2 GxR GenW

/-- where the body of the generator expression runs -/
abbrev gcx (X : Cx) (s : Shared) (H : Hp) (scope : Scope) (cl : List (Str × Addr)) (C : Addr) (code : Value) (fp : List Addr) (A : Around) : Cx :=
  { X with
    A := A
    s_0 := s
    H_0 := H
    env := genEnv scope cl C code builtinsNs X.env
    outer := X.stack
    stack := genEnv scope cl C code builtinsNs X.env :: X.stack
    ex := fp
    fn := fun _ => false
    pn := []
    xe := fun _ _ => False }

section
variable {X : Cx} {pins : List (Addr × Obj)} {σ : L2.St} {H : Hp} {s : Shared}

theorem clo_at {cells : List (Str × Addr)} {names : List (Str × NameKind)} {y : Str} {c : Addr} (hy : (y, NameKind.free) ∈ names) (hc : cells.lookup y = some c) :
    (cloFrom cells names []).lookup y = some c := by
  obtain ⟨c1, e1⟩ := mem_lookup (cloFrom_has (cells := cells) (acc := []) hy)
  rcases cloFrom_mem (PySem.mem_of_lookup e1) with z | ⟨_, z⟩
  · cases z
  · rw [hc] at z
    rw [e1, z]
    rfl
theorem clo_of {cells : List (Str × Addr)} {names : List (Str × NameKind)} {y : Str} {c : Addr} (h : (cloFrom cells names []).lookup y = some c)
    (hf : ∀ z ∈ names, z.2 = .free → ∃ d, cells.lookup z.1 = some d) : cells.lookup y = some c := by
  rcases cloFrom_mem (PySem.mem_of_lookup h) with z | ⟨z1, z2⟩
  · cases z
  · obtain ⟨d, hd⟩ := hf _ z1 rfl
    have hd2 : cells.lookup y = some d := hd
    rw [hd2] at z2
    rw [hd2, z2]
    rfl

/-- the generator's body begins: its frame stands at C, its object at a -/
theorem gen_start {scope : Scope} {x : Str} {i : Nat} {fp : List Addr} {C a : Addr} {code it : Value} {A : Around} {go : Obj} {h1 : Heap} {g1 : Array GenState} {t1 : Nat} (I : Inv X pins σ H s) (hN : X.N.Nodup)
    (ok : BlkOk X.N X.env.scope scope [(x, i)]) (S : GenS X.env scope x) (hfp : ∀ b ∈ fp, FpOk X pins H b ∧ b < s.heap.objs.size) (hA : A.handled = none)
    (hfr : A.frames = some (genEnv scope (cloFrom X.env.cells scope.names []) C code builtinsNs X.env :: X.stack)) (hC : C = s.heap.objs.size)
    (hns : h1.Ns C (fun y => if y = (".0" : Str) then some it else none)) (keep : ∀ b o, s.heap.get? b = some o → h1.get? b = some o) (hg : AllBare g1)
    (ha : h1.get? a = some go) (hga : ∀ v, go.data ≠ .cell v) (hCa : C < a) :
    Inv (gcx X s H scope (cloFrom X.env.cells scope.names []) C code fp A) [(a, go)] (wipe σ [i]) H { s with heap := h1, gens := g1, toks := t1 } := by
  have hcl : ∀ y c, (cloFrom X.env.cells scope.names []).lookup y = some c → X.env.cells.lookup y = some c := fun y c h => clo_of h S.free
  have hlt : ∀ y c, X.env.cells.lookup y = some c → c < s.heap.objs.size := fun y c h => by
    obtain ⟨v, z⟩ := I.cell y c h
    exact z.lt
  have young : ∀ b, s.heap.objs.size ≤ b → H b = none := fun b hb => I.hok.fresh hb
  have nstk : ∀ b, s.heap.objs.size ≤ b → b ∉ frs X.stack := fun b hb hm => by
    rcases List.mem_cons.mp (I.stkSub b hm) with z | z
    · exact absurd (Nat.lt_of_lt_of_le I.lt hb) (by rw [z]; exact Nat.lt_irrefl _)
    · exact I.nofs hb z
  have okX : (gcx X s H scope (cloFrom X.env.cells scope.names []) C code fp A).Ok := by
    refine ⟨I.ok.mod, S.kind, I.ok.glob, rfl, Nat.le_of_eq hC.symm, fun y z c e1 e2 => ?_, fun y hy => ?_, fun y c z _ => ?_, fun _ => hA, hfr, .inr ⟨rfl, rfl⟩, fun b hb => ⟨?_, fun y c e z => ?_⟩, I.bs, Nat.le_trans I.ok.bsz I.sz, fun b o e hb => ?_, fun b hb z => ?_, I.stack, I.stkFree⟩
    · exact I.ok.inj y z c (hcl y c e1) (hcl z c e2)
    · have hy' : scope.names.lookup y = some .cell ∨ scope.names.lookup y = some .free := hy
      rcases hy' with k | k
      · exact absurd rfl (S.cell _ (PySem.mem_of_lookup k))
      · have hm := PySem.mem_of_lookup k
        obtain ⟨c, hc⟩ := S.free _ hm rfl
        exact ⟨c, clo_at hm hc⟩
    · cases z
    · show b ≠ C
      rw [hC]
      exact Nat.ne_of_lt (hfp b hb).2
    · exact (hfp b hb).1.2.2.2.2.1 y c (hcl y c e) z
    · rcases (hfp b hb).1.2.2.2.1 with z | z
      · exact I.ok.noex b o e z
      · have := I.ok.bs b o e
        exact absurd (Nat.lt_of_lt_of_le (Heap.lt_size this.1) z) (Nat.lt_irrefl _)
    · have hz : b ∈ frs X.stack := z
      rcases List.mem_cons.mp (I.stkSub b hz) with q | q
      · exact (hfp b hb).1.2.1 q
      · exact (hfp b hb).1.2.2.1 q
  have kC : ∀ c, c < s.heap.objs.size → c ≠ C := fun c h z => by
    rw [hC] at z
    rw [z] at h
    exact Nat.lt_irrefl _ h
  refine ⟨okX, rfl, hg, Un.kept keep, ⟨_, hns, fun j y v e1 e2 e3 => ?_⟩, fun y c e => ?_, young C (Nat.le_of_eq hC.symm), fun y c e => I.freeC y c (hcl y c e), fun p hp => ?_, I.hok.kept keep, by rw [wipe_length]; exact I.len⟩
  · obtain ⟨e4, e5⟩ := wipe_some e2
    have e1' : X.N[j]? = some y := e1
    have e3' : Vis scope y := e3
    rcases e3' with k | k | k
    · exfalso
      rcases ok.own _ (PySem.mem_of_lookup k) (.inl rfl) with z | z
      · have hx : y = x := by simpa using z
        have hi := ok.ix (x, i) (List.mem_singleton.mpr rfl)
        rw [hx] at e1'
        exact e5 (List.mem_singleton.mpr (nodup_ix hN e1' hi))
      · exact z (List.mem_of_getElem? e1')
    · exact absurd rfl (S.cell _ (PySem.mem_of_lookup k))
    · have hm := PySem.mem_of_lookup k
      obtain ⟨mX, _, hl⟩ := I.loc
      have kx := ok.free _ hm rfl
      have kx' : X.env.scope.names.lookup y = some .cell ∨ X.env.scope.names.lookup y = some .free := kx
      obtain ⟨u, r, l⟩ := hl j y v e1' e4 (.inr kx')
      refine ⟨u, r, .inr ⟨.inr k, ?_⟩⟩
      rcases l with ⟨kl, _⟩ | ⟨_, c, hc, hcell⟩
      · have kl' : X.env.scope.names.lookup y = some .local := kl
        rcases kx' with q | q <;> rw [q] at kl' <;> cases kl'
      · obtain ⟨o, ho, hd⟩ := hcell
        exact ⟨c, clo_at hm hc, o, keep c o ho, hd⟩
  · obtain ⟨v, o, ho, hd⟩ := I.cell y c (hcl y c e)
    exact ⟨v, o, keep c o ho, hd⟩
  · have hp' : p = (a, go) := List.mem_singleton.mp hp
    subst hp'
    have hs : s.heap.objs.size ≤ a := by rw [← hC]; exact Nat.le_of_lt hCa
    exact ⟨ha, young a hs, Nat.ne_of_gt hCa, nstk a hs, hga⟩
end

/-- between two turns the consumer leaves all but the table of generators -/
structure Idle (s s' : Shared) : Prop where
  heap : s'.heap = s.heap
  os : s'.os = s.os
  bare : AllBare s'.gens

section
variable {Xg : Cx} {a : Addr} {go : Obj} {σ0 : L2.St} {fp : List Addr} {tn : Nat → Heap → Prop} {n : Nat} {W : Nat → Hp → Prop} {TT FF : Hp → Prop}

/-- the generator stands before its turn j -/
def GSt (Xg : Cx) (a : Addr) (go : Obj) (σ0 : L2.St) (fp : List Addr) (tn : Nat → Heap → Prop) (j : Nat) (H : Hp) (s : Shared) : Prop :=
  Inv Xg [(a, go)] σ0 H s ∧ tn j s.heap ∧ ∀ b ∈ fp, H b = none
theorem GSt.idle {j : Nat} {H : Hp} {s s' : Shared} (h : GSt Xg a go σ0 fp tn j H s) (z : Idle s s') : GSt Xg a go σ0 fp tn j H s' := by
  obtain ⟨I, t, f⟩ := h
  have kp : ∀ b o, s.heap.get? b = some o → s'.heap.get? b = some o := fun b o e => by rw [z.heap]; exact e
  refine ⟨I.call' (ch := []) z.os (Un.kept kp) (I.hok.kept kp) z.bare fun b hb => absurd hb (by simp), by rw [z.heap]; exact t, f⟩

def GYp (Xg : Cx) (a : Addr) (go : Obj) (σ0 : L2.St) (fp : List Addr) (tn : Nat → Heap → Prop) (n : Nat) (W : Nat → Hp → Prop) (FF : Hp → Prop) : Protocol := fun m _ v s kap =>
  ∃ (j : Nat) (H : Hp) (b : Bool), j < n ∧ j + m = n ∧ v = .bool b ∧ GSt Xg a go σ0 fp tn (j + 1) H s ∧ (b = true → W (j + 1) H ∧ ∀ s', Idle s s' → kap (.send .none) s') ∧ (b = false → FF H)
def GRp (Xg : Cx) (a : Addr) (go : Obj) (σ0 : L2.St) (fp : List Addr) (TT : Hp → Prop) (m : Nat) (s : Shared) : Prop := m = 1 ∧ ∃ H, Inv Xg [(a, go)] σ0 H s ∧ TT H

theorem gen_loop {A : Around} {elt iter : Expr} {x : Str} {px pos : Pos} {scope : Scope} {it : Addr} {J : It} {i : Nat} {te : TE} (hc : Xg.calm = true) (hco : Xg.env.scope.isCoroutine = false)
    (hov : A.over (.compLoop (.GeneratorExp elt [⟨.Name x px, iter, [], 0⟩] scope pos) 0 (.ref it) .none Xg.env) [] = Xg.A)
    (T : Turn Xg.prog Xg.w Xg.K (.Name x px) J fp it tn) (pg : PG Xg (.Name x px) (gName i)) (he : PE Xg elt te) (hw0 : wipe σ0 [i] = σ0) (hfp : Xg.ex = fp) (hpn : Xg.pn = []) (hfa : a ∉ fp) (hxe : ∀ e s', Xg.xe e s' → False)
    (turn : ∀ j H, W j H → (j = n → J.stop j H ∧ TT H) ∧ (j < n → J.go j H ∧ ∀ y H', J.yld j H y H' → te (σ0.set i (some y)) H' fun v H2 => ∃ b, v = .bl b ∧ if b = true then W (j + 1) H2 else FF H2)) :
    ∀ (k j : Nat) (s₀ : Shared) (H : Hp) (s : Shared), n - j = k → j ≤ n → GSt Xg a go σ0 fp tn j H s → W j H →
      Seg (model Xg.prog Xg.w) A (fun m _ r s1 => r = .ok .next ∧ GRp Xg a go σ0 fp TT m s1) (GYp Xg a go σ0 fp tn n W FF) (k + 1) s₀ (.compLoop (.GeneratorExp elt [⟨.Name x px, iter, [], 0⟩] scope pos) 0 (.ref it) .none Xg.env)
        ((model Xg.prog Xg.w).den (.compLoop (.GeneratorExp elt [⟨.Name x px, iter, [], 0⟩] scope pos) 0 (.ref it) .none Xg.env)) [] s := by
  have stat : ∀ {ps : List (Addr × Obj)} {σ' : L2.St} {H' : Hp} {s' : Shared}, Inv Xg ps σ' H' s' → (∀ p ∈ ps, p.1 ∉ fp) → (∀ b ∈ fp, H' b = none) → ∀ b ∈ fp, FpOk Xg ps H' b := fun {ps σ' H' s'} I' hps hn b hb => by
    have hb' : b ∈ Xg.ex := by rw [hfp]; exact hb
    refine ⟨hn b hb, (I'.ok.exf b hb').1, I'.ok.exfs b hb', .inl hb', fun y c e => (I'.ok.exf b hb').2 y c e, fun p hp z => ?_⟩
    rw [hpn] at hp
    have hp' : p ∈ ps := by simpa using hp
    exact hps p hp' (by rw [z]; exact hb)
  have one : ∀ p ∈ [(a, go)], p.1 ∉ fp := fun p hp => by
    rw [List.mem_singleton.mp hp]
    exact hfa
  intro k
  induction k with
  | zero =>
    intro j s₀ H s hk hj ⟨I, st, fr⟩ w
    have e : j = n := by omega
    obtain ⟨stop, tt⟩ := (turn j H w).1 e
    show Seg _ A _ _ _ s₀ _ ((compTurn (.GeneratorExp elt [⟨.Name x px, iter, [], 0⟩] scope pos) 0 (.ref it) .none Xg.env).onRaise (leaving Xg.env)) [] s
    simp only [compTurn_gen, Sem.onRaise_eq_wrap]
    refine seg_bind_wrap (wpAny_standAt (seg_bind_wrap ?_))
    rw [hov]
    refine wpAny_mono (T.done Xg rfl rfl rfl hc j [(a, go)] s σ0 H _ I (stat I one fr) st stop) (fun r s1 h1 => ?_) fun _ _ z => z
    obtain ⟨hr, I1⟩ := h1
    subst hr
    exact seg_end (.ok .next) ⟨rfl, rfl, H, I1, tt⟩
  | succ k ih =>
    intro j s₀ H s hk hj ⟨I, st, fr⟩ w
    have hlt : j < n := by omega
    obtain ⟨go', step⟩ := (turn j H w).2 hlt
    show Seg _ A _ _ _ s₀ _ ((compTurn (.GeneratorExp elt [⟨.Name x px, iter, [], 0⟩] scope pos) 0 (.ref it) .none Xg.env).onRaise (leaving Xg.env)) [] s
    simp only [compTurn_gen, Sem.onRaise_eq_wrap]
    refine seg_bind_wrap (wpAny_standAt (seg_bind_wrap ?_))
    rw [hov]
    refine wpAny_mono (T.item Xg rfl rfl rfl hc j [(a, go)] s σ0 H (fun _ _ => False) I (stat I one fr) st go') (fun r s1 h1 => ?_) fun _ _ z => z.elim
    obtain ⟨u, hr, h1⟩ := h1
    subst hr
    refine seg_bind_wrap ?_
    rw [hov]
    refine wpAny_mono h1 (fun _ s2 h2 => ?_) fun _ _ z => z.elim
    obtain ⟨y, H2, I2, r2, y2, st2, fr2⟩ := h2
    have I2' := I2.pinned (stat I2 one fr2) (T.obj _ _ st2)
    refine seg_bind_wrap ?_
    rw [hov]
    have hy2 := step y H2 y2
    refine wpAny_mono (pg.run _ s2 σ0 H2 y u (fun σ3 H3 => σ3 = σ0.set i (some y) ∧ H3 = H2) I2' r2 ⟨rfl, rfl⟩) (fun _ s3 h3 => ?_) ?_
    · obtain ⟨σ3, H3, I3, e3, e4⟩ := h3
      subst e3 e4
      simp only [List.forIn_nil]
      refine seg_bind_wrap (wpAny_pure ?_)
      have hy : ∀ v, yieldOut Xg.env v = yieldValue v := fun v => by unfold yieldOut; simp only [hco, Bool.false_eq_true, if_false]
      simp only [if_true, hy, Sem.bind_eq_wrap', Sem.wrap_wrap]
      refine seg_wrap ?_
      rw [hov]
      refine wpAny_mono (he.run _ s3 _ _ _ I3 hy2) (fun v s4 h4 => ?_) fun e s' z => (hxe e s' z).elim
      obtain ⟨vv, H4, I4, r4, b, eb, q4⟩ := h4
      subst eb
      obtain rfl : v = Value.bool b := r4
      have pinAt : ∀ c ∈ fp, ∀ o, s2.heap.get? c = some o → s4.heap.get? c = some o ∧ H4 c = none := fun c hcm o e =>
        let z := I4.pin (c, o) (List.mem_append_right _ (List.mem_append_right _ (mem_pinsAt hcm e)))
        ⟨z.1, z.2.1⟩
      have st4 : tn (j + 1) s4.heap := T.keep _ _ _ st2 fun c hcm o e => (pinAt c hcm o e).1
      have I5 : Inv Xg [(a, go)] σ0 H4 s4 := I4.unpinned.weak (by rw [List.length_set]) fun m v e => by
        by_cases z : i = m
        · subst z
          rw [← hw0] at e
          exact absurd ((wipe_some e).2) (by simp)
        · rw [List.getElem?_set_ne z]
          exact e
      have G4 : GSt Xg a go σ0 fp tn (j + 1) H4 s4 := ⟨I5, st4, fun c hcm => by
        obtain ⟨o, e, _⟩ := T.obj _ _ st2 c hcm
        exact (pinAt c hcm o e).2⟩
      refine seg_at (seg_yield rfl rfl rfl ⟨j, H4, b, hlt, by omega, rfl, G4, fun hb => ?_, fun hb => ?_⟩)
      · subst hb
        have w4 : W (j + 1) H4 := by rw [if_pos rfl] at q4; exact q4
        refine ⟨w4, fun s5 z => ?_⟩
        exact seg_again rfl (ih (j + 1) s5 H4 s5 (by omega) hlt (G4.idle z) w4)
      · subst hb
        rw [if_neg (by decide)] at q4
        exact q4
    · exact fun e s' z => (hxe e s' z).elim

/-- .. from its start -/
theorem gen_begin {A : Around} {elt iter : Expr} {x : Str} {px pos : Pos} {scope : Scope} {it : Addr} {J : It} {i : Nat} {te : TE} (hc : Xg.calm = true) (hco : Xg.env.scope.isCoroutine = false)
    (hov : A.over (.compLoop (.GeneratorExp elt [⟨.Name x px, iter, [], 0⟩] scope pos) 0 (.ref it) .none Xg.env) [] = Xg.A) (hov1 : A.over (.compStart (.GeneratorExp elt [⟨.Name x px, iter, [], 0⟩] scope pos) 0 (.ref it) .none Xg.env) [] = Xg.A)
    (T : Turn Xg.prog Xg.w Xg.K (.Name x px) J fp it tn) (pg : PG Xg (.Name x px) (gName i)) (he : PE Xg elt te) (hw0 : wipe σ0 [i] = σ0) (hfp : Xg.ex = fp) (hpn : Xg.pn = []) (hfa : a ∉ fp) (hxe : ∀ e s', Xg.xe e s' → False)
    (turn : ∀ j H, W j H → (j = n → J.stop j H ∧ TT H) ∧ (j < n → J.go j H ∧ ∀ y H', J.yld j H y H' → te (σ0.set i (some y)) H' fun v H2 => ∃ b, v = .bl b ∧ if b = true then W (j + 1) H2 else FF H2))
    (s₀ : Shared) (H : Hp) (s : Shared) (G : GSt Xg a go σ0 fp tn 0 H s) (w : W 0 H) :
    Seg (model Xg.prog Xg.w) A (fun m _ r s1 => r = .ok .next ∧ GRp Xg a go σ0 fp TT m s1) (GYp Xg a go σ0 fp tn n W FF) (n + 1) s₀ (.compStart (.GeneratorExp elt [⟨.Name x px, iter, [], 0⟩] scope pos) 0 (.ref it) .none Xg.env)
      ((model Xg.prog Xg.w).den (.compStart (.GeneratorExp elt [⟨.Name x px, iter, [], 0⟩] scope pos) 0 (.ref it) .none Xg.env)) [] s := by
  have loop := gen_loop (n := n) (W := W) (TT := TT) (FF := FF) (s₀ := s₀) hc hco hov T pg he hw0 hfp hpn hfa hxe turn n 0 H s (Nat.sub_zero _) (Nat.zero_le _) G w
  show Seg _ A _ _ _ s₀ _ ((compStart (.GeneratorExp elt [⟨.Name x px, iter, [], 0⟩] scope pos) 0 (.ref it) .none Xg.env).onRaise (leaving Xg.env)) [] s
  unfold compStart
  simp only [Sem.onRaise_eq_wrap]
  show Seg _ A _ _ _ s₀ _ ((ask >>= _).wrap _ _ _ _) [] s
  refine seg_bind_wrap (wpAny_askSetting ?_)
  split
  · exact seg_again rfl loop
  · refine seg_bind_wrap (wpAny_rule ?_)
    first
      | (refine seg_bind_wrap (wpAny_standAt (seg_bind_wrap ?_)); rw [hov1]; exact T.self _ 0 s _ _ G.2.1 (seg_again rfl loop))
      | (show Seg _ A _ _ _ s₀ _ ((standAt iter.pos >>= _).wrap _ _ _ _) [] s; refine seg_bind_wrap (wpAny_standAt (seg_bind_wrap ?_)); rw [hov1]; exact T.self _ 0 s _ _ G.2.1 (seg_again rfl loop))

/-- what the consumer holds before turn j -/
def Held (A1 : Around) (Xg : Cx) (a : Addr) (g : Nat) (go : Obj) (σ0 : L2.St) (fp : List Addr) (tn : Nat → Heap → Prop) (n : Nat) (W : Nat → Hp → Prop) (TT FF : Hp → Prop) (j : Nat) (s : Shared) : Prop :=
  ∃ H gs, GSt Xg a go σ0 fp tn j H s ∧ s.gens[g]? = some gs ∧ ∀ s', Idle s s' → gs.Goes (model Xg.prog Xg.w) A1 (fun m _ r s1 => r = .ok .next ∧ GRp Xg a go σ0 fp TT m s1) (GYp Xg a go σ0 fp tn n W FF) (n - j + 1) (.send .none) s'

theorem idle_gen {s : Shared} {g : Nat} {x : GenState} (h : AllBare s.gens) (hx : x.bare = true) : Idle s (s.setGen g x) := ⟨rfl, rfl, allBare_setGen h hx⟩

theorem all_turns {A : Around} {g : Nat} {R : Result → Shared → Prop} (hh : A.handled = none) (hroom : A.depth < recursionLimit) (hgo : ∀ h : Heap, h.get? a = some go → h.IsGen a g)
    (hT : ∀ H s s', Inv Xg [(a, go)] σ0 H s → TT H → s'.os = s.os → AllBare s'.gens → (∀ b o, s.heap.get? b = some o → s'.heap.get? b = some o) → R (.ok (.ret (.bool true))) s')
    (hF : ∀ H s s', Inv Xg [(a, go)] σ0 H s → FF H → s'.os = s.os → AllBare s'.gens → (∀ b o, s.heap.get? b = some o → s'.heap.get? b = some o) → R (.ok (.ret (.bool false))) s') :
    ∀ (k j : Nat) (s : Shared), n - j = k → j ≤ n → Held A.in1.in1 Xg a g go σ0 fp tn n W TT FF j s → codeAny (model Xg.prog Xg.w) A (.builtin "all.loop" ⟨[.ref a], []⟩) R s := by
  have gen_at : ∀ {j : Nat} {H : Hp} {s : Shared}, GSt Xg a go σ0 fp tn j H s → s.heap.IsGen a g := fun {j H s} G => hgo _ (G.1.pin (a, go) (by simp)).1
  intro k
  induction k with
  | zero =>
    intro j s hk hj ⟨H, gs, G, hgs, hgg⟩
    have hgen := gen_at G
    have e : n - j = 0 := hk
    rw [e] at hgg
    refine codeAny_builtin F.entry_all_loop ?_
    rw [Around.under_plainId F.plain_all_loop _]
    show wpAny _ A.in1 (pyNext (.ref a) >>= _) _ _ s
    refine wpAny_bind (wpAny_pyNext_genexpQ (P := fun m _ s1 => GRp Xg a go σ0 fp TT m s1) hh G.1.nolimit hroom hgen hgs (hgg _ (idle_gen G.1.bare rfl)) (fun v s₁ gs' hb hv => ?_) (fun s₁ hp h' hk => ?_))
    · exfalso
      obtain ⟨j2, H2, b, e1, e2, _⟩ := hv
      omega
    · obtain ⟨_, H1, I1, t1⟩ := hp
      exact wpAny_bind (wpAny_rule (wpAny_pure (hT H1 s₁ _ I1 t1 rfl (allBare_setGen I1.bare rfl) hk)))
  | succ k ih =>
    intro j s hk hj ⟨H, gs, G, hgs, hgg⟩
    have hgen := gen_at G
    have e : n - j = k + 1 := hk
    rw [e] at hgg
    refine codeAny_builtin F.entry_all_loop ?_
    rw [Around.under_plainId F.plain_all_loop _]
    show wpAny _ A.in1 (pyNext (.ref a) >>= _) _ _ s
    have hgl : g + 1 ≤ s.gens.size := (Array.getElem?_eq_some_iff.mp hgs).1
    refine wpAny_bind (wpAny_gsz (n := g + 1) hgl (wpAny_pyNext_genexpQ (P := fun m _ s1 => GRp Xg a go σ0 fp TT m s1) hh G.1.nolimit hroom hgen hgs (hgg _ (idle_gen G.1.bare rfl)) (fun v s₁ gs' hb hv hsz => ?_) (fun s₁ hp h' hk => ?_)))
    · obtain ⟨j2, H2, b, e1, e2, ev, G2, ht, hf⟩ := hv
      subst ev
      have ej : j2 = j := by omega
      subst ej
      refine wpAny_bind (wpAny_holding (wpAny_truthy_bool (wpAny_bind (wpAny_letGo ?_))))
      cases b with
      | true =>
        obtain ⟨w2, kap⟩ := ht rfl
        simp only [if_true]
        refine wpAny_pure ⟨plainId_quiet F.plain_all_loop _, ih (j2 + 1) _ (by omega) e1 ⟨H2, gs', G2.idle (idle_gen G2.1.bare hb), ?_, fun s' z => ?_⟩⟩
        · refine setGen_at ?_
          rw [setGen_size] at hsz
          exact hsz
        · have e3 : n - (j2 + 1) + 1 = k + 1 := by omega
          rw [e3]
          exact kap s' ⟨z.heap, z.os, z.bare⟩
      | false =>
        simp only [Bool.false_eq_true, if_false]
        exact wpAny_bind (wpAny_rule (wpAny_pure (hF H2 s₁ _ G2.1 (hf rfl) rfl (allBare_setGen G2.1.bare hb) fun _ _ e => e)))
    · exfalso
      obtain ⟨e1, _⟩ := hp
      omega
end

/-- what the text of the generator expression's scope shows -/
structure GOk (scope : Scope) (x : Str) : Prop where
  kind : scope.kind = .function
  co : scope.isCoroutine = false
  cell : ∀ y ∈ scope.names, y.2 ≠ .cell
  dot : scope.names.lookup (".0" : Str) = some NameKind.local
  loc : scope.names.lookup x = some .local

section
variable {X : Cx}
/-- all(e for x in ..): W before each turn; the test's answer true leads to W again, false to the end -/
def tAllG (P : Addr) (wi : TI) (te : TE) (i : Nat) : TE := fun σ H Q => wi σ H fun J H1 => TabG H1 P ∧ ∀ H2, Tabbed P H1 H2 → ∃ (n : Nat) (W : Nat → Hp → Prop), W 0 H2 ∧
  ∀ j H, W j H → (j = n → J.stop j H ∧ Q (.bl true) H) ∧ (j < n → J.go j H ∧ ∀ y H', J.yld j H y H' → te ((wipe σ [i]).set i (some y)) H' fun v H3 => ∃ b, v = .bl b ∧ if b = true then W (j + 1) H3 else Q (.bl false) H3)

theorem over_same {A : Around} {e : Expr} {g : List Comprehension} {scope : Scope} {pos : Pos} {it : Value} {env : Env} :
    A.over (.compStart (.GeneratorExp e g scope pos) 0 it .none env) [] = A.over (.compLoop (.GeneratorExp e g scope pos) 0 it .none env) [] := rfl
theorem over_frames {A : Around} {e : Expr} {g : List Comprehension} {scope : Scope} {pos : Pos} {it : Value} {env : Env} {l : List Env} (h : A.frames = some l) :
    (A.over (.compLoop (.GeneratorExp e g scope pos) 0 it .none env) []).frames = some (env :: l) := by
  show pushEnvs [env] (pushEnvs [] A.frames) = some (env :: l)
  rw [h]
  rfl
theorem over_room {A : Around} {e : Expr} {g : List Comprehension} {scope : Scope} {pos : Pos} {it : Value} {env : Env} {k : Nat} (h : Room (k + 1) A) :
    Room k (A.in1.in1.over (.compLoop (.GeneratorExp e g scope pos) 0 it .none env) []) := by
  refine ⟨h.hd, ?_, ?_⟩
  · have := h.dp
    show A.depth + 0 + 1 + 3 * k + 5 < recursionLimit
    omega
  · have := h.un
    show A.units + 1 + 1 + 0 + 3 + 16 * k + 200 < cLine
    omega

theorem pe_allG {c P : Addr} {elt iter : Expr} {x : Str} {px p pos gpos : Pos} {scope : Scope} {i k : Nat} {wi : TI} {te : TE} (hc : X.calm = true) (hr : Room (k + 1) X.A) (hN : X.N.Nodup) (hg : Gl X "all") (hm : X.mg "all" = none)
    (TB : TabB X.base X.mg c P) (hcode : X.env.code = .ref c) (ok : BlkOk X.N X.env.scope scope [(x, i)]) (go : GOk scope x) (hi : PI X (.Name x px) iter wi)
    (he : ∀ (s : Shared) (H : Hp) (cl : List (Str × Addr)) (C : Addr) (code : Value) (fp : List Addr) (A' : Around), Room k A' → PE (gcx X s H scope cl C code fp A') elt te)
    (hs : ∀ v, genFold iter X.env v = pure v := by intro _; rfl)
    (hst : starEach [.GeneratorExp elt [⟨.Name x px, iter, [], 0⟩] scope gpos] X.env = (false, eval (.GeneratorExp elt [⟨.Name x px, iter, [], 0⟩] scope gpos) X.env) :: starEach [] X.env := by rfl) :
    PE X (.Call (.Name "all" p) [.GeneratorExp elt [⟨.Name x px, iter, [], 0⟩] scope gpos] [] pos) (tAllG P wi te i) := by
  refine ⟨fun pins s σ H Q I h => ?_⟩
  have hfree : ∀ y ∈ scope.names, y.2 = .free → ∃ d, X.env.cells.lookup y.1 = some d := fun y hy e => by
    rcases ok.free y hy e with q | q
    · exact I.ok.has _ (.inl q)
    · exact I.ok.has _ (.inr q)
  have S : GenS X.env scope x := ⟨go.kind, go.co, go.cell, go.dot, go.loc, hfree⟩
  refine wpAny_Call_Name_kw (ld_blt I hg hm (show bootBuiltins "all" = some (.builtin "all") by decide +kernel) ?_)
  refine PyProof.Rows.callWith_builtin1 ?_ hst (by rfl)
  rw [hst]
  show wpAny _ _ (spliced ((false, eval (.GeneratorExp elt [⟨.Name x px, iter, [], 0⟩] scope gpos) X.env) :: backTo pos (starEach [] X.env))) _ _ s
  refine Calls.spliced_cons ?_
  refine wpAny_GeneratorExp_make S.co (closure_ok S.free) S.cell S.dot S.kind (by have := hr.dp; omega) ?_ hs
  refine thn (hi.run pins s σ H _ I h) fun xv s1 hx => thn hx fun itv s2 h2 => ?_
  obtain ⟨it, fp, tn, J, H2, e, I2, T, st2, f2, ⟨ps, hP, htr⟩, q⟩ := h2
  subst e
  refine ⟨I2.nolimit, ?_⟩
  have hPs : s2.heap.get? P = some { cls := .none, data := .fields ps } := I2.hok P _ hP
  have cd : PySem.W.CodeHd s2.heap c P := TB.code.keeps fun b u e => I2.bk b u e
  -- behind the code object: the table at P may have grown
  have cont : ∀ (code : Value) (h3 : Heap) (tk : Nat) (more : Array Value), Heap.ExtBut P s2.heap h3 → s2.heap.objs.size ≤ h3.objs.size → h3.get? P = some { cls := .none, data := .fields (ps ++ more) } → TriplesOk (ps ++ more).toList →
      wpAny (model X.prog X.w) X.A (builtinsFor X.env.globals X.env.builtins) (fun bi s₄ =>
        ∀ h', h'.Ns s₄.heap.objs.size (fun y => if y = ".0" then some (.ref it) else none) → Heap.SameBut s₄.heap.objs.size (s₄.heap.push { cls := .type "frame", data := .dict #[] }) h' →
          wpAny (model X.prog X.w) X.A (spliced (backTo pos (starEach [] X.env))) (fun us s5 => wpAny (model X.prog X.w) X.A (call (.builtin "all") (.ref h'.objs.size :: us)) (EP X pins σ Q) X.xe s5) X.xe { s₄ with
            gens := s₄.gens.push (.fresh (.compStart (.GeneratorExp elt [⟨.Name x px, iter, [], 0⟩] scope gpos) 0 (.ref it) .none (genEnv scope (cloFrom X.env.cells scope.names []) s₄.heap.objs.size code bi X.env))),
            toks := s₄.toks + 1 + 1 + 1,
            heap := h'.push { cls := .type "generator", data := .fields #[.int s₄.gens.size 0, .str "<genexpr>" (s₄.toks + 1), .str (X.env.qual ++ "<genexpr>") (s₄.toks + 1 + 1)] } }) X.xe { s2 with heap := h3, toks := tk } := by
    intro code h3 tk more hx3 hsz hP3 htr3
    obtain ⟨bm, ob, e1, e2, e3, e4, e5, e6, e7, e8⟩ := TB.bm
    have keep3 : ∀ b u, b ≠ P → s2.heap.get? b = some u → h3.get? b = some u := fun b u hb e => hx3 b u hb e
    have nsG : h3.Ns mainGlobals X.mg := by
      obtain ⟨o, es, ep, ho, r⟩ := I2.mod.glob.keeps I2.bk
      exact ⟨o, es, ep, hx3 _ _ TB.gP ho, r⟩
    refine wpAny_builtinsFor (m := X.mg) (by rw [I2.ok.glob]; exact nsG) e1 e2 (keep3 _ _ e4 (I2.bk _ _ e5)) e6 e7 e8 ?_
    intro h' hns' hsb
    refine Calls.spliced_nil ?_
    have hsz' : h'.objs.size = h3.objs.size + 1 := by rw [hsb.1]; exact Heap.size_push ..
    -- the caller's state, the table grown
    have I4 : Inv X pins σ (upd H2 P (.tbl (ps ++ more))) { s2 with heap := h3, gens := s2.gens, drawn := s2.drawn, toks := tk } := inv_tab I2 hP keep3 hP3 I2.bare
    obtain ⟨n, W, w0, turn⟩ := q (upd H2 P (.tbl (ps ++ more))) ⟨⟨ps ++ more, upd_same, htr3⟩, fun b hb => upd_ne hb⟩
    generalize hHn : upd H2 P (.tbl (ps ++ more)) = Hn at I4 w0
    have fpP : ∀ b ∈ fp, b ≠ P := fun b hb z => by
      have := (f2 b hb).1
      rw [z, hP] at this
      cases this
    have hfp : ∀ b ∈ fp, FpOk X pins Hn b ∧ b < h3.objs.size := fun b hb => by
      refine ⟨⟨?_, (f2 b hb).2⟩, ?_⟩
      · rw [← hHn, upd_ne (fpP b hb)]
        exact (f2 b hb).1
      · obtain ⟨o, ho, _⟩ := T.obj _ _ st2 b hb
        exact Nat.lt_of_lt_of_le (Heap.lt_size ho) hsz
    have kp : ∀ (go : Obj) (b : Addr) (o : Obj), h3.get? b = some o → (h'.push go).get? b = some o := fun go b o e => by
      refine Heap.get?_push_of_some _ ?_
      rw [hsb.2 b (Nat.ne_of_lt (Heap.lt_size e))]
      exact Heap.get?_push_of_some _ e
    have main : ∀ (go : Obj) (nm qn : Value) (tk2 : Nat), go.cls = .type "generator" → go.data = .fields #[.int s2.gens.size 0, nm, qn] → go.slots = #[] → (h'.push go).get? h'.objs.size = some go →
        wpAny (model X.prog X.w) X.A (call (.builtin "all") [.ref h'.objs.size]) (EP X pins σ Q) X.xe { s2 with
          gens := s2.gens.push (.fresh (.compStart (.GeneratorExp elt [⟨.Name x px, iter, [], 0⟩] scope gpos) 0 (.ref it) .none (genEnv scope (cloFrom X.env.cells scope.names []) h3.objs.size code builtinsNs X.env)))
          toks := tk2
          heap := h'.push go } := by
      intro gob nm qn tk2 gc gd gs0 gat
      have fr0 := over_frames (A := X.A.in1.in1) (e := elt) (g := [⟨.Name x px, iter, [], 0⟩]) (scope := scope) (pos := gpos) (it := .ref it) (env := genEnv scope (cloFrom X.env.cells scope.names []) h3.objs.size code builtinsNs X.env) (show X.A.in1.in1.frames = some X.stack from I2.ok.frames)
      have rm0 := over_room (A := X.A) (e := elt) (g := [⟨.Name x px, iter, [], 0⟩]) (scope := scope) (pos := gpos) (it := .ref it) (env := genEnv scope (cloFrom X.env.cells scope.names []) h3.objs.size code builtinsNs X.env) hr
      generalize hA' : X.A.in1.in1.over (.compLoop (.GeneratorExp elt [⟨.Name x px, iter, [], 0⟩] scope gpos) 0 (.ref it) .none (genEnv scope (cloFrom X.env.cells scope.names []) h3.objs.size code builtinsNs X.env)) [] = A' at fr0 rm0
      have J0 := gen_start (x := x) (i := i) (fp := fp) (C := h3.objs.size) (a := h'.objs.size) (code := code) (it := .ref it) (A := A') (go := gob) (h1 := h'.push gob) (g1 := s2.gens.push (.fresh (.compStart (.GeneratorExp elt [⟨.Name x px, iter, [], 0⟩] scope gpos) 0 (.ref it) .none (genEnv scope (cloFrom X.env.cells scope.names []) h3.objs.size code builtinsNs X.env)))) (t1 := tk2)
        I4 hN ok S hfp rm0.hd fr0 rfl (hns'.push gob) (kp gob) (I2.bare.push rfl) gat (fun v z => by rw [gd] at z; cases z) (by rw [hsz']; exact Nat.lt_succ_self _)
      have st0 : tn 0 (h'.push gob) := T.keep _ _ _ st2 fun b hb o e => kp gob b o (keep3 b o (fpP b hb) e)
      have nfp : ∀ b ∈ fp, Hn b = none := fun b hb => (hfp b hb).1.1
      have hfa : h'.objs.size ∉ fp := fun z => by
        have := (hfp _ z).2
        rw [hsz'] at this
        exact absurd (Nat.lt_of_succ_lt this) (Nat.lt_irrefl _)
      have back : ∀ (H9 : Hp) (s8 s9 : Shared) (b : Bool), Inv (gcx X { s2 with heap := h3, gens := s2.gens, drawn := s2.drawn, toks := tk } Hn scope (cloFrom X.env.cells scope.names []) h3.objs.size code fp A') [(h'.objs.size, gob)] (wipe σ [i]) H9 s8 →
          Q (.bl b) H9 → s9.os = s8.os → AllBare s9.gens → (∀ c o, s8.heap.get? c = some o → s9.heap.get? c = some o) → EP X pins σ Q (.bool b) s9 := fun H9 s8 s9 b I8 q8 ho hb9 k9 => by
        have os8 : s8.os = s2.os := I8.os
        have un8 : Un (frs X.stack) fp Hn H9 h3 s8.heap := I8.base
        have I9 : Inv X pins σ H9 s9 := I4.call' (ch := fp) (ho.trans os8) (un8.trans (Un.kept k9)) (I8.hok.kept k9) hb9 fun c hc9 => by
          obtain ⟨_, z1, z2, z3, z4, z5⟩ := (hfp c hc9).1
          exact ⟨z3, z1, z4, z5⟩
        exact ⟨.bl b, H9, I9, rfl, q8⟩
      refine call_function_tree F.kind_all F.plain_all F.entry_all (F.args_all1 _) ?_
      unfold Builtin.«all»
      refine wpAny_bind (m := oneArg "all" _) (wpAny_pure ?_)
      have isg : ∀ h : Heap, h.get? h'.objs.size = some gob → h.IsGen h'.objs.size s2.gens.size := fun h e => ⟨gob, nm, qn, e, gc, gd, gs0⟩
      refine wpAny_bind (wpAny_pyIter_gen (isg _ gat) ?_)
      refine wpAny_pure ⟨plainId_quiet F.plain_all_loop _, ?_⟩
      refine all_turns (Xg := gcx X { s2 with heap := h3, gens := s2.gens, drawn := s2.drawn, toks := tk } Hn scope (cloFrom X.env.cells scope.names []) h3.objs.size code fp A') (a := h'.objs.size) (go := gob) (σ0 := wipe σ [i]) (fp := fp) (tn := tn) (n := n) (W := W)
        (TT := fun H9 => Q (.bl true) H9) (FF := fun H9 => Q (.bl false) H9) hr.hd (by have := hr.dp; omega) isg (fun H9 s8 s9 I8 q8 ho hb9 k9 => back H9 s8 s9 true I8 q8 ho hb9 k9) (fun H9 s8 s9 I8 q8 ho hb9 k9 => back H9 s8 s9 false I8 q8 ho hb9 k9)
        n 0 _ (Nat.sub_zero _) (Nat.zero_le _) ⟨Hn, _, ⟨J0, st0, nfp⟩, Array.getElem?_push_size .., fun s' z => ?_⟩
      refine ⟨rfl, ?_⟩
      have ww : wipe (wipe σ [i]) [i] = wipe σ [i] := by
        show (σ.set i none).set i none = σ.set i none
        rw [List.set_set]
      have G' : GSt (gcx X { s2 with heap := h3, gens := s2.gens, drawn := s2.drawn, toks := tk } Hn scope (cloFrom X.env.cells scope.names []) h3.objs.size code fp A') h'.objs.size gob (wipe σ [i]) fp tn 0 Hn s' := GSt.idle ⟨J0, st0, nfp⟩ z
      have px0 : PG (gcx X { s2 with heap := h3, gens := s2.gens, drawn := s2.drawn, toks := tk } Hn scope (cloFrom X.env.cells scope.names []) h3.objs.size code fp A') (.Name x px) (gName i) := pg_name hN (ok.ix (x, i) (List.mem_singleton.mpr rfl)) (.inl go.loc) (.inr go.loc)
      exact gen_begin (Xg := gcx X { s2 with heap := h3, gens := s2.gens, drawn := s2.drawn, toks := tk } Hn scope (cloFrom X.env.cells scope.names []) h3.objs.size code fp A') (A := X.A.in1.in1) (s₀ := s') hc go.co hA' (over_same.trans hA') T px0 (he _ _ _ _ _ _ _ rm0) ww rfl rfl hfa (fun _ _ z => z) turn Hn s' G' w0
    exact main _ _ _ _ rfl rfl rfl (Heap.get?_push_size _ rfl)
  cases hf : codeAmong gpos ps.toList with
  | none =>
    refine wpAny_genexprCodeX hcode (cd.code hPs htr) (cd.tab hPs) hf fun c' h' tk hx3 hge hlt hco' _ htab' _ => ?_
    obtain ⟨o1, vs, f1, tf, fl, tg, inF, tx, tt, op, _, _, _, _, _, _, _, _, _, htr', _⟩ := hco'
    exact cont _ h' tk _ hx3 (Nat.le_trans hge (Nat.le_of_lt hlt)) htab'.2 htr'
  | some cv =>
    refine wpAny_genexprCode_hit hcode (cd.code hPs htr) hf ?_
    have e0 : ps ++ #[] = ps := Array.append_empty
    exact cont cv s2.heap s2.toks #[] (Heap.ExtBut.refl _ _) (Nat.le_refl _) (by rw [e0]; exact hPs) (by rw [e0]; exact htr)
end
end Dz


/-! What a program does, told over data: the frozen part B of the heap holds data, the part O is owned and may change; tables of code objects stand at T -/
namespace Dz
open PySem PySem.Spec PyProof.Rows L2 GxR

/-- data -/
inductive D where
  | non | bl (b : Bool) | int (i : Int) | str (x : Str)
  | lst (ds : List D) | tup (ds : List D) | kst (ds : List D)
  | ins (C : Addr) (fs : List (Str × D))
  | dic (kvs : List (Key × D))

mutual
/-- the value v is the data d, in the heap H -/
inductive Rp (K : PySem.W.Frag) (H : Hp) : V → D → Prop
  | non : Rp K H .non .non
  | bl (b : Bool) : Rp K H (.bl b) (.bl b)
  | int (i : Int) : Rp K H (.int i) (.int i)
  | str (x : Str) : Rp K H (.str x) (.str x)
  | lst {a : Addr} {xs : List V} {ds : List D} : H a = some (.lst xs) → RpAll K H xs ds → Rp K H (.ref a) (.lst ds)
  | kst {a : Addr} {xs : List V} {ds : List D} : SqL K H a xs → RpAll K H xs ds → Rp K H (.ref a) (.kst ds)
  | tup {a : Addr} {xs : List V} {ds : List D} : SqT K H a xs → RpAll K H xs ds → Rp K H (.ref a) (.tup ds)
  | ins {a C dx : Addr} {fs : List (Str × V)} {fd : List (Str × D)} : H a = some (.ins C dx fs) → RpFs K H fs fd → Rp K H (.ref a) (.ins C fd)
  | dic {a : Addr} {kvs : List (Key × V)} {kd : List (Key × D)} : H a = some (.dK kvs) → RpKs K H kvs kd → Rp K H (.ref a) (.dic kd)
inductive RpAll (K : PySem.W.Frag) (H : Hp) : List V → List D → Prop
  | nil : RpAll K H [] []
  | cons {v : V} {vs : List V} {d : D} {ds : List D} : Rp K H v d → RpAll K H vs ds → RpAll K H (v :: vs) (d :: ds)
inductive RpFs (K : PySem.W.Frag) (H : Hp) : List (Str × V) → List (Str × D) → Prop
  | nil : RpFs K H [] []
  | cons {f : Str} {v : V} {d : D} {fs : List (Str × V)} {fd : List (Str × D)} : Rp K H v d → RpFs K H fs fd → RpFs K H ((f, v) :: fs) ((f, d) :: fd)
inductive RpKs (K : PySem.W.Frag) (H : Hp) : List (Key × V) → List (Key × D) → Prop
  | nil : RpKs K H [] []
  | cons {k : Key} {v : V} {d : D} {fs : List (Key × V)} {fd : List (Key × D)} : Rp K H v d → RpKs K H fs fd → RpKs K H ((k, v) :: fs) ((k, d) :: fd)
end

theorem same_t {K : PySem.W.Frag} {H H' : Hp} {a : Addr} {xs : List V} (e : Same H H') (h : SqT K H a xs) : SqT K H' a xs := by
  rcases h with (h | ⟨o, h⟩) | h
  · exact .inl (.inl (e _ _ h))
  · exact .inl (.inr ⟨o, e _ _ h⟩)
  · exact .inr h

section
variable {K : PySem.W.Frag} {H H' : Hp}
mutual
theorem Rp.mono (e : Same H H') : ∀ {v : V} {d : D}, Rp K H v d → Rp K H' v d
  | _, _, .non => .non
  | _, _, .bl b => .bl b
  | _, _, .int i => .int i
  | _, _, .str x => .str x
  | _, _, .lst h r => .lst (e _ _ h) (RpAll.mono e r)
  | _, _, .kst h r => .kst (e.seq h) (RpAll.mono e r)
  | _, _, .tup h r => .tup (same_t e h) (RpAll.mono e r)
  | _, _, .ins h r => .ins (e _ _ h) (RpFs.mono e r)
  | _, _, .dic h r => .dic (e _ _ h) (RpKs.mono e r)
theorem RpAll.mono (e : Same H H') : ∀ {vs : List V} {ds : List D}, RpAll K H vs ds → RpAll K H' vs ds
  | _, _, .nil => .nil
  | _, _, .cons h r => .cons (Rp.mono e h) (RpAll.mono e r)
theorem RpFs.mono (e : Same H H') : ∀ {vs : List (Str × V)} {ds : List (Str × D)}, RpFs K H vs ds → RpFs K H' vs ds
  | _, _, .nil => .nil
  | _, _, .cons h r => .cons (Rp.mono e h) (RpFs.mono e r)
theorem RpKs.mono (e : Same H H') : ∀ {vs : List (Key × V)} {ds : List (Key × D)}, RpKs K H vs ds → RpKs K H' vs ds
  | _, _, .nil => .nil
  | _, _, .cons h r => .cons (Rp.mono e h) (RpKs.mono e r)
end
theorem RpAll.length : ∀ {vs : List V} {ds : List D}, RpAll K H vs ds → vs.length = ds.length
  | _, _, .nil => rfl
  | _, _, .cons _ r => congrArg Nat.succ r.length
theorem RpAll.get : ∀ {vs : List V} {ds : List D} {i : Nat} {d : D}, RpAll K H vs ds → ds[i]? = some d → ∃ v, vs[i]? = some v ∧ Rp K H v d
  | _, _, 0, _, .cons h _, e => by
    cases e
    exact ⟨_, rfl, h⟩
  | _, _, i + 1, _, .cons _ r, e => r.get (i := i) (by simpa using e)
theorem RpAll.getV : ∀ {vs : List V} {ds : List D} {i : Nat} {v : V}, RpAll K H vs ds → vs[i]? = some v → ∃ d, ds[i]? = some d ∧ Rp K H v d
  | _, _, 0, _, .cons h _, e => by
    cases e
    exact ⟨_, rfl, h⟩
  | _, _, i + 1, _, .cons _ r, e => r.getV (i := i) (by simpa using e)
theorem RpAll.append : ∀ {vs ws : List V} {ds es : List D}, RpAll K H vs ds → RpAll K H ws es → RpAll K H (vs ++ ws) (ds ++ es)
  | _, _, _, _, .nil, s => s
  | _, _, _, _, .cons h r, s => .cons h (r.append s)
theorem RpAll.take : ∀ {vs : List V} {ds : List D} (n : Nat), RpAll K H vs ds → RpAll K H (vs.take n) (ds.take n)
  | _, _, 0, _ => .nil
  | _, _, _ + 1, .nil => .nil
  | _, _, n + 1, .cons h r => .cons h (r.take n)
theorem RpAll.drop : ∀ {vs : List V} {ds : List D} (n : Nat), RpAll K H vs ds → RpAll K H (vs.drop n) (ds.drop n)
  | _, _, 0, r => r
  | _, _, _ + 1, .nil => .nil
  | _, _, n + 1, .cons _ r => r.drop n
theorem RpAll.reverse : ∀ {vs : List V} {ds : List D}, RpAll K H vs ds → RpAll K H vs.reverse ds.reverse
  | _, _, .nil => .nil
  | _, _, .cons h r => by
    rw [List.reverse_cons, List.reverse_cons]
    exact r.reverse.append (.cons h .nil)
theorem RpAll.set {v : V} {d : D} (h : Rp K H v d) : ∀ {vs : List V} {ds : List D} (i : Nat), RpAll K H vs ds → RpAll K H (vs.set i v) (ds.set i d)
  | _, _, _, .nil => .nil
  | _, _, 0, .cons _ r => .cons h r
  | _, _, i + 1, .cons g r => .cons g (r.set h i)
theorem RpAll.map {α : Type} {f : α → V} {g : α → D} (h : ∀ x, Rp K H (f x) (g x)) : ∀ xs : List α, RpAll K H (xs.map f) (xs.map g)
  | [] => .nil
  | x :: xs => .cons (h x) (RpAll.map h xs)
theorem RpFs.get {f : Str} {d : D} : ∀ {fs : List (Str × V)} {fd : List (Str × D)}, RpFs K H fs fd → fd.lookup f = some d → ∃ v, fs.lookup f = some v ∧ Rp K H v d
  | _, _, .cons (f := g) h r, e => by
    rw [List.lookup_cons] at e ⊢
    cases hb : f == g with
    | true =>
      rw [hb] at e
      cases e
      exact ⟨_, rfl, h⟩
    | false =>
      rw [hb] at e
      exact r.get e
theorem RpKs.get {k : Key} {d : D} : ∀ {fs : List (Key × V)} {fd : List (Key × D)}, RpKs K H fs fd → (fd.find? fun kv => decide (kv.1 = k)).map (·.2) = some d → ∃ v, valV fs k = some v ∧ Rp K H v d
  | _, _, .cons (k := g) (v := v) h r, e => by
    by_cases hb : g = k
    · rw [List.find?_cons_of_pos (by simpa using hb)] at e
      cases e
      exact ⟨_, valV_pos hb, h⟩
    · rw [List.find?_cons_of_neg (by simpa using hb)] at e
      obtain ⟨w, h1, h2⟩ := r.get e
      exact ⟨w, (valV_neg hb).trans h1, h2⟩
end

/-- what a slot holds: nothing that is known | data | this very value (an owned object's address) -/
inductive Slot where
  | no | dat (d : D) | val (v : V)
def SlotOk (K : PySem.W.Frag) (B : Hp) : Option V → Slot → Prop
  | _, .no => True
  | some v, .dat d => Rp K B v d
  | some v, .val w => v = w
  | none, _ => False
theorem SlotOk.mono {K : PySem.W.Frag} {B B' : Hp} (e : Same B B') : ∀ {o : Option V} {s : Slot}, SlotOk K B o s → SlotOk K B' o s
  | _, .no, _ => True.intro
  | some v, .dat d, h => Rp.mono e h
  | some v, .val w, h => h
  | none, .dat _, h => h.elim
  | none, .val _, h => h.elim
/-- values: data, or owned objects -/
inductive Args (K : PySem.W.Frag) (B : Hp) : List V → List Slot → Prop
  | nil : Args K B [] []
  | cons {v : V} {s : Slot} {vs : List V} {ss : List Slot} : SlotOk K B (some v) s → Args K B vs ss → Args K B (v :: vs) (s :: ss)
theorem Args.mono {K : PySem.W.Frag} {B B' : Hp} (e : Same B B') : ∀ {vs : List V} {ss : List Slot}, Args K B vs ss → Args K B' vs ss
  | _, _, .nil => .nil
  | _, _, .cons h r => .cons (h.mono e) (r.mono e)
theorem Args.length {K : PySem.W.Frag} {B : Hp} : ∀ {vs : List V} {ss : List Slot}, Args K B vs ss → vs.length = ss.length
  | _, _, .nil => rfl
  | _, _, .cons _ r => congrArg Nat.succ r.length
theorem Args.append {K : PySem.W.Frag} {B : Hp} : ∀ {vs ws : List V} {ss ts : List Slot}, Args K B vs ss → Args K B ws ts → Args K B (vs ++ ws) (ss ++ ts)
  | _, _, _, _, .nil, r => r
  | _, _, _, _, .cons h q, r => .cons h (q.append r)
theorem Args.get {K : PySem.W.Frag} {B : Hp} : ∀ {vs : List V} {ss : List Slot} {i : Nat} {s : Slot}, Args K B vs ss → ss[i]? = some s → ∃ v, vs[i]? = some v ∧ SlotOk K B (some v) s
  | _, _, 0, _, .cons h _, e => by
    cases e
    exact ⟨_, rfl, h⟩
  | _, _, i + 1, _, .cons _ r, e => r.get (i := i) (by simpa using e)
theorem Args.set {K : PySem.W.Frag} {B : Hp} {v : V} {s : Slot} (h : SlotOk K B (some v) s) : ∀ {vs : List V} {ss : List Slot} (i : Nat), Args K B vs ss → Args K B (vs.set i v) (ss.set i s)
  | _, _, _, .nil => .nil
  | _, _, 0, .cons _ r => .cons h r
  | _, _, i + 1, .cons g r => .cons g (r.set h i)
theorem Args.dropLast {K : PySem.W.Frag} {B : Hp} : ∀ {vs : List V} {ss : List Slot}, Args K B vs ss → Args K B vs.dropLast ss.dropLast
  | _, _, .nil => .nil
  | _, _, .cons h .nil => .nil
  | _, _, .cons h (.cons g r) => .cons h (Args.dropLast (.cons g r))
/-- all of them data -/
theorem Args.all {K : PySem.W.Frag} {B : Hp} : ∀ {vs : List V} {ds : List D}, Args K B vs (ds.map .dat) → RpAll K B vs ds
  | _, [], .nil => .nil
  | _, _ :: _, .cons h r => .cons h (Args.all r)
theorem Args.of {K : PySem.W.Frag} {B : Hp} : ∀ {vs : List V} {ds : List D}, RpAll K B vs ds → Args K B vs (ds.map .dat)
  | _, _, .nil => .nil
  | _, _, .cons h r => .cons h (Args.of r)

/-- an owned object -/
inductive OD where
  | lst (ss : List Slot) | ins (C : Addr) (fs : List (Str × Slot)) | dic (kvs : List (Key × Slot))
inductive FsOk (K : PySem.W.Frag) (B : Hp) : List (Str × V) → List (Str × Slot) → Prop
  | nil : FsOk K B [] []
  | cons {f : Str} {v : V} {s : Slot} {fs : List (Str × V)} {ss : List (Str × Slot)} : SlotOk K B (some v) s → FsOk K B fs ss → FsOk K B ((f, v) :: fs) ((f, s) :: ss)
inductive KsOk (K : PySem.W.Frag) (B : Hp) : List (Key × V) → List (Key × Slot) → Prop
  | nil : KsOk K B [] []
  | cons {f : Key} {v : V} {s : Slot} {fs : List (Key × V)} {ss : List (Key × Slot)} : SlotOk K B (some v) s → KsOk K B fs ss → KsOk K B ((f, v) :: fs) ((f, s) :: ss)
theorem FsOk.mono {K : PySem.W.Frag} {B B' : Hp} (e : Same B B') : ∀ {vs : List (Str × V)} {ss : List (Str × Slot)}, FsOk K B vs ss → FsOk K B' vs ss
  | _, _, .nil => .nil
  | _, _, .cons h r => .cons (h.mono e) (r.mono e)
theorem KsOk.mono {K : PySem.W.Frag} {B B' : Hp} (e : Same B B') : ∀ {vs : List (Key × V)} {ss : List (Key × Slot)}, KsOk K B vs ss → KsOk K B' vs ss
  | _, _, .nil => .nil
  | _, _, .cons h r => .cons (h.mono e) (r.mono e)
theorem FsOk.length {K : PySem.W.Frag} {B : Hp} : ∀ {vs : List (Str × V)} {ss : List (Str × Slot)}, FsOk K B vs ss → vs.length = ss.length
  | _, _, .nil => rfl
  | _, _, .cons _ r => congrArg Nat.succ r.length
theorem KsOk.length {K : PySem.W.Frag} {B : Hp} : ∀ {vs : List (Key × V)} {ss : List (Key × Slot)}, KsOk K B vs ss → vs.length = ss.length
  | _, _, .nil => rfl
  | _, _, .cons _ r => congrArg Nat.succ r.length
theorem FsOk.get {K : PySem.W.Frag} {B : Hp} {f : Str} {s : Slot} : ∀ {fs : List (Str × V)} {ss : List (Str × Slot)}, FsOk K B fs ss → ss.lookup f = some s → ∃ v, fs.lookup f = some v ∧ SlotOk K B (some v) s
  | _, _, .cons (f := g) h r, e => by
    rw [List.lookup_cons] at e ⊢
    cases hb : f == g with
    | true =>
      rw [hb] at e
      cases e
      exact ⟨_, rfl, h⟩
    | false =>
      rw [hb] at e
      exact r.get e
/-- a field stored -/
def putS (f : Str) (s : Slot) : List (Str × Slot) → List (Str × Slot)
  | [] => [(f, s)]
  | (g, t) :: r => if g = f then (g, s) :: r else (g, t) :: putS f s r
theorem FsOk.put {K : PySem.W.Frag} {B : Hp} {f : Str} {v : V} {s : Slot} (h : SlotOk K B (some v) s) : ∀ {fs : List (Str × V)} {ss : List (Str × Slot)}, FsOk K B fs ss → FsOk K B (putF f v fs) (putS f s ss)
  | _, _, .nil => .cons h .nil
  | _, _, .cons (f := g) q r => by
    unfold putF putS
    by_cases e : g = f
    · rw [if_pos e, if_pos e]
      exact .cons h r
    · rw [if_neg e, if_neg e]
      exact .cons q (r.put h)
theorem FsOk.all {K : PySem.W.Frag} {B : Hp} : ∀ {vs : List (Str × V)} {ds : List (Str × D)}, FsOk K B vs (ds.map fun p => (p.1, .dat p.2)) → RpFs K B vs ds
  | _, [], .nil => .nil
  | _, _ :: _, .cons h r => .cons h (FsOk.all r)
theorem KsOk.all {K : PySem.W.Frag} {B : Hp} : ∀ {vs : List (Key × V)} {ds : List (Key × D)}, KsOk K B vs (ds.map fun p => (p.1, .dat p.2)) → RpKs K B vs ds
  | _, [], .nil => .nil
  | _, _ :: _, .cons h r => .cons h (KsOk.all r)
/-- the object o is as od tells -/
def OdOk (K : PySem.W.Frag) (B : Hp) : HO → OD → Prop
  | .lst vs, .lst ss => Args K B vs ss
  | .ins C _ fs, .ins C' ss => C = C' ∧ FsOk K B fs ss
  | .dK kvs, .dic ss => KsOk K B kvs ss
  | _, _ => False
theorem OdOk.mono {K : PySem.W.Frag} {B B' : Hp} (e : Same B B') : ∀ {o : HO} {od : OD}, OdOk K B o od → OdOk K B' o od := fun {o od} h => by
  cases o with
  | lst vs => cases od <;> first | exact Args.mono e h | exact h.elim
  | ins C dx fs => cases od <;> first | exact ⟨h.1, FsOk.mono e h.2⟩ | exact h.elim
  | dK kvs => cases od <;> first | exact KsOk.mono e h | exact h.elim
  | _ => cases od <;> exact h.elim
abbrev OH := Addr → Option OD
def put (O : OH) (a : Addr) (o : OD) : OH := fun b => if b = a then some o else O b
theorem put_same {O : OH} {a : Addr} {o : OD} : put O a o a = some o := if_pos rfl
theorem put_ne {O : OH} {a b : Addr} {o : OD} (h : b ≠ a) : put O a o b = O b := if_neg h
theorem put_put {O : OH} {a : Addr} {o u : OD} : put (put O a o) a u = put O a u := by
  funext b
  unfold put
  split <;> rfl
theorem put_self {O : OH} {a : Addr} {o : OD} (h : O a = some o) : put O a o = O := by
  funext b
  unfold put
  split
  · rename_i z
    rw [z, h]
  · rfl
/-- without what is owned at a -/
def cut (O : OH) (a : Addr) : OH := fun b => if b = a then none else O b
theorem cut_same {O : OH} {a : Addr} : cut O a a = none := if_pos rfl
theorem cut_ne {O : OH} {a b : Addr} (h : b ≠ a) : cut O a b = O b := if_neg h
theorem cut_put {O : OH} {a : Addr} {o : OD} (h : O a = none) : cut (put O a o) a = O := by
  funext b
  unfold cut put
  split
  · rename_i z
    rw [z, h]
  · rfl

/-- what stands where -/
structure At (T : List Addr) (K : PySem.W.Frag) (B : Hp) (O : OH) (H : Hp) : Prop where
  base : Same B H
  own : ∀ a o, O a = some o → B a = none ∧ ∃ u, H a = some u ∧ OdOk K B u o
  nt : ∀ P ∈ T, B P = none ∧ O P = none
  tabs : ∀ P ∈ T, TabG H P
/-- what a piece of the program leaves -/
structure Post (T : List Addr) (K : PySem.W.Frag) (B : Hp) (O : OH) (H : Hp) (B' : Hp) (O' : OH) (H' : Hp) : Prop where
  at' : At T K B' O' H'
  bb : Same B B'
  new : ∀ a, H a ≠ none → O a = none → B' a = B a
  own : ∀ a, O' a ≠ none → O a ≠ none ∨ H a = none
  fr : ∀ a o, H a = some o → O a = none → a ∉ T → H' a = some o
  dom : ∀ a, H a ≠ none → H' a ≠ none
/-- nothing is owned -/
abbrev O0 : OH := fun _ => none

section
variable {T : List Addr} {K : PySem.W.Frag} {B : Hp} {O : OH} {H B1 : Hp} {O1 : OH} {H1 B2 : Hp} {O2 : OH} {H2 : Hp}
theorem ne_some {α β : Type} {f : α → Option β} {a : α} {o : β} (h : f a = some o) : f a ≠ none := fun z => by
  rw [h] at z
  cases z
theorem some_ne {α β : Type} {f : α → Option β} {a : α} (h : f a ≠ none) : ∃ o, f a = some o := by
  cases e : f a with
  | none => exact absurd e h
  | some o => exact ⟨o, rfl⟩
theorem At.ownH (h : At T K B O H) {a : Addr} {o : OD} (e : O a = some o) : H a ≠ none := by
  obtain ⟨_, u, hu, _⟩ := h.own a o e
  exact ne_some hu
theorem Post.refl (h : At T K B O H) : Post T K B O H B O H := ⟨h, Same.refl B, fun _ _ _ => rfl, fun _ z => .inl z, fun _ _ e _ _ => e, fun _ z => z⟩
theorem Post.keepO (p : Post T K B O H B1 O1 H1) {a : Addr} (h : H a ≠ none) (ho : O a = none) : O1 a = none := by
  cases e : O1 a with
  | none => rfl
  | some o =>
    rcases p.own a (ne_some e) with z | z
    · exact absurd ho z
    · exact absurd z h
theorem Post.trans (p : Post T K B O H B1 O1 H1) (q : Post T K B1 O1 H1 B2 O2 H2) : Post T K B O H B2 O2 H2 where
  at' := q.at'
  bb := p.bb.trans q.bb
  new := fun a h ho => (q.new a (p.dom a h) (p.keepO h ho)).trans (p.new a h ho)
  own := fun a h => by
    rcases q.own a h with z | z
    · exact p.own a z
    · refine .inr ?_
      cases e : H a with
      | none => rfl
      | some o => exact absurd z (p.dom a (ne_some e))
  fr := fun a o h ho ht => q.fr a o (p.fr a o h ho ht) (p.keepO (ne_some h) ho) ht
  dom := fun a h => q.dom a (p.dom a h)
theorem Post.free (p : Post T K B O H B1 O1 H1) {a : Addr} (h : H1 a = none) : H a = none := by
  cases e : H a with
  | none => rfl
  | some o => exact absurd h (p.dom a (ne_some e))
theorem At.noB (h : At T K B O H) {a : Addr} (n : H a = none) : B a = none := by
  cases q : B a with
  | none => rfl
  | some v => exact absurd n (ne_some (h.base a v q))
theorem At.noO (h : At T K B O H) {a : Addr} (n : H a = none) : O a = none := by
  cases q : O a with
  | none => rfl
  | some v => exact absurd n (h.ownH q)
theorem upd_dom {H : Hp} {a b : Addr} {o : HO} (h : H b ≠ none) : upd H a o b ≠ none := by
  by_cases z : b = a
  · subst z
    rw [upd_same]
    exact fun q => by cases q
  · rw [upd_ne z]
    exact h
/-- something that is neither frozen nor owned is laid -/
theorem Post.laid (h : At T K B O H) {a : Addr} {o : HO} (n : H a = none) : Post T K B O H B O (upd H a o) where
  at' :=
    { base := fun b u e => by rw [upd_ne (ne_of_none (h.base b u e) n)]; exact h.base b u e
      own := fun b u e => by
        obtain ⟨e1, v, e2, e3⟩ := h.own b u e
        exact ⟨e1, v, by rw [upd_ne (ne_of_none e2 n)]; exact e2, e3⟩
      nt := h.nt
      tabs := fun P hP => by
        obtain ⟨ps, e, t⟩ := h.tabs P hP
        exact ⟨ps, by rw [upd_ne (ne_of_none e n)]; exact e, t⟩ }
  bb := Same.refl B
  new := fun _ _ _ => rfl
  own := fun b hb => .inl hb
  fr := fun b u e _ _ => by rw [upd_ne (ne_of_none e n)]; exact e
  dom := fun b hb => upd_dom hb
/-- a new object, frozen at once -/
theorem Post.made (h : At T K B O H) {a : Addr} {o : HO} (n : H a = none) : Post T K B O H (upd B a o) O (upd H a o) where
  at' :=
    { base := fun b u e => by
        by_cases z : b = a
        · subst z
          rw [upd_same] at e ⊢
          exact e
        · rw [upd_ne z] at e ⊢
          exact h.base b u e
      own := fun b u e => by
        obtain ⟨e1, v, e2, e3⟩ := h.own b u e
        have z : b ≠ a := ne_of_none e2 n
        exact ⟨by rw [upd_ne z]; exact e1, v, by rw [upd_ne z]; exact e2, e3.mono fun c w q => by rw [upd_ne (ne_of_none (h.base c w q) n)]; exact q⟩
      nt := fun P hP => by
        obtain ⟨ps, e, _⟩ := h.tabs P hP
        have z : P ≠ a := ne_of_none e n
        rw [upd_ne z]
        exact h.nt P hP
      tabs := fun P hP => by
        obtain ⟨ps, e, t⟩ := h.tabs P hP
        exact ⟨ps, by rw [upd_ne (ne_of_none e n)]; exact e, t⟩ }
  bb := fun b u e => by rw [upd_ne (ne_of_none (h.base b u e) n)]; exact e
  new := fun b hb _ => by
    have z : b ≠ a := fun q => hb (by rw [q]; exact n)
    rw [upd_ne z]
  own := fun b hb => .inl hb
  fr := fun b u e _ _ => by rw [upd_ne (ne_of_none e n)]; exact e
  dom := fun b hb => upd_dom hb
/-- a new object, owned -/
theorem Post.madeO (h : At T K B O H) {a : Addr} {o : HO} {od : OD} (n : H a = none) (k : OdOk K B o od) : Post T K B O H B (put O a od) (upd H a o) where
  at' :=
    { base := fun b u e => by rw [upd_ne (ne_of_none (h.base b u e) n)]; exact h.base b u e
      own := fun b u e => by
        by_cases z : b = a
        · subst z
          rw [put_same] at e
          cases e
          exact ⟨h.noB n, o, upd_same, k⟩
        · rw [put_ne z] at e
          obtain ⟨e1, v, e2, e3⟩ := h.own b u e
          exact ⟨e1, v, by rw [upd_ne z]; exact e2, e3⟩
      nt := fun P hP => by
        obtain ⟨ps, e, _⟩ := h.tabs P hP
        rw [put_ne (ne_of_none e n)]
        exact h.nt P hP
      tabs := fun P hP => by
        obtain ⟨ps, e, t⟩ := h.tabs P hP
        exact ⟨ps, by rw [upd_ne (ne_of_none e n)]; exact e, t⟩ }
  bb := Same.refl B
  new := fun _ _ _ => rfl
  own := fun b hb => by
    by_cases z : b = a
    · subst z
      exact .inr n
    · rw [put_ne z] at hb
      exact .inl hb
  fr := fun b u e _ _ => by rw [upd_ne (ne_of_none e n)]; exact e
  dom := fun b hb => upd_dom hb
theorem At.notT (h : At T K B O H) {a : Addr} {o : OD} (e : O a = some o) : a ∉ T := fun z => by
  have := (h.nt a z).2
  rw [e] at this
  cases this
/-- an owned object changes -/
theorem Post.put (h : At T K B O H) {a : Addr} {o od : OD} {u : HO} (e : O a = some o) (k : OdOk K B u od) : Post T K B O H B (put O a od) (upd H a u) where
  at' :=
    { base := fun b v q => by
        have z : b ≠ a := fun z => by
          rw [z, (h.own a o e).1] at q
          cases q
        rw [upd_ne z]
        exact h.base b v q
      own := fun b v q => by
        by_cases z : b = a
        · subst z
          rw [put_same] at q
          cases q
          exact ⟨(h.own b o e).1, u, upd_same, k⟩
        · rw [put_ne z] at q
          obtain ⟨e1, v, e2, e3⟩ := h.own b v q
          exact ⟨e1, v, by rw [upd_ne z]; exact e2, e3⟩
      nt := fun P hP => by
        have z : P ≠ a := fun z => h.notT e (by rw [← z]; exact hP)
        rw [put_ne z]
        exact h.nt P hP
      tabs := fun P hP => by
        obtain ⟨ps, q, t⟩ := h.tabs P hP
        have z : P ≠ a := fun z => h.notT e (by rw [← z]; exact hP)
        exact ⟨ps, by rw [upd_ne z]; exact q, t⟩ }
  bb := Same.refl B
  new := fun _ _ _ => rfl
  own := fun b hb => by
    by_cases z : b = a
    · subst z
      exact .inl (ne_some e)
    · rw [put_ne z] at hb
      exact .inl hb
  fr := fun b v q ho _ => by
    have z : b ≠ a := fun z => by
      rw [z, e] at ho
      cases ho
    rw [upd_ne z]
    exact q
  dom := fun b hb => upd_dom hb
/-- an owned object is frozen -/
theorem Post.freeze (h : At T K B O H) {a : Addr} {o : OD} {u : HO} (e : O a = some o) (eu : H a = some u) : Post T K B O H (upd B a u) (cut O a) H where
  at' :=
    { base := fun b v q => by
        by_cases z : b = a
        · subst z
          rw [upd_same] at q
          cases q
          exact eu
        · rw [upd_ne z] at q
          exact h.base b v q
      own := fun b v q => by
        have z : b ≠ a := fun z => by
          rw [z, cut_same] at q
          cases q
        rw [cut_ne z] at q
        obtain ⟨e1, v, e2, e3⟩ := h.own b v q
        refine ⟨by rw [upd_ne z]; exact e1, v, e2, e3.mono fun c w q => ?_⟩
        have zc : c ≠ a := fun zc => by
          rw [zc, (h.own a o e).1] at q
          cases q
        rw [upd_ne zc]
        exact q
      nt := fun P hP => by
        have z : P ≠ a := fun z => h.notT e (by rw [← z]; exact hP)
        rw [upd_ne z, cut_ne z]
        exact h.nt P hP
      tabs := h.tabs }
  bb := fun b v q => by
    have z : b ≠ a := fun z => by
      rw [z, (h.own a o e).1] at q
      cases q
    rw [upd_ne z]
    exact q
  new := fun b _ ho => by
    have z : b ≠ a := fun z => by
      rw [z, e] at ho
      cases ho
    rw [upd_ne z]
  own := fun b hb => by
    by_cases z : b = a
    · subst z
      exact .inl (ne_some e)
    · rw [cut_ne z] at hb
      exact .inl hb
  fr := fun _ _ q _ _ => q
  dom := fun _ q => q
/-- a piece that owns nothing, where something is owned -/
theorem Post.frame0 (h : At T K B O H) (p : Post T K B O0 H B1 O0 H1) : Post T K B O H B1 O H1 where
  at' :=
    { base := p.at'.base
      own := fun a o e => by
        obtain ⟨e1, u, e2, e3⟩ := h.own a o e
        exact ⟨(p.new a (ne_some e2) rfl).trans e1, u, p.fr a u e2 rfl (h.notT e), e3.mono p.bb⟩
      nt := fun P hP => ⟨(p.at'.nt P hP).1, (h.nt P hP).2⟩
      tabs := p.at'.tabs }
  bb := p.bb
  new := fun a ha _ => p.new a ha rfl
  own := fun a ha => .inl ha
  fr := fun a o e _ ht => p.fr a o e rfl ht
  dom := p.dom
theorem At.no (h : At T K B O H) : At T K B O0 H := ⟨h.base, (fun _ _ e => by cases e), fun P hP => ⟨(h.nt P hP).1, rfl⟩, h.tabs⟩
/-- a table has grown -/
theorem Post.tabbed (h : At T K B O H) {P : Addr} (hP : P ∈ T) (t : Tabbed P H H1) : Post T K B O H B O H1 where
  at' :=
    { base := fun b u e => by
        have z : b ≠ P := fun z => by
          rw [z, (h.nt P hP).1] at e
          cases e
        rw [t.2 b z]
        exact h.base b u e
      own := fun b u e => by
        have z : b ≠ P := fun z => h.notT e (by rw [z]; exact hP)
        obtain ⟨e1, v, e2, e3⟩ := h.own b u e
        exact ⟨e1, v, by rw [t.2 b z]; exact e2, e3⟩
      nt := h.nt
      tabs := fun Q hQ => by
        by_cases z : Q = P
        · rw [z]
          exact t.1
        · obtain ⟨ps, e, tr⟩ := h.tabs Q hQ
          exact ⟨ps, by rw [t.2 Q z]; exact e, tr⟩ }
  bb := Same.refl B
  new := fun _ _ _ => rfl
  own := fun _ z => .inl z
  fr := fun b u e _ ht => by rw [t.2 b fun z => ht (by rw [z]; exact hP)]; exact e
  dom := fun b hb => by
    by_cases z : b = P
    · obtain ⟨ps, e, _⟩ := t.1
      rw [z, e]
      exact fun q => by cases q
    · rw [t.2 b z]
      exact hb
end
end Dz

namespace Dz
open PySem PySem.Spec PyProof.Rows L2 GxR

/-- the slots hold what ρ says -/
inductive Env (K : PySem.W.Frag) (B : Hp) : L2.St → List Slot → Prop
  | nil : Env K B [] []
  | cons {o : Option V} {s : Slot} {σ : L2.St} {ρ : List Slot} : SlotOk K B o s → Env K B σ ρ → Env K B (o :: σ) (s :: ρ)
section
variable {K : PySem.W.Frag} {B B' : Hp}
theorem Env.mono (e : Same B B') : ∀ {σ : L2.St} {ρ : List Slot}, Env K B σ ρ → Env K B' σ ρ
  | _, _, .nil => .nil
  | _, _, .cons h r => .cons (h.mono e) (r.mono e)
theorem Env.get : ∀ {σ : L2.St} {ρ : List Slot} {i : Nat} {s : Slot}, Env K B σ ρ → ρ[i]? = some s → ∃ o, σ[i]? = some o ∧ SlotOk K B o s
  | _, _, 0, _, .cons h _, e => by
    cases e
    exact ⟨_, rfl, h⟩
  | _, _, i + 1, _, .cons _ r, e => r.get (i := i) (by simpa using e)
theorem Env.set {o : Option V} {s : Slot} (h : SlotOk K B o s) : ∀ {σ : L2.St} {ρ : List Slot} (i : Nat), Env K B σ ρ → Env K B (σ.set i o) (ρ.set i s)
  | _, _, _, .nil => .nil
  | _, _, 0, .cons _ r => .cons h r
  | _, _, i + 1, .cons g r => .cons g (r.set h i)
theorem Env.wipe1 (i : Nat) {σ : L2.St} {ρ : List Slot} (e : Env K B σ ρ) : Env K B (σ.set i none) (ρ.set i .no) := Env.set (o := none) (s := .no) (show SlotOk K B none .no from True.intro) i e
theorem Env.length : ∀ {σ : L2.St} {ρ : List Slot}, Env K B σ ρ → σ.length = ρ.length
  | _, _, .nil => rfl
  | _, _, .cons _ r => congrArg Nat.succ r.length
end
theorem Env.of_args {K : PySem.W.Frag} {B : Hp} (k : Nat) : ∀ {vs : List V} {ss : List Slot}, Args K B vs ss → Env K B (vs.map some ++ List.replicate k none) (ss ++ List.replicate k .no)
  | _, _, .nil => by
    induction k with
    | zero => exact .nil
    | succ k ih => exact .cons True.intro ih
  | _, _, .cons h r => .cons h (Env.of_args k r)

/-! ### judgements -/
/-- the expression's own wish -/
def WE (X : Cx) (e : Expr) : TE := fun σ H Q => ∀ (pins : List (Addr × Obj)) (s : Shared), L2.Inv X pins σ H s → wpAny (model X.prog X.w) X.A (eval e X.env) (EP X pins σ Q) X.xe s
def WT (X : Cx) (e : Expr) : TT := fun σ H Q => ∀ (pins : List (Addr × Obj)) (s : Shared), L2.Inv X pins σ H s → wpAny (model X.prog X.w) X.A (isTrue e X.env (eval e X.env)) (TP X pins σ Q) X.xe s
def WW (X : Cx) (e : Expr) : TT := fun σ H Q => ∀ (whole : Sem Value) (pins : List (Addr × Obj)) (s : Shared), L2.Inv X pins σ H s → wpAny (model X.prog X.w) X.A (isTrue e X.env whole) (TP X pins σ Q) X.xe s
def WA (X : Cx) (es : List Expr) : TA := fun σ H Q => ∀ (pos : Pos) (pins : List (Addr × Obj)) (s : Shared), L2.Inv X pins σ H s → wpAny (model X.prog X.w) X.A (spliced (backTo pos (starEach es X.env))) (AP X pins σ Q) X.xe s
def WS (X : Cx) (st : Stmt) : TS := fun D σ H => ∀ (pins : List (Addr × Obj)) (s : Shared), L2.Inv X pins σ H s → wpAny (model X.prog X.w) X.A (exec st X.env) (SP X pins D) X.xe s
def WSs (X : Cx) (st : List Stmt) : TS := fun D σ H => ∀ (pins : List (Addr × Obj)) (s : Shared), L2.Inv X pins σ H s → wpAny (model X.prog X.w) X.A (execs st X.env) (SP X pins D) X.xe s
theorem pe_we {X : Cx} {e : Expr} : PE X e (WE X e) := ⟨fun pins s σ H Q I h => h pins s I⟩
theorem pt_wt {X : Cx} {e : Expr} : PT X e (WT X e) := ⟨fun pins s σ H Q I h => h pins s I⟩
theorem pw_ww {X : Cx} {e : Expr} : PW X e (WW X e) := ⟨fun wh pins s σ H Q I h => h wh pins s I⟩
theorem pa_wa {X : Cx} {es : List Expr} : PA X es (WA X es) := ⟨fun pos pins s σ H Q I h => h pos pins s I⟩
theorem ps_ws {X : Cx} {st : Stmt} : PS X st (WS X st) := ⟨fun pins s σ H D I h => h pins s I⟩
theorem pss_wss {X : Cx} {st : List Stmt} : PSs X st (WSs X st) := ⟨fun pins s σ H D I h => h pins s I⟩
theorem we_of {X : Cx} {e : Expr} {t : TE} (h : PE X e t) {σ : L2.St} {H : Hp} {Q : VK} (q : t σ H Q) : WE X e σ H Q := fun pins s I => h.run pins s σ H Q I q
theorem wt_of {X : Cx} {e : Expr} {t : TT} (h : PT X e t) {σ : L2.St} {H : Hp} {Q : Bool → Hp → Prop} (q : t σ H Q) : WT X e σ H Q := fun pins s I => h.run pins s σ H Q I q
theorem ww_of {X : Cx} {e : Expr} {t : TT} (h : PW X e t) {σ : L2.St} {H : Hp} {Q : Bool → Hp → Prop} (q : t σ H Q) : WW X e σ H Q := fun wh pins s I => h.run wh pins s σ H Q I q
theorem wa_of {X : Cx} {es : List Expr} {t : TA} (h : PA X es t) {σ : L2.St} {H : Hp} {Q : List V → Hp → Prop} (q : t σ H Q) : WA X es σ H Q := fun pos pins s I => h.run pos pins s σ H Q I q
theorem ws_of {X : Cx} {st : Stmt} {t : TS} (h : PS X st t) {σ : L2.St} {H : Hp} {D : Ends} (q : t D σ H) : WS X st D σ H := fun pins s I => h.run pins s σ H D I q
theorem wss_of {X : Cx} {st : List Stmt} {t : TS} (h : PSs X st t) {σ : L2.St} {H : Hp} {D : Ends} (q : t D σ H) : WSs X st D σ H := fun pins s I => h.run pins s σ H D I q

section
variable (T : List Addr) (X : Cx)
/-- the expression e, where the slots hold ρ and O is owned, gives the data d, and O' is owned -/
structure DE (e : Expr) (ρ : List Slot) (O : OH) (d : D) (O' : OH) : Prop where
  run : ∀ (σ : L2.St) (B H : Hp), Env X.K B σ ρ → At T X.K B O H → ∀ Q : VK, (∀ v B' H', Post T X.K B O H B' O' H' → Rp X.K B' v d → Q v H') → WE X e σ H Q
/-- .. any slot -/
structure DV (e : Expr) (ρ : List Slot) (O : OH) (d : Slot) (O' : OH) : Prop where
  run : ∀ (σ : L2.St) (B H : Hp), Env X.K B σ ρ → At T X.K B O H → ∀ Q : VK, (∀ v B' H', Post T X.K B O H B' O' H' → SlotOk X.K B' (some v) d → Q v H') → WE X e σ H Q
structure DT (e : Expr) (ρ : List Slot) (O : OH) (b : Bool) (O' : OH) : Prop where
  run : ∀ (σ : L2.St) (B H : Hp), Env X.K B σ ρ → At T X.K B O H → ∀ Q : Bool → Hp → Prop, (∀ B' H', Post T X.K B O H B' O' H' → Q b H') → WT X e σ H Q
structure DW (e : Expr) (ρ : List Slot) (O : OH) (b : Bool) (O' : OH) : Prop where
  run : ∀ (σ : L2.St) (B H : Hp), Env X.K B σ ρ → At T X.K B O H → ∀ Q : Bool → Hp → Prop, (∀ B' H', Post T X.K B O H B' O' H' → Q b H') → WW X e σ H Q
structure DA (es : List Expr) (ρ : List Slot) (O : OH) (ss : List Slot) (O' : OH) : Prop where
  run : ∀ (σ : L2.St) (B H : Hp), Env X.K B σ ρ → At T X.K B O H → ∀ Q : List V → Hp → Prop, (∀ vs B' H', Post T X.K B O H B' O' H' → Args X.K B' vs ss → Q vs H') → WA X es σ H Q
end
instance {T : List Addr} {X : Cx} {e : Expr} {ρ : List Slot} {O : OH} {d : D} {O' : OH} : CoeFun (DE T X e ρ O d O') fun _ => ∀ (σ : L2.St) (B H : Hp), Env X.K B σ ρ → At T X.K B O H → ∀ Q : VK, (∀ v B' H', Post T X.K B O H B' O' H' → Rp X.K B' v d → Q v H') → WE X e σ H Q := ⟨DE.run⟩
instance {T : List Addr} {X : Cx} {e : Expr} {ρ : List Slot} {O : OH} {d : Slot} {O' : OH} : CoeFun (DV T X e ρ O d O') fun _ => ∀ (σ : L2.St) (B H : Hp), Env X.K B σ ρ → At T X.K B O H → ∀ Q : VK, (∀ v B' H', Post T X.K B O H B' O' H' → SlotOk X.K B' (some v) d → Q v H') → WE X e σ H Q := ⟨DV.run⟩
instance {T : List Addr} {X : Cx} {e : Expr} {ρ : List Slot} {O : OH} {b : Bool} {O' : OH} : CoeFun (DT T X e ρ O b O') fun _ => ∀ (σ : L2.St) (B H : Hp), Env X.K B σ ρ → At T X.K B O H → ∀ Q : Bool → Hp → Prop, (∀ B' H', Post T X.K B O H B' O' H' → Q b H') → WT X e σ H Q := ⟨DT.run⟩
instance {T : List Addr} {X : Cx} {e : Expr} {ρ : List Slot} {O : OH} {b : Bool} {O' : OH} : CoeFun (DW T X e ρ O b O') fun _ => ∀ (σ : L2.St) (B H : Hp), Env X.K B σ ρ → At T X.K B O H → ∀ Q : Bool → Hp → Prop, (∀ B' H', Post T X.K B O H B' O' H' → Q b H') → WW X e σ H Q := ⟨DW.run⟩
instance {T : List Addr} {X : Cx} {es : List Expr} {ρ : List Slot} {O : OH} {ss : List Slot} {O' : OH} : CoeFun (DA T X es ρ O ss O') fun _ => ∀ (σ : L2.St) (B H : Hp), Env X.K B σ ρ → At T X.K B O H → ∀ Q : List V → Hp → Prop, (∀ vs B' H', Post T X.K B O H B' O' H' → Args X.K B' vs ss → Q vs H') → WA X es σ H Q := ⟨DA.run⟩

section
variable {T : List Addr} {X : Cx} {ρ : List Slot} {O O1 O2 O3 : OH} {e a b : Expr} {pos : Pos} {d x y z : D}
theorem DV.de (h : DV T X e ρ O (.dat d) O1) : DE T X e ρ O d O1 := .mk h.run
theorem DE.dv (h : DE T X e ρ O d O1) : DV T X e ρ O (.dat d) O1 := .mk h.run
/-- an expression by its reading -/
theorem de_of {t : TE} (h : PE X e t) (ht : ∀ (σ : L2.St) (B H : Hp), Env X.K B σ ρ → At T X.K B O H → ∀ Q : VK, (∀ v B' H', Post T X.K B O H B' O1 H' → Rp X.K B' v d → Q v H') → t σ H Q) : DE T X e ρ O d O1 :=
  .mk fun σ B H hE hA Q q => we_of h (ht σ B H hE hA Q q)
theorem de_c {v : V} (h : PE X e (tC v)) (r : ∀ B : Hp, Rp X.K B v d) : DE T X e ρ O d O :=
  de_of h fun σ B H hE hA Q q => q v B H (Post.refl hA) (r B)
theorem de_int {i : Int} {j pos} : DE T X (.Constant (.int i) j pos) ρ O (.int i) O := de_c pe_int fun _ => .int i
theorem de_str {i : Str} {j pos} : DE T X (.Constant (.str i) j pos) ρ O (.str i) O := de_c pe_str fun _ => .str i
theorem de_bl {i : Bool} {j pos} : DE T X (.Constant (.bool i) j pos) ρ O (.bl i) O := de_c pe_bl fun _ => .bl i
theorem de_non {j pos} : DE T X (.Constant .none j pos) ρ O .non O := de_c pe_non fun _ => .non
/-- a name of the def -/
theorem dv_var {s : Slot} (i : Nat) {n : Str} (h : ρ[i]? = some s) (hs : s ≠ .no := by intro z; cases z) (hN : X.N[i]? = some n := by rfl) (hv : Vis X.env.scope n := by first | exact Or.inl rfl | exact Or.inr (Or.inl rfl) | exact Or.inr (Or.inr rfl))
    (hd : (n == ("__debug__" : Str)) = false := by decide) (hcd : (n == ("__classdict__" : Str)) = false := by decide) : DV T X (.Name n pos) ρ O s O := by
  refine .mk fun σ B H hE hA Q q => ?_
  obtain ⟨o, e1, e2⟩ := hE.get h
  cases o with
  | none => cases s <;> first | exact e2.elim | exact absurd rfl hs
  | some v => exact we_of (pe_var hN hv hd hcd) ⟨v, e1, q v B H (Post.refl hA) e2⟩
theorem de_var (i : Nat) {n : Str} (h : ρ[i]? = some (.dat d) := by rfl) (hN : X.N[i]? = some n := by rfl) (hv : Vis X.env.scope n := by first | exact Or.inl rfl | exact Or.inr (Or.inl rfl) | exact Or.inr (Or.inr rfl))
    (hd : (n == ("__debug__" : Str)) = false := by decide) (hcd : (n == ("__classdict__" : Str)) = false := by decide) : DE T X (.Name n pos) ρ O d O := (dv_var i h (by intro z; cases z) hN hv hd hcd).de
/-- a module's constant -/
theorem de_glob {n : Str} {v : V} {u : Value} (hm : X.mg n = some u) (r : RelV v u) (rp : ∀ B : Hp, Rp X.K B v d) (hg : Gl X n := by rfl) (hd : (n == ("__debug__" : Str)) = false := by decide) : DE T X (.Name n pos) ρ O d O :=
  de_c (pe_glob hg hm r hd) rp

/-- two parts, from the left -/
theorem two {R : V → V → Hp → Prop} {σ : L2.St} {B H : Hp} (ha : DE T X a ρ O x O1) (hb : DE T X b ρ O1 y O2) (hE : Env X.K B σ ρ) (hA : At T X.K B O H)
    (k : ∀ v w B' H', Post T X.K B O H B' O2 H' → Rp X.K B' v x → Rp X.K B' w y → R v w H') : WE X a σ H fun v H1 => WE X b σ H1 fun w H2 => R v w H2 :=
  ha σ B H hE hA _ fun v B1 H1 p1 r1 => hb σ B1 H1 (hE.mono p1.bb) p1.at' _ fun w B2 H2 p2 r2 => k v w B2 H2 (p1.trans p2) (r1.mono p2.bb) r2
/-- an operator by values -/
def ROp (T : List Addr) (X : Cx) (r : R2) (O : OH) (x y z : D) (O' : OH) : Prop := ∀ (v w : V) (B H : Hp), At T X.K B O H → Rp X.K B v x → Rp X.K B w y → ∀ Q : VK, (∀ u B' H', Post T X.K B O H B' O' H' → Rp X.K B' u z → Q u H') → r v w H Q
theorem de_op {op : Operator} {r : R2} (ho : OpR X (binaryOp op) r) (ha : DE T X a ρ O x O1) (hb : DE T X b ρ O1 y O2) (hr : ROp T X r O2 x y z O3) : DE T X (.BinOp a op b pos) ρ O z O3 :=
  de_of (pe_op ho pe_we pe_we) fun σ B H hE hA Q q => two ha hb hE hA fun v w B' H' p rv rw' => hr v w B' H' p.at' rv rw' Q fun u B2 H2 p2 => q u B2 H2 (p.trans p2)
theorem de_cmp {op : CmpOp} {r : R2} (ho : OpR X (compareOp op) r) (hm : behindInMarks op b = false) (ha : DE T X a ρ O x O1) (hb : DE T X b ρ O1 y O2) (hr : ROp T X r O2 x y z O3) : DE T X (.Compare a [op] [b] pos) ρ O z O3 :=
  de_of (pe_cmpR ho pe_we pe_we hm) fun σ B H hE hA Q q => two ha hb hE hA fun v w B' H' p rv rw' => hr v w B' H' p.at' rv rw' Q fun u B2 H2 p2 => q u B2 H2 (p.trans p2)
theorem dt_cmp {op : CmpOp} {r : R2} {k : Bool} (ho : OpR X (compareOp op) r) (hm : behindInMarks op b = false) (ha : DE T X a ρ O x O1) (hb : DE T X b ρ O1 y O2) (hr : ROp T X r O2 x y (.bl k) O3) : DT T X (.Compare a [op] [b] pos) ρ O k O3 :=
  .mk fun σ B H hE hA Q q => wt_of (pt_cmpR ho pe_we pe_we hm) (two ha hb hE hA fun v w B' H' p rv rw' => hr v w B' H' p.at' rv rw' _ fun u B2 H2 p2 ru => by
    cases ru
    exact ⟨k, rfl, q B2 H2 (p.trans p2)⟩)
/-- the operators on ints -/
theorem rop_I0 {f : Int → Int → V} {i j : Int} (h : ∀ B, Rp X.K B (f i j) z) : ROp T X (rI0 f) O (.int i) (.int j) z O := fun v w B H hA rv rw' Q q => by
  cases rv
  cases rw'
  exact ⟨i, j, rfl, rfl, q _ B H (Post.refl hA) (h B)⟩
theorem rop_I {C : Int → Int → Prop} {f : Int → Int → V} {i j : Int} (hc : C i j) (h : ∀ B, Rp X.K B (f i j) z) : ROp T X (rI C f) O (.int i) (.int j) z O := fun v w B H hA rv rw' Q q => by
  cases rv
  cases rw'
  exact ⟨i, j, rfl, rfl, hc, q _ B H (Post.refl hA) (h B)⟩
section
variable {i j : Int}
theorem de_add (ha : DE T X a ρ O (.int i) O1) (hb : DE T X b ρ O1 (.int j) O2) : DE T X (.BinOp a .Add b pos) ρ O (.int (i + j)) O2 := de_op op_add ha hb (rop_I0 fun _ => .int _)
theorem de_sub (ha : DE T X a ρ O (.int i) O1) (hb : DE T X b ρ O1 (.int j) O2) : DE T X (.BinOp a .Sub b pos) ρ O (.int (i - j)) O2 := de_op op_sub ha hb (rop_I0 fun _ => .int _)
theorem de_mul (hc : CMul i j) (ha : DE T X a ρ O (.int i) O1) (hb : DE T X b ρ O1 (.int j) O2) : DE T X (.BinOp a .Mult b pos) ρ O (.int (i * j)) O2 := de_op op_mul ha hb (rop_I hc fun _ => .int _)
theorem de_mod (hc : 0 < j) (ha : DE T X a ρ O (.int i) O1) (hb : DE T X b ρ O1 (.int j) O2) : DE T X (.BinOp a .Mod b pos) ρ O (.int (i % j)) O2 := de_op op_mod ha hb (rop_I hc fun _ => .int _)
theorem de_fdiv (hc : CDiv i j) (ha : DE T X a ρ O (.int i) O1) (hb : DE T X b ρ O1 (.int j) O2) : DE T X (.BinOp a .FloorDiv b pos) ρ O (.int (i / j)) O2 := de_op op_fdiv ha hb (rop_I hc fun _ => .int _)
theorem de_pow (hc : CPow i j) (ha : DE T X a ρ O (.int i) O1) (hb : DE T X b ρ O1 (.int j) O2) : DE T X (.BinOp a .Pow b pos) ρ O (.int (i ^ j.toNat)) O2 := de_op op_pow ha hb (rop_I hc fun _ => .int _)
theorem de_shr (hc : 0 ≤ j) (ha : DE T X a ρ O (.int i) O1) (hb : DE T X b ρ O1 (.int j) O2) : DE T X (.BinOp a .RShift b pos) ρ O (.int (i / 2 ^ j.toNat)) O2 := de_op op_shr ha hb (rop_I hc fun _ => .int _)
theorem de_lt (ha : DE T X a ρ O (.int i) O1) (hb : DE T X b ρ O1 (.int j) O2) : DE T X (.Compare a [.Lt] [b] pos) ρ O (.bl (decide (i < j))) O2 := de_cmp op_lt (nomark _) ha hb (rop_I0 fun _ => .bl _)
theorem de_le (ha : DE T X a ρ O (.int i) O1) (hb : DE T X b ρ O1 (.int j) O2) : DE T X (.Compare a [.LtE] [b] pos) ρ O (.bl (decide (i ≤ j))) O2 := de_cmp op_le (nomark _) ha hb (rop_I0 fun _ => .bl _)
theorem de_gt (ha : DE T X a ρ O (.int i) O1) (hb : DE T X b ρ O1 (.int j) O2) : DE T X (.Compare a [.Gt] [b] pos) ρ O (.bl (decide (j < i))) O2 := de_cmp op_gt (nomark _) ha hb (rop_I0 fun _ => .bl _)
theorem de_ge (ha : DE T X a ρ O (.int i) O1) (hb : DE T X b ρ O1 (.int j) O2) : DE T X (.Compare a [.GtE] [b] pos) ρ O (.bl (decide (j ≤ i))) O2 := de_cmp op_ge (nomark _) ha hb (rop_I0 fun _ => .bl _)
theorem dt_lt (ha : DE T X a ρ O (.int i) O1) (hb : DE T X b ρ O1 (.int j) O2) : DT T X (.Compare a [.Lt] [b] pos) ρ O (decide (i < j)) O2 := dt_cmp op_lt (nomark _) ha hb (rop_I0 fun _ => .bl _)
theorem dt_le (ha : DE T X a ρ O (.int i) O1) (hb : DE T X b ρ O1 (.int j) O2) : DT T X (.Compare a [.LtE] [b] pos) ρ O (decide (i ≤ j)) O2 := dt_cmp op_le (nomark _) ha hb (rop_I0 fun _ => .bl _)
theorem dt_gt (ha : DE T X a ρ O (.int i) O1) (hb : DE T X b ρ O1 (.int j) O2) : DT T X (.Compare a [.Gt] [b] pos) ρ O (decide (j < i)) O2 := dt_cmp op_gt (nomark _) ha hb (rop_I0 fun _ => .bl _)
theorem dt_ge (ha : DE T X a ρ O (.int i) O1) (hb : DE T X b ρ O1 (.int j) O2) : DT T X (.Compare a [.GtE] [b] pos) ρ O (decide (j ≤ i)) O2 := dt_cmp op_ge (nomark _) ha hb (rop_I0 fun _ => .bl _)
end
end
end Dz

namespace Dz
open PySem PySem.Spec PyProof.Rows L2 GxR

/-! ### data as the library's data -/
mutual
def D.py : D → PyData
  | .non => .none
  | .bl b => .bool b
  | .int i => .int i
  | .str x => .str x
  | .lst ds => .list (D.pys ds)
  | .tup ds => .tuple (D.pys ds)
  | .ins _ _ => .dict []
  | .kst _ => .dict []
  | .dic _ => .dict []
def D.pys : List D → List PyData
  | [] => []
  | d :: ds => d.py :: D.pys ds
end
mutual
/-- no object but lists and tuples, at most n deep -/
def D.ok : Nat → D → Bool
  | _, .non => true
  | _, .bl _ => true
  | _, .int _ => true
  | _, .str _ => true
  | 0, _ => false
  | n + 1, .lst ds => D.oks n ds
  | n + 1, .tup ds => D.oks n ds
  | _, .ins _ _ => false
  | _, .kst _ => false
  | _, .dic _ => false
def D.oks : Nat → List D → Bool
  | _, [] => true
  | n, d :: ds => D.ok n d && D.oks n ds
end
theorem oks_all : ∀ (n : Nat) (ds : List D), D.oks n ds = ds.all (D.ok n)
  | _, [] => by rw [D.oks]; rfl
  | n, d :: ds => by rw [D.oks, List.all_cons, oks_all n ds]
theorem pys_map : ∀ ds : List D, D.pys ds = ds.map D.py
  | [] => by rw [D.pys]; rfl
  | d :: ds => by rw [D.pys, List.map_cons, pys_map ds]
theorem ok_lst {n : Nat} {ds : List D} (h : ∀ d ∈ ds, D.ok n d = true) : D.ok (n + 1) (.lst ds) = true := by
  rw [D.ok, oks_all, List.all_eq_true]
  exact h
theorem ok_tup {n : Nat} {ds : List D} (h : ∀ d ∈ ds, D.ok n d = true) : D.ok (n + 1) (.tup ds) = true := by
  rw [D.ok, oks_all, List.all_eq_true]
  exact h
mutual
theorem ok_plain : ∀ (n : Nat) (d : D), D.ok n d = true → d.py.plain = true ∧ d.py.depth ≤ n
  | n, .non, _ => ⟨rfl, Nat.zero_le _⟩
  | n, .bl _, _ => ⟨rfl, Nat.zero_le _⟩
  | n, .int _, _ => ⟨rfl, Nat.zero_le _⟩
  | n, .str _, _ => ⟨rfl, Nat.zero_le _⟩
  | 0, .lst _, h => by simp [D.ok] at h
  | 0, .tup _, h => by simp [D.ok] at h
  | n + 1, .lst ds, h => by
    have h' : D.oks n ds = true := by simpa [D.ok] using h
    obtain ⟨h1, h2⟩ := oks_plain n ds h'
    rw [D.py, PyData.plain, PyData.depth]
    exact ⟨h1, Nat.succ_le_succ h2⟩
  | n + 1, .tup ds, h => by
    have h' : D.oks n ds = true := by simpa [D.ok] using h
    obtain ⟨h1, h2⟩ := oks_plain n ds h'
    rw [D.py, PyData.plain, PyData.depth]
    exact ⟨h1, Nat.succ_le_succ h2⟩
  | n, .ins _ _, h => by cases n <;> simp [D.ok] at h
  | n, .dic _, h => by cases n <;> simp [D.ok] at h
  | n, .kst _, h => by cases n <;> simp [D.ok] at h
theorem oks_plain : ∀ (n : Nat) (ds : List D), D.oks n ds = true → PyData.plainAll (D.pys ds) = true ∧ PyData.depthAll (D.pys ds) ≤ n
  | n, [], _ => by
    rw [D.pys, PyData.plainAll, PyData.depthAll]
    exact ⟨rfl, Nat.zero_le _⟩
  | n, d :: ds, h => by
    rw [D.oks, Bool.and_eq_true] at h
    obtain ⟨a1, a2⟩ := ok_plain n d h.1
    obtain ⟨b1, b2⟩ := oks_plain n ds h.2
    rw [D.pys, PyData.plainAll, PyData.depthAll, a1, b1]
    exact ⟨rfl, Nat.max_le.mpr ⟨a2, b2⟩⟩
end
mutual
theorem Rp.dp {K : PySem.W.Frag} {H : Hp} : ∀ {v : V} {d : D} (n : Nat), Rp K H v d → D.ok n d = true → Dp K H v d.py
  | _, _, _, .non, _ => .non
  | _, _, _, .bl b, _ => .bl b
  | _, _, _, .int i, _ => .int i
  | _, _, _, .str x, _ => .str x
  | _, _, 0, .lst h r, z => by simp [D.ok] at z
  | _, _, n + 1, .lst h r, z => .lst (SqL.of h) (RpAll.dp n r (by simpa [D.ok] using z))
  | _, _, 0, .tup h r, z => by simp [D.ok] at z
  | _, _, n + 1, .tup h r, z => .tup h (RpAll.dp n r (by simpa [D.ok] using z))
  | _, _, n, .ins h r, z => by cases n <;> simp [D.ok] at z
  | _, _, n, .dic h r, z => by cases n <;> simp [D.ok] at z
  | _, _, n, .kst h r, z => by cases n <;> simp [D.ok] at z
theorem RpAll.dp {K : PySem.W.Frag} {H : Hp} : ∀ {vs : List V} {ds : List D} (n : Nat), RpAll K H vs ds → D.oks n ds = true → DpAll K H vs (D.pys ds)
  | _, _, _, .nil, _ => .nil
  | _, _, n, .cons h r, z => by
    rw [D.oks, Bool.and_eq_true] at z
    exact .cons (Rp.dp n h z.1) (RpAll.dp n r z.2)
end
/-- == of data -/
def deq (x y : D) : Bool := PyData.eqv x.py y.py
theorem deq_refl {n : Nat} {d : D} (h : D.ok n d = true) : deq d d = true := SeqAt.eqv_refl_plain d.py (ok_plain n d h).1

/-- == and != of data at most 32 deep -/
def rEqO (K : PySem.W.Frag) : R2 := fun x y H Q => ∃ d e : D, Rp K H x d ∧ Rp K H y e ∧ D.ok 32 d = true ∧ D.ok 32 e = true ∧ Q (.bl (deq d e)) H
def rNeO (K : PySem.W.Frag) : R2 := fun x y H Q => ∃ d e : D, Rp K H x d ∧ Rp K H y e ∧ D.ok 32 d = true ∧ D.ok 32 e = true ∧ Q (.bl (!deq d e)) H
def rInO (K : PySem.W.Frag) (neg : Bool) : R2 := fun x y H Q => ∃ (d : D) (ds : List D), Rp K H x d ∧ (Rp K H y (.lst ds) ∨ Rp K H y (.tup ds)) ∧ D.ok 32 d = true ∧ D.oks 32 ds = true ∧ Q (.bl (if neg then !ds.any (fun z => deq z d) else ds.any fun z => deq z d)) H
section
variable {X : Cx}
theorem min_room {A : Around} {a b : Nat} (h : a ≤ 32) (hu : A.units + 64 < cLine) : A.units + min a b < cLine := by
  have : min a b ≤ a := Nat.min_le_left _ _
  omega
theorem op_eqO (hu : X.A.units + 64 < cLine) : OpR X (compareOp .Eq) (rEqO X.K) := fun pins s σ H x y v u Q I rx ry h => by
  obtain ⟨d, e, hd, he, od, oe, q⟩ := h
  obtain ⟨as, r1⟩ := Dp.reads I d.py x v (hd.dp 32 od) rx
  obtain ⟨bs, r2⟩ := Dp.reads I e.py y u (he.dp 32 oe) ry
  exact SeqAt.eq_plain r1 r2 (ok_plain _ _ od).1 (ok_plain _ _ oe).1 (min_room (ok_plain _ _ od).2 hu) ⟨.bl _, H, I, rfl, q⟩
theorem op_neO (hu : X.A.units + 64 < cLine) : OpR X (compareOp .NotEq) (rNeO X.K) := fun pins s σ H x y v u Q I rx ry h => by
  obtain ⟨d, e, hd, he, od, oe, q⟩ := h
  obtain ⟨as, r1⟩ := Dp.reads I d.py x v (hd.dp 32 od) rx
  obtain ⟨bs, r2⟩ := Dp.reads I e.py y u (he.dp 32 oe) ry
  exact SeqAt.ne_plain r1 r2 (ok_plain _ _ od).1 (ok_plain _ _ oe).1 (min_room (ok_plain _ _ od).2 hu) ⟨.bl _, H, I, rfl, q⟩
theorem any_pys (d : D) : ∀ ds : List D, ((D.pys ds).any fun y => PyData.eqv y d.py) = ds.any fun z => deq z d
  | [] => by rw [D.pys]; rfl
  | e :: ds => by
    rw [D.pys, List.any_cons, List.any_cons, any_pys d ds]
    rfl
theorem op_inO (hu : X.A.units + 64 < cLine) : OpR X (compareOp .In) (rInO X.K false) := fun pins s σ H x y v u Q I rx ry h => by
  obtain ⟨d, ds, hd, he, od, oe, q⟩ := h
  obtain ⟨as, r1⟩ := Dp.reads I d.py x v (hd.dp 32 od) rx
  obtain ⟨p1, p2⟩ := oks_plain _ _ oe
  have room : X.A.units + 1 + min (PyData.depthAll (D.pys ds)) d.py.depth < cLine := by
    have : min (PyData.depthAll (D.pys ds)) d.py.depth ≤ 32 := Nat.le_trans (Nat.min_le_left _ _) p2
    omega
  rcases he with he | he
  · obtain ⟨bs, r2⟩ := Dp.reads I _ y u (he.dp 33 (by rw [D.ok]; exact oe)) ry
    rw [D.py] at r2
    refine SeqAt.in_list_data r2 r1 p1 (ok_plain _ _ od).1 room ⟨.bl _, H, I, rfl, ?_⟩
    rw [any_pys]
    exact q
  · obtain ⟨bs, r2⟩ := Dp.reads I _ y u (he.dp 33 (by rw [D.ok]; exact oe)) ry
    rw [D.py] at r2
    refine SeqAt.in_tuple_data r2 r1 p1 (ok_plain _ _ od).1 room ⟨.bl _, H, I, rfl, ?_⟩
    rw [any_pys]
    exact q
theorem op_notInO (hu : X.A.units + 64 < cLine) : OpR X (compareOp .NotIn) (rInO X.K true) := fun pins s σ H x y v u Q I rx ry h => by
  obtain ⟨d, ds, hd, he, od, oe, q⟩ := h
  obtain ⟨as, r1⟩ := Dp.reads I d.py x v (hd.dp 32 od) rx
  obtain ⟨p1, p2⟩ := oks_plain _ _ oe
  have room : X.A.units + 1 + min (PyData.depthAll (D.pys ds)) d.py.depth < cLine := by
    have : min (PyData.depthAll (D.pys ds)) d.py.depth ≤ 32 := Nat.le_trans (Nat.min_le_left _ _) p2
    omega
  rcases he with he | he
  · obtain ⟨bs, r2⟩ := Dp.reads I _ y u (he.dp 33 (by rw [D.ok]; exact oe)) ry
    rw [D.py] at r2
    refine SeqAt.notIn_list_data r2 r1 p1 (ok_plain _ _ od).1 room ⟨.bl _, H, I, rfl, ?_⟩
    rw [any_pys]
    exact q
  · obtain ⟨bs, r2⟩ := Dp.reads I _ y u (he.dp 33 (by rw [D.ok]; exact oe)) ry
    rw [D.py] at r2
    refine SeqAt.notIn_tuple_data r2 r1 p1 (ok_plain _ _ od).1 room ⟨.bl _, H, I, rfl, ?_⟩
    rw [any_pys]
    exact q
end

section
variable {T : List Addr} {X : Cx} {ρ : List Slot} {O O1 O2 O3 : OH} {e a b c : Expr} {rest : List Expr} {pos : Pos} {d x y z : D} {p q : Bool}
theorem rop_eqO (hx : D.ok 32 x = true) (hy : D.ok 32 y = true) : ROp T X (rEqO X.K) O x y (.bl (deq x y)) O := fun v w B H hA rv rw' Q q => ⟨x, y, rv.mono hA.base, rw'.mono hA.base, hx, hy, q _ B H (Post.refl hA) (.bl _)⟩
theorem rop_neO (hx : D.ok 32 x = true) (hy : D.ok 32 y = true) : ROp T X (rNeO X.K) O x y (.bl (!deq x y)) O := fun v w B H hA rv rw' Q q => ⟨x, y, rv.mono hA.base, rw'.mono hA.base, hx, hy, q _ B H (Post.refl hA) (.bl _)⟩
theorem rop_inL {ds : List D} (neg : Bool) (hx : D.ok 32 x = true) (hy : D.oks 32 ds = true) : ROp T X (rInO X.K neg) O x (.lst ds) (.bl (if neg then !ds.any (fun z => deq z x) else ds.any fun z => deq z x)) O :=
  fun v w B H hA rv rw' Q q => ⟨x, ds, rv.mono hA.base, .inl (rw'.mono hA.base), hx, hy, q _ B H (Post.refl hA) (.bl _)⟩
theorem rop_inT {ds : List D} (neg : Bool) (hx : D.ok 32 x = true) (hy : D.oks 32 ds = true) : ROp T X (rInO X.K neg) O x (.tup ds) (.bl (if neg then !ds.any (fun z => deq z x) else ds.any fun z => deq z x)) O :=
  fun v w B H hA rv rw' Q q => ⟨x, ds, rv.mono hA.base, .inr (rw'.mono hA.base), hx, hy, q _ B H (Post.refl hA) (.bl _)⟩
theorem de_eq {k : Nat} (hr : Room k X.A) (hx : D.ok 32 x = true) (hy : D.ok 32 y = true) (ha : DE T X a ρ O x O1) (hb : DE T X b ρ O1 y O2) : DE T X (.Compare a [.Eq] [b] pos) ρ O (.bl (deq x y)) O2 := de_cmp (op_eqO hr.units) (nomark _) ha hb (rop_eqO hx hy)
theorem de_ne {k : Nat} (hr : Room k X.A) (hx : D.ok 32 x = true) (hy : D.ok 32 y = true) (ha : DE T X a ρ O x O1) (hb : DE T X b ρ O1 y O2) : DE T X (.Compare a [.NotEq] [b] pos) ρ O (.bl (!deq x y)) O2 := de_cmp (op_neO hr.units) (nomark _) ha hb (rop_neO hx hy)
theorem dt_eq {k : Nat} (hr : Room k X.A) (hx : D.ok 32 x = true) (hy : D.ok 32 y = true) (ha : DE T X a ρ O x O1) (hb : DE T X b ρ O1 y O2) : DT T X (.Compare a [.Eq] [b] pos) ρ O (deq x y) O2 := dt_cmp (op_eqO hr.units) (nomark _) ha hb (rop_eqO hx hy)
theorem dt_ne {k : Nat} (hr : Room k X.A) (hx : D.ok 32 x = true) (hy : D.ok 32 y = true) (ha : DE T X a ρ O x O1) (hb : DE T X b ρ O1 y O2) : DT T X (.Compare a [.NotEq] [b] pos) ρ O (!deq x y) O2 := dt_cmp (op_neO hr.units) (nomark _) ha hb (rop_neO hx hy)
theorem de_inL {k : Nat} {ds : List D} (hr : Room k X.A) (hx : D.ok 32 x = true) (hy : D.oks 32 ds = true) (ha : DE T X a ρ O x O1) (hb : DE T X b ρ O1 (.lst ds) O2) (hm : behindInMarks .In b = false := by rfl) : DE T X (.Compare a [.In] [b] pos) ρ O (.bl (ds.any fun z => deq z x)) O2 := de_cmp (op_inO hr.units) hm ha hb (rop_inL false hx hy)
theorem de_inT {k : Nat} {ds : List D} (hr : Room k X.A) (hx : D.ok 32 x = true) (hy : D.oks 32 ds = true) (ha : DE T X a ρ O x O1) (hb : DE T X b ρ O1 (.tup ds) O2) (hm : behindInMarks .In b = false := by rfl) : DE T X (.Compare a [.In] [b] pos) ρ O (.bl (ds.any fun z => deq z x)) O2 := de_cmp (op_inO hr.units) hm ha hb (rop_inT false hx hy)
theorem dt_inL {k : Nat} {ds : List D} (hr : Room k X.A) (hx : D.ok 32 x = true) (hy : D.oks 32 ds = true) (ha : DE T X a ρ O x O1) (hb : DE T X b ρ O1 (.lst ds) O2) (hm : behindInMarks .In b = false := by rfl) : DT T X (.Compare a [.In] [b] pos) ρ O (ds.any fun z => deq z x) O2 := dt_cmp (op_inO hr.units) hm ha hb (rop_inL false hx hy)
theorem dt_inT {k : Nat} {ds : List D} (hr : Room k X.A) (hx : D.ok 32 x = true) (hy : D.oks 32 ds = true) (ha : DE T X a ρ O x O1) (hb : DE T X b ρ O1 (.tup ds) O2) (hm : behindInMarks .In b = false := by rfl) : DT T X (.Compare a [.In] [b] pos) ρ O (ds.any fun z => deq z x) O2 := dt_cmp (op_inO hr.units) hm ha hb (rop_inT false hx hy)
theorem dt_ninL {k : Nat} {ds : List D} (hr : Room k X.A) (hx : D.ok 32 x = true) (hy : D.oks 32 ds = true) (ha : DE T X a ρ O x O1) (hb : DE T X b ρ O1 (.lst ds) O2) (hm : behindInMarks .NotIn b = false := by rfl) : DT T X (.Compare a [.NotIn] [b] pos) ρ O (!ds.any fun z => deq z x) O2 := dt_cmp (op_notInO hr.units) hm ha hb (rop_inL true hx hy)
theorem dt_ninT {k : Nat} {ds : List D} (hr : Room k X.A) (hx : D.ok 32 x = true) (hy : D.oks 32 ds = true) (ha : DE T X a ρ O x O1) (hb : DE T X b ρ O1 (.tup ds) O2) (hm : behindInMarks .NotIn b = false := by rfl) : DT T X (.Compare a [.NotIn] [b] pos) ρ O (!ds.any fun z => deq z x) O2 := dt_cmp (op_notInO hr.units) hm ha hb (rop_inT true hx hy)
/-- is None, is not None -/
def D.isNon : D → Bool
  | .non => true
  | _ => false
theorem Rp.isNon {K : PySem.W.Frag} {H : Hp} {v : V} {d : D} (r : Rp K H v d) : decide (v = .non) = d.isNon := by
  cases r <;> first | rfl | exact decide_eq_false fun z => by cases z
theorem rop_isN : ROp T X (fun x y H Q => y = .non ∧ Q (.bl (decide (x = .non))) H) O x .non (.bl x.isNon) O := fun v w B H hA rv rw' Q q => by
  cases rw'
  exact ⟨rfl, q _ B H (Post.refl hA) (by rw [rv.isNon]; exact .bl _)⟩
theorem rop_notN : ROp T X (fun x y H Q => y = .non ∧ Q (.bl (!decide (x = .non))) H) O x .non (.bl (!x.isNon)) O := fun v w B H hA rv rw' Q q => by
  cases rw'
  exact ⟨rfl, q _ B H (Post.refl hA) (by rw [rv.isNon]; exact .bl _)⟩
theorem de_isN (ha : DE T X a ρ O x O1) (hb : DE T X b ρ O1 .non O2) : DE T X (.Compare a [.Is] [b] pos) ρ O (.bl x.isNon) O2 := de_cmp op_isN (nomark _) ha hb rop_isN
theorem de_notN (ha : DE T X a ρ O x O1) (hb : DE T X b ρ O1 .non O2) : DE T X (.Compare a [.IsNot] [b] pos) ρ O (.bl (!x.isNon)) O2 := de_cmp op_notN (nomark _) ha hb rop_notN
theorem dt_isN (ha : DE T X a ρ O x O1) (hb : DE T X b ρ O1 .non O2) : DT T X (.Compare a [.Is] [b] pos) ρ O x.isNon O2 := dt_cmp op_isN (nomark _) ha hb rop_isN
theorem dt_notN (ha : DE T X a ρ O x O1) (hb : DE T X b ρ O1 .non O2) : DT T X (.Compare a [.IsNot] [b] pos) ρ O (!x.isNon) O2 := dt_cmp op_notN (nomark _) ha hb rop_notN

/-! ### and, or, not, if else -/
theorem de_one {op} (ha : DE T X a ρ O x O1) : DE T X (.BoolOp op [a] pos) ρ O x O1 := de_of (pe_one pe_we) fun σ B H hE hA Q q => ha σ B H hE hA Q q
theorem de_and (ha : DE T X a ρ O (.bl p) O1) (hb : p = true → DE T X (.BoolOp .And (b :: rest) pos) ρ O1 (.bl q) O1) : DE T X (.BoolOp .And (a :: b :: rest) pos) ρ O (.bl (p && q)) O1 :=
  de_of (pe_and pe_we pe_we) fun σ B H hE hA Q k => ha σ B H hE hA _ fun v B1 H1 p1 r1 => by
    cases r1
    refine ⟨p, rfl, ?_⟩
    cases p with
    | false => exact k _ B1 H1 p1 (.bl false)
    | true => exact hb rfl σ B1 H1 (hE.mono p1.bb) p1.at' Q fun w B2 H2 p2 r2 => k w B2 H2 (p1.trans p2) r2
theorem de_or (ha : DE T X a ρ O (.bl p) O1) (hb : p = false → DE T X (.BoolOp .Or (b :: rest) pos) ρ O1 (.bl q) O1) : DE T X (.BoolOp .Or (a :: b :: rest) pos) ρ O (.bl (p || q)) O1 :=
  de_of (pe_or pe_we pe_we) fun σ B H hE hA Q k => ha σ B H hE hA _ fun v B1 H1 p1 r1 => by
    cases r1
    refine ⟨p, rfl, ?_⟩
    cases p with
    | true => exact k _ B1 H1 p1 (.bl true)
    | false => exact hb rfl σ B1 H1 (hE.mono p1.bb) p1.at' Q fun w B2 H2 p2 r2 => k w B2 H2 (p1.trans p2) r2
theorem de_not (ha : DE T X a ρ O (.bl p) O1) : DE T X (.UnaryOp .Not a pos) ρ O (.bl (!p)) O1 :=
  de_of (pe_not pe_we) fun σ B H hE hA Q k => ha σ B H hE hA _ fun v B1 H1 p1 r1 => by
    cases r1
    exact ⟨p, rfl, k _ B1 H1 p1 (.bl _)⟩
/-- tests -/
theorem dt_of {t : TT} (h : PT X e t) (ht : ∀ (σ : L2.St) (B H : Hp), Env X.K B σ ρ → At T X.K B O H → ∀ Q : Bool → Hp → Prop, (∀ B' H', Post T X.K B O H B' O1 H' → Q p H') → t σ H Q) : DT T X e ρ O p O1 :=
  .mk fun σ B H hE hA Q q => wt_of h (ht σ B H hE hA Q q)
theorem dt_val (ha : DE T X e ρ O (.bl p) O1) (he : ∀ whole, isTrue e X.env whole = (do let v ← whole; standAt e.pos; holding [v] (truthy v)) := by intro _; rfl) : DT T X e ρ O p O1 :=
  dt_of (pt_val pe_we he) fun σ B H hE hA Q k => ha σ B H hE hA _ fun v B1 H1 p1 r1 => by
    cases r1
    exact ⟨p, rfl, k B1 H1 p1⟩
theorem dt_not (ha : DT T X a ρ O p O1) : DT T X (.UnaryOp .Not a pos) ρ O (!p) O1 :=
  dt_of (pt_not pt_wt) fun σ B H hE hA Q k => ha σ B H hE hA _ fun B1 H1 p1 => k B1 H1 p1
theorem DW.dt (h : DW T X e ρ O p O1) : DT T X e ρ O p O1 := .mk fun σ B H hE hA Q q pins s I => h σ B H hE hA Q q _ pins s I
theorem dw_of {t : TT} (h : PW X e t) (ht : ∀ (σ : L2.St) (B H : Hp), Env X.K B σ ρ → At T X.K B O H → ∀ Q : Bool → Hp → Prop, (∀ B' H', Post T X.K B O H B' O1 H' → Q p H') → t σ H Q) : DW T X e ρ O p O1 :=
  .mk fun σ B H hE hA Q q => ww_of h (ht σ B H hE hA Q q)
theorem dw_and1 (ha : DT T X a ρ O p O1) : DW T X (.BoolOp .And [a] pos) ρ O p O1 := dw_of (pw_and1 pt_wt) fun σ B H hE hA Q k => ha σ B H hE hA Q k
theorem dw_or1 (ha : DT T X a ρ O p O1) : DW T X (.BoolOp .Or [a] pos) ρ O p O1 := dw_of (pw_or1 pt_wt) fun σ B H hE hA Q k => ha σ B H hE hA Q k
theorem dw_and (ha : DT T X a ρ O p O1) (hb : p = true → DW T X (.BoolOp .And (b :: rest) pos) ρ O1 q O1) : DW T X (.BoolOp .And (a :: b :: rest) pos) ρ O (p && q) O1 :=
  dw_of (pw_and pt_wt pw_ww) fun σ B H hE hA Q k => ha σ B H hE hA _ fun B1 H1 p1 => by
    cases p with
    | false => exact k B1 H1 p1
    | true => exact fun wh pins s I => hb rfl σ B1 H1 (hE.mono p1.bb) p1.at' Q (fun B2 H2 p2 => k B2 H2 (p1.trans p2)) wh pins s I
theorem dw_or (ha : DT T X a ρ O p O1) (hb : p = false → DW T X (.BoolOp .Or (b :: rest) pos) ρ O1 q O1) : DW T X (.BoolOp .Or (a :: b :: rest) pos) ρ O (p || q) O1 :=
  dw_of (pw_or pt_wt pw_ww) fun σ B H hE hA Q k => ha σ B H hE hA _ fun B1 H1 p1 => by
    cases p with
    | true => exact k B1 H1 p1
    | false => exact fun wh pins s I => hb rfl σ B1 H1 (hE.mono p1.bb) p1.at' Q (fun B2 H2 p2 => k B2 H2 (p1.trans p2)) wh pins s I
theorem de_if (hc : DT T X c ρ O p O1) (h1 : p = true → DE T X a ρ O1 d O2) (h2 : p = false → DE T X b ρ O1 d O2) : DE T X (.IfExp c a b pos) ρ O d O2 :=
  de_of (pe_ifExp pt_wt pe_we pe_we) fun σ B H hE hA Q k => hc σ B H hE hA _ fun B1 H1 p1 => by
    cases p with
    | true => exact h1 rfl σ B1 H1 (hE.mono p1.bb) p1.at' Q fun v B2 H2 p2 r2 => k v B2 H2 (p1.trans p2) r2
    | false => exact h2 rfl σ B1 H1 (hE.mono p1.bb) p1.at' Q fun v B2 H2 p2 r2 => k v B2 H2 (p1.trans p2) r2

/-! ### arguments, displays -/
variable {es : List Expr} {s : Slot} {ss : List Slot} {ds : List D}
theorem da_of {t : TA} (h : PA X es t) (ht : ∀ (σ : L2.St) (B H : Hp), Env X.K B σ ρ → At T X.K B O H → ∀ Q : List V → Hp → Prop, (∀ vs B' H', Post T X.K B O H B' O1 H' → Args X.K B' vs ss → Q vs H') → t σ H Q) : DA T X es ρ O ss O1 :=
  .mk fun σ B H hE hA Q q => wa_of h (ht σ B H hE hA Q q)
theorem da_nil : DA T X [] ρ O [] O := da_of pa_nil fun σ B H hE hA Q k => k [] B H (Post.refl hA) .nil
theorem da_cons (ha : DV T X e ρ O s O1) (hr : DA T X es ρ O1 ss O2) (hs : starEach (e :: es) X.env = (false, eval e X.env) :: starEach es X.env := by rfl) : DA T X (e :: es) ρ O (s :: ss) O2 :=
  da_of (pa_cons pe_we pa_wa hs) fun σ B H hE hA Q k => ha σ B H hE hA _ fun v B1 H1 p1 r1 => hr σ B1 H1 (hE.mono p1.bb) p1.at' _ fun vs B2 H2 p2 r2 => k (v :: vs) B2 H2 (p1.trans p2) (.cons (r1.mono p2.bb) r2)
theorem da_one (ha : DV T X e ρ O s O1) (hs : starEach [e] X.env = (false, eval e X.env) :: starEach [] X.env := by rfl) : DA T X [e] ρ O [s] O1 := da_cons ha da_nil hs
/-- *e in a display -/
theorem da_starT {x1 : Pos} (ha : DE T X e ρ O (.tup ds) O1) (hr : DA T X es ρ O1 ss O2) (hs : starEach (.Starred e x1 :: es) X.env = (true, eval e X.env) :: starEach es X.env := by rfl) : DA T X (.Starred e x1 :: es) ρ O (ds.map .dat ++ ss) O2 :=
  da_of (StX.pa_star pe_we pa_wa hs) fun σ B H hE hA Q k => ha σ B H hE hA _ fun v B1 H1 p1 r1 => by
    cases r1 with
    | tup h r => exact ⟨_, _, rfl, .inl (same_t p1.at'.base h), hr σ B1 H1 (hE.mono p1.bb) p1.at' _ fun vs B2 H2 p2 r2 => k _ B2 H2 (p1.trans p2) (((Args.of r).mono p2.bb).append r2)⟩
theorem da_starL {x1 : Pos} (ha : DE T X e ρ O (.lst ds) O1) (hr : DA T X es ρ O1 ss O2) (hs : starEach (.Starred e x1 :: es) X.env = (true, eval e X.env) :: starEach es X.env := by rfl) : DA T X (.Starred e x1 :: es) ρ O (ds.map .dat ++ ss) O2 :=
  da_of (StX.pa_star pe_we pa_wa hs) fun σ B H hE hA Q k => ha σ B H hE hA _ fun v B1 H1 p1 r1 => by
    cases r1 with
    | lst h r => exact ⟨_, _, rfl, .inr (SqL.of (p1.at'.base _ _ h)), hr σ B1 H1 (hE.mono p1.bb) p1.at' _ fun vs B2 H2 p2 r2 => k _ B2 H2 (p1.trans p2) (((Args.of r).mono p2.bb).append r2)⟩
theorem de_tup {x1} (ha : DA T X es ρ O (ds.map .dat) O1) (hl : ds.length ≤ 10000 := by decide) : DE T X (.Tuple es x1 pos) ρ O (.tup ds) O1 :=
  de_of (pe_tup pa_wa) fun σ B H hE hA Q k => ha σ B H hE hA _ fun vs B1 H1 p1 r1 => ⟨by rw [r1.all.length]; exact Nat.le_trans hl (by decide), fun p hp =>
    k (.ref p) (upd B1 p (.tup vs)) _ (p1.trans (Post.made p1.at' hp)) (.tup (.inl (.inl upd_same)) (r1.all.mono (Post.made p1.at' (o := .tup vs) hp).bb))⟩
theorem de_lst (ha : DA T X es ρ O (ds.map .dat) O1) (hl : ds.length ≤ 10000 := by decide) : DE T X (.List es pos) ρ O (.lst ds) O1 :=
  de_of (pe_lst pa_wa) fun σ B H hE hA Q k => ha σ B H hE hA _ fun vs B1 H1 p1 r1 => ⟨by rw [r1.all.length]; exact Nat.le_trans hl (by decide), fun p hp =>
    k (.ref p) (upd B1 p (.lst vs)) _ (p1.trans (Post.made p1.at' hp)) (.lst upd_same (r1.all.mono (Post.made p1.at' (o := .lst vs) hp).bb))⟩

/-! ### items, attributes -/
theorem atI_rp {K : PySem.W.Frag} {B : Hp} {vs : List V} {ds : List D} {i : Int} (r : RpAll K B vs ds) (h : atI ds i = some d) : ∃ v, atI vs i = some v ∧ Rp K B v d := by
  unfold atI at h ⊢
  rw [r.length]
  cases e : ixN ds.length i with
  | none =>
    rw [e] at h
    cases h
  | some j =>
    rw [e] at h
    exact r.get h
theorem de_ixL {i : Int} (ha : DE T X a ρ O (.lst ds) O1) (hb : DE T X b ρ O1 (.int i) O2) (h : atI ds i = some d) (hs : PlainIx b := by intro _ _; rfl) : DE T X (.Subscript a b pos) ρ O d O2 :=
  de_of (pe_ix ix_list pe_we pe_we hs) fun σ B H hE hA Q k => two ha hb hE hA fun v w B' H' p rv rw' => by
    cases rv with
    | lst hq r =>
      cases rw'
      obtain ⟨u, h1, h2⟩ := atI_rp r h
      exact ⟨_, _, i, u, rfl, rfl, SqL.of (p.at'.base _ _ hq), h1, k u B' H' p h2⟩
theorem de_ixK {i : Int} (ha : DE T X a ρ O (.kst ds) O1) (hb : DE T X b ρ O1 (.int i) O2) (h : atI ds i = some d) (hs : PlainIx b := by intro _ _; rfl) : DE T X (.Subscript a b pos) ρ O d O2 :=
  de_of (pe_ix ix_list pe_we pe_we hs) fun σ B H hE hA Q k => two ha hb hE hA fun v w B' H' p rv rw' => by
    cases rv with
    | kst hq r =>
      cases rw'
      obtain ⟨u, h1, h2⟩ := atI_rp r h
      exact ⟨_, _, i, u, rfl, rfl, p.at'.base.seq hq, h1, k u B' H' p h2⟩
theorem de_ixT {i : Int} (ha : DE T X a ρ O (.tup ds) O1) (hb : DE T X b ρ O1 (.int i) O2) (h : atI ds i = some d) (hs : PlainIx b := by intro _ _; rfl) : DE T X (.Subscript a b pos) ρ O d O2 :=
  de_of (pe_ix ix_tup pe_we pe_we hs) fun σ B H hE hA Q k => two ha hb hE hA fun v w B' H' p rv rw' => by
    cases rv with
    | tup hq r =>
      cases rw'
      obtain ⟨u, h1, h2⟩ := atI_rp r h
      exact ⟨_, _, i, u, rfl, rfl, same_t p.at'.base hq, h1, k u B' H' p h2⟩
/-- a field of a frozen instance -/
theorem de_fld {C : Addr} {f : Str} {fd : List (Str × D)} (cl : Cls X.K C) (na : NoAttr X.K C f) (ha : DE T X e ρ O (.ins C fd) O1) (h : fd.lookup f = some d) (hb : attributeBase e f X.env (eval e X.env) = eval e X.env := by rfl) : DE T X (.Attribute e f pos) ρ O d O1 :=
  de_of (pe_fld pe_we hb) fun σ B H hE hA Q k => ha σ B H hE hA _ fun v B1 H1 p1 r1 => by
    cases r1 with
    | ins hq r =>
      obtain ⟨u, h1, h2⟩ := r.get h
      exact ⟨_, C, _, _, u, rfl, p1.at'.base _ _ hq, cl, na, h1, k u B1 H1 p1 h2⟩
/-- a frozen dict's item -/
theorem de_dget {k : Nat} {kd : List (Key × D)} (hr : Room k X.A) {key : Key} {kx : D} (ha : DE T X a ρ O (.dic kd) O1) (hb : DE T X b ρ O1 kx O2) (hk : ∀ B v, Rp X.K B v kx → v = kV key) (h : (kd.find? fun kv => decide (kv.1 = key)).map (·.2) = some d) (hs : NoSl b := by intro _ _; rfl) :
    DE T X (.Subscript a b pos) ρ O d O2 :=
  de_of (pe_dget (hu_of hr) pe_we pe_we hs) fun σ B H hE hA Q q => two ha hb hE hA fun v w B' H' p rv rw' => by
    cases rv with
    | dic hq r =>
      obtain ⟨u, h1, h2⟩ := r.get h
      have e := hk B' w rw'
      subst e
      refine ⟨_, u, rfl, ?_, q u B' H' p h2⟩
      rw [← h1]
      exact DGet.k (p.at'.base _ _ hq)

/-! ### calls -/
/-- a def's promise: by P, from its arguments and what is owned to its answer and what is owned -/
def spF (T : List Addr) (K : PySem.W.Frag) (P : List Slot → OH → D → OH → Prop) : Sp := fun vs H Q _ => ∃ ss B O d O', P ss O d O' ∧ Args K B vs ss ∧ At T K B O H ∧ ∀ v B' H', Post T K B O H B' O' H' → Rp K B' v d → Q v H'
theorem de_call {CX : CXT} {k : Nat} {f : Addr} {fd : FuncData} {ps : List Str} {P : List Slot → OH → D → OH → Prop} {E : XK} {n : Str} {p : Pos} (F : FnOk X.prog X.w X.K X.mg X.base CX k f fd ps (spF T X.K P)) (hr : Room k X.A) (hm : X.mg n = some (.ref f)) (hk : PySem.W.keepIn X.K (.ref f) = true) (hb : Binds X.K fd ps []) (hx : Passes CX X E)
    (ha : DA T X (e :: es) ρ O ss O1) (h : P ss O1 d O2) (hg : Gl X n := by rfl) (hdb : (n == ("__debug__" : Str)) = false := by decide) (hs : starEach (e :: es) X.env = (false, eval e X.env) :: starEach es X.env := by rfl) (hpl : (backTo pos (starEach es X.env)).any (·.1) = false := by rfl) :
    DE T X (.Call (.Name n p) (e :: es) [] pos) ρ O d O2 :=
  de_of (pe_call F hr hg hm hk hb .nil hx pa_wa hdb hs hpl) fun σ B H hE hA Q q => ha σ B H hE hA _ fun vs B1 H1 p1 r1 => by
    show spF T X.K P (vs ++ []) H1 Q E
    rw [List.append_nil]
    exact ⟨ss, B1, O1, d, O2, h, r1, p1.at', fun v B2 H2 p2 r2 => q v B2 H2 (p1.trans p2) r2⟩
theorem de_call0 {CX : CXT} {k : Nat} {f : Addr} {fd : FuncData} {ps : List Str} {P : List Slot → OH → D → OH → Prop} {E : XK} {n : Str} {p : Pos} (F : FnOk X.prog X.w X.K X.mg X.base CX k f fd ps (spF T X.K P)) (hr : Room k X.A) (hm : X.mg n = some (.ref f)) (hk : PySem.W.keepIn X.K (.ref f) = true) (hb : Binds X.K fd ps []) (hx : Passes CX X E)
    (h : P [] O d O2) (hg : Gl X n := by rfl) (hdb : (n == ("__debug__" : Str)) = false := by decide) :
    DE T X (.Call (.Name n p) [] [] pos) ρ O d O2 :=
  de_of (pe_call0 F hr hg hm hk hb .nil hx hdb) fun σ B H hE hA Q q => by
    show spF T X.K P ([] ++ []) H Q E
    exact ⟨[], B, O, d, O2, h, .nil, hA, fun v B2 H2 p2 r2 => q v B2 H2 p2 r2⟩
end
end Dz

namespace Dz
open PySem PySem.Spec PyProof.Rows L2 GxR

theorem set_same {α : Type} : ∀ {l : List α} {i : Nat} {x : α}, l[i]? = some x → l.set i x = l
  | _ :: _, 0, _, h => by
    cases h
    rfl
  | a :: l, i + 1, x, h => congrArg (a :: ·) (set_same (l := l) (i := i) (by simpa using h))

/-! ### statements -/
/-- what may stand behind a statement: the slots and what is owned; an answer; the reason of the program's own error -/
structure DEn where
  nx : List Slot → OH → Prop
  rt : Slot → OH → Prop
  bk : List Slot → OH → Prop := fun _ _ => False
  ct : List Slot → OH → Prop := fun _ _ => False
  ex : D → OH → Prop := fun _ _ => False
structure Link (T : List Addr) (K : PySem.W.Frag) (CE : Addr) (B : Hp) (O : OH) (H : Hp) (E : DEn) (Dn : Ends) (W : WX) : Prop where
  nx : ∀ ρ O' σ B' H', E.nx ρ O' → Post T K B O H B' O' H' → Env K B' σ ρ → Dn.nx σ H'
  rt : ∀ s O' v B' H', E.rt s O' → Post T K B O H B' O' H' → SlotOk K B' (some v) s → Dn.rt v H'
  bk : ∀ ρ O' σ B' H', E.bk ρ O' → Post T K B O H B' O' H' → Env K B' σ ρ → Dn.bk σ H'
  ct : ∀ ρ O' σ B' H', E.ct ρ O' → Post T K B O H B' O' H' → Env K B' σ ρ → Dn.ct σ H'
  ex : ∀ r O' v dd σ B' H', E.ex r O' → Post T K B O H B' O' H' → H' dd = some (.xd [(("reason" : Str), v)]) → Rp K B' v r → W (.ref CE) (some dd) σ H'
section
variable (T : List Addr) (X : Cx) (CE : Addr)
structure D1 (st : Stmt) (ρ : List Slot) (O : OH) (E : DEn) : Prop where
  run : ∀ (σ : L2.St) (B H : Hp), Env X.K B σ ρ → At T X.K B O H → ∀ (Dn : Ends) (W : WX), Takes X W → Link T X.K CE B O H E Dn W → WS X st Dn σ H
structure DS (st : List Stmt) (ρ : List Slot) (O : OH) (E : DEn) : Prop where
  run : ∀ (σ : L2.St) (B H : Hp), Env X.K B σ ρ → At T X.K B O H → ∀ (Dn : Ends) (W : WX), Takes X W → Link T X.K CE B O H E Dn W → WSs X st Dn σ H
end
instance {T : List Addr} {X : Cx} {CE : Addr} {st : Stmt} {ρ : List Slot} {O : OH} {E : DEn} : CoeFun (D1 T X CE st ρ O E) fun _ => ∀ (σ : L2.St) (B H : Hp), Env X.K B σ ρ → At T X.K B O H → ∀ (Dn : Ends) (W : WX), Takes X W → Link T X.K CE B O H E Dn W → WS X st Dn σ H := ⟨D1.run⟩
instance {T : List Addr} {X : Cx} {CE : Addr} {st : List Stmt} {ρ : List Slot} {O : OH} {E : DEn} : CoeFun (DS T X CE st ρ O E) fun _ => ∀ (σ : L2.St) (B H : Hp), Env X.K B σ ρ → At T X.K B O H → ∀ (Dn : Ends) (W : WX), Takes X W → Link T X.K CE B O H E Dn W → WSs X st Dn σ H := ⟨DS.run⟩
section
variable {T : List Addr} {X : Cx} {CE : Addr} {ρ ρ' : List Slot} {O O1 O2 O3 : OH} {e a b c : Expr} {pos pos' : Pos} {d x y z : D} {p q : Bool} {E : DEn} {s : Slot} {ss : List Slot} {ds : List D} {rest body : List Stmt} {st : Stmt}
theorem Link.step {K : PySem.W.Frag} {B H B1 H1 : Hp} {Dn : Ends} {W : WX} (l : Link T K CE B O H E Dn W) (po : Post T K B O H B1 O1 H1) : Link T K CE B1 O1 H1 E Dn W where
  nx := fun ρ O' σ B' H' h q e => l.nx ρ O' σ B' H' h (po.trans q) e
  rt := fun ρ O' σ B' H' h q e => l.rt ρ O' σ B' H' h (po.trans q) e
  bk := fun ρ O' σ B' H' h q e => l.bk ρ O' σ B' H' h (po.trans q) e
  ct := fun ρ O' σ B' H' h q e => l.ct ρ O' σ B' H' h (po.trans q) e
  ex := fun r O' v dd σ B' H' h q e1 e2 => l.ex r O' v dd σ B' H' h (po.trans q) e1 e2
theorem ds_nil (h : E.nx ρ O) : DS T X CE [] ρ O E := .mk fun σ B H hE hA Dn W tk l => wss_of pss_nil (l.nx ρ O σ B H h (Post.refl hA) hE)
theorem ds_one (h : D1 T X CE st ρ O E) : DS T X CE [st] ρ O E := .mk fun σ B H hE hA Dn W tk l => wss_of (pss_one ps_ws) (h σ B H hE hA Dn W tk l)
theorem ds_cons (h : D1 T X CE st ρ O { E with nx := fun ρ' O' => DS T X CE rest ρ' O' E }) : DS T X CE (st :: rest) ρ O E := .mk fun σ B H hE hA Dn W tk l => by
  refine wss_of (pss_cons ps_ws pss_wss) ?_
  refine h σ B H hE hA { Dn with nx := WSs X rest Dn } W tk ⟨fun ρ' O' σ' B' H' k po e => ?_, l.rt, l.bk, l.ct, l.ex⟩
  exact k σ' B' H' e po.at' Dn W tk (l.step po)
/-- weaker ends -/
theorem DS.imp {E' : DEn} (h : DS T X CE body ρ O E) (h1 : ∀ ρ O, E.nx ρ O → E'.nx ρ O) (h2 : ∀ s O, E.rt s O → E'.rt s O) (h3 : ∀ ρ O, E.bk ρ O → E'.bk ρ O) (h4 : ∀ ρ O, E.ct ρ O → E'.ct ρ O) (h5 : ∀ r O, E.ex r O → E'.ex r O) : DS T X CE body ρ O E' :=
  .mk fun σ B H hE hA Dn W tk l => h σ B H hE hA Dn W tk ⟨fun _ _ _ _ _ k => l.nx _ _ _ _ _ (h1 _ _ k), fun _ _ _ _ _ k => l.rt _ _ _ _ _ (h2 _ _ k), fun _ _ _ _ _ k => l.bk _ _ _ _ _ (h3 _ _ k), fun _ _ _ _ _ k => l.ct _ _ _ _ _ (h4 _ _ k), fun _ _ _ _ _ _ _ k => l.ex _ _ _ _ _ _ _ (h5 _ _ k)⟩
theorem d1_pass (h : E.nx ρ O) : D1 T X CE (.Pass pos) ρ O E := .mk fun σ B H hE hA Dn W tk l => ws_of ps_pass (l.nx ρ O σ B H h (Post.refl hA) hE)
theorem d1_break (h : E.bk ρ O) : D1 T X CE (.Break pos) ρ O E := .mk fun σ B H hE hA Dn W tk l => ws_of ps_break (l.bk ρ O σ B H h (Post.refl hA) hE)
theorem d1_continue (h : E.ct ρ O) : D1 T X CE (.Continue pos) ρ O E := .mk fun σ B H hE hA Dn W tk l => ws_of ps_continue (l.ct ρ O σ B H h (Post.refl hA) hE)
theorem d1_set (i : Nat) {n : Str} (he : DV T X e ρ O s O1) (h : E.nx (ρ.set i s) O1) (hN : X.N.Nodup) (hi : X.N[i]? = some n := by rfl) (hx : Loc X.env.scope n := by first | exact Or.inl rfl | exact Or.inr rfl) (hs : swapsWith e (some (.Name n pos')) pos.line X.env = pure false := by rfl)
    (hf : X.fn n = true ∨ X.env.scope.names.lookup n = some .local := by first | exact .inl rfl | exact .inr rfl) : D1 T X CE (.Assign [.Name n pos'] e pos) ρ O E :=
  .mk fun σ B H hE hA Dn W tk l => ws_of (ps_set hN hi hx pe_we hs hf) (he σ B H hE hA _ fun v B1 H1 p1 r1 => l.nx _ _ _ B1 H1 h p1 ((hE.mono p1.bb).set r1 i))
theorem d1_ret (he : DV T X e ρ O s O1) (h : E.rt s O1) : D1 T X CE (.Return (some e) pos) ρ O E :=
  .mk fun σ B H hE hA Dn W tk l => ws_of (ps_ret pe_we) (he σ B H hE hA _ fun v B1 H1 p1 r1 => l.rt _ _ v B1 H1 h p1 r1)
theorem d1_retN (h : E.rt (.dat .non) O) : D1 T X CE (.Return none pos) ρ O E :=
  .mk fun σ B H hE hA Dn W tk l => ws_of ps_retN (l.rt _ _ .non B H h (Post.refl hA) .non)
theorem d1_if (hc : DT T X c ρ O p O1) (h1 : p = true → DS T X CE body ρ O1 E) (h2 : p = false → DS T X CE rest ρ O1 E) : D1 T X CE (.If c body rest pos) ρ O E :=
  .mk fun σ B H hE hA Dn W tk l => ws_of (ps_if pt_wt pss_wss pss_wss) (hc σ B H hE hA _ fun B1 H1 p1 => by
    cases p with
    | true => exact h1 rfl σ B1 H1 (hE.mono p1.bb) p1.at' Dn W tk (l.step p1)
    | false => exact h2 rfl σ B1 H1 (hE.mono p1.bb) p1.at' Dn W tk (l.step p1))
theorem d1_expr (he : DV T X e ρ O s O1) (h : E.nx ρ O1) (hs : swapsWith e none pos.line X.env = pure false := by rfl) : D1 T X CE (.Expr e pos) ρ O E :=
  .mk fun σ B H hE hA Dn W tk l => ws_of (ps_expr pe_we hs) (he σ B H hE hA _ fun v B1 H1 p1 r1 => l.nx _ _ _ B1 H1 h p1 (hE.mono p1.bb))
theorem d1_doc {t : Str} {j} (h : E.nx ρ O) : D1 T X CE (.Expr (.Constant (.str t) j pos) pos') ρ O E := .mk fun σ B H hE hA Dn W tk l => ws_of ps_doc (l.nx ρ O σ B H h (Post.refl hA) hE)
/-- a list display given to a name, owned -/
theorem d1_own (i : Nat) {n : Str} {es : List Expr} {lp : Pos} (ha : DA T X es ρ O ss O1) (h : ∀ p, O1 p = none → E.nx (ρ.set i (.val (.ref p))) (put O1 p (.lst ss))) (hN : X.N.Nodup) (hl : ss.length ≤ 10000 := by decide) (hi : X.N[i]? = some n := by rfl) (hx : Loc X.env.scope n := by first | exact Or.inl rfl | exact Or.inr rfl)
    (hs : swapsWith (.List es lp) (some (.Name n pos')) pos.line X.env = pure false := by rfl) (hf : X.fn n = true ∨ X.env.scope.names.lookup n = some .local := by first | exact .inl rfl | exact .inr rfl) : D1 T X CE (.Assign [.Name n pos'] (.List es lp) pos) ρ O E :=
  .mk fun σ B H hE hA Dn W tk l => ws_of (ps_set hN hi hx (pe_lst pa_wa) hs hf) (ha σ B H hE hA _ fun vs B1 H1 p1 r1 => ⟨by rw [r1.length]; exact Nat.le_trans hl (by decide), fun p hp =>
    have po := Post.madeO (o := .lst vs) (od := .lst ss) p1.at' hp r1
    l.nx _ _ _ B1 _ (h p (p1.at'.noO hp)) (p1.trans po) ((hE.mono p1.bb).set (s := .val (.ref p)) (show SlotOk X.K B1 (some (.ref p)) (.val (.ref p)) from rfl) i)⟩)
/-- what is owned by the name in slot i becomes data -/
theorem ds_freeze (i : Nat) {a : Addr} (hi : ρ[i]? = some (.val (.ref a))) (ho : O a = some (.lst (ds.map .dat))) (h : DS T X CE body (ρ.set i (.dat (.lst ds))) (cut O a) E) : DS T X CE body ρ O E := .mk fun σ B H hE hA Dn W tk l => by
  obtain ⟨_, u, hu, ok⟩ := hA.own a _ ho
  cases u <;> try exact ok.elim
  rename_i vs
  have po := Post.freeze hA ho hu
  obtain ⟨o, e1, e2⟩ := hE.get hi
  have hE' := (hE.mono po.bb).set (o := some (.ref a)) (s := .dat (.lst ds)) (show SlotOk X.K (upd B a (.lst vs)) (some (.ref a)) (.dat (.lst ds)) from .lst upd_same ((Args.all ok).mono po.bb)) i
  have eo : o = some (.ref a) := by
    cases o with
    | none => exact e2.elim
    | some v => exact congrArg some e2
  subst eo
  have es : σ.set i (some (.ref a)) = σ := set_same e1
  rw [es] at hE'
  exact h σ _ H hE' po.at' Dn W tk (l.step po)
/-- x.append(e), x owned -/
theorem d1_append (i : Nat) {n : Str} {a : Addr} {apos npos : Pos} {s0 : List Slot} (hi : ρ[i]? = some (.val (.ref a))) (h0 : O a = some (.lst s0)) (he : DV T X e ρ O s O1) (ho : O1 a = some (.lst ss)) (hl : ss.length < 100000) (h : E.nx ρ (put O1 a (.lst (ss ++ [s]))))
    (pe : PE X (.Call (.Attribute (.Name n npos) "append" apos) [e] [] pos) (tBM X.K "list" rAppend (tVar i) (tCons (WE X e) tNil)) := by exact pe_bm PySem.F.plainAttrs_list PySem.F.slot_list_append PySem.F.type_list_append mt_append (pv _) (pa_cons pe_we pa_nil)) (hs : swapsWith (.Call (.Attribute (.Name n npos) "append" apos) [e] [] pos) none pos'.line X.env = pure false := by rfl) :
    D1 T X CE (.Expr (.Call (.Attribute (.Name n npos) "append" apos) [e] [] pos) pos') ρ O E := .mk fun σ B H hE hA Dn W tk l => by
  refine ws_of (ps_expr pe hs) ?_
  obtain ⟨o, e1, e2⟩ := hE.get hi
  cases o with
  | none => exact e2.elim
  | some v =>
    have ev : v = .ref a := e2
    subst ev
    obtain ⟨_, u0, hu0, ok0⟩ := hA.own a _ h0
    cases u0 <;> try exact ok0.elim
    refine ⟨_, e1, .inl ⟨rfl, _, SqL.of hu0⟩, ?_⟩
    refine he σ B H hE hA _ fun w B1 H1 p1 r1 => ?_
    obtain ⟨_, u, hu, ok⟩ := p1.at'.own a _ ho
    cases u <;> try exact ok.elim
    rename_i vs
    have lv : vs.length = ss.length := Args.length ok
    have po := Post.put (u := .lst (vs ++ [w])) (od := .lst (ss ++ [s])) p1.at' ho (Args.append ok (.cons r1 .nil))
    exact ⟨a, vs, w, rfl, rfl, hu, by rw [lv]; exact Nat.lt_of_lt_of_le hl (by decide), l.nx _ _ _ B1 _ h (p1.trans po) (hE.mono p1.bb)⟩
/-- x.extend(e), x owned, e a list -/
theorem d1_extend (i : Nat) {n : Str} {a : Addr} {apos npos : Pos} {s0 : List Slot} (hi : ρ[i]? = some (.val (.ref a))) (h0 : O a = some (.lst s0)) (he : DE T X e ρ O (.lst ds) O1) (ho : O1 a = some (.lst ss)) (hl : ss.length + ds.length ≤ 100000) (h : E.nx ρ (put O1 a (.lst (ss ++ ds.map .dat))))
    (pe : PE X (.Call (.Attribute (.Name n npos) "extend" apos) [e] [] pos) (tBM X.K "list" rExtend (tVar i) (tCons (WE X e) tNil)) := by exact pe_bm PySem.F.plainAttrs_list PySem.F.slot_list_extend PySem.F.type_list_extend mt_extend (pv _) (pa_cons pe_we pa_nil)) (hs : swapsWith (.Call (.Attribute (.Name n npos) "extend" apos) [e] [] pos) none pos'.line X.env = pure false := by rfl) :
    D1 T X CE (.Expr (.Call (.Attribute (.Name n npos) "extend" apos) [e] [] pos) pos') ρ O E := .mk fun σ B H hE hA Dn W tk l => by
  refine ws_of (ps_expr pe hs) ?_
  obtain ⟨o, e1, e2⟩ := hE.get hi
  cases o with
  | none => exact e2.elim
  | some v =>
    have ev : v = .ref a := e2
    subst ev
    obtain ⟨_, u0, hu0, ok0⟩ := hA.own a _ h0
    cases u0 <;> try exact ok0.elim
    refine ⟨_, e1, .inl ⟨rfl, _, SqL.of hu0⟩, ?_⟩
    refine he σ B H hE hA _ fun w B1 H1 p1 r1 => ?_
    obtain ⟨_, u, hu, ok⟩ := p1.at'.own a _ ho
    cases u <;> try exact ok.elim
    rename_i vs
    have lv : vs.length = ss.length := Args.length ok
    cases r1
    rename_i b ws hb0 rb
    have hb := p1.at'.base _ _ hb0
    have po := Post.put (u := .lst (vs ++ ws)) (od := .lst (ss ++ ds.map .dat)) p1.at' ho (Args.append ok (Args.of rb))
    exact ⟨a, b, vs, ws, rfl, rfl, hu, hb, by rw [lv, rb.length]; exact Nat.le_trans hl (by decide), l.nx _ _ _ B1 _ h (p1.trans po) (hE.mono p1.bb)⟩
/-- o[i] = e, o owned by a name -/
theorem d1_setitem (i : Nat) {n : Str} {a : Addr} {npos spos : Pos} {k : Int} {j : Nat} (hi : ρ[i]? = some (.val (.ref a))) (he : DV T X e ρ O s O1) (hb : DE T X b ρ O1 (.int k) O2) (ho : O2 a = some (.lst ss)) (hj : ixN ss.length k = some j) (h : E.nx ρ (put O2 a (.lst (ss.set j s))))
    (pn : PE X (.Name n npos) (tVar i) := by exact pv _)
    (hsub : ∀ v, assign (.Subscript (.Name n npos) b spos) X.env v = (do
      let ov ← holding [v] (eval (.Name n npos) X.env)
      let iv ← holding [v, ov] (eval b X.env)
      standAt spos
      holding [v, ov, iv] (setItem ov iv v)
      release [v, ov, iv] []) := by intro _; rfl)
    (h1 : swapsWithSole [.Subscript (.Name n npos) b spos] e pos.line X.env = pure false := by rfl) (h2 : swappedStores [.Subscript (.Name n npos) b spos] e X.env = pure none := by rfl) (h3 : (assignEach [.Subscript (.Name n npos) b spos] X.env).map (·.2) = [assign (.Subscript (.Name n npos) b spos) X.env] := by rfl) :
    D1 T X CE (.Assign [.Subscript (.Name n npos) b spos] e pos) ρ O E := .mk fun σ B H hE hA Dn W tk l => by
  refine ws_of (ps_asg pe_we (pg_sub pn pe_we set_list hsub) h1 h2 h3) ?_
  refine he σ B H hE hA _ fun w B1 H1 p1 r1 => ?_
  obtain ⟨o, e1, e2⟩ := (hE.mono p1.bb).get hi
  cases o with
  | none => exact e2.elim
  | some v =>
    have ev : v = .ref a := e2
    subst ev
    refine ⟨_, e1, ?_⟩
    refine hb σ B1 H1 (hE.mono p1.bb) p1.at' _ fun iv B2 H2 p2 r2 => ?_
    cases r2
    obtain ⟨_, u, hu, ok⟩ := p2.at'.own a _ ho
    cases u <;> try exact ok.elim
    rename_i vs
    have lv : vs.length = ss.length := Args.length ok
    have po := Post.put (u := .lst (vs.set j w)) (od := .lst (ss.set j s)) p2.at' ho (Args.set (r1.mono p2.bb) j ok)
    exact ⟨a, vs, k, j, rfl, rfl, hu, by rw [lv]; exact hj, l.nx _ _ _ B2 _ h ((p1.trans p2).trans po) ((hE.mono p1.bb).mono p2.bb)⟩
/-- reading an owned list: x[i], len(x) -/
theorem dv_ixO (i : Nat) {n : Str} {a : Addr} {npos : Pos} {k : Int} (hi : ρ[i]? = some (.val (.ref a))) (hb : DE T X b ρ O (.int k) O1) (ho : O1 a = some (.lst ss)) (h : atI ss k = some s) (pn : PE X (.Name n npos) (tVar i) := by exact pv _) (hs : PlainIx b := by intro _ _; rfl) :
    DV T X (.Subscript (.Name n npos) b pos) ρ O s O1 := .mk fun σ B H hE hA Q q => by
  refine we_of (pe_ix ix_list pn pe_we hs) ?_
  obtain ⟨o, e1, e2⟩ := hE.get hi
  cases o with
  | none => exact e2.elim
  | some v =>
    have ev : v = .ref a := e2
    subst ev
    refine ⟨_, e1, ?_⟩
    refine hb σ B H hE hA _ fun iv B2 H2 p2 r2 => ?_
    cases r2
    obtain ⟨_, u, hu, ok⟩ := p2.at'.own a _ ho
    cases u <;> try exact ok.elim
    rename_i vs
    unfold atI at h
    cases ek : ixN ss.length k with
    | none =>
      rw [ek] at h
      cases h
    | some j =>
      rw [ek] at h
      obtain ⟨w, h1, h2⟩ := Args.get ok h
      refine ⟨a, vs, k, w, rfl, rfl, SqL.of hu, ?_, q w B2 H2 p2 h2⟩
      unfold atI
      rw [Args.length ok, ek]
      exact h1

/-! ### targets of several names -/
/-- names, from the left -/
inductive Names (X : Cx) : List Expr → List Nat → Prop
  | nil : Names X [] []
  | cons {n : Str} {p : Pos} {i : Nat} {es : List Expr} {is : List Nat} : X.N[i]? = some n → Loc X.env.scope n → (X.fn n = true ∨ X.env.scope.names.lookup n = some .local) → (assignEach (.Name n p :: es) X.env).map (·.2) = assign (.Name n p) X.env :: (assignEach es X.env).map (·.2) →
      Names X es is → Names X (.Name n p :: es) (i :: is)
/-- the slots behind the stores -/
def setAll (ρ : List Slot) : List Nat → List Slot → List Slot
  | i :: is, s :: ss => setAll (ρ.set i s) is ss
  | _, _ => ρ
theorem pgs_names (hN : X.N.Nodup) {es : List Expr} {is : List Nat} (h : Names X es is) : PGs X es (fun vs σ H Q => vs.length = is.length ∧ Q (List.foldl (fun σ (p : Nat × V) => σ.set p.1 (some p.2)) σ (is.zip vs)) H) := by
  induction h with
  | nil =>
    refine ⟨fun pins s σ H vs us Q I r h => ?_⟩
    obtain ⟨h1, h2⟩ := h
    have e : vs = [] := List.length_eq_zero_iff.mp h1
    subst e
    exact pgs_nil.run pins s σ H [] us Q I r ⟨rfl, h2⟩
  | cons h1 h2 h3 h4 _ ih =>
    refine ⟨fun pins s σ H vs us Q I r h => ?_⟩
    obtain ⟨k1, k2⟩ := h
    cases vs with
    | nil => cases k1
    | cons v vs =>
      exact (pgs_cons (pg_name hN h1 h2 h3) ih h4).run pins s σ H (v :: vs) us Q I r ⟨v, vs, rfl, Nat.succ.inj k1, k2⟩
theorem Env.setAll {K : PySem.W.Frag} {B : Hp} : ∀ (is : List Nat) {σ : L2.St} {ρ : List Slot} {vs : List V} {ss : List Slot}, Env K B σ ρ → Args K B vs ss → Env K B (List.foldl (fun σ (p : Nat × V) => σ.set p.1 (some p.2)) σ (is.zip vs)) (Dz.setAll ρ is ss)
  | [], σ, ρ, vs, ss, e, _ => by
    rw [List.zip_nil_left]
    cases ss <;> exact e
  | i :: is, σ, ρ, _, _, e, .nil => e
  | i :: is, σ, ρ, v :: vs, s :: ss, e, .cons h r => by
    show Env K B (List.foldl _ (σ.set i (some v)) (is.zip vs)) (Dz.setAll (ρ.set i s) is ss)
    exact Env.setAll is (e.set h i) r
/-- a, b, .. = e, e a tuple -/
theorem d1_unpack {es : List Expr} {k : Nat} {tp : Pos} {is : List Nat} (he : DE T X e ρ O (.tup ds) O1) (hl : ds.length = is.length) (hn : Names X es is) (h : E.nx (setAll ρ is (ds.map .dat)) O1) (hN : X.N.Nodup) (hc : X.calm = true := by rfl)
    (g1 : (assignEach es X.env).length = is.length := by rfl) (g2 : (assignEach es X.env).findIdx? (·.1) = none := by rfl) (h1 : swapsWithSole [.Tuple es k tp] e pos.line X.env = pure false := by rfl) (h2 : swappedStores [.Tuple es k tp] e X.env = pure none := by rfl) (h3 : (assignEach [.Tuple es k tp] X.env).map (·.2) = [assign (.Tuple es k tp) X.env] := by rfl) :
    D1 T X CE (.Assign [.Tuple es k tp] e pos) ρ O E := .mk fun σ B H hE hA Dn W tk l => by
  refine ws_of (ps_asg pe_we (pg_tup hc (pgs_names hN hn) g1 g2) h1 h2 h3) ?_
  refine he σ B H hE hA _ fun w B1 H1 p1 r1 => ?_
  cases r1 with
  | tup hq r =>
    have e1 : _ = is.length := r.length.trans hl
    exact ⟨_, _, rfl, same_t p1.at'.base hq, e1, e1, l.nx _ _ _ B1 H1 h p1 (Env.setAll is (hE.mono p1.bb) (Args.of r))⟩

/-! ### for -/
theorem d1_forL (i : Nat) {n : Str} {np : Pos} (I : Nat → List Slot → OH → Prop) (he : DE T X e ρ O (.lst ds) O1) (h0 : I 0 ρ O1) (hN : X.N.Nodup)
    (hs : ∀ j d ρ' O', ds[j]? = some d → I j ρ' O' → DS T X CE body (ρ'.set i (.dat d)) O' { E with nx := I (j + 1), ct := I (j + 1), bk := E.nx }) (hd : ∀ ρ' O', I ds.length ρ' O' → E.nx ρ' O')
    (hp : PassesOwn (model X.prog X.w) X.A X.env X.xe) (hc : X.calm = true := by rfl) (hi : X.N[i]? = some n := by rfl) (hx : Loc X.env.scope n := by first | exact Or.inl rfl | exact Or.inr rfl) (hf : X.fn n = true ∨ X.env.scope.names.lookup n = some .local := by first | exact .inl rfl | exact .inr rfl)
    (hfold : ∀ x, foldedSetIterable e X.env x = pure x := by intro _; rfl) :
    D1 T X CE (.For (.Name n np) e body [] pos) ρ O E := .mk fun σ B H hE hA Dn W tk l => by
  refine ws_of (ps_for hp hc (pi_list pe_we) (pg_name hN hi hx hf) pss_wss hfold) ?_
  refine he σ B H hE hA _ fun v B1 H1 p1 r1 => ?_
  cases r1 with
  | lst hq r =>
    rename_i a xs
    refine ⟨a, rfl, ⟨xs, SqL.of (p1.at'.base _ _ hq)⟩, for_list (K := X.K) (a := a) (xs := xs) (fun j σ' H' => ∃ ρ' O' B', I j ρ' O' ∧ Post T X.K B O H B' O' H' ∧ Same B1 B' ∧ Env X.K B' σ' ρ') ⟨ρ, O1, B1, h0, p1, Same.refl _, hE.mono p1.bb⟩ (fun j σ' H' _ ⟨_, _, B', _, po, sb, _⟩ => SqL.of (po.at'.base _ _ (sb _ _ hq))) ?_ ?_⟩
    · rintro j y σ' H' hj ⟨ρ', O', B', hI, po, sb, hE'⟩
      obtain ⟨d, hd1, hd2⟩ := r.getV hj
      refine hs j d ρ' O' hd1 hI _ B' H' (hE'.set (o := some y) (s := .dat d) (show SlotOk X.K B' (some y) (.dat d) from hd2.mono sb) i) po.at' _ W tk ?_
      have l' := l.step po
      exact ⟨fun ρ2 O2 σ2 B2 H2 h p2 e2 => ⟨ρ2, O2, B2, h, po.trans p2, sb.trans p2.bb, e2⟩, l'.rt, l'.nx, fun ρ2 O2 σ2 B2 H2 h p2 e2 => ⟨ρ2, O2, B2, h, po.trans p2, sb.trans p2.bb, e2⟩, l'.ex⟩
    · rintro σ' H' ⟨ρ', O', B', hI, po, sb, hE'⟩
      rw [r.length] at hI
      exact l.nx _ _ _ B' H' (hd ρ' O' hI) po hE'
theorem d1_forT (i : Nat) {n : Str} {np : Pos} (I : Nat → List Slot → OH → Prop) (he : DE T X e ρ O (.tup ds) O1) (h0 : I 0 ρ O1) (hN : X.N.Nodup)
    (hs : ∀ j d ρ' O', ds[j]? = some d → I j ρ' O' → DS T X CE body (ρ'.set i (.dat d)) O' { E with nx := I (j + 1), ct := I (j + 1), bk := E.nx }) (hd : ∀ ρ' O', I ds.length ρ' O' → E.nx ρ' O')
    (hp : PassesOwn (model X.prog X.w) X.A X.env X.xe) (hc : X.calm = true := by rfl) (hi : X.N[i]? = some n := by rfl) (hx : Loc X.env.scope n := by first | exact Or.inl rfl | exact Or.inr rfl) (hf : X.fn n = true ∨ X.env.scope.names.lookup n = some .local := by first | exact .inl rfl | exact .inr rfl)
    (hfold : ∀ x, foldedSetIterable e X.env x = pure x := by intro _; rfl) :
    D1 T X CE (.For (.Name n np) e body [] pos) ρ O E := .mk fun σ B H hE hA Dn W tk l => by
  refine ws_of (ps_for hp hc (pi_tup pe_we) (pg_name hN hi hx hf) pss_wss hfold) ?_
  refine he σ B H hE hA _ fun v B1 H1 p1 r1 => ?_
  cases r1 with
  | tup hq r =>
    rename_i a xs
    refine ⟨a, rfl, ⟨xs, same_t p1.at'.base hq⟩, for_tup (K := X.K) (a := a) (xs := xs) (fun j σ' H' => ∃ ρ' O' B', I j ρ' O' ∧ Post T X.K B O H B' O' H' ∧ Same B1 B' ∧ Env X.K B' σ' ρ') ⟨ρ, O1, B1, h0, p1, Same.refl _, hE.mono p1.bb⟩ (fun j σ' H' _ ⟨_, _, B', _, po, sb, _⟩ => same_t po.at'.base (same_t sb hq)) ?_ ?_⟩
    · rintro j y σ' H' hj ⟨ρ', O', B', hI, po, sb, hE'⟩
      obtain ⟨d, hd1, hd2⟩ := r.getV hj
      refine hs j d ρ' O' hd1 hI _ B' H' (hE'.set (o := some y) (s := .dat d) (show SlotOk X.K B' (some y) (.dat d) from hd2.mono sb) i) po.at' _ W tk ?_
      have l' := l.step po
      exact ⟨fun ρ2 O2 σ2 B2 H2 h p2 e2 => ⟨ρ2, O2, B2, h, po.trans p2, sb.trans p2.bb, e2⟩, l'.rt, l'.nx, fun ρ2 O2 σ2 B2 H2 h p2 e2 => ⟨ρ2, O2, B2, h, po.trans p2, sb.trans p2.bb, e2⟩, l'.ex⟩
    · rintro σ' H' ⟨ρ', O', B', hI, po, sb, hE'⟩
      rw [r.length] at hI
      exact l.nx _ _ _ B' H' (hd ρ' O' hI) po hE'
/-- for n in range(e) -/
theorem d1_forR (i : Nat) {n : Str} {np rp : Pos} {m : Int} (I : Nat → List Slot → OH → Prop) (he : DE T X e ρ O (.int m) O1) (hm : -(2 ^ 62) ≤ m ∧ m < 2 ^ 62) (h0 : I 0 ρ O1) (hN : X.N.Nodup)
    (hs : ∀ (j : Nat) ρ' O', (j : Int) < m → I j ρ' O' → DS T X CE body (ρ'.set i (.dat (.int (j : Int)))) O' { E with nx := I (j + 1), ct := I (j + 1), bk := E.nx }) (hd : ∀ ρ' O', I m.toNat ρ' O' → E.nx ρ' O')
    (hmg : X.mg "range" = none) (hp : PassesOwn (model X.prog X.w) X.A X.env X.xe) (hg : Gl X "range" := by rfl) (hc : X.calm = true := by rfl) (hi : X.N[i]? = some n := by rfl) (hx : Loc X.env.scope n := by first | exact Or.inl rfl | exact Or.inr rfl) (hf : X.fn n = true ∨ X.env.scope.names.lookup n = some .local := by first | exact .inl rfl | exact .inr rfl)
    (h1 : starEach [e] X.env = [(false, eval e X.env)] := by rfl) (hfold : ∀ x, foldedSetIterable (.Call (.Name "range" rp) [e] [] pos') X.env x = pure x := by intro _; rfl) :
    D1 T X CE (.For (.Name n np) (.Call (.Name "range" rp) [e] [] pos') body [] pos) ρ O E := .mk fun σ B H hE hA Dn W tk l => by
  refine ws_of (ps_for hp hc (pi_range1 hg hmg (pa_cons pe_we pa_nil h1) h1) (pg_name hN hi hx hf) pss_wss hfold) ?_
  refine he σ B H hE hA _ fun v B1 H1 p1 r1 => ?_
  cases r1
  refine ⟨m, rfl, hm.1, hm.2, for_range (fun j σ' H' => ∃ ρ' O' B', I j ρ' O' ∧ Post T X.K B O H B' O' H' ∧ Env X.K B' σ' ρ') ⟨ρ, O1, B1, h0, p1, hE.mono p1.bb⟩ ?_ ?_⟩
  · rintro j σ' H' hj ⟨ρ', O', B', hI, po, hE'⟩
    have e0 : (0 : Int) + (j : Int) = (j : Int) := Int.zero_add _
    rw [e0]
    refine hs j ρ' O' (by omega) hI _ B' H' (hE'.set (o := some (.int j)) (s := .dat (.int j)) (show SlotOk X.K B' (some (.int j)) (.dat (.int j)) from .int _) i) po.at' _ W tk ?_
    have l' := l.step po
    exact ⟨fun ρ2 O2 σ2 B2 H2 h p2 e2 => ⟨ρ2, O2, B2, h, po.trans p2, e2⟩, l'.rt, l'.nx, fun ρ2 O2 σ2 B2 H2 h p2 e2 => ⟨ρ2, O2, B2, h, po.trans p2, e2⟩, l'.ex⟩
  · rintro σ' H' ⟨ρ', O', B', hI, po, hE'⟩
    exact l.nx _ _ _ B' H' (hd ρ' O' hI) po hE'
/-- for n in range(a, b) -/
theorem d1_forR2 (i : Nat) {n : Str} {np rp : Pos} {lo m : Int} (I : Nat → List Slot → OH → Prop) (ha : DE T X a ρ O (.int lo) O1) (hb : DE T X b ρ O1 (.int m) O2) (hm : -(2 ^ 62) ≤ lo ∧ lo < 2 ^ 62 ∧ -(2 ^ 62) ≤ m ∧ m < 2 ^ 62) (h0 : I 0 ρ O2) (hN : X.N.Nodup)
    (hs : ∀ (j : Nat) ρ' O', lo + (j : Int) < m → I j ρ' O' → DS T X CE body (ρ'.set i (.dat (.int (lo + (j : Int))))) O' { E with nx := I (j + 1), ct := I (j + 1), bk := E.nx }) (hd : ∀ ρ' O', I (m - lo).toNat ρ' O' → E.nx ρ' O')
    (hmg : X.mg "range" = none) (hp : PassesOwn (model X.prog X.w) X.A X.env X.xe) (hg : Gl X "range" := by rfl) (hc : X.calm = true := by rfl) (hi : X.N[i]? = some n := by rfl) (hx : Loc X.env.scope n := by first | exact Or.inl rfl | exact Or.inr rfl) (hf : X.fn n = true ∨ X.env.scope.names.lookup n = some .local := by first | exact .inl rfl | exact .inr rfl)
    (h1 : starEach [a, b] X.env = [(false, eval a X.env), (false, eval b X.env)] := by rfl) (h2 : starEach [b] X.env = [(false, eval b X.env)] := by rfl) (hfold : ∀ x, foldedSetIterable (.Call (.Name "range" rp) [a, b] [] pos') X.env x = pure x := by intro _; rfl) :
    D1 T X CE (.For (.Name n np) (.Call (.Name "range" rp) [a, b] [] pos') body [] pos) ρ O E := .mk fun σ B H hE hA Dn W tk l => by
  refine ws_of (ps_for hp hc (pi_range2 hg hmg (pa_cons pe_we (pa_cons pe_we pa_nil (by rw [h2]; rfl)) (by rw [h1, h2])) h1 h2) (pg_name hN hi hx hf) pss_wss hfold) ?_
  refine two ha hb hE hA fun v w B1 H1 p1 r1 r2 => ?_
  cases r1
  cases r2
  refine ⟨lo, m, rfl, hm, for_range (fun j σ' H' => ∃ ρ' O' B', I j ρ' O' ∧ Post T X.K B O H B' O' H' ∧ Env X.K B' σ' ρ') ⟨ρ, O2, B1, h0, p1, hE.mono p1.bb⟩ ?_ ?_⟩
  · rintro j σ' H' hj ⟨ρ', O', B', hI, po, hE'⟩
    refine hs j ρ' O' (by omega) hI _ B' H' (hE'.set (o := some (.int (lo + j))) (s := .dat (.int (lo + j))) (show SlotOk X.K B' (some (.int (lo + j))) (.dat (.int (lo + j))) from .int _) i) po.at' _ W tk ?_
    have l' := l.step po
    exact ⟨fun ρ2 O2 σ2 B2 H2 h p2 e2 => ⟨ρ2, O2, B2, h, po.trans p2, e2⟩, l'.rt, l'.nx, fun ρ2 O2 σ2 B2 H2 h p2 e2 => ⟨ρ2, O2, B2, h, po.trans p2, e2⟩, l'.ex⟩
  · rintro σ' H' ⟨ρ', O', B', hI, po, hE'⟩
    exact l.nx _ _ _ B' H' (hd ρ' O' hI) po hE'
end
end Dz

namespace Dz
open PySem PySem.Spec PyProof.Rows L2 GxR
/-- the context of a def's body that lets no exception out -/
abbrev bx (P : Program) (w : World) (K : PySem.W.Frag) (mg : Str → Option Value) (base : Heap) (N : List Str) (qual : Str) (st : Stmt) (f : Addr) (cdv : Value) (A : Around) (outer : List PySem.Env) (s : Shared) (H : Hp) (E : XK) : Cx :=
  (cxOf CX0 P w K mg base N qual (defScope st) f cdv A outer s H E).nox
/-- .. that may -/
abbrev bxX (P : Program) (w : World) (K : PySem.W.Frag) (mg : Str → Option Value) (base : Heap) (N : List Str) (qual : Str) (st : Stmt) (f : Addr) (cdv : Value) (A : Around) (outer : List PySem.Env) (s : Shared) (H : Hp) (E : XK) : Cx :=
  cxOf (L2.CX P w) P w K mg base N qual (defScope st) f cdv A outer s H E
/-- a def with its code object's value told -/
structure FunC (K : PySem.W.Frag) (x qual : Str) (st : Stmt) (f : Addr) (fd : FuncData) (cdv : Value) : Prop where
  ex : ∃ (oc : Value) (od : Option Addr) (kV doc pm : Value) (an : Option Addr) (ct : Value) (osl : Array (Option Value)),
    fd = PySem.W.fnOf x qual (defArgs st) (defBody st) (defScope st) .none kV doc pm an cdv ct ∧ K.lookup f = some ⟨oc, od, .func fd, osl⟩ ∧ PySem.W.codeIn K cdv qual = true
  kp : PySem.W.keepIn K (.ref f) = true
section
variable {P : Program} {w : World} {K : PySem.W.Frag} {mg : Str → Option Value} {base : Heap} {T : List Addr} {CE : Addr}
theorem FunC.binds {x qual : Str} {st : Stmt} {f : Addr} {fd : FuncData} {ps : List Str} {cdv : Value} (F : FunC K x qual st f fd cdv)
    (h : ∀ (kV doc pm : Value) (an : Option Addr) (cdv ct : Value) (us : List Value), us.length = ps.length → bindArgs (PySem.W.fnOf x qual (defArgs st) (defBody st) (defScope st) .none kV doc pm an cdv ct) ⟨us, []⟩ = pure (ps.zip us)) : L2.Binds K fd ps [] := by
  obtain ⟨oc, od, kV, doc, pm, an, ct, osl, rfl, lk, hcd⟩ := F.ex
  exact .all (h kV doc pm an cdv ct)
/-- a def by its body, over data -/
theorem fn_ok {x qual : Str} {st : Stmt} {f : Addr} {fd : FuncData} {cdv : Value} {N ps : List Str} {k : Nat} {R : List Slot → OH → D → OH → Prop} (F : FunC K x qual st f fd cdv) (S : FnScope N ps (defScope st))
    (hlen : ∀ ss O d O', R ss O d O' → ss.length = ps.length)
    (body : ∀ (A : Around) (outer : List PySem.Env) (s : Shared) (H : Hp) (E : XK) (ss : List Slot) (O : OH) (d : D) (O' : OH), Room k (A.deeper (envOfC qual (defScope st) s.heap.objs.size f cdv)) → R ss O d O' →
      DS T (bx P w K mg base N qual st f cdv A outer s H E) CE (defBody st) (ss ++ List.replicate (N.length - ss.length) .no) O { nx := fun _ o => d = .non ∧ o = O', rt := fun s o => s = .dat d ∧ o = O' }) :
    FnOk P w K mg base CX0 (k + 1) f fd ps (spF T K R) := by
  obtain ⟨oc, od, kV, doc, pm, an, ct, osl, rfl, lk, hcd⟩ := F.ex
  refine fn_of lk hcd S (fun vs H Q E h => ?_) fun A outer s H vs Q E hr hsp => ?_
  · obtain ⟨ss, B, O, d, O', h1, h2, _⟩ := h
    rw [h2.length]
    exact hlen _ _ _ _ h1
  · obtain ⟨ss, B, O, d, O', h1, h2, h3, h4⟩ := hsp
    have hb := body A outer s H E ss O d O' hr h1
    refine ⟨WSs (bx P w K mg base N qual st f cdv A outer s H E) (defBody st), PSs.nox pss_wss, ?_⟩
    have e1 : L2.start N vs = vs.map some ++ List.replicate (N.length - ss.length) none := by
      unfold L2.start
      rw [h2.length]
    rw [e1]
    refine hb _ B H (Env.of_args _ h2) h3 _ (fun _ _ _ _ => False) takes0 ⟨fun ρ O2 σ B2 H2 q po _ => ?_, fun s' O2 v B2 H2 q po r => ?_, fun _ _ _ _ _ q => q.elim, fun _ _ _ _ _ q => q.elim, fun _ _ _ _ _ _ _ q => q.elim⟩
    · obtain ⟨q1, q2⟩ := q
      subst q1 q2
      exact h4 .non B2 H2 po .non
    · obtain ⟨q1, q2⟩ := q
      subst q1 q2
      exact h4 v B2 H2 po r
end
end Dz

/-! len(set(xs)): texts or ints, some of them twice -/
namespace DzS
open PySem PySem.Spec PyProof.Rows
section
variable {K : Type} [DecidableEq K]
/-- what a set of the first i items has, in the order met -/
def gm (kk : Nat → K) : Nat → List K
  | 0 => []
  | i + 1 => if kk i ∈ gm kk i then gm kk i else gm kk i ++ [kk i]
theorem gm_len (kk : Nat → K) : ∀ i, (gm kk i).length ≤ i
  | 0 => Nat.le_refl _
  | i + 1 => by
    have := gm_len kk i
    unfold gm
    split
    · omega
    · rw [List.length_append, List.length_singleton]; omega
theorem gm_mem (kk : Nat → K) (i : Nat) (k : K) : decide (k ∈ gm kk (i + 1)) = (decide (k ∈ gm kk i) || decide (k = kk i)) := by
  rw [gm]
  split
  · rename_i h
    by_cases e : k = kk i
    · subst e; simp [h]
    · simp [e]
  · simp only [List.mem_append, List.mem_singleton, Bool.decide_or]
theorem gm_succ_len (kk : Nat → K) (i : Nat) : (gm kk (i + 1)).length = if decide (kk i ∈ gm kk i) = true then (gm kk i).length else (gm kk i).length + 1 := by
  rw [gm]
  by_cases h : kk i ∈ gm kk i
  · rw [if_pos h, if_pos (decide_eq_true h)]
  · rw [if_neg h, if_neg (by simpa using h), List.length_append, List.length_singleton]
/-- the same by the list -/
def dd (xs : List K) : List K := xs.foldl (fun s x => if x ∈ s then s else s ++ [x]) []
theorem gm_dd (x0 : K) (xs : List K) : ∀ i, i ≤ xs.length → gm (fun j => xs.getD j x0) i = dd (xs.take i)
  | 0, _ => rfl
  | i + 1, h => by
    have hlt : i < xs.length := h
    rw [gm, gm_dd x0 xs i (Nat.le_of_lt hlt), List.take_add_one, List.getElem?_eq_getElem hlt]
    unfold dd
    rw [List.foldl_append]
    have e : xs.getD i x0 = xs[i] := by rw [List.getD_eq_getElem?_getD, List.getElem?_eq_getElem hlt]; rfl
    rw [e]
    rfl
variable {prog : Program} {w : World} {knd : KeyKind prog w K}
theorem setOf_congr {h : Heap} {a : Addr} {S S' : K → Bool} {n n' : Nat} (hS : h.SetOf knd a S n) (e : ∀ k, S k = S' k) (en : n = n') : h.SetOf knd a S' n' := by
  have : S = S' := funext e
  subst this; subst en; exact hS
variable {A : Around} {R : Result → Shared → Prop} {I : Addr} {fp wr : List Addr} {G : Array GenState → Array GenState → Prop} {n : Nat} {P : Nat → Value → Prop} {St : Nat → Shared → Prop}
theorem loopG (W : WalksS prog w A.in1 I fp wr G n P St) (S : Addr) (zSf : S ∉ fp) (kk : Nat → K) (hval : ∀ i v, P i v → knd.is (kk i) v = true ∧ v.scannable = true) (hb : n + 1 < scanBound) :
    ∀ (k i : Nat) (s : Shared), n - i = k → i ≤ n → St i s →
      s.heap.SetOf knd S (fun k' => decide (k' ∈ gm kk i)) (gm kk i).length →
      (∀ s', Moved (S :: wr) G s s' → s'.heap.SetOf knd S (fun k' => decide (k' ∈ gm kk n)) (gm kk n).length → R (.ok (.ret .none)) s') →
      codeAny (model prog w) A (.builtin "set.update.loop" ⟨[.ref S, .ref I], []⟩) R s := by
  have zSw : S ∉ wr := fun h => zSf (W.sub _ h)
  have qSub : ∀ b ∈ wr, b ∈ S :: wr := fun b hb => List.mem_cons_of_mem _ hb
  intro k
  induction k with
  | zero =>
    intro i s hk hi st1 hS hR
    have atN : i = n := by omega
    subst atN
    refine codeAny_builtin PyProof.Rows.F.entry_set_update_loop ?_
    rw [Around.under_plainId PyProof.Rows.F.plain_set_update_loop _]
    show wpAny _ A.in1 (pyNext (.ref I) >>= _) _ _ s
    refine wpAny_bind (W.done s _ _ st1 fun s' mv => ?_)
    show wpAny _ A.in1 (ret Value.none) _ _ s'
    obtain ⟨o, es, ep, t, ho, rest⟩ := hS
    exact wpAny_pure (hR s' (mv.mono qSub) ⟨o, es, ep, t, mv.heap S _ zSw ho, rest⟩)
  | succ k ih =>
    intro i s hk hi st1 hS hR
    have ltI : i < n := by omega
    refine codeAny_builtin PyProof.Rows.F.entry_set_update_loop ?_
    rw [Around.under_plainId PyProof.Rows.F.plain_set_update_loop _]
    show wpAny _ A.in1 (pyNext (.ref I) >>= _) _ _ s
    refine wpAny_bind (W.item i s _ _ ltI st1 fun v s' hPv st2 mv => ?_)
    obtain ⟨hv, hsc⟩ := hval i v hPv
    have nS' : s'.heap.SetOf knd S (fun k' => decide (k' ∈ gm kk i)) (gm kk i).length := by
      obtain ⟨o, es, ep, tb, ho, rest⟩ := hS
      exact ⟨o, es, ep, tb, mv.heap S _ zSw ho, rest⟩
    show wpAny _ A.in1 (holding [v] (setAdd S v) >>= _) _ _ s'
    refine wpAny_bind (wpAny_holding ?_)
    unfold setAdd
    refine wpAny_holding ?_
    refine wpAny_bind (knd.pyHash (k := kk i) hv ?_)
    have room : (gm kk i).length + 1 < scanBound := by have := gm_len kk i; omega
    refine wpAny_setAddHashed_of (knd := knd) (s := { s' with toks := s'.toks + 1 }) hv hsc nS' room fun h' sbe nS2 => ?_
    have nSi : h'.SetOf knd S (fun k' => decide (k' ∈ gm kk (i + 1))) (gm kk (i + 1)).length :=
      setOf_congr nS2 (fun k' => (gm_mem kk i k').symm) (gm_succ_len kk i).symm
    refine wpAny_pure ⟨plainId_quiet PyProof.Rows.F.plain_set_update_loop _, ih (i + 1) _ (by omega) ltI (W.frame _ s' _ _ st2 (Nat.le_succ _) fun b hb o e => ?_) nSi fun s'' mv2 nS4 => ?_⟩
    · rw [sbe.2 b (fun h : b = S => zSf (by rw [← h]; exact hb))]; exact e
    · refine hR s'' (Moved.trans W.gtrans ((mv.mono qSub).then_heap (Nat.le_succ _) fun b o hb e => ?_) mv2) nS4
      rw [sbe.2 b (fun h : b = S => hb (by rw [h]; exact List.mem_cons_self))]; exact e
end

section
variable {K : Type} [DecidableEq K] {prog : Program} {w : World} {knd : KeyKind prog w K} {A : Around} {E : Value → Shared → Prop} {s : Shared}
set_option maxHeartbeats 6400000 in
theorem call_set_seqG {l : Addr} {items : Array Value} {kk : Nat → K} {Q : Value → Shared → Prop}
    (hh : A.handled = none) (hl : s.heap.IsList l items ∨ s.heap.IsTuple l items) (hi : ∀ (i : Nat) (v : Value), items[i]? = some v → knd.is (kk i) v = true ∧ v.scannable = true) (hb : items.size + 1 < scanBound)
    (h : ∀ (h' : Heap) (tk : Nat), h'.SetOf knd s.heap.objs.size (fun k' => decide (k' ∈ gm kk items.size)) (gm kk items.size).length →
      (∀ b o, b < s.heap.objs.size → s.heap.get? b = some o → h'.get? b = some o) → Q (.ref s.heap.objs.size) { s with heap := h', toks := tk }) :
    wpAny (model prog w) A (call (.type "set") [.ref l]) Q E s := by
  obtain ⟨c, qTl, qMro⟩ := PySem.F.called_set.mro
  have qMade := PySem.F.called_set.made
  have qSub := PySem.F.called_set.sub
  refine wpAny_call (codeAny_of_tree ?_)
  show wpAny _ _ (callAny (.type "set") _) _ _ _
  refine wpAny_pure ⟨Code.quiet_builtin _ (by decide +kernel), codeAny_builtin PySem.F.entry_type_call ?_⟩
  rw [Around.under_plain (weight_type_call_type "set" [.ref l] []) rfl]
  have u1 := PySem.F.called_set.notType
  have u2 := PySem.F.called_set.canCreate
  have qTc := PySem.F.typeCall_set_1 (.ref l)
  repeat any_goals first | assumption | wp_step
  refine codeAny_mono (code_set_new_1 (.ref l) (E := E) (Q₁ := fun ob0 s₁ => ∃ lg : Bool, ob0 = .ref s.heap.objs.size ∧ s₁ = { s with heap := s.heap.push { cls := .type "set", dict := none, data := .set #[] 0 (.fresh 0 0 lg) } }) fun lg => ⟨lg, rfl, rfl⟩) fun r s₁ hr => ?_
  cases r with
  | error e => exact hr
  | ok fl =>
    cases fl with
    | ret ob0 =>
      obtain ⟨lg, rfl, rfl⟩ := hr
      have hS : (s.heap.push { cls := .type "set", dict := none, data := .set #[] 0 (.fresh 0 0 lg) }).get? s.heap.objs.size = some { cls := .type "set", dict := none, data := .set #[] 0 (.fresh 0 0 lg) } := Heap.get?_push_size _ rfl
      have zT : Shared.TypeIs { s with heap := s.heap.push { cls := .type "set", dict := none, data := .set #[] 0 (.fresh 0 0 lg) } } (.ref s.heap.objs.size) "set" := ⟨_, hS, rfl⟩
      have zLi := PySem.F.called_set.init.lookup
      have zBi := PySem.F.called_set.init.bind (.ref s.heap.objs.size)
      repeat any_goals first | assumption | wp_step
      refine codeAny_mono (codeAny_call_builtin (R := wants (fun r s₂ => r = .none ∧ ∃ h' tk, s₂ = { s with heap := h', toks := tk } ∧
          h'.SetOf knd s.heap.objs.size (fun k' => decide (k' ∈ gm kk items.size)) (gm kk items.size).length ∧
          (∀ b o, b < s.heap.objs.size → s.heap.get? b = some o → h'.get? b = some o)) E) PySem.F.called_set.init.plain PySem.F.entry_set_init (check_set_init_1 zT ?_)) fun r₂ s₂ hr₂ => ?_
      · have fin : ∀ (I : Addr) (it : Obj) (hI : I = (s.heap.push { cls := .type "set", dict := none, data := .set #[] 0 (.fresh 0 0 lg) }).objs.size) (A2 : Around) (R2 : Result → Shared → Prop)
            (fp : List Addr) (P2 : Nat → Value → Prop) (St2 : Nat → Shared → Prop)
            (W : WalksS prog w A2.in1 I fp [I] (fun g g' => g' = g) items.size P2 St2) (zSf : s.heap.objs.size ∉ fp) (hv : ∀ i v, P2 i v → items[i]? = some v)
            (st0 : St2 0 { s with heap := ((s.heap.push { cls := .type "set", dict := none, data := .set #[] 0 (.fresh 0 0 lg) }).push it) })
            (hR : ∀ h' tk', h'.SetOf knd s.heap.objs.size (fun k' => decide (k' ∈ gm kk items.size)) (gm kk items.size).length →
              (∀ b o, b < s.heap.objs.size → s.heap.get? b = some o → h'.get? b = some o) → R2 (.ok (.ret .none)) { s with heap := h', toks := tk' }),
            codeAny (model prog w) A2 (.builtin "set.update.loop" ⟨[.ref s.heap.objs.size, .ref I], []⟩) R2 { s with heap := ((s.heap.push { cls := .type "set", dict := none, data := .set #[] 0 (.fresh 0 0 lg) }).push it) } := by
          intro I it hI A2 R2 fp P2 St2 W zSf hv st0 hR
          refine loopG (knd := knd) W s.heap.objs.size zSf kk (fun i v hp => hi i v (hv i v hp)) hb (items.size - 0) 0 _ (by omega) (Nat.zero_le _) st0 ?_ ?_
          · have hget : ((s.heap.push { cls := .type "set", dict := none, data := .set #[] 0 (.fresh 0 0 lg) }).push it).get? s.heap.objs.size
                = some { cls := .type "set", dict := none, data := .set #[] 0 (.fresh 0 0 lg) } := Heap.get?_push_of_some _ hS
            exact setOf_congr ((PyProof.Rows.setObjOf_fresh (knd := knd) lg).setOf hget (by unfold scanBound; omega)) (fun _ => rfl) rfl
          · intro s' mv nS'
            obtain ⟨h', g', d', tk', os'⟩ := s'
            have yg : g' = s.gens := mv.gens
            have yd : d' = s.drawn := mv.drawn
            have yo : os' = s.os := mv.os
            subst yg; subst yd; subst yo
            refine hR h' tk' nS' fun b o hb e => ?_
            have y1 : b ≠ s.heap.objs.size := Nat.ne_of_lt hb
            have y2 : b ≠ I := by
              rw [hI, Heap.size_push]; exact Nat.ne_of_lt (Nat.lt_succ_of_lt hb)
            exact mv.heap b o (by simp only [List.mem_cons, List.mem_singleton, List.not_mem_nil, or_false, not_or]; exact ⟨y1, y2⟩) (Heap.get?_push_of_some _ (Heap.get?_push_of_some _ e))
        rcases hl with hl | hl
        · obtain ⟨wl, zOl, zCl, zNl, zDl⟩ := hl
          obtain ⟨oo1, oo2, oo3, oo4⟩ := wl
          simp only at zCl zDl
          subst zCl; subst zDl
          have zOl2 : (s.heap.push { cls := .type "set", dict := none, data := .set #[] 0 (.fresh 0 0 lg) }).get? l = some { cls := .type "list", dict := oo2, data := .seq items zNl, slots := oo4 } := Heap.get?_push_of_some _ zOl
          have zA1 := PySem.F.sub_list_set
          have zA2 := PySem.F.sub_list_frozenset
          have zNe : (Value.type "list" == Value.type "dict") = false := by decide
          have zL1 : (s.heap.push { cls := .type "set", dict := none, data := .set #[] 0 (.fresh 0 0 lg) }).IsList l items := ⟨_, zOl2, rfl, zNl, rfl⟩
          unfold Builtin.«set.__init__» noKeywords Builtin.Frozenset.updateFrom
          generalize zPi : pyIter = zP
          wp_walk
          subst zPi
          refine wpAny_pyIter_list zL1 ?_
          refine wpAny_bind (wpAny_runValue ?_)
          have zLs : l < s.heap.objs.size := Heap.lt_size zOl
          have zH3 : A.in1.in1.in1.handled = none := by simp [hh]
          have zNi : l ≠ (s.heap.push { cls := .type "set", dict := none, data := .set #[] 0 (.fresh 0 0 lg) }).objs.size := by
            rw [Heap.size_push]; exact Nat.ne_of_lt (Nat.lt_succ_of_lt zLs)
          have zSf : s.heap.objs.size ∉ [(s.heap.push { cls := .type "set", dict := none, data := .set #[] 0 (.fresh 0 0 lg) }).objs.size, l] := by
            rw [Heap.size_push]; simp only [List.mem_cons, List.mem_singleton, List.not_mem_nil, or_false, not_or]
            exact ⟨Nat.ne_of_lt (Nat.lt_succ_self _), Nat.ne_of_gt zLs⟩
          refine fin _ _ rfl _ _ _ _ _ ((Walks.list zH3 _ l zNi items).toS) zSf (fun i v h => h) ⟨⟨_, Heap.get?_push_size _ rfl, rfl, rfl⟩, (zL1.push _)⟩ fun h' tk' nS' hk' => ?_
          show wpAny _ _ _ _ _ _
          refine wpAny_pure ?_
          show wpAny _ _ (ret Value.none) _ _ _
          exact wpAny_pure ⟨rfl, h', tk', rfl, nS', hk'⟩
        · obtain ⟨wl, zOl, zCl, zNl, zDl⟩ := hl
          obtain ⟨oo1, oo2, oo3, oo4⟩ := wl
          simp only at zCl zDl
          subst zCl; subst zDl
          have zOl2 : (s.heap.push { cls := .type "set", dict := none, data := .set #[] 0 (.fresh 0 0 lg) }).get? l = some { cls := .type "tuple", dict := oo2, data := .seq items zNl, slots := oo4 } := Heap.get?_push_of_some _ zOl
          have zA1 := PySem.F.sub_tuple_set
          have zA2 := PySem.F.sub_tuple_frozenset
          have zNe : (Value.type "tuple" == Value.type "dict") = false := by decide
          have zL1 : (s.heap.push { cls := .type "set", dict := none, data := .set #[] 0 (.fresh 0 0 lg) }).IsTuple l items := ⟨_, zOl2, rfl, zNl, rfl⟩
          unfold Builtin.«set.__init__» noKeywords Builtin.Frozenset.updateFrom
          generalize zPi : pyIter = zP
          wp_walk
          subst zPi
          refine wpAny_pyIter_tuple zL1 ?_
          refine wpAny_bind (wpAny_runValue ?_)
          have zLs : l < s.heap.objs.size := Heap.lt_size zOl
          have zH3 : A.in1.in1.in1.handled = none := by simp [hh]
          have zNi : l ≠ (s.heap.push { cls := .type "set", dict := none, data := .set #[] 0 (.fresh 0 0 lg) }).objs.size := by
            rw [Heap.size_push]; exact Nat.ne_of_lt (Nat.lt_succ_of_lt zLs)
          have zSf : s.heap.objs.size ∉ [(s.heap.push { cls := .type "set", dict := none, data := .set #[] 0 (.fresh 0 0 lg) }).objs.size, l] := by
            rw [Heap.size_push]; simp only [List.mem_cons, List.mem_singleton, List.not_mem_nil, or_false, not_or]
            exact ⟨Nat.ne_of_lt (Nat.lt_succ_self _), Nat.ne_of_gt zLs⟩
          refine fin _ _ rfl _ _ _ _ _ ((Walks.tuple zH3 _ l zNi items).toS) zSf (fun i v h => h) ⟨⟨_, Heap.get?_push_size _ rfl, rfl, rfl⟩, (zL1.push _)⟩ fun h' tk' nS' hk' => ?_
          show wpAny _ _ _ _ _ _
          refine wpAny_pure ?_
          show wpAny _ _ (ret Value.none) _ _ _
          exact wpAny_pure ⟨rfl, h', tk', rfl, nS', hk'⟩
      · cases r₂ with
        | error e => exact hr₂
        | ok fl₂ =>
          cases fl₂ with
          | ret r =>
            obtain ⟨rfl, h', tk, rfl, nS', hk'⟩ := hr₂
            repeat any_goals first | assumption | wp_step
            exact h _ _ nS' hk'
          | _ => exact hr₂.elim
    | _ => exact hr.elim
end
end DzS

namespace Dz
open PySem PySem.Spec PyProof.Rows L2 GxR
section
variable {T : List Addr} {X : Cx} {ρ : List Slot} {O O1 O2 O3 : OH} {e a b c : Expr} {es rest : List Expr} {pos p0 : Pos} {d x y z : D} {s : Slot} {ss : List Slot} {ds ds' : List D}

/-- a built-in function's rule over data -/
def BOp (T : List Addr) (X : Cx) (r : List V → Hp → VK → Prop) (O : OH) (ss : List Slot) (d : D) : Prop := ∀ (vs : List V) (B H : Hp), At T X.K B O H → Args X.K B vs ss → ∀ Q : VK, (∀ u B' H', Post T X.K B O H B' O H' → Rp X.K B' u d → Q u H') → r vs H Q
theorem de_B {id : String} {n : Str} {r : List V → Hp → VK → Prop} (hc : CallR X (.builtin id) r) (ha : DA T X (e :: es) ρ O ss O1) (hr : BOp T X r O1 ss d) (hm : X.mg n = none) (hv : bootBuiltins n = some (.builtin id)) (hg : Gl X n := by rfl) (hn : n ≠ "__name__" := by decide) (hdb : (n == ("__debug__" : Str)) = false := by decide)
    (he : starEach (e :: es) X.env = (false, eval e X.env) :: starEach es X.env := by rfl) (hpl : (backTo pos (starEach es X.env)).any (·.1) = false := by rfl) : DE T X (.Call (.Name n p0) (e :: es) [] pos) ρ O d O1 :=
  de_of (pe_callB hc hg hm hv pa_wa hn hdb he hpl) fun σ B H hE hA Q q => ha σ B H hE hA _ fun vs B1 H1 p1 r1 => hr vs B1 H1 p1.at' r1 _ fun u B2 H2 p2 r2 => q u B2 H2 (p1.trans p2) r2
theorem de_Ty {id : String} {n : Str} {r : List V → Hp → VK → Prop} (hc : CallR X (.type id) r) (ha : DA T X (e :: es) ρ O ss O1) (hr : BOp T X r O1 ss d) (hm : X.mg n = none) (hv : bootBuiltins n = some (.type id)) (hg : Gl X n := by rfl) (hn : n ≠ "__name__" := by decide) (hdb : (n == ("__debug__" : Str)) = false := by decide)
    (he : starEach (e :: es) X.env = (false, eval e X.env) :: starEach es X.env := by rfl) (hpl : (backTo pos (starEach es X.env)).any (·.1) = false := by rfl) : DE T X (.Call (.Name n p0) (e :: es) [] pos) ρ O d O1 :=
  de_of (pe_callTy hc hg hm hv pa_wa hn hdb he hpl) fun σ B H hE hA Q q => ha σ B H hE hA _ fun vs B1 H1 p1 r1 => hr vs B1 H1 p1.at' r1 _ fun u B2 H2 p2 r2 => q u B2 H2 (p1.trans p2) r2
theorem args1 {K : PySem.W.Frag} {B : Hp} {vs : List V} {s : Slot} (h : Args K B vs [s]) : ∃ v, vs = [v] ∧ SlotOk K B (some v) s := by
  cases h with
  | cons h r =>
    cases r
    exact ⟨_, rfl, h⟩

/-! ### len, int, abs -/
abbrev LenR (X : Cx) : List V → Hp → VK → Prop := fun xs H Q => ∃ p ys, xs = [.ref p] ∧ (SqL X.K H p ys ∨ SqT X.K H p ys) ∧ Q (.int ys.length) H
theorem bop_lenL : BOp T X (LenR X) O [.dat (.lst ds)] (.int ds.length) := fun vs B H hA hv Q q => by
  obtain ⟨v, rfl, r⟩ := args1 hv
  cases (show Rp X.K B v (.lst ds) from r) with
  | lst h r => exact ⟨_, _, rfl, .inl (SqL.of (hA.base _ _ h)), by rw [r.length]; exact q _ B H (Post.refl hA) (.int _)⟩
theorem bop_lenK : BOp T X (LenR X) O [.dat (.kst ds)] (.int ds.length) := fun vs B H hA hv Q q => by
  obtain ⟨v, rfl, r⟩ := args1 hv
  cases (show Rp X.K B v (.kst ds) from r) with
  | kst h r => exact ⟨_, _, rfl, .inl (hA.base.seq h), by rw [r.length]; exact q _ B H (Post.refl hA) (.int _)⟩
theorem bop_lenT : BOp T X (LenR X) O [.dat (.tup ds)] (.int ds.length) := fun vs B H hA hv Q q => by
  obtain ⟨v, rfl, r⟩ := args1 hv
  cases (show Rp X.K B v (.tup ds) from r) with
  | tup h r => exact ⟨_, _, rfl, .inr (same_t hA.base h), by rw [r.length]; exact q _ B H (Post.refl hA) (.int _)⟩
theorem bop_lenO {p : Addr} (ho : O p = some (.lst ss)) : BOp T X (LenR X) O [.val (.ref p)] (.int ss.length) := fun vs B H hA hv Q q => by
  obtain ⟨v, rfl, r⟩ := args1 hv
  have ev : v = .ref p := r
  subst ev
  obtain ⟨_, u, hu, ok⟩ := hA.own p _ ho
  cases u <;> try exact ok.elim
  exact ⟨_, _, rfl, .inl (SqL.of hu), by rw [Args.length ok]; exact q _ B H (Post.refl hA) (.int _)⟩
section
variable (hm : X.mg "len" = none)
include hm
theorem de_lenL (ha : DE T X e ρ O (.lst ds) O1) (hg : Gl X "len" := by rfl) (he : starEach [e] X.env = (false, eval e X.env) :: starEach [] X.env := by rfl) : DE T X (.Call (.Name "len" p0) [e] [] pos) ρ O (.int ds.length) O1 := de_B call_len_seq (da_one ha.dv he) bop_lenL hm boot_len hg (by decide) (by decide) he
theorem de_lenK (ha : DE T X e ρ O (.kst ds) O1) (hg : Gl X "len" := by rfl) (he : starEach [e] X.env = (false, eval e X.env) :: starEach [] X.env := by rfl) : DE T X (.Call (.Name "len" p0) [e] [] pos) ρ O (.int ds.length) O1 := de_B call_len_seq (da_one ha.dv he) bop_lenK hm boot_len hg (by decide) (by decide) he
theorem de_lenT (ha : DE T X e ρ O (.tup ds) O1) (hg : Gl X "len" := by rfl) (he : starEach [e] X.env = (false, eval e X.env) :: starEach [] X.env := by rfl) : DE T X (.Call (.Name "len" p0) [e] [] pos) ρ O (.int ds.length) O1 := de_B call_len_seq (da_one ha.dv he) bop_lenT hm boot_len hg (by decide) (by decide) he
theorem de_lenO {p : Addr} (ha : DV T X e ρ O (.val (.ref p)) O1) (ho : O1 p = some (.lst ss)) (hg : Gl X "len" := by rfl) (he : starEach [e] X.env = (false, eval e X.env) :: starEach [] X.env := by rfl) : DE T X (.Call (.Name "len" p0) [e] [] pos) ρ O (.int ss.length) O1 := de_B call_len_seq (da_one ha he) (bop_lenO ho) hm boot_len hg (by decide) (by decide) he
end
theorem de_intI {i : Int} (hm : X.mg "int" = none) (ha : DE T X e ρ O (.int i) O1) (hg : Gl X "int" := by rfl) (he : starEach [e] X.env = (false, eval e X.env) :: starEach [] X.env := by rfl) : DE T X (.Call (.Name "int" p0) [e] [] pos) ρ O (.int i) O1 :=
  de_Ty call_int1 (da_one ha.dv he) (fun vs B H hA hv Q q => by
    obtain ⟨v, rfl, r⟩ := args1 hv
    cases (show Rp X.K B v (.int i) from r)
    exact .inl ⟨i, rfl, q _ B H (Post.refl hA) (.int i)⟩) hm boot_int hg (by decide) (by decide) he
theorem de_intB {k : Bool} (hm : X.mg "int" = none) (ha : DE T X e ρ O (.bl k) O1) (hg : Gl X "int" := by rfl) (he : starEach [e] X.env = (false, eval e X.env) :: starEach [] X.env := by rfl) : DE T X (.Call (.Name "int" p0) [e] [] pos) ρ O (.int (if k then 1 else 0)) O1 :=
  de_Ty call_int1 (da_one ha.dv he) (fun vs B H hA hv Q q => by
    obtain ⟨v, rfl, r⟩ := args1 hv
    cases (show Rp X.K B v (.bl k) from r)
    exact .inr ⟨k, rfl, q _ B H (Post.refl hA) (.int _)⟩) hm boot_int hg (by decide) (by decide) he
theorem de_abs {i : Int} (hm : X.mg "abs" = none) (ha : DE T X e ρ O (.int i) O1) (hg : Gl X "abs" := by rfl) (he : starEach [e] X.env = (false, eval e X.env) :: starEach [] X.env := by rfl) : DE T X (.Call (.Name "abs" p0) [e] [] pos) ρ O (.int (if i < 0 then -i else i)) O1 :=
  de_B call_abs (da_one ha.dv he) (fun vs B H hA hv Q q => by
    obtain ⟨v, rfl, r⟩ := args1 hv
    cases (show Rp X.K B v (.int i) from r)
    exact ⟨i, rfl, q _ B H (Post.refl hA) (.int _)⟩) hm boot_abs hg (by decide) (by decide) he

/-! ### list(x), tuple(x), sorted(x) -/
theorem de_listL (hm : X.mg "list" = none) (ha : DE T X e ρ O (.lst ds) O1) (hg : Gl X "list" := by rfl) (he : starEach [e] X.env = (false, eval e X.env) :: starEach [] X.env := by rfl) : DE T X (.Call (.Name "list" p0) [e] [] pos) ρ O (.lst ds) O1 :=
  de_Ty call_list_of (da_one ha.dv he) (fun vs B H hA hv Q q => by
    obtain ⟨v, rfl, r⟩ := args1 hv
    cases (show Rp X.K B v (.lst ds) from r) with
    | lst h r => exact ⟨_, _, rfl, .inl (SqL.of (hA.base _ _ h)), fun l hl => q _ _ _ (Post.made (o := .lst _) hA hl) (.lst upd_same (r.mono (Post.made (o := .lst _) hA hl).bb))⟩) hm boot_list hg (by decide) (by decide) he
theorem de_listT (hm : X.mg "list" = none) (ha : DE T X e ρ O (.tup ds) O1) (hg : Gl X "list" := by rfl) (he : starEach [e] X.env = (false, eval e X.env) :: starEach [] X.env := by rfl) : DE T X (.Call (.Name "list" p0) [e] [] pos) ρ O (.lst ds) O1 :=
  de_Ty call_list_of (da_one ha.dv he) (fun vs B H hA hv Q q => by
    obtain ⟨v, rfl, r⟩ := args1 hv
    cases (show Rp X.K B v (.tup ds) from r) with
    | tup h r => exact ⟨_, _, rfl, .inr (same_t hA.base h), fun l hl => q _ _ _ (Post.made (o := .lst _) hA hl) (.lst upd_same (r.mono (Post.made (o := .lst _) hA hl).bb))⟩) hm boot_list hg (by decide) (by decide) he
theorem de_tupleL (hm : X.mg "tuple" = none) (ha : DE T X e ρ O (.lst ds) O1) (hg : Gl X "tuple" := by rfl) (he : starEach [e] X.env = (false, eval e X.env) :: starEach [] X.env := by rfl) : DE T X (.Call (.Name "tuple" p0) [e] [] pos) ρ O (.tup ds) O1 :=
  de_Ty call_tuple_of (da_one ha.dv he) (fun vs B H hA hv Q q => by
    obtain ⟨v, rfl, r⟩ := args1 hv
    cases (show Rp X.K B v (.lst ds) from r) with
    | lst h r => exact ⟨_, _, rfl, .inl ⟨SqL.of (hA.base _ _ h), fun l hl => q _ _ _ (Post.made (o := .tup _) hA hl) (.tup (SqT.of upd_same) (r.mono (Post.made (o := .tup _) hA hl).bb))⟩⟩) hm boot_tuple hg (by decide) (by decide) he
theorem de_tupleT (hm : X.mg "tuple" = none) (ha : DE T X e ρ O (.tup ds) O1) (hg : Gl X "tuple" := by rfl) (he : starEach [e] X.env = (false, eval e X.env) :: starEach [] X.env := by rfl) : DE T X (.Call (.Name "tuple" p0) [e] [] pos) ρ O (.tup ds) O1 :=
  de_Ty call_tuple_of (da_one ha.dv he) (fun vs B H hA hv Q q => by
    obtain ⟨v, rfl, r⟩ := args1 hv
    cases (show Rp X.K B v (.tup ds) from r) with
    | tup h r => exact ⟨_, _, rfl, .inr ⟨same_t hA.base h, q _ B H (Post.refl hA) (.tup h r)⟩⟩) hm boot_tuple hg (by decide) (by decide) he
/-- ints in order -/
def srt (ns : List Int) : List Int := ns.mergeSort fun a b => decide (a ≤ b)
theorem srt_eq {ns ns' : List Int} (hp : ns'.Perm ns) (hs : ns'.Pairwise (· ≤ ·)) : ns' = srt ns := by
  refine List.Perm.eq_of_pairwise (le := fun a b : Int => a ≤ b) (fun a b _ _ h1 h2 => Int.le_antisymm h1 h2) hs ?_ (hp.trans (List.mergeSort_perm ns _).symm)
  have h := List.pairwise_mergeSort (le := fun a b : Int => decide (a ≤ b)) (fun a b c h1 h2 => decide_eq_true (Int.le_trans (of_decide_eq_true h1) (of_decide_eq_true h2))) (fun a b => by
    rcases Int.le_total a b with h | h
    · rw [decide_eq_true h]; rfl
    · rw [decide_eq_true h, Bool.or_true]) ns
  exact h.imp fun h => of_decide_eq_true h
theorem rp_ints {K : PySem.W.Frag} {B : Hp} : ∀ {vs : List V} {ns : List Int}, RpAll K B vs (ns.map .int) → vs = ns.map V.int
  | _, [], .nil => rfl
  | _, n :: ns, .cons h r => by
    cases h
    rw [rp_ints r]
    rfl
theorem rp_strs {K : PySem.W.Frag} {B : Hp} : ∀ {vs : List V} {ns : List Str}, RpAll K B vs (ns.map .str) → vs = ns.map V.str
  | _, [], .nil => rfl
  | _, n :: ns, .cons h r => by
    cases h
    rw [rp_strs r]
    rfl
theorem ints_rp {K : PySem.W.Frag} {B : Hp} (ns : List Int) : RpAll K B (ns.map V.int) (ns.map .int) := RpAll.map (fun i => .int i) ns
theorem de_sorted {ns : List Int} (hm : X.mg "sorted" = none) (ha : DE T X e ρ O (.lst (ns.map .int)) O1) (hv : bootBuiltins "sorted" = some (.builtin "sorted") := by decide +kernel) (hg : Gl X "sorted" := by rfl) (he : starEach [e] X.env = (false, eval e X.env) :: starEach [] X.env := by rfl) : DE T X (.Call (.Name "sorted" p0) [e] [] pos) ρ O (.lst ((srt ns).map .int)) O1 :=
  de_B cr_sortedI (da_one ha.dv he) (fun vs B H hA hv Q q => by
    obtain ⟨v, rfl, r⟩ := args1 hv
    cases (show Rp X.K B v (.lst (ns.map .int)) from r) with
    | lst h r =>
      have e := rp_ints r
      subst e
      refine ⟨_, ns, rfl, SqL.of (hA.base _ _ h), fun ns' l hp hs hl => ?_⟩
      have e := srt_eq hp hs
      subst e
      exact q _ _ _ (Post.made (o := .lst _) hA hl) (.lst upd_same (ints_rp _))) hm hv hg (by decide) (by decide) he

/-! ### isinstance -/
/-- the type of a data, told as the library does -/
inductive DTy : D → String → Prop
  | non : DTy .non "NoneType"
  | bl (b : Bool) : DTy (.bl b) "bool"
  | int (i : Int) : DTy (.int i) "int"
  | str (x : Str) : DTy (.str x) "str"
  | lst (ds : List D) : DTy (.lst ds) "list"
  | tup (ds : List D) : DTy (.tup ds) "tuple"
  | dic (kd : List (Key × D)) : DTy (.dic kd) "dict"
theorem Rp.tyX {K : PySem.W.Frag} {B H : Hp} {v : V} {d : D} {t : String} (e : Same B H) (r : Rp K B v d) (h : DTy d t) : TyX K H v (.type t) := by
  cases h with
  | non => cases r; exact .base .non
  | bl b => cases r; exact .base (.bl b)
  | int i => cases r; exact .base (.int i)
  | str x => cases r; exact .base (.str x)
  | lst ds => cases r with
    | lst h _ => exact .base (.lst (e _ _ h))
  | tup ds => cases r with
    | tup h _ =>
      rcases h with (h | ⟨o, h⟩) | ⟨o, its, n, h1, h2, _⟩
      · exact .base (.tup (e _ _ h))
      · exact .fTuple (e _ _ h)
      · exact .kTuple h1 h2
  | dic kd => cases r with
    | dic h _ => exact .base (.dK (e _ _ h))
theorem de_isi {t u : String} {n : Str} {k : Bool} {p1 : Pos} (hm : X.mg "isinstance" = none) (hm2 : X.mg n = none) (hu : bootBuiltins n = some (.type u)) (ha : DE T X e ρ O d O1) (ht : DTy d t) (hk : kitB t u = some k) (hv : bootBuiltins "isinstance" = some (.builtin "isinstance") := by decide +kernel) (hg : Gl X "isinstance" := by rfl) (hg2 : Gl X n := by rfl) (hn : n ≠ "__name__" := by decide) (hdb : (n == ("__debug__" : Str)) = false := by decide)
    (he : starEach [e, .Name n p1] X.env = (false, eval e X.env) :: starEach [.Name n p1] X.env := by rfl) (he2 : starEach [.Name n p1] X.env = (false, eval (.Name n p1) X.env) :: starEach [] X.env := by rfl) (hpl : (backTo pos (starEach [.Name n p1] X.env)).any (·.1) = false := by rfl) :
    DE T X (.Call (.Name "isinstance" p0) [e, .Name n p1] [] pos) ρ O (.bl k) O1 :=
  de_of (pe_callB call_isi hg hm hv (pa_cons pe_we (pa_cons (pe_bltn hg2 hm2 hu (show RelV (.ty u) (.type u) from rfl) hn hdb) pa_nil he2) he) (by decide) (by decide) he hpl) fun σ B H hE hA Q q => ha σ B H hE hA _ fun v B1 H1 p1 r1 =>
    ⟨v, .ty u, .type t, .type u, k, rfl, .ty u, r1.tyX p1.at'.base ht, kit_ty hk, q _ B1 H1 p1 (.bl k)⟩
/-- isinstance(x, (T, U)) -/
theorem de_isi2 {t u u' : String} {n n' : Str} {k : Bool} {p1 p2 p3 : Pos} {x1} (hm : X.mg "isinstance" = none) (hm2 : X.mg n = none) (hu : bootBuiltins n = some (.type u)) (hm3 : X.mg n' = none) (hu3 : bootBuiltins n' = some (.type u')) (ha : DE T X e ρ O d O1) (ht : DTy d t) {k1 k2 : Bool} (hk : kitB t u = some k1) (hk2 : kitB t u' = some k2) (hkk : (k1 || k2) = k)
    (hv : bootBuiltins "isinstance" = some (.builtin "isinstance") := by decide +kernel) (hg : Gl X "isinstance" := by rfl) (hg2 : Gl X n := by rfl) (hg3 : Gl X n' := by rfl) (hn : n ≠ "__name__" := by decide) (hdb : (n == ("__debug__" : Str)) = false := by decide) (hn3 : n' ≠ "__name__" := by decide) (hdb3 : (n' == ("__debug__" : Str)) = false := by decide)
    (he : starEach [e, .Tuple [.Name n p1, .Name n' p2] x1 p3] X.env = (false, eval e X.env) :: starEach [.Tuple [.Name n p1, .Name n' p2] x1 p3] X.env := by rfl) (he2 : starEach [.Tuple [.Name n p1, .Name n' p2] x1 p3] X.env = (false, eval (.Tuple [.Name n p1, .Name n' p2] x1 p3) X.env) :: starEach [] X.env := by rfl) (hpl : (backTo pos (starEach [.Tuple [.Name n p1, .Name n' p2] x1 p3] X.env)).any (·.1) = false := by rfl)
    (he3 : starEach [.Name n p1, .Name n' p2] X.env = (false, eval (.Name n p1) X.env) :: starEach [.Name n' p2] X.env := by rfl) (he4 : starEach [.Name n' p2] X.env = (false, eval (.Name n' p2) X.env) :: starEach [] X.env := by rfl) :
    DE T X (.Call (.Name "isinstance" p0) [e, .Tuple [.Name n p1, .Name n' p2] x1 p3] [] pos) ρ O (.bl k) O1 :=
  de_of (pe_callB call_isiT hg hm hv (pa_cons pe_we (pa_cons (pe_tup (pa_cons (pe_bltn hg2 hm2 hu (show RelV (.ty u) (.type u) from rfl) hn hdb) (pa_cons (pe_bltn hg3 hm3 hu3 (show RelV (.ty u') (.type u') from rfl) hn3 hdb3) pa_nil he4) he3)) pa_nil he2) he) (by decide) (by decide) he hpl) fun σ B H hE hA Q q => ha σ B H hE hA _ fun v B1 H1 p1 r1 => by
    refine ⟨(by show 2 ≤ sizeLine; decide), fun p hp => ?_⟩
    have po := Post.laid (o := .tup [.ty u, .ty u']) p1.at' hp
    refine ⟨v, p, _, .type t, [.type u, .type u'], k, rfl, upd_same, .cons (.ty u) (.cons (.ty u') .nil), r1.tyX po.at'.base ht, ?_, q _ B1 _ (p1.trans po) (.bl k)⟩
    subst hkk
    exact kitAny_cons (kit_ty hk) (fun z => by subst z; exact kitAny_cons (kit_ty hk2) (fun z => by subst z; exact kitAny_nil) (fun z => by subst z; rfl)) (fun z => by subst z; rfl)

/-! ### list + list, list * int, tuple + tuple, x[::-1] -/
theorem de_catL (ha : DE T X a ρ O (.lst ds) O1) (hb : DE T X b ρ O1 (.lst ds') O2) (hl : ds.length + ds'.length ≤ 100000) : DE T X (.BinOp a .Add b pos) ρ O (.lst (ds ++ ds')) O2 :=
  de_op op_cat ha hb fun v w B H hA rv rw' Q q => by
    cases rv with
    | lst h r =>
      cases rw' with
      | lst h' r' =>
        refine ⟨_, _, _, _, rfl, rfl, hA.base _ _ h, hA.base _ _ h', by rw [r.length, r'.length]; exact Nat.le_trans hl (by decide), fun p hp => ?_⟩
        exact q _ _ _ (Post.made (o := .lst _) hA hp) (.lst upd_same ((r.append r').mono (Post.made (o := .lst _) hA hp).bb))
theorem de_catT (ha : DE T X a ρ O (.tup ds) O1) (hb : DE T X b ρ O1 (.tup ds') O2) (h0 : ds ≠ []) (hl : ds.length + ds'.length ≤ 100000) : DE T X (.BinOp a .Add b pos) ρ O (.tup (ds ++ ds')) O2 :=
  de_op op_catT ha hb fun v w B H hA rv rw' Q q => by
    cases rv with
    | tup h r =>
      cases rw' with
      | tup h' r' =>
        refine ⟨_, _, _, _, rfl, rfl, same_t hA.base h, same_t hA.base h', fun z => h0 ?_, by rw [r.length, r'.length]; exact Nat.le_trans hl (by decide), fun z => ?_, fun z p hp => ?_⟩
        · subst z
          cases r
          rfl
        · subst z
          cases r'
          rw [List.append_nil] at q
          exact q _ B H (Post.refl hA) (.tup h r)
        · exact q _ _ _ (Post.made (o := .tup _) hA hp) (.tup (SqT.of upd_same) ((r.append r').mono (Post.made (o := .tup _) hA hp).bb))
/-- n times -/
def timesD (n : Nat) (ds : List D) : List D := (List.replicate n ds).flatten
theorem rp_times {K : PySem.W.Frag} {B : Hp} {vs : List V} {ds : List D} (r : RpAll K B vs ds) : ∀ n : Nat, RpAll K B (List.replicate n vs).flatten (timesD n ds)
  | 0 => .nil
  | n + 1 => by
    unfold timesD
    rw [List.replicate_succ, List.replicate_succ, List.flatten_cons, List.flatten_cons]
    exact r.append (rp_times r n)
theorem de_rep {k : Int} (ha : DE T X a ρ O (.lst ds) O1) (hb : DE T X b ρ O1 (.int k) O2) (hk : k ≤ 100000) (hk0 : 0 ≤ k) (hl : ds.length * k.toNat ≤ 100000) : DE T X (.BinOp a .Mult b pos) ρ O (.lst (timesD k.toNat ds)) O2 :=
  de_op op_rep ha hb fun v w B H hA rv rw' Q q => by
    cases rv with
    | lst h r =>
      cases rw'
      refine ⟨_, k, _, rfl, rfl, hA.base _ _ h, by omega, by omega, by rw [r.length]; exact Nat.le_trans hl (by decide), fun p hp => ?_⟩
      exact q _ _ _ (Post.made (o := .lst _) hA hp) (.lst upd_same ((rp_times r _).mono (Post.made (o := .lst _) hA hp).bb))
theorem de_rev {k : Nat} {p1 p2 p3 : Pos} (ha : DE T X e ρ O (.lst ds) O1) : DE T X (.Subscript e (.Slice none none (some (.UnaryOp .USub (.Constant (.int 1) k p1) p2)) p3) pos) ρ O (.lst ds.reverse) O1 :=
  de_of (pe_revL pe_we) fun σ B H hE hA Q q => ha σ B H hE hA _ fun v B1 H1 p1 r1 => by
    cases r1 with
    | lst h r => exact ⟨_, _, rfl, SqL.of (p1.at'.base _ _ h), fun p hp => q _ _ _ (p1.trans (Post.made (o := .lst _) p1.at' hp)) (.lst upd_same (r.reverse.mono (Post.made (o := .lst _) p1.at' hp).bb))⟩

end

/-! ### len(set(x)) -/
/-- how many a set of these would have -/
inductive SetLen : List V → Nat → Prop
  | int (ns : List Int) : SetLen (ns.map V.int) (DzS.dd ns).length
  | str (ns : List Str) : SetLen (ns.map V.str) (DzS.dd ns).length
def tLenSetG (K : PySem.W.Frag) (ta : TE) : TE := fun σ H Q => ta σ H fun x H1 => ∃ (l : Addr) (xs : List V) (n : Nat), x = .ref l ∧ (SqL K H1 l xs ∨ SqT K H1 l xs) ∧ SetLen xs n ∧ xs.length ≤ 4000 ∧ Q (.int (n : Nat)) H1
theorem pe_lenSetG {X : Cx} {a : Expr} {ta : TE} {p p2 q pos : Pos} (hg : Gl X "len") (hm : X.mg "len" = none) (hg2 : Gl X "set") (hm2 : X.mg "set" = none) (ha : PE X a ta) (hc : X.calm = true := by rfl)
    (na : starEach [a] X.env = (false, eval a X.env) :: starEach [] X.env := by rfl) : PE X (.Call (.Name "len" p) [.Call (.Name "set" p2) [a] [] q] [] pos) (tLenSetG X.K ta) := by
  refine ⟨fun pins s σ H Q I h => ?_⟩
  refine Call_ (ld_blt I hg hm boot_len ?_)
  refine PyProof.Rows.callWith_builtin1 (PyProof.Rows.args_cons ?_ rfl) rfl rfl
  refine Call_ (ld_blt I hg2 hm2 boot_set ?_)
  refine PyProof.Rows.callWith_type1 (PyProof.Rows.args_cons (thn (ha.run pins s σ H _ I h) fun v s1 ⟨x, H1, I1, r1, q1⟩ => PyProof.Rows.args_nil ?_) na) na rfl
  obtain ⟨l, xs, n, rfl, hq, hs, hl, q1⟩ := q1
  cases r1
  have any : ∀ (K : Type) (_ : DecidableEq K) (knd : KeyKind X.prog X.w K) (kk : Nat → K) (its : List Value), xs.length = its.length → (s1.heap.IsList l its.toArray ∨ s1.heap.IsTuple l its.toArray) → (DzS.gm kk its.length).length = n →
      (∀ (i : Nat) (v : Value), its[i]? = some v → knd.is (kk i) v = true ∧ v.scannable = true) →
      wpAny (model X.prog X.w) X.A (call (.type "set") [.ref l]) (fun v s₂ => wpAny (model X.prog X.w) X.A (spliced (backTo pos (starEach [] X.env))) (fun vs s₂ => wpAny (model X.prog X.w) X.A (call (.builtin "len") (v :: vs)) (EP X pins σ Q) X.xe s₂) X.xe s₂) X.xe s1 := by
    intro K _ knd kk its e1 hil en hk
    have hlen : its.toArray.size = its.length := List.size_toArray
    refine DzS.call_set_seqG (knd := knd) (kk := kk) (I1.ok.hd hc) hil (fun i v hv => hk i v (by simpa using hv)) (by rw [hlen, ← e1]; unfold scanBound; omega) fun h' tk hS hk' => ?_
    refine PyProof.Rows.args_nil ?_
    rw [hlen, en] at hS
    obtain ⟨o, es, ep, t, ho, hex, hd, _, _, hb, hf, hn⟩ := hS
    have I2 : Inv X pins σ H1 { s1 with heap := h', toks := tk } := I1.kept fun b o e => hk' b o (Heap.lt_size e) e
    have hn2 : n ≤ its.length := by rw [← en]; exact DzS.gm_len kk _
    exact call_len_set ho hex hd hf (by rw [hn] <;> omega) ⟨.int n, H1, I2.tok _, ⟨_, by rw [hn]⟩, q1⟩
  have both : ∃ its : List Value, Vals xs its ∧ (s1.heap.IsList l its.toArray ∨ s1.heap.IsTuple l its.toArray) := by
    rcases hq with hq | hq
    · obtain ⟨its, r, pl, hz⟩ := I1.list hq
      exact ⟨its, r, .inl pl.isList⟩
    · obtain ⟨its, r, pl, hz⟩ := I1.tuple hq
      exact ⟨its, r, .inr pl⟩
  obtain ⟨its, r, hil⟩ := both
  cases hs with
  | int ns =>
    have e1 : (ns.map V.int).length = its.length := r.length
    have e2 : ns.length = its.length := by rw [← e1, List.length_map]
    refine any Int _ (PySem.intKind X.prog X.w) (fun i => ns.getD i 0) its e1 hil (by rw [← e2, DzS.gm_dd _ _ _ (Nat.le_refl _), List.take_length]) fun i v hv => ?_
    obtain ⟨t, rfl⟩ := PyProof.Rows.IntsAre.int_at (RZ.intsAre_vals r) i v hv
    exact ⟨intKind_is _ _ _ _, rfl⟩
  | str ns =>
    have e1 : (ns.map V.str).length = its.length := r.length
    have e2 : ns.length = its.length := by rw [← e1, List.length_map]
    refine any Str _ (PySem.strKind X.prog X.w) (fun i => ns.getD i Str.empty) its e1 hil (by rw [← e2, DzS.gm_dd _ _ _ (Nat.le_refl _), List.take_length]) fun i v hv => ?_
    obtain ⟨t, rfl⟩ := SS.strs_at (strsAre_of r) i v hv
    exact ⟨strKind_is _ _ _ _, rfl⟩
section
variable {T : List Addr} {X : Cx} {ρ : List Slot} {O O1 O2 O3 : OH} {e : Expr} {p p2 q pos : Pos} {ds : List D}
/-- .. over data -/
inductive SetLenD : List D → Nat → Prop
  | int (ns : List Int) : SetLenD (ns.map .int) (DzS.dd ns).length
  | str (ns : List Str) : SetLenD (ns.map .str) (DzS.dd ns).length
theorem SetLenD.v {K : PySem.W.Frag} {B : Hp} {vs : List V} {ds : List D} {n : Nat} (h : SetLenD ds n) (r : RpAll K B vs ds) : SetLen vs n := by
  cases h with
  | int ns => rw [rp_ints r]; exact .int ns
  | str ns => rw [rp_strs r]; exact .str ns
theorem de_lenSetL {n : Nat} (hm : X.mg "len" = none) (hm2 : X.mg "set" = none) (ha : DE T X e ρ O (.lst ds) O1) (hs : SetLenD ds n) (hl : ds.length ≤ 4000) (hg : Gl X "len" := by rfl) (hg2 : Gl X "set" := by rfl) (hc : X.calm = true := by rfl) (na : starEach [e] X.env = (false, eval e X.env) :: starEach [] X.env := by rfl) :
    DE T X (.Call (.Name "len" p) [.Call (.Name "set" p2) [e] [] q] [] pos) ρ O (.int n) O1 :=
  de_of (pe_lenSetG hg hm hg2 hm2 pe_we hc na) fun σ B H hE hA Q k => ha σ B H hE hA _ fun v B1 H1 p1 r1 => by
    cases r1 with
    | lst h r => exact ⟨_, _, n, rfl, .inl (SqL.of (p1.at'.base _ _ h)), hs.v r, by rw [r.length]; exact hl, k _ B1 H1 p1 (.int _)⟩
theorem de_lenSetT {n : Nat} (hm : X.mg "len" = none) (hm2 : X.mg "set" = none) (ha : DE T X e ρ O (.tup ds) O1) (hs : SetLenD ds n) (hl : ds.length ≤ 4000) (hg : Gl X "len" := by rfl) (hg2 : Gl X "set" := by rfl) (hc : X.calm = true := by rfl) (na : starEach [e] X.env = (false, eval e X.env) :: starEach [] X.env := by rfl) :
    DE T X (.Call (.Name "len" p) [.Call (.Name "set" p2) [e] [] q] [] pos) ρ O (.int n) O1 :=
  de_of (pe_lenSetG hg hm hg2 hm2 pe_we hc na) fun σ B H hE hA Q k => ha σ B H hE hA _ fun v B1 H1 p1 r1 => by
    cases r1 with
    | tup h r => exact ⟨_, _, n, rfl, .inr (same_t p1.at'.base h), hs.v r, by rw [r.length]; exact hl, k _ B1 H1 p1 (.int _)⟩
end
end Dz

namespace Dz
open PySem PySem.Spec PyProof.Rows L2 GxR

/-! ### something new that is not owned yet -/
section
variable {T : List Addr} {K : PySem.W.Frag} {B B1 : Hp} {O O1 : OH} {H H1 : Hp} {a : Addr} {o u : HO}
theorem At.newT (h : At T K B O H) (n : H a = none) : a ∉ T := fun z => by
  obtain ⟨ps, e, _⟩ := h.tabs a z
  rw [e] at n
  cases n
/-- it is written -/
theorem Post.over (hA : At T K B O H) (n : H a = none) (p : Post T K B O H B1 O1 H1) (b1 : B1 a = none) (o1 : O1 a = none) : Post T K B O H B1 O1 (upd H1 a o) where
  at' :=
    { base := fun b u e => by
        have z : b ≠ a := fun z => by
          rw [z, b1] at e
          cases e
        rw [upd_ne z]
        exact p.at'.base b u e
      own := fun b u e => by
        have z : b ≠ a := fun z => by
          rw [z, o1] at e
          cases e
        obtain ⟨e1, v, e2, e3⟩ := p.at'.own b u e
        exact ⟨e1, v, by rw [upd_ne z]; exact e2, e3⟩
      nt := p.at'.nt
      tabs := fun P hP => by
        obtain ⟨ps, e, t⟩ := p.at'.tabs P hP
        have z : P ≠ a := fun z => hA.newT n (by rw [← z]; exact hP)
        exact ⟨ps, by rw [upd_ne z]; exact e, t⟩ }
  bb := p.bb
  new := p.new
  own := p.own
  fr := fun b u e ho ht => by
    rw [upd_ne (ne_of_none e n)]
    exact p.fr b u e ho ht
  dom := fun b hb => upd_dom (p.dom b hb)
/-- it is frozen -/
theorem Post.ice (hA : At T K B O H) (n : H a = none) (p : Post T K B O H B1 O1 H1) (b1 : B1 a = none) (o1 : O1 a = none) (e1 : H1 a = some o) : Post T K B O H (upd B1 a o) O1 H1 where
  at' :=
    { base := fun b u e => by
        by_cases z : b = a
        · subst z
          rw [upd_same] at e
          cases e
          exact e1
        · rw [upd_ne z] at e
          exact p.at'.base b u e
      own := fun b u e => by
        have z : b ≠ a := fun z => by
          rw [z, o1] at e
          cases e
        obtain ⟨q1, v, q2, q3⟩ := p.at'.own b u e
        refine ⟨by rw [upd_ne z]; exact q1, v, q2, q3.mono fun c w q => ?_⟩
        have zc : c ≠ a := fun zc => by
          rw [zc, b1] at q
          cases q
        rw [upd_ne zc]
        exact q
      nt := fun P hP => by
        have z : P ≠ a := fun z => hA.newT n (by rw [← z]; exact hP)
        rw [upd_ne z]
        exact p.at'.nt P hP
      tabs := p.at'.tabs }
  bb := p.bb.trans fun c w q => by
    have zc : c ≠ a := fun zc => by
      rw [zc, b1] at q
      cases q
    rw [upd_ne zc]
    exact q
  new := fun b hb ho => by
    rw [upd_ne (fun z => hb (by rw [z]; exact n))]
    exact p.new b hb ho
  own := p.own
  fr := p.fr
  dom := p.dom
end

/-! ### [e for x in xs if t] -/
/-- the list so far -/
def LcI (T : List Addr) (K : PySem.W.Frag) (B : Hp) (O : OH) (H : Hp) (a : Addr) (I : Nat → List D → OH → Prop) (j : Nat) (H' : Hp) : Prop :=
  ∃ B' O' acc xs, I j acc O' ∧ Post T K B O H B' O' H' ∧ B' a = none ∧ O' a = none ∧ H' a = some (.lst xs) ∧ RpAll K B' xs acc ∧ acc.length ≤ j
section
variable {T : List Addr} {K : PySem.W.Frag} {B : Hp} {O : OH} {H : Hp} {a : Addr} {I : Nat → List D → OH → Prop}
theorem LcI.start (hA : At T K B O H) (n : H a = none) (h : I 0 [] O) : LcI T K B O H a I 0 (upd H a (.lst [])) :=
  ⟨B, O, [], [], h, Post.over hA n (Post.refl hA) (hA.noB n) (hA.noO n), hA.noB n, hA.noO n, upd_same, .nil, Nat.le_refl _⟩
theorem LcI.fin {j : Nat} {H' : Hp} {Q : VK} {out : List D} {Oo : OH} (hA : At T K B O H) (n : H a = none) (h : LcI T K B O H a I j H') (ho : ∀ acc O', I j acc O' → acc = out ∧ O' = Oo)
    (q : ∀ v B' H', Post T K B O H B' Oo H' → Rp K B' v (.lst out) → Q v H') : Q (.ref a) H' := by
  obtain ⟨B', O', acc, xs, h1, h2, h3, h4, h5, h6, _⟩ := h
  obtain ⟨e1, e2⟩ := ho acc O' h1
  subst e1 e2
  have po := Post.ice hA n h2 h3 h4 h5
  exact q (.ref a) _ H' po (.lst upd_same (h6.mono fun c w q => by
    have zc : c ≠ a := fun zc => by
      rw [zc, h3] at q
      cases q
    rw [upd_ne zc]
    exact q))
end
/-- the slots of a block at its start -/
abbrev blkX (X : Cx) (scope : Scope) (s : Shared) (H : Hp) (C : Addr) (cl : List (Str × Addr)) (fp : List Addr) : Cx := X.blk s H scope (compEnvC scope cl C X.env) fp
/-- the judgements hold in the block, wherever it starts -/
def DEb (T : List Addr) (X : Cx) (scope : Scope) (e : Expr) (ρ : List Slot) (O : OH) (d : D) (O' : OH) : Prop := ∀ (s : Shared) (H : Hp) (C : Addr) (cl : List (Str × Addr)) (fp : List Addr), DE T (blkX X scope s H C cl fp) e ρ O d O'
/-- the tests of a comprehension -/
def DIfs (T : List Addr) (X : Cx) (scope : Scope) (ifs : List Expr) (ρ : List Slot) (O : OH) (b : Bool) (O' : OH) : Prop :=
  ∀ (σ : L2.St) (B H : Hp), Env X.K B σ ρ → At T X.K B O H → ∀ Q : Bool → Hp → Prop, (∀ B' H', Post T X.K B O H B' O' H' → Q b H') →
    ∀ (s0 : Shared) (H0 : Hp) (C : Addr) (cl : List (Str × Addr)) (fp : List Addr) (pins : List (Addr × Obj)) (s : Shared), L2.Inv (blkX X scope s0 H0 C cl fp) pins σ H s →
    wpAny (model X.prog X.w) X.A (forIn ifs true fun c r => if r = true then do let ok ← isTrue c (blkX X scope s0 H0 C cl fp).env (eval c (blkX X scope s0 H0 C cl fp).env); pure (ForInStep.yield ok) else pure (ForInStep.yield r)) (TP (blkX X scope s0 H0 C cl fp) pins σ Q) (fun _ _ => False) s
section
variable {T : List Addr} {X : Cx} {scope : Scope} {ρ : List Slot} {O O1 O2 : OH} {c elt iter : Expr} {ifs : List Expr} {b : Bool} {d : D}
theorem difs_nil : DIfs T X scope [] ρ O true O := fun σ B H hE hA Q q s0 H0 C cl fp pins s I => pts_nil.run pins s σ H Q I (q B H (Post.refl hA))
theorem difs_one (h : ∀ (s : Shared) (H : Hp) (C : Addr) (cl : List (Str × Addr)) (fp : List Addr), DT T (blkX X scope s H C cl fp) c ρ O b O1) : DIfs T X scope [c] ρ O b O1 := fun σ B H hE hA Q q s0 H0 C cl fp pins s I =>
  (pts_one pt_wt).run pins s σ H Q I (h s0 H0 C cl fp σ B H hE hA Q q)
/-- the readings of the parts, in every block -/
def TTb (X : Cx) (scope : Scope) (ifs : List Expr) : TT := fun σ H Q => ∀ (s0 : Shared) (H0 : Hp) (C : Addr) (cl : List (Str × Addr)) (fp : List Addr) (pins : List (Addr × Obj)) (s : Shared), L2.Inv (blkX X scope s0 H0 C cl fp) pins σ H s →
    wpAny (model X.prog X.w) X.A (forIn ifs true fun c r => if r = true then do let ok ← isTrue c (blkX X scope s0 H0 C cl fp).env (eval c (blkX X scope s0 H0 C cl fp).env); pure (ForInStep.yield ok) else pure (ForInStep.yield r)) (TP (blkX X scope s0 H0 C cl fp) pins σ Q) (fun _ _ => False) s
theorem ptsb (s : Shared) (H : Hp) (C : Addr) (cl : List (Str × Addr)) (fp : List Addr) : PTs (blkX X scope s H C cl fp) ifs (TTb X scope ifs) := ⟨fun pins s' σ H' Q I h => h s H C cl fp pins s' I⟩
def TEb (X : Cx) (scope : Scope) (e : Expr) : TE := fun σ H Q => ∀ (s0 : Shared) (H0 : Hp) (C : Addr) (cl : List (Str × Addr)) (fp : List Addr), WE (blkX X scope s0 H0 C cl fp) e σ H Q
theorem peb {e : Expr} (s : Shared) (H : Hp) (C : Addr) (cl : List (Str × Addr)) (fp : List Addr) : PE (blkX X scope s H C cl fp) e (TEb X scope e) := ⟨fun pins s' σ H' Q I h => h s H C cl fp pins s' I⟩

/-- a turn: the tests, then the element -/
def LcTurn (T : List Addr) (X : Cx) (scope : Scope) (ifs : List Expr) (elt : Expr) (I : Nat → List D → OH → Prop) (j : Nat) (ρ' : List Slot) (acc : List D) (O : OH) : Prop :=
  ∃ b O2, DIfs T X scope ifs ρ' O b O2 ∧ (b = true → ∃ y O3, DEb T X scope elt ρ' O2 y O3 ∧ I (j + 1) (acc ++ [y]) O3) ∧ (b = false → I (j + 1) acc O2)
variable {B H H0 : Hp} {a : Addr} {I : Nat → List D → OH → Prop}
theorem lc_turn {σ : L2.St} {j i : Nat} {v : V} {Hj : Hp} (hA : At T X.K B O H) (n : H a = none) (hj : j < 100000) (hE : Env X.K B σ ρ)
    (hv : ∀ B', Same B B' → Rp X.K B' v d)
    (ht : ∀ acc O', I j acc O' → LcTurn T X scope ifs elt I j (ρ.set i (.dat d)) acc O') (h : LcI T X.K B O H a I j Hj) :
    gName i v (wipe σ [i]) Hj fun σ2 H2 => wipe σ2 [i] = wipe σ [i] ∧ TTb X scope ifs σ2 H2 fun b H3 =>
      if b = true then TEb X scope elt σ2 H3 fun y H4 => ∃ acc, H4 a = some (.lst acc) ∧ acc.length < sizeLine ∧ LcI T X.K B O H a I (j + 1) (upd H4 a (.lst (acc ++ [y]))) else LcI T X.K B O H a I (j + 1) H3 := by
  obtain ⟨B', O', acc, xs, h1, h2, h3, h4, h5, h6, h7⟩ := h
  have e1 : wipe σ [i] = σ.set i none := rfl
  show wipe ((wipe σ [i]).set i (some v)) [i] = wipe σ [i] ∧ _
  have e2 : (wipe σ [i]).set i (some v) = σ.set i (some v) := by rw [e1, List.set_set]
  rw [e2]
  refine ⟨by show (σ.set i (some v)).set i none = σ.set i none; rw [List.set_set], ?_⟩
  have hE' : Env X.K B' (σ.set i (some v)) (ρ.set i (.dat d)) := (hE.mono h2.bb).set (o := some v) (s := .dat d) (hv B' h2.bb) i
  have ha : Hj a ≠ none := by rw [h5]; exact fun z => by cases z
  obtain ⟨b, O2, t1, t2, t3⟩ := ht acc O' h1
  refine t1 _ B' Hj hE' h2.at' _ fun B2 H2 p2 => ?_
  have k1 : B2 a = none := by rw [p2.new a ha h4]; exact h3
  have k2 : O2 a = none := p2.keepO ha h4
  have k3 : H2 a = some (.lst xs) := p2.fr a _ h5 h4 (hA.newT n)
  cases b with
  | false =>
    rw [if_neg (by decide)]
    exact ⟨B2, O2, acc, xs, t3 rfl, h2.trans p2, k1, k2, k3, h6.mono p2.bb, Nat.le_succ_of_le h7⟩
  | true =>
    rw [if_pos rfl]
    obtain ⟨y, O3, t4, t5⟩ := t2 rfl
    intro s0 H0 C cl fp
    refine t4 s0 H0 C cl fp _ B2 H2 (hE'.mono p2.bb) p2.at' _ fun w B3 H3 p3 r3 => ?_
    have ha2 : H2 a ≠ none := by rw [k3]; exact fun z => by cases z
    have m1 : B3 a = none := by rw [p3.new a ha2 k2]; exact k1
    have m2 : O3 a = none := p3.keepO ha2 k2
    have m3 : H3 a = some (.lst xs) := p3.fr a _ k3 k2 (hA.newT n)
    refine ⟨xs, m3, ?_, B3, O3, acc ++ [y], xs ++ [w], t5, Post.over hA n ((h2.trans p2).trans p3) m1 m2, m1, m2, upd_same, ((h6.mono p2.bb).mono p3.bb).append (.cons r3 .nil), ?_⟩
    · rw [h6.length]
      have : (100000 : Nat) ≤ sizeLine := by decide
      omega
    · rw [List.length_append, List.length_singleton]
      omega

variable {np pos : Pos} {ds out : List D} {n : Str} {own : List (Str × Nat)}
theorem de_lcL (i : Nat) (he : DE T X iter ρ O (.lst ds) O1) (I : Nat → List D → OH → Prop) (h0 : I 0 [] O1) (ht : ∀ j d acc O', ds[j]? = some d → I j acc O' → LcTurn T X scope ifs elt I j (ρ.set i (.dat d)) acc O') (hd : ∀ acc O', I ds.length acc O' → acc = out ∧ O' = O2)
    (hl : ds.length ≤ 100000) (hN : X.N.Nodup) (ok : BlkOk X.N X.env.scope scope [(n, i)]) (hi : X.N[i]? = some n := by rfl) (hx : ∀ (s : Shared) (H : Hp) (C : Addr) (cl : List (Str × Addr)) (fp : List Addr), Loc (blkX X scope s H C cl fp).env.scope n := by first | exact fun _ _ _ _ _ => Or.inl rfl | exact fun _ _ _ _ _ => Or.inr rfl)
    (hf : ∀ (s : Shared) (H : Hp) (C : Addr) (cl : List (Str × Addr)) (fp : List Addr), (blkX X scope s H C cl fp).fn n = true ∨ (blkX X scope s H C cl fp).env.scope.names.lookup n = some .local := by first | exact fun _ _ _ _ _ => .inl rfl | exact fun _ _ _ _ _ => .inr rfl) (hc : X.calm = true := by rfl) (hs : ∀ x, foldedSetIterable iter X.env x = pure x := by intro _; rfl) :
    DE T X (.ListComp elt [⟨.Name n np, iter, ifs, 0⟩] scope pos) ρ O (.lst out) O2 :=
  de_of (pe_lc hc hN (pi_list pe_we) ok (fun s H C cl fp => pg_name hN hi (hx s H C cl fp) (hf s H C cl fp)) ptsb peb hs) fun σ B H hE hA Q q => he σ B H hE hA _ fun v B1 H1 p1 r1 => by
    cases r1 with
    | lst hq r =>
      rename_i l xs
      refine ⟨l, rfl, ⟨xs, SqL.of (p1.at'.base _ _ hq)⟩, fun a na => ?_⟩
      have hA1 := p1.at'
      refine lc_list (K := X.K) (xs := xs) (a := l) (fun j H' => LcI T X.K B1 O1 H1 a I j H') (LcI.start hA1 na h0) (fun j H' _ h => ?_) (fun j x H' hj h => ?_) (fun H' h => ?_)
      · obtain ⟨B', _, _, _, _, h2, _⟩ := h
        exact SqL.of (h2.at'.base _ _ (h2.bb _ _ hq))
      · obtain ⟨d, hd1, hd2⟩ := r.getV hj
        have hjl : j < ds.length := by
          rw [← r.length]
          exact (List.getElem?_eq_some_iff.mp hj).1
        exact lc_turn hA1 na (Nat.lt_of_lt_of_le hjl hl) (hE.mono p1.bb) (fun B' sb => hd2.mono sb) (fun acc O' hI => ht j d acc O' hd1 hI) h
      · rw [r.length] at h
        exact LcI.fin hA1 na h hd fun v B2 H2 p2 r2 => q v B2 H2 (p1.trans p2) r2
theorem de_lcT (i : Nat) (he : DE T X iter ρ O (.tup ds) O1) (I : Nat → List D → OH → Prop) (h0 : I 0 [] O1) (ht : ∀ j d acc O', ds[j]? = some d → I j acc O' → LcTurn T X scope ifs elt I j (ρ.set i (.dat d)) acc O') (hd : ∀ acc O', I ds.length acc O' → acc = out ∧ O' = O2)
    (hl : ds.length ≤ 100000) (hN : X.N.Nodup) (ok : BlkOk X.N X.env.scope scope [(n, i)]) (hi : X.N[i]? = some n := by rfl) (hx : ∀ (s : Shared) (H : Hp) (C : Addr) (cl : List (Str × Addr)) (fp : List Addr), Loc (blkX X scope s H C cl fp).env.scope n := by first | exact fun _ _ _ _ _ => Or.inl rfl | exact fun _ _ _ _ _ => Or.inr rfl)
    (hf : ∀ (s : Shared) (H : Hp) (C : Addr) (cl : List (Str × Addr)) (fp : List Addr), (blkX X scope s H C cl fp).fn n = true ∨ (blkX X scope s H C cl fp).env.scope.names.lookup n = some .local := by first | exact fun _ _ _ _ _ => .inl rfl | exact fun _ _ _ _ _ => .inr rfl) (hc : X.calm = true := by rfl) (hs : ∀ x, foldedSetIterable iter X.env x = pure x := by intro _; rfl) :
    DE T X (.ListComp elt [⟨.Name n np, iter, ifs, 0⟩] scope pos) ρ O (.lst out) O2 :=
  de_of (pe_lc hc hN (pi_tup pe_we) ok (fun s H C cl fp => pg_name hN hi (hx s H C cl fp) (hf s H C cl fp)) ptsb peb hs) fun σ B H hE hA Q q => he σ B H hE hA _ fun v B1 H1 p1 r1 => by
    cases r1 with
    | tup hq r =>
      rename_i l xs
      refine ⟨l, rfl, ⟨xs, same_t p1.at'.base hq⟩, fun a na => ?_⟩
      have hA1 := p1.at'
      refine lc_tup (K := X.K) (xs := xs) (a := l) (fun j H' => LcI T X.K B1 O1 H1 a I j H') (LcI.start hA1 na h0) (fun j H' _ h => ?_) (fun j x H' hj h => ?_) (fun H' h => ?_)
      · obtain ⟨B', _, _, _, _, h2, _⟩ := h
        exact same_t h2.at'.base (same_t h2.bb hq)
      · obtain ⟨d, hd1, hd2⟩ := r.getV hj
        have hjl : j < ds.length := by
          rw [← r.length]
          exact (List.getElem?_eq_some_iff.mp hj).1
        exact lc_turn hA1 na (Nat.lt_of_lt_of_le hjl hl) (hE.mono p1.bb) (fun B' sb => hd2.mono sb) (fun acc O' hI => ht j d acc O' hd1 hI) h
      · rw [r.length] at h
        exact LcI.fin hA1 na h hd fun v B2 H2 p2 r2 => q v B2 H2 (p1.trans p2) r2
/-- over range(m) -/
theorem de_lcR (i : Nat) {m : Int} {rp : Pos} {pos' : Pos} {e : Expr} (he : DE T X e ρ O (.int m) O1) (I : Nat → List D → OH → Prop) (h0 : I 0 [] O1) (ht : ∀ (j : Nat) acc O', (j : Int) < m → I j acc O' → LcTurn T X scope ifs elt I j (ρ.set i (.dat (.int (j : Int)))) acc O') (hd : ∀ acc O', I m.toNat acc O' → acc = out ∧ O' = O2)
    (hl : m ≤ 100000) (hl0 : -100000 ≤ m) (hmg : X.mg "range" = none) (hN : X.N.Nodup) (ok : BlkOk X.N X.env.scope scope [(n, i)]) (hg : Gl X "range" := by rfl) (hi : X.N[i]? = some n := by rfl) (hx : ∀ (s : Shared) (H : Hp) (C : Addr) (cl : List (Str × Addr)) (fp : List Addr), Loc (blkX X scope s H C cl fp).env.scope n := by first | exact fun _ _ _ _ _ => Or.inl rfl | exact fun _ _ _ _ _ => Or.inr rfl)
    (hf : ∀ (s : Shared) (H : Hp) (C : Addr) (cl : List (Str × Addr)) (fp : List Addr), (blkX X scope s H C cl fp).fn n = true ∨ (blkX X scope s H C cl fp).env.scope.names.lookup n = some .local := by first | exact fun _ _ _ _ _ => .inl rfl | exact fun _ _ _ _ _ => .inr rfl) (hc : X.calm = true := by rfl) (h1 : starEach [e] X.env = [(false, eval e X.env)] := by rfl) (hs : ∀ x, foldedSetIterable (.Call (.Name "range" rp) [e] [] pos') X.env x = pure x := by intro _; rfl) :
    DE T X (.ListComp elt [⟨.Name n np, .Call (.Name "range" rp) [e] [] pos', ifs, 0⟩] scope pos) ρ O (.lst out) O2 :=
  de_of (pe_lc hc hN (pi_range1 hg hmg (pa_cons pe_we pa_nil h1) h1) ok (fun s H C cl fp => pg_name hN hi (hx s H C cl fp) (hf s H C cl fp)) ptsb peb hs) fun σ B H hE hA Q q => he σ B H hE hA _ fun v B1 H1 p1 r1 => by
    cases r1
    refine ⟨m, rfl, by omega, by omega, fun a na => ?_⟩
    have hA1 := p1.at'
    refine lc_range (fun j H' => LcI T X.K B1 O1 H1 a I j H') (LcI.start hA1 na h0) (fun j H' hj h => ?_) (fun H' h => ?_)
    · have e0 : (0 : Int) + (j : Int) = (j : Int) := Int.zero_add _
      rw [e0]
      exact lc_turn hA1 na (by omega) (hE.mono p1.bb) (fun B' sb => .int _) (fun acc O' hI => ht j acc O' (by omega) hI) h
    · exact LcI.fin hA1 na h hd fun v B2 H2 p2 r2 => q v B2 H2 (p1.trans p2) r2
/-- a list by a function of its items: f none leaves an item out -/
theorem lc_pure {i : Nat} {f : D → Option D} (h : ∀ d ∈ ds, (∃ y, f d = some y ∧ DIfs T X scope ifs (ρ.set i (.dat d)) O true O ∧ DEb T X scope elt (ρ.set i (.dat d)) O y O) ∨ (f d = none ∧ DIfs T X scope ifs (ρ.set i (.dat d)) O false O)) :
    ∀ j d acc O', ds[j]? = some d → (acc = (ds.take j).filterMap f ∧ O' = O) → LcTurn T X scope ifs elt (fun j acc O' => acc = (ds.take j).filterMap f ∧ O' = O) j (ρ.set i (.dat d)) acc O' := by
  rintro j d acc O' hj ⟨e1, e2⟩
  subst e2
  have et : ds.take (j + 1) = ds.take j ++ [d] := by rw [List.take_add_one, hj]; rfl
  rcases h d (List.mem_of_getElem? hj) with ⟨y, h1, h2, h3⟩ | ⟨h1, h2⟩
  · refine ⟨true, O', h2, (fun _ => ⟨y, O', h3, ?_, rfl⟩), fun z => by cases z⟩
    rw [et, List.filterMap_append, e1]
    simp [h1]
  · refine ⟨false, O', h2, (fun z => by cases z), fun _ => ⟨?_, rfl⟩⟩
    rw [et, List.filterMap_append, e1]
    simp [h1]
end
end Dz

namespace Dz
open PySem PySem.Spec PyProof.Rows L2 GxR
/-- the generator's item, wherever it runs -/
def DEg (T : List Addr) (X : Cx) (scope : Scope) (k : Nat) (e : Expr) (ρ : List Slot) (O : OH) (d : D) (O' : OH) : Prop :=
  ∀ (s : Shared) (H : Hp) (cl : List (Str × Addr)) (C : Addr) (code : Value) (fp : List Addr) (A' : Around), Room k A' → DE T (gcx X s H scope cl C code fp A') e ρ O d O'
def TEg (X : Cx) (scope : Scope) (k : Nat) (e : Expr) : TE := fun σ H Q => ∀ (s : Shared) (H0 : Hp) (cl : List (Str × Addr)) (C : Addr) (code : Value) (fp : List Addr) (A' : Around), Room k A' → WE (gcx X s H0 scope cl C code fp A') e σ H Q
section
variable {T : List Addr} {X : Cx} {scope : Scope} {ρ : List Slot} {O O1 O2 : OH} {elt iter : Expr} {ds : List D} {x : Str} {px p pos gpos : Pos} {k : Nat} {c P : Addr}
theorem peg {e : Expr} (s : Shared) (H : Hp) (cl : List (Str × Addr)) (C : Addr) (code : Value) (fp : List Addr) (A' : Around) (hr : Room k A') : PE (gcx X s H scope cl C code fp A') e (TEg X scope k e) := ⟨fun pins s' σ H' Q I h => h s H cl C code fp A' hr pins s' I⟩
theorem all_turn {σ : L2.St} {B H : Hp} {i j : Nat} {f : D → Bool} {d : D} {v : V} {Q : VK} {Hj : Hp} (hE : Env X.K B σ ρ) (hd1 : ds[j]? = some d) (hv : ∀ B', Same B B' → Rp X.K B' v d)
    (he : DEg T X scope k elt (ρ.set i (.dat d)) O (.bl (f d)) O) (q : ∀ v B' H', Post T X.K B O H B' O H' → Rp X.K B' v (.bl (ds.all f)) → Q v H')
    (w : ∃ B', Post T X.K B O H B' O Hj ∧ (ds.take j).all f = true) :
    TEg X scope k elt ((wipe σ [i]).set i (some v)) Hj fun v H3 => ∃ b, v = .bl b ∧ if b = true then (∃ B', Post T X.K B O H B' O H3 ∧ (ds.take (j + 1)).all f = true) else Q (.bl false) H3 := by
  obtain ⟨B', po, ha⟩ := w
  have e2 : (wipe σ [i]).set i (some v) = σ.set i (some v) := by show (σ.set i none).set i (some v) = _; rw [List.set_set]
  rw [e2]
  intro s0 H0 cl C code fp A' hr
  have hE' : Env X.K B' (σ.set i (some v)) (ρ.set i (.dat d)) := (hE.mono po.bb).set (o := some v) (s := .dat d) (hv B' po.bb) i
  refine he s0 H0 cl C code fp A' hr _ B' Hj hE' po.at' _ fun w B2 H2 p2 r2 => ?_
  cases r2
  refine ⟨f d, rfl, ?_⟩
  cases hf : f d with
  | true =>
    rw [if_pos rfl]
    refine ⟨B2, po.trans p2, ?_⟩
    rw [List.take_add_one, hd1, List.all_append, ha]
    simp [hf]
  | false =>
    rw [if_neg (by decide)]
    have e : ds.all f = false := by
      rw [Bool.eq_false_iff]
      intro z
      rw [List.all_eq_true] at z
      rw [z d (List.mem_of_getElem? hd1)] at hf
      cases hf
    exact q _ B2 H2 (po.trans p2) (by rw [e]; exact .bl false)
theorem de_allL (i : Nat) {f : D → Bool} (hr : Room (k + 1) X.A) (hP : P ∈ T) (TB : TabB X.base X.mg c P) (hcode : X.env.code = .ref c) (hN : X.N.Nodup) (hm : X.mg "all" = none) (ok : BlkOk X.N X.env.scope scope [(x, i)]) (go : GOk scope x)
    (hi : DE T X iter ρ O (.lst ds) O1) (he : ∀ d ∈ ds, DEg T X scope k elt (ρ.set i (.dat d)) O1 (.bl (f d)) O1) (hg : Gl X "all" := by rfl) (hc : X.calm = true := by rfl) (hs : ∀ v, genFold iter X.env v = pure v := by intro _; rfl)
    (hst : starEach [.GeneratorExp elt [⟨.Name x px, iter, [], 0⟩] scope gpos] X.env = (false, eval (.GeneratorExp elt [⟨.Name x px, iter, [], 0⟩] scope gpos) X.env) :: starEach [] X.env := by rfl) :
    DE T X (.Call (.Name "all" p) [.GeneratorExp elt [⟨.Name x px, iter, [], 0⟩] scope gpos] [] pos) ρ O (.bl (ds.all f)) O1 :=
  de_of (pe_allG hc hr hN hg hm TB hcode ok go (pi_list pe_we) peg hs hst) fun σ B H hE hA Q q => hi σ B H hE hA _ fun v B1 H1 p1 r1 => by
    cases r1 with
    | lst hq r =>
      rename_i l xs
      refine ⟨l, rfl, ⟨xs, SqL.of (p1.at'.base _ _ hq)⟩, p1.at'.tabs P hP, fun H2 tb => ?_⟩
      have p2 := Post.tabbed p1.at' hP tb
      refine ⟨ds.length, fun j H' => ∃ B', Post T X.K B1 O1 H1 B' O1 H' ∧ (ds.take j).all f = true, ⟨B1, p2, rfl⟩, fun j H' w => ⟨fun e => ?_, fun hj => ?_⟩⟩
      · obtain ⟨B', po, ha⟩ := w
        subst e
        rw [List.take_length] at ha
        have hq' := SqL.of (K := X.K) (po.at'.base _ _ (po.bb _ _ hq))
        exact ⟨⟨xs, hq', by rw [r.length]; exact Nat.le_refl _⟩, q _ B' H' (p1.trans po) (by rw [ha]; exact .bl true)⟩
      · obtain ⟨B', po, ha⟩ := w
        have hq' := SqL.of (K := X.K) (po.at'.base _ _ (po.bb _ _ hq))
        have hjx : j < xs.length := by rw [r.length]; exact hj
        refine ⟨⟨xs, xs[j], hq', List.getElem?_eq_getElem hjx⟩, fun y H'' hy => ?_⟩
        obtain ⟨e, hy⟩ := hy
        subst e
        obtain ⟨d, hd1, hd2⟩ := r.getV (hy xs hq')
        exact all_turn (hE.mono p1.bb) hd1 (fun B' sb => hd2.mono sb) (he d (List.mem_of_getElem? hd1)) (fun v B' H' p2 r2 => q v B' H' (p1.trans p2) r2) ⟨B', po, ha⟩
theorem de_allT (i : Nat) {f : D → Bool} (hr : Room (k + 1) X.A) (hP : P ∈ T) (TB : TabB X.base X.mg c P) (hcode : X.env.code = .ref c) (hN : X.N.Nodup) (hm : X.mg "all" = none) (ok : BlkOk X.N X.env.scope scope [(x, i)]) (go : GOk scope x)
    (hi : DE T X iter ρ O (.tup ds) O1) (he : ∀ d ∈ ds, DEg T X scope k elt (ρ.set i (.dat d)) O1 (.bl (f d)) O1) (hg : Gl X "all" := by rfl) (hc : X.calm = true := by rfl) (hs : ∀ v, genFold iter X.env v = pure v := by intro _; rfl)
    (hst : starEach [.GeneratorExp elt [⟨.Name x px, iter, [], 0⟩] scope gpos] X.env = (false, eval (.GeneratorExp elt [⟨.Name x px, iter, [], 0⟩] scope gpos) X.env) :: starEach [] X.env := by rfl) :
    DE T X (.Call (.Name "all" p) [.GeneratorExp elt [⟨.Name x px, iter, [], 0⟩] scope gpos] [] pos) ρ O (.bl (ds.all f)) O1 :=
  de_of (pe_allG hc hr hN hg hm TB hcode ok go (pi_tup pe_we) peg hs hst) fun σ B H hE hA Q q => hi σ B H hE hA _ fun v B1 H1 p1 r1 => by
    cases r1 with
    | tup hq r =>
      rename_i l xs
      refine ⟨l, rfl, ⟨xs, same_t p1.at'.base hq⟩, p1.at'.tabs P hP, fun H2 tb => ?_⟩
      have p2 := Post.tabbed p1.at' hP tb
      refine ⟨ds.length, fun j H' => ∃ B', Post T X.K B1 O1 H1 B' O1 H' ∧ (ds.take j).all f = true, ⟨B1, p2, rfl⟩, fun j H' w => ⟨fun e => ?_, fun hj => ?_⟩⟩
      · obtain ⟨B', po, ha⟩ := w
        subst e
        rw [List.take_length] at ha
        have hq' := same_t (K := X.K) po.at'.base (same_t po.bb hq)
        exact ⟨⟨xs, hq', by rw [r.length]; exact Nat.le_refl _⟩, q _ B' H' (p1.trans po) (by rw [ha]; exact .bl true)⟩
      · obtain ⟨B', po, ha⟩ := w
        have hq' := same_t (K := X.K) po.at'.base (same_t po.bb hq)
        have hjx : j < xs.length := by rw [r.length]; exact hj
        refine ⟨⟨xs, xs[j], hq', List.getElem?_eq_getElem hjx⟩, fun y H'' hy => ?_⟩
        obtain ⟨e, hy⟩ := hy
        subst e
        obtain ⟨d, hd1, hd2⟩ := r.getV (hy xs hq')
        exact all_turn (hE.mono p1.bb) hd1 (fun B' sb => hd2.mono sb) (he d (List.mem_of_getElem? hd1)) (fun v B' H' p2 r2 => q v B' H' (p1.trans p2) r2) ⟨B', po, ha⟩
end
end Dz

namespace Dz
open PySem PySem.Spec PyProof.Rows L2 GxR

section
variable {T : List Addr} {K : PySem.W.Frag} {B B1 : Hp} {O O1 : OH} {H H1 : Hp} {a : Addr}
theorem At.forget (h : At T K B O H) (a : Addr) : At T K B (cut O a) H where
  base := h.base
  own := fun b o e => by
    have z : b ≠ a := fun z => by
      rw [z, cut_same] at e
      cases e
    rw [cut_ne z] at e
    exact h.own b o e
  nt := fun P hP => ⟨(h.nt P hP).1, by
    by_cases z : P = a
    · rw [z, cut_same]
    · rw [cut_ne z]
      exact (h.nt P hP).2⟩
  tabs := h.tabs
theorem Post.forget (p : Post T K B O H B1 O1 H1) (a : Addr) : Post T K B O H B1 (cut O1 a) H1 where
  at' := p.at'.forget a
  bb := p.bb
  new := p.new
  own := fun b hb => by
    have z : b ≠ a := fun z => hb (by rw [z, cut_same])
    rw [cut_ne z] at hb
    exact p.own b hb
  fr := p.fr
  dom := p.dom
end

/-- a promise: from the arguments and what is owned to the answers, and the reasons of the program's own error -/
abbrev PR := List Slot → OH → (Slot → OH → Prop) → (D → OH → Prop) → Prop
def spX (T : List Addr) (K : PySem.W.Frag) (CE : Addr) (P : PR) : Sp := fun vs H Q E => ∃ ss B O Rn Rx, P ss O Rn Rx ∧ Args K B vs ss ∧ At T K B O H ∧
  (∀ s O' v B' H', Rn s O' → Post T K B O H B' O' H' → SlotOk K B' (some v) s → Q v H') ∧
  ∀ r O' v dd B' H', Rx r O' → Post T K B O H B' O' H' → H' dd = some (.xd [(("reason" : Str), v)]) → Rp K B' v r → E (.ref CE) (some dd) H'
/-- an expression that may let the program's own error out -/
def DVX (T : List Addr) (X : Cx) (CE : Addr) (e : Expr) (ρ : List Slot) (O : OH) (R : Slot → OH → Prop) (Rx : D → OH → Prop) : Prop := ∀ (σ : L2.St) (B H : Hp), Env X.K B σ ρ → At T X.K B O H → ∀ (Q : VK) (W : WX), Takes X W →
  (∀ s O' v B' H', R s O' → Post T X.K B O H B' O' H' → SlotOk X.K B' (some v) s → Q v H') →
  (∀ r O' v dd σ' B' H', Rx r O' → Post T X.K B O H B' O' H' → H' dd = some (.xd [(("reason" : Str), v)]) → Rp X.K B' v r → W (.ref CE) (some dd) σ' H') → WE X e σ H Q
theorem passF {P : Program} {w : World} {X : Cx} : Passes (L2.CX P w) X (fun _ _ _ => False) := fun _ _ _ _ _ _ _ h => by
  obtain ⟨_, _, _, _, _, _, _, _, _, _, _, _, z⟩ := h
  exact z.elim
section
variable {T : List Addr} {X : Cx} {CE : Addr} {ρ : List Slot} {O O1 O2 O3 : OH} {e a b c : Expr} {es rest : List Expr} {pos pos' p0 : Pos} {d x y z : D} {s : Slot} {ss : List Slot} {ds : List D} {E : DEn} {R : Slot → OH → Prop} {Rx : D → OH → Prop} {P : PR}
theorem DV.dvx (h : DV T X e ρ O s O1) (hr : R s O1) : DVX T X CE e ρ O R Rx := fun σ B H hE hA Q W tk q _ => h σ B H hE hA Q fun v B' H' po r => q s O1 v B' H' hr po r
/-- a call, whatever comes of it -/
theorem dvx_call {k : Nat} {f : Addr} {fd : FuncData} {ps : List Str} {n : Str} {p : Pos} (F : FnOk X.prog X.w X.K X.mg X.base (L2.CX X.prog X.w) k f fd ps (spX T X.K CE P)) (hr : Room k X.A) (hm : X.mg n = some (.ref f)) (hk : PySem.W.keepIn X.K (.ref f) = true) (hb : Binds X.K fd ps [])
    (ha : DA T X (e :: es) ρ O ss O1) (h : P ss O1 R Rx) (hg : Gl X n := by rfl) (hdb : (n == ("__debug__" : Str)) = false := by decide) (hs : starEach (e :: es) X.env = (false, eval e X.env) :: starEach es X.env := by rfl) (hpl : (backTo pos (starEach es X.env)).any (·.1) = false := by rfl) :
    DVX T X CE (.Call (.Name n p) (e :: es) [] pos) ρ O R Rx := fun σ B H hE hA Q W tk q qx =>
  we_of (pe_call (E := fun cls d H' => ∀ σ', W cls d σ' H') F hr hg hm hk hb .nil (passes_call tk fun cls d σ H h => h σ) pa_wa hdb hs hpl) (ha σ B H hE hA _ fun vs B1 H1 p1 r1 => by
    show spX T X.K CE P (vs ++ []) H1 Q _
    rw [List.append_nil]
    exact ⟨ss, B1, O1, R, Rx, h, r1, p1.at', fun s O' v B2 H2 h2 p2 r2 => q s O' v B2 H2 h2 (p1.trans p2) r2, fun r O' v dd B2 H2 h2 p2 e1 r2 σ' => qx r O' v dd σ' B2 H2 h2 (p1.trans p2) e1 r2⟩)
/-- a call that lets no error out, one answer -/
theorem dv_callX {k : Nat} {f : Addr} {fd : FuncData} {ps : List Str} {n : Str} {p : Pos} (F : FnOk X.prog X.w X.K X.mg X.base (L2.CX X.prog X.w) k f fd ps (spX T X.K CE P)) (hr : Room k X.A) (hm : X.mg n = some (.ref f)) (hk : PySem.W.keepIn X.K (.ref f) = true) (hb : Binds X.K fd ps [])
    (ha : DA T X (e :: es) ρ O ss O1) (h : P ss O1 (fun s' O' => s' = s ∧ O' = O2) (fun _ _ => False)) (hg : Gl X n := by rfl) (hdb : (n == ("__debug__" : Str)) = false := by decide) (hs : starEach (e :: es) X.env = (false, eval e X.env) :: starEach es X.env := by rfl) (hpl : (backTo pos (starEach es X.env)).any (·.1) = false := by rfl) :
    DV T X (.Call (.Name n p) (e :: es) [] pos) ρ O s O2 := .mk fun σ B H hE hA Q q =>
  we_of (pe_call (E := fun _ _ _ => False) F hr hg hm hk hb .nil passF pa_wa hdb hs hpl) (ha σ B H hE hA _ fun vs B1 H1 p1 r1 => by
    show spX T X.K CE P (vs ++ []) H1 Q _
    rw [List.append_nil]
    refine ⟨ss, B1, O1, _, _, h, r1, p1.at', fun s' O' v B2 H2 h2 p2 r2 => ?_, fun r O' v dd B2 H2 h2 _ _ _ => h2.elim⟩
    obtain ⟨h3, h4⟩ := h2
    subst h3 h4
    exact q v B2 H2 (p1.trans p2) r2)
/-- .. many answers -/
theorem dvn_call {k : Nat} {f : Addr} {fd : FuncData} {ps : List Str} {n : Str} {p : Pos} (F : FnOk X.prog X.w X.K X.mg X.base (L2.CX X.prog X.w) k f fd ps (spX T X.K CE P)) (hr : Room k X.A) (hm : X.mg n = some (.ref f)) (hk : PySem.W.keepIn X.K (.ref f) = true) (hb : Binds X.K fd ps [])
    (ha : DA T X (e :: es) ρ O ss O1) (h : P ss O1 R (fun _ _ => False)) (hg : Gl X n := by rfl) (hdb : (n == ("__debug__" : Str)) = false := by decide) (hs : starEach (e :: es) X.env = (false, eval e X.env) :: starEach es X.env := by rfl) (hpl : (backTo pos (starEach es X.env)).any (·.1) = false := by rfl) :
    DVX T X CE (.Call (.Name n p) (e :: es) [] pos) ρ O R Rx := fun σ B H hE hA Q W tk q _ =>
  we_of (pe_call (E := fun _ _ _ => False) F hr hg hm hk hb .nil passF pa_wa hdb hs hpl) (ha σ B H hE hA _ fun vs B1 H1 p1 r1 => by
    show spX T X.K CE P (vs ++ []) H1 Q _
    rw [List.append_nil]
    exact ⟨ss, B1, O1, _, _, h, r1, p1.at', fun s' O' v B2 H2 h2 p2 r2 => q s' O' v B2 H2 h2 (p1.trans p2) r2, fun r O' v dd B2 H2 h2 _ _ _ => h2.elim⟩)
/-- C(..), the object owned -/
theorem dvx_make {k : Nat} {f C : Addr} {fd : FuncData} {ps : List Str} {n : Str} {p : Pos} (M : Mk X.K C f) (F : FnOk X.prog X.w X.K X.mg X.base (L2.CX X.prog X.w) k f fd ps (spX T X.K CE P)) (hr : Room (k + 1) X.A) (hm : X.mg n = some (.ref C)) (hb : Binds X.K fd ps [])
    (ha : DA T X (e :: es) ρ O ss O1) (h : ∀ x, O1 x = none → ∃ Rn Rx', P (.val (.ref x) :: ss) (put O1 x (.ins C [])) Rn Rx' ∧ (∀ s O', Rn s O' → s = .dat .non ∧ R (.val (.ref x)) O') ∧ ∀ r O', Rx' r O' → Rx r (cut O' x))
    (hg : Gl X n := by rfl) (hdb : (n == ("__debug__" : Str)) = false := by decide) (hs : starEach (e :: es) X.env = (false, eval e X.env) :: starEach es X.env := by rfl) (hpl : (backTo pos (starEach es X.env)).any (·.1) = false := by rfl) :
    DVX T X CE (.Call (.Name n p) (e :: es) [] pos) ρ O R Rx := fun σ B H hE hA Q W tk q qx =>
  we_of (pe_make (E := fun cls d H' => ∀ σ', W cls d σ' H') M F hr hg hm hb .nil (passes_call tk fun cls d σ H h => h σ) pa_wa hdb hs hpl) (ha σ B H hE hA _ fun vs B1 H1 p1 r1 x dx nx ndx ne => by
    rw [List.append_nil]
    obtain ⟨Rn, Rx', h1, h2, h3⟩ := h x (p1.at'.noO nx)
    have q1 := Post.laid (o := .own x) p1.at' ndx
    have nx' : upd H1 dx (.own x) x = none := by rw [upd_ne (Ne.symm ne)]; exact nx
    have q2 := Post.madeO (o := .ins C dx []) (od := .ins C []) q1.at' nx' ⟨rfl, .nil⟩
    have q3 := (p1.trans q1).trans q2
    refine ⟨.val (.ref x) :: ss, B1, _, Rn, Rx', h1, .cons (show SlotOk X.K B1 (some (.ref x)) (.val (.ref x)) from rfl) r1, q2.at', fun s O' v B2 H2 k1 p2 r2 => ?_, fun r O' v dd B2 H2 k1 p2 e1 r2 σ' => ?_⟩
    · obtain ⟨e1, e2⟩ := h2 s O' k1
      subst e1
      cases (show Rp X.K B2 v .non from r2)
      exact ⟨rfl, q _ O' _ B2 H2 e2 (q3.trans p2) rfl⟩
    · exact qx r _ v dd σ' B2 H2 (h3 r O' k1) ((q3.trans p2).forget x) e1 r2)
/-- the made object, frozen -/
theorem dvx_makeF {k : Nat} {f C : Addr} {fd : FuncData} {ps : List Str} {n : Str} {p : Pos} (M : Mk X.K C f) (F : FnOk X.prog X.w X.K X.mg X.base (L2.CX X.prog X.w) k f fd ps (spX T X.K CE P)) (hr : Room (k + 1) X.A) (hm : X.mg n = some (.ref C)) (hb : Binds X.K fd ps [])
    (ha : DA T X (e :: es) ρ O ss O1) (h : ∀ x, O1 x = none → ∃ Rn Rx', P (.val (.ref x) :: ss) (put O1 x (.ins C [])) Rn Rx' ∧ (∀ s O', Rn s O' → s = .dat .non ∧ ∃ fs : List (Str × D), O' x = some (.ins C (fs.map fun p => (p.1, .dat p.2))) ∧ R (.dat (.ins C fs)) (cut O' x)) ∧ ∀ r O', Rx' r O' → Rx r (cut O' x))
    (hg : Gl X n := by rfl) (hdb : (n == ("__debug__" : Str)) = false := by decide) (hs : starEach (e :: es) X.env = (false, eval e X.env) :: starEach es X.env := by rfl) (hpl : (backTo pos (starEach es X.env)).any (·.1) = false := by rfl) :
    DVX T X CE (.Call (.Name n p) (e :: es) [] pos) ρ O R Rx := fun σ B H hE hA Q W tk q qx =>
  dvx_make (R := fun s O' => ∃ x fs, s = .val (.ref x) ∧ O' x = some (.ins C (List.map (fun p : Str × D => (p.1, Slot.dat p.2)) fs)) ∧ R (.dat (.ins C fs)) (cut O' x)) M F hr hm hb ha (fun x hx => by
    obtain ⟨Rn, Rx', h1, h2, h3⟩ := h x hx
    refine ⟨Rn, Rx', h1, fun s O' k1 => ?_, h3⟩
    obtain ⟨e1, fs, e2, e3⟩ := h2 s O' k1
    exact ⟨e1, x, fs, rfl, e2, e3⟩) hg hdb hs hpl σ B H hE hA Q W tk (fun s O' v B' H' h1 po r => by
      obtain ⟨x, fs, e1, e2, e3⟩ := h1
      subst e1
      have ev : v = .ref x := r
      subst ev
      obtain ⟨_, u, hu, ok⟩ := po.at'.own x _ e2
      cases u <;> try exact ok.elim
      rename_i C' dx vs
      obtain ⟨eC, ok⟩ := ok
      subst eC
      have pf := Post.freeze po.at' e2 hu
      exact q _ _ _ _ _ e3 (po.trans pf) (show Rp X.K _ (.ref x) (.ins C' fs) from .ins upd_same ((FsOk.all ok).mono pf.bb))) qx

/-! ### statements -/
theorem d1_setX (i : Nat) {n : Str} (he : DVX T X CE e ρ O R E.ex) (h : ∀ s O', R s O' → E.nx (ρ.set i s) O') (hN : X.N.Nodup) (hi : X.N[i]? = some n := by rfl) (hx : Loc X.env.scope n := by first | exact Or.inl rfl | exact Or.inr rfl) (hs : swapsWith e (some (.Name n pos')) pos.line X.env = pure false := by rfl)
    (hf : X.fn n = true ∨ X.env.scope.names.lookup n = some .local := by first | exact .inl rfl | exact .inr rfl) : D1 T X CE (.Assign [.Name n pos'] e pos) ρ O E :=
  .mk fun σ B H hE hA Dn W tk l => ws_of (ps_set hN hi hx pe_we hs hf) (he σ B H hE hA _ W tk (fun s O' v B1 H1 h1 p1 r1 => l.nx _ _ _ B1 H1 (h s O' h1) p1 ((hE.mono p1.bb).set r1 i)) fun r O' v dd σ' B1 H1 h1 p1 e1 r1 => l.ex r O' v dd σ' B1 H1 h1 p1 e1 r1)
theorem d1_retX (he : DVX T X CE e ρ O R E.ex) (h : ∀ s O', R s O' → E.rt s O') : D1 T X CE (.Return (some e) pos) ρ O E :=
  .mk fun σ B H hE hA Dn W tk l => ws_of (ps_ret pe_we) (he σ B H hE hA _ W tk (fun s O' v B1 H1 h1 p1 r1 => l.rt _ _ v B1 H1 (h s O' h1) p1 r1) fun r O' v dd σ' B1 H1 h1 p1 e1 r1 => l.ex r O' v dd σ' B1 H1 h1 p1 e1 r1)
theorem d1_exprX (he : DVX T X CE e ρ O R E.ex) (h : ∀ s O', R s O' → E.nx ρ O') (hs : swapsWith e none pos.line X.env = pure false := by rfl) : D1 T X CE (.Expr e pos) ρ O E :=
  .mk fun σ B H hE hA Dn W tk l => ws_of (ps_expr pe_we hs) (he σ B H hE hA _ W tk (fun s O' v B1 H1 h1 p1 r1 => l.nx _ _ _ B1 H1 (h s O' h1) p1 (hE.mono p1.bb)) fun r O' v dd σ' B1 H1 h1 p1 e1 r1 => l.ex r O' v dd σ' B1 H1 h1 p1 e1 r1)
/-- o.f = e, o an owned object -/
theorem d1_fst (i : Nat) {n f : Str} {a C : Addr} {npos apos : Pos} {fs : List (Str × Slot)} (cl : Cls X.K C) (na : NoAttr X.K C f) (hi : ρ[i]? = some (.val (.ref a))) (he : DV T X e ρ O s O1) (ho : O1 a = some (.ins C fs)) (h : E.nx ρ (put O1 a (.ins C (putS f s fs)))) (hl : fs.length < 1000 := by decide)
    (pn : PE X (.Name n npos) (tVar i) := by exact pv _) (hs : swapsWith e (some (.Attribute (.Name n npos) f apos)) pos.line X.env = pure false := by rfl) : D1 T X CE (.Assign [.Attribute (.Name n npos) f apos] e pos) ρ O E := .mk fun σ B H hE hA Dn W tk l => by
  refine ws_of (ps_fld pn pe_we hs) ?_
  refine he σ B H hE hA _ fun w B1 H1 p1 r1 => ?_
  obtain ⟨o, e1, e2⟩ := (hE.mono p1.bb).get hi
  cases o with
  | none => exact e2.elim
  | some v =>
    have ev : v = .ref a := e2
    subst ev
    refine ⟨_, e1, ?_⟩
    obtain ⟨_, u, hu, ok⟩ := p1.at'.own a _ ho
    cases u <;> try exact ok.elim
    rename_i C' dx vs
    obtain ⟨eC, ok⟩ := ok
    subst eC
    have po := Post.put (u := .ins C' dx (putF f w vs)) (od := .ins C' (putS f s fs)) p1.at' ho ⟨rfl, FsOk.put r1 ok⟩
    exact ⟨a, C', dx, vs, rfl, hu, cl, na, by rw [FsOk.length ok]; exact hl, l.nx _ _ _ B1 _ h (p1.trans po) (hE.mono p1.bb)⟩
/-- o.f, o an owned object -/
theorem dv_fldO {f : Str} {a C : Addr} {fs : List (Str × Slot)} (cl : Cls X.K C) (na : NoAttr X.K C f) (ha : DV T X e ρ O (.val (.ref a)) O1) (ho : O1 a = some (.ins C fs)) (h : fs.lookup f = some s) (hb : attributeBase e f X.env (eval e X.env) = eval e X.env := by rfl) : DV T X (.Attribute e f pos) ρ O s O1 := .mk fun σ B H hE hA Q q =>
  we_of (pe_fld pe_we hb) (ha σ B H hE hA _ fun v B1 H1 p1 r1 => by
    have ev : v = .ref a := r1
    subst ev
    obtain ⟨_, u, hu, ok⟩ := p1.at'.own a _ ho
    cases u <;> try exact ok.elim
    rename_i C' dx vs
    obtain ⟨eC, ok⟩ := ok
    subst eC
    obtain ⟨w, h1, h2⟩ := FsOk.get ok h
    exact ⟨a, C', dx, vs, w, rfl, hu, cl, na, h1, q w B1 H1 p1 h2⟩)
/-- the error's __init__ -/
def spI (C : Addr) : Sp := fun vs H Q _ => ∃ a v, vs = [.ref a, v] ∧ H a = some (exo a C none) ∧ ∀ dx, H dx = none → dx ≠ a → Q .non (upd (upd H dx (exd dx [(("reason" : Str), v)])) a (exo a C (some dx)))
/-- raise E(e) -/
theorem d1_raise {CX : CXT} {k : Nat} {fI : Addr} {fd : FuncData} {ps : List Str} {n : Str} {p : Pos} (Te : OexC X.K CE) (iC : PySem.W.findIn X.K (.ref CE) "__init__" = some (some (.ref fI))) (tI : PySem.W.typeIn X.K (.ref fI) = some (.type "function"))
    (F1 : FnOk X.prog X.w X.K X.mg X.base CX k fI fd ps (spI CE)) (hr : Room (k + 1) X.A) (hb : Binds X.K fd ps []) (hx : Passes CX X (fun _ _ _ => False)) (hm : X.mg n = some (.ref CE)) (ha : DE T X e ρ O d O1) (h : E.ex d O1)
    (hc : X.calm = true := by rfl) (hg : Gl X n := by rfl) (hdb : (n == ("__debug__" : Str)) = false := by decide) (hs : starEach [e] X.env = (false, eval e X.env) :: starEach [] X.env := by rfl) : D1 T X CE (.Raise (some (.Call (.Name n p) [e] [] p0)) none pos) ρ O E := .mk fun σ B H hE hA Dn W tk l => by
  refine ws_of (ps_raise hc tk (pmk_oex Te iC tI F1 hr hb .nil hx hg hm (pa_cons pe_we pa_nil hs) hdb hs)) ?_
  refine ha σ B H hE hA _ fun v B1 H1 p1 r1 => ⟨by show 1 ≤ 1000; decide, fun a na => ?_⟩
  refine ⟨a, v, rfl, upd_same, fun dx ndx ne => ⟨rfl, dx, [(("reason" : Str), v)], upd_same, ?_, ?_, ?_⟩⟩
  · rw [upd_ne ne, upd_same]
  · rw [upd_ne ne] at ndx
    exact ndx
  · have n1 : H1 dx = none := by
      rw [upd_ne ne] at ndx
      exact ndx
    have eH : upd (del (upd (upd (upd H1 a (exo a CE none)) dx (exd dx [(("reason" : Str), v)])) a (exo a CE (some dx))) a) dx (.xd [(("reason" : Str), v)]) = upd H1 dx (.xd [(("reason" : Str), v)]) := by
      funext b
      by_cases h1 : b = dx
      · rw [h1, upd_same, upd_same]
      · rw [upd_ne h1, upd_ne h1]
        by_cases h2 : b = a
        · rw [h2, del_same, na]
        · rw [del_ne h2, upd_ne h2, upd_ne h1, upd_ne h2]
    rw [eH]
    exact l.ex d O1 v dx σ B1 _ h (p1.trans (Post.laid p1.at' n1)) upd_same r1
theorem takes_len {X : Cx} {W : WX} (tk : Takes X W) : Takes X (fun c d σ H => σ.length = X.N.length → W c d σ H) := fun u s' ⟨a, B, sI, pins, σ, H, cls, d, e, I, nb, up, sky, na, os, ag, w⟩ =>
  tk u s' ⟨a, B, sI, pins, σ, H, cls, d, e, I, nb, up, sky, na, os, ag, w I.len⟩
/-- try: .. except E as n: return n.reason -/
theorem d1_try (i : Nat) {n x : Str} {np p1 p2 p3 : Pos} {body : List Stmt} (Xf : XfC X.K CE) (hno : PySem.W.findIn X.K (.ref CE) "reason" = some none) (hself : PySem.W.exmOne X.K (.ref CE) (.ref CE) = some true) (hm : X.mg x = some (.ref CE)) (hN : X.N.Nodup)
    (hb : ∀ (pn : List (Addr × Obj)) (xe : Value → Shared → Prop), PassesOwn (model X.prog X.w) X.A X.env xe → DS T (X.tr pn xe) CE body ρ O { E with ex := fun r O' => E.rt (.dat r) O' })
    (hs : X.stack = X.env :: X.outer := by rfl) (hf : X.env.frame = some X.env.locals := by rfl) (hi : X.N[i]? = some n := by rfl) (hln : X.env.kindOf n = some .local := by rfl) (hg : Gl X x := by rfl) (hdb : (x == ("__debug__" : Str)) = false := by decide)
    (hvis : Vis X.env.scope n := by first | exact Or.inl rfl | exact Or.inr (Or.inl rfl) | exact Or.inr (Or.inr rfl)) (hd : (n == ("__debug__" : Str)) = false := by decide) (hcd : (n == ("__classdict__" : Str)) = false := by decide)
    (hba : attributeBase (.Name n p1) "reason" X.env (eval (.Name n p1) X.env) = eval (.Name n p1) X.env := by rfl) :
    D1 T X CE (.Try body [.ExceptHandler (some (.Name x np)) (some n) [.Return (some (.Attribute (.Name n p1) "reason" p2)) p3] pos'] [] [] pos) ρ O E := .mk fun σ B H hE hA Dn W tk l => by
  refine ws_of (ps_try_as (i := i) hs hf hN hi hln ⟨hg, hdb, .inl hm⟩ tk (fun W' pn xe tk' pa => (⟨fun pins s σ2 H2 D2 I q => q pn xe tk' pa pins s I⟩ : PSs (X.tr pn xe) body (fun D2 σ2 H2 => ∀ pn xe, Takes (X.tr pn xe) W' → PassesOwn (model X.prog X.w) X.A X.env xe → WSs (X.tr pn xe) body D2 σ2 H2)))
    (fun a oe cls d pn hz hfl => pss_one (ps_ret (pe_xf Xf hno hz hfl (pe_var (i := i) hi hvis hd hcd) hba)))) ?_
  refine fun pn xe tk' pa => hb pn xe pa σ B H hE hA Dn _ (takes_len tk') ⟨l.nx, l.rt, l.bk, l.ct, fun r O' v dd σ' B' H' h1 po e1 r1 hlen => ?_⟩
  have hlen' : σ'.length = X.N.length := hlen
  have hilt : i < σ'.length := by rw [hlen']; exact (List.getElem?_eq_some_iff.mp hi).1
  refine ⟨true, hself, fun _ a na => ?_, fun z => by cases z⟩
  have q := l.rt (.dat r) O' v B' H' h1 po r1
  refine ⟨.ref a, ?_, rfl, rfl, dd, _, v, rfl, e1, by simp [List.lookup], q⟩
  rw [List.getElem?_set_self hilt]
end
end Dz


namespace DzS
open PySem PySem.Spec PyProof.Rows PySem.W PySem.Calls
section
variable {prog : Program} {w : World} {A : Around} {E : Value → Shared → Prop} {s : Shared} {env : Env} {elts : List Expr} {k : Nat} {pos : Pos}
theorem star_items {l : Addr} {items : Array Value} {n i : Nat} {Q : List Value → Shared → Prop} (hl : IsTup s.heap l items) (hh : A.handled = none) (hi : i < n) (hn : n ≤ items.size + 1) (hz : items.size ≤ 16384)
    (h : ∀ (h₂ : Heap) (tk : Nat), (∀ b o, s.heap.get? b = some o → h₂.get? b = some o) →
      Q (items.toList.take i ++ [.ref h₂.objs.size] ++ (items.toList.drop i).drop (items.size + 1 - n)) { s with heap := h₂.push { cls := .type "list", data := .seq ((items.toList.drop i).take (items.size + 1 - n)).toArray }, toks := tk }) : wpAny (model prog w) A (unpackItems (.ref l) n (some i)) Q E s := by
  have zLt : l ≠ s.heap.objs.size := by obtain ⟨o, ho, _⟩ := hl; exact Nat.ne_of_lt (Heap.lt_size ho)
  have zLl : l < s.heap.objs.size := by obtain ⟨o, ho, _⟩ := hl; exact Heap.lt_size ho
  unfold unpackItems
  refine wpAny_bind ?_
  unfold notIterableAtAll
  refine wpAny_bind (wpAny_specialOf hl.typeIs slot_tuple_iter.lookup ?_)
  refine wpAny_pure ?_
  simp only [Bool.false_eq_true, if_false]
  refine wpAny_bind (wpAny_holding (iter_tuple hl ?_))
  refine wpAny_bind (wpAny_holding (draw_tuple zLt i 0 _ _ ⟨_, Heap.get?_push_size _ rfl, rfl, rfl⟩ (hl.push _) (by omega) fun h₁ vI1 vS1 => ?_))
  have vL1 : IsTup h₁ l items := (hl.push _).extBut vS1.extBut zLt
  rw [Nat.zero_add] at vI1
  have vI2 := vI1
  obtain ⟨w1, vOi, _⟩ := vI2
  have vL2 := vL1
  obtain ⟨w2, vOl, _⟩ := vL2
  rw [List.drop_zero]
  have vFl : (items.toList.take i).length = i := by rw [List.length_take, Array.length_toList]; omega
  rw [if_neg (show ¬ ((items.toList.take i).length < i) by rw [vFl]; omega)]
  refine wpAny_bind (wpAny_holding (kun_collect (s := { s with heap := h₁ }) (T := "tuple_iterator") (.inr (.inr (.inr rfl))) (Walks.tuple (A := A.in1) hh s.heap.objs.size l zLt items) (fun j u st => st.1.typeIs) (k := i) (by omega) ⟨vI1, vL1⟩ (Heap.lt_size vOi) (Heap.lt_size vOl) (fun h₂ tk vK => ?_) (by rw [sizeLine_eq]; omega)))
  have vRl : (items.toList.drop i).length = items.size - i := by rw [List.length_drop, Array.length_toList]
  have vMd : (items.toList.drop i).length - (n - 1 - i) = items.size + 1 - n := by rw [vRl]; omega
  show wpAny _ _ (if (items.toList.drop i).length < n - 1 - i then _ else _) _ _ _
  rw [if_neg (by rw [vRl]; omega)]
  show wpAny _ _ (newList ((items.toList.drop i).take ((items.toList.drop i).length - (n - 1 - i))) >>= fun d => pure (items.toList.take i ++ [d] ++ (items.toList.drop i).drop ((items.toList.drop i).length - (n - 1 - i)))) _ _ _
  rw [vMd]
  have kp : ∀ b o, s.heap.get? b = some o → h₂.get? b = some o := fun b o e => by
    have hb : b ≠ s.heap.objs.size := Nat.ne_of_lt (Heap.lt_size e)
    exact vK b o hb ((vS1.2 b hb).trans (Heap.get?_push_of_some _ e))
  exact wpAny_bind (wpAny_newList (wpAny_pure (h _ tk kp)) (by rw [List.length_take, vRl, sizeLine_eq]; omega))
end
end DzS
namespace Dz
open PySem PySem.Spec PyProof.Rows L2 GxR
/-- (a, *b) = a tuple: the list behind -/
def gStar (K : PySem.W.Frag) (n i : Nat) (t : TGs) : TG := fun v σ H Q => ∃ a xs, v = .ref a ∧ SqT K H a xs ∧ n ≤ xs.length + 1 ∧ xs.length ≤ 10000 ∧ ∀ D, H D = none → t (xs.take i ++ [.ref D] ++ (xs.drop i).drop (xs.length + 1 - n)) σ (upd H D (.lst ((xs.drop i).take (xs.length + 1 - n)))) Q
theorem pg_star {X : Cx} {es : List Expr} {k : Nat} {t : TGs} {n i : Nat} {pos : Pos} (hc : X.calm = true) (h : PGs X es t) (hi : i < n)
    (hn : (assignEach es X.env).length = n := by rfl) (hst : (assignEach es X.env).findIdx? (·.1) = some i := by rfl) : PG X (.Tuple es k pos) (gStar X.K n i t) := by
  refine ⟨fun pins s σ H v u Q I r hw => ?_⟩
  obtain ⟨a, xs, e1, hq, hl, hz0, hw⟩ := hw
  subst e1
  cases r
  obtain ⟨its, rv, ht, hz⟩ := I.tuple hq
  have el : its.length = xs.length := rv.length.symm
  rw [assign_Tuple]
  refine wpAny_bind (wpAny_standAt ?_)
  unfold unpack
  rw [hn, hst]
  refine wpAny_bind (wpAny_holding (DzS.star_items (items := its.toArray) ht (I.ok.hd hc) hi (by rw [List.size_toArray, el]; exact hl) (by rw [List.size_toArray, el]; omega) fun h₂ tk kp => ?_))
  have I1 : Inv X pins σ H { s with heap := h₂, toks := tk } := I.kept (t' := tk) kp
  have e9 : its.toArray.size = xs.length := by rw [List.size_toArray, el]
  rw [e9]
  have I2 : Inv X pins σ (upd H h₂.objs.size (.lst ((xs.drop i).take (xs.length + 1 - n)))) { s with heap := h₂.push { cls := .type "list", data := .seq ((its.drop i).take (xs.length + 1 - n)).toArray }, toks := tk } :=
    I1.laid (t' := tk) (fun b o e => Heap.get?_push_of_some _ e) (Nat.le_refl _) (show ObjOk X.prog X.w _ _ _ (.lst _) from ⟨by rw [List.length_take, List.length_drop, sizeLine_eq]; omega, _, 0, (rv.drop i).take _, Heap.get?_push_size _ rfl⟩)
  exact h.run pins _ σ _ _ _ Q I2 (((rv.take i).append (.cons (show L2.RelV (V.ref h₂.objs.size) (Value.ref h₂.objs.size) from rfl) .nil)).append ((rv.drop i).drop _)) (hw _ (I1.hok.fresh (Nat.le_refl _)))

section
variable {T : List Addr} {X : Cx} {CE : Addr} {ρ : List Slot} {O O1 O2 O3 O4 : OH} {e a b c : Expr} {es rest : List Expr} {pos pos' p0 : Pos} {d x y z : D} {s : Slot} {ss : List Slot} {ds ds' : List D} {E : DEn} {R : Slot → OH → Prop} {body : List Stmt}
theorem DE.cast {d' : D} (h : DE T X e ρ O d O1) (q : d = d') : DE T X e ρ O d' O1 := q ▸ h
theorem DT.cast {p q : Bool} (h : DT T X e ρ O p O1) (k : p = q) : DT T X e ρ O q O1 := k ▸ h
/-- a, *b = e : two names -/
theorem d1_star2 {n1 n2 : Str} {q1 q2 q3 tp : Pos} {k i j : Nat} (he : DE T X e ρ O (.tup (d :: ds)) O1) (hl : ds.length < 9999) (h : E.nx ((ρ.set i (.dat d)).set j (.dat (.lst ds))) O1) (hN : X.N.Nodup) (hc : X.calm = true := by rfl) (hi : X.N[i]? = some n1 := by rfl) (hj : X.N[j]? = some n2 := by rfl)
    (hx : Loc X.env.scope n1 := by first | exact Or.inl rfl | exact Or.inr rfl) (hy : Loc X.env.scope n2 := by first | exact Or.inl rfl | exact Or.inr rfl) (hf : X.fn n1 = true ∨ X.env.scope.names.lookup n1 = some .local := by first | exact .inl rfl | exact .inr rfl) (hg : X.fn n2 = true ∨ X.env.scope.names.lookup n2 = some .local := by first | exact .inl rfl | exact .inr rfl)
    (g1 : (assignEach [.Name n1 q1, .Starred (.Name n2 q2) q3] X.env).length = 2 := by rfl) (g2 : (assignEach [.Name n1 q1, .Starred (.Name n2 q2) q3] X.env).findIdx? (·.1) = some 1 := by rfl)
    (g3 : (assignEach [.Name n1 q1, .Starred (.Name n2 q2) q3] X.env).map (·.2) = assign (.Name n1 q1) X.env :: (assignEach [.Name n2 q2] X.env).map (·.2) := by rfl) (g4 : (assignEach [.Name n2 q2] X.env).map (·.2) = assign (.Name n2 q2) X.env :: (assignEach [] X.env).map (·.2) := by rfl)
    (h1 : swapsWithSole [.Tuple [.Name n1 q1, .Starred (.Name n2 q2) q3] k tp] e pos.line X.env = pure false := by rfl) (h2 : swappedStores [.Tuple [.Name n1 q1, .Starred (.Name n2 q2) q3] k tp] e X.env = pure none := by rfl) (h3 : (assignEach [.Tuple [.Name n1 q1, .Starred (.Name n2 q2) q3] k tp] X.env).map (·.2) = [assign (.Tuple [.Name n1 q1, .Starred (.Name n2 q2) q3] k tp) X.env] := by rfl) :
    D1 T X CE (.Assign [.Tuple [.Name n1 q1, .Starred (.Name n2 q2) q3] k tp] e pos) ρ O E := .mk fun σ B H hE hA Dn W tk l => by
  have pgs : PGs X [.Name n1 q1, .Starred (.Name n2 q2) q3] (gCons (gName i) (gCons (gName j) gNil)) := by
    refine ⟨fun pins s σ H vs us Q I r h => ?_⟩
    obtain ⟨v, vr, e1, h⟩ := h
    subst e1
    cases r with
    | cons r rr =>
      rw [g3]
      refine assignInOrder_cons (thn ((pg_name hN hi hx hf).run pins s σ H _ _ _ I r h) fun _ s1 ⟨σ1, H1, I1, q1⟩ => ?_)
      exact (pgs_cons (pg_name hN hj hy hg) pgs_nil g4).run pins s1 σ1 H1 _ _ Q I1 rr q1
  refine ws_of (ps_asg pe_we (pg_star hc pgs (by decide) g1 g2) h1 h2 h3) ?_
  refine he σ B H hE hA _ fun w B1 H1 p1 r1 => ?_
  cases r1 with
  | tup hq r =>
    rename_i ad xs
    cases r with
    | cons r0 rr =>
      rename_i v vs
      have el : vs.length = ds.length := rr.length
      have eS : (v :: vs).length + 1 - 2 = vs.length := by rw [List.length_cons]; omega
      refine ⟨ad, v :: vs, rfl, same_t p1.at'.base hq, by rw [List.length_cons]; omega, by rw [List.length_cons]; omega, fun D hD => ?_⟩
      rw [eS]
      have e1 : ((v :: vs).drop 1).take vs.length = vs := by simp
      have e2 : (v :: vs).take 1 ++ [V.ref D] ++ ((v :: vs).drop 1).drop vs.length = [v, V.ref D] := by simp
      rw [e1, e2]
      have po := Post.made (o := .lst vs) p1.at' hD
      refine ⟨v, [V.ref D], rfl, V.ref D, [], rfl, rfl, ?_⟩
      refine l.nx _ _ _ _ _ h (p1.trans po) (((hE.mono (p1.trans po).bb).set (o := some v) (s := .dat d) (show SlotOk X.K _ (some v) (.dat d) from r0.mono po.bb) i).set (o := some (.ref D)) (s := .dat (.lst ds)) ?_ j)
      exact (show Rp X.K _ (.ref D) (.lst ds) from .lst upd_same (rr.mono po.bb))

/-! ### what stands in the written part -/
def all2 {α β : Type} (f : α → β → Bool) : List α → List β → Bool
  | [], [] => true
  | a :: as, b :: bs => f a b && all2 f as bs
  | _, _ => false
/-- the value is this data: constants and tuples -/
def kdB (K : PySem.W.Frag) : Nat → Value → D → Bool
  | _, .none, .non => true
  | _, .bool b, .bl c => b == c
  | _, .int i _, .int j => i == j
  | _, .str x _, .str y => x == y
  | n + 1, .ref a, .tup ds => match K.lookup a with
    | some ⟨.type t, _, .seq its _, _⟩ => decide (t = "tuple") && (decide (its.size ≤ 10000) && all2 (kdB K n) its.toList ds)
    | _ => false
  | _, _, _ => false
theorem all2_rp {K : PySem.W.Frag} {f : Value → D → Bool} (h : ∀ v d, f v d = true → ∃ x, RelV x v ∧ ∀ B : Hp, Rp K B x d) : ∀ (vs : List Value) (ds : List D), all2 f vs ds = true → ∃ xs, Vals xs vs ∧ ∀ B : Hp, RpAll K B xs ds
  | [], [], _ => ⟨[], .nil, fun _ => .nil⟩
  | v :: vs, d :: ds, q => by
    rw [all2, Bool.and_eq_true] at q
    obtain ⟨x, r, g⟩ := h v d q.1
    obtain ⟨xs, rs, gs⟩ := all2_rp h vs ds q.2
    exact ⟨x :: xs, .cons r rs, fun B => .cons (g B) (gs B)⟩
  | [], _ :: _, q => by simp [all2] at q
  | _ :: _, [], q => by simp [all2] at q
theorem kdB_ok {K : PySem.W.Frag} : ∀ (n : Nat) (v : Value) (d : D), kdB K n v d = true → ∃ x, RelV x v ∧ ∀ B : Hp, Rp K B x d := by
  intro n
  induction n with
  | zero =>
    intro v d h
    unfold kdB at h
    split at h <;> first | (exact absurd h Bool.false_ne_true) | skip
    · exact ⟨.non, rfl, fun _ => .non⟩
    · exact ⟨.bl _, rfl, fun _ => by rw [eq_of_beq h]; exact .bl _⟩
    · exact ⟨.int _, ⟨_, rfl⟩, fun _ => by rw [eq_of_beq h]; exact .int _⟩
    · exact ⟨.str _, ⟨_, rfl⟩, fun _ => by rw [eq_of_beq h]; exact .str _⟩
    · cases ‹0 = _ + 1›
  | succ n ih =>
    intro v d h
    unfold kdB at h
    split at h <;> first | (exact absurd h Bool.false_ne_true) | skip
    · exact ⟨.non, rfl, fun _ => .non⟩
    · exact ⟨.bl _, rfl, fun _ => by rw [eq_of_beq h]; exact .bl _⟩
    · exact ⟨.int _, ⟨_, rfl⟩, fun _ => by rw [eq_of_beq h]; exact .int _⟩
    · exact ⟨.str _, ⟨_, rfl⟩, fun _ => by rw [eq_of_beq h]; exact .str _⟩
    · rename_i n' a ds en
      cases en
      split at h
      · rename_i t dd its k sl hk
        rw [Bool.and_eq_true, Bool.and_eq_true] at h
        obtain ⟨h1, h2, h3⟩ := h
        have h1 := of_decide_eq_true h1
        subst h1
        obtain ⟨xs, rs, gs⟩ := all2_rp ih its.toList ds h3
        exact ⟨.ref a, rfl, fun B => .tup (.inr ⟨_, its, k, hk, rfl, rfl, Nat.le_trans (of_decide_eq_true h2) (by decide), rs⟩) (gs B)⟩
      · exact absurd h Bool.false_ne_true
/-- a module's constant -/
theorem de_gk {n : Nat} {x : Str} {u : Value} {p : Pos} (hm : X.mg x = some u) (hk : kdB X.K n u d = true) (hg : Gl X x := by rfl) (hd : (x == ("__debug__" : Str)) = false := by decide) : DE T X (.Name x p) ρ O d O := by
  obtain ⟨v, r, g⟩ := kdB_ok n u d hk
  exact de_glob hm r g hg hd
/-- an item of a module's dict -/
theorem de_kget {x t : Str} {ad : Addr} {v : V} {p : Pos} (hm : X.mg x = some (.ref ad)) (hk : KDct X.K X.w ad t v) (hr : ∀ B : Hp, Rp X.K B v d) (hb : DE T X b ρ O (.str t) O1) (hg : Gl X x := by rfl) (hd : (x == ("__debug__" : Str)) = false := by decide) (hs : PlainIx b := by intro _ _; rfl) :
    DE T X (.Subscript (.Name x p) b pos) ρ O d O1 :=
  de_of (pe_ix ix_kdict (pe_glob (v := .ref ad) hg hm rfl hd) pe_we hs) fun σ B H hE hA Q q => hb σ B H hE hA _ fun w B1 H1 p1 r1 => by
    cases r1
    exact ⟨ad, t, v, rfl, rfl, hk, q v B1 H1 p1 (hr B1)⟩

/-! ### a <= b <= c -/
theorem de_chain {op op' : CmpOp} {r r' : R2} {p q : Bool} (ho : OpR X (compareOp op) r) (ho' : OpR X (compareOp op') r') (ha : DE T X a ρ O x O1) (hb : DE T X b ρ O1 y O2) (hr : ROp T X r O2 x y (.bl p) O2) (hc : DE T X c ρ O2 z O2) (hr' : ROp T X r' O2 y z (.bl q) O2)
    (hm : lastMarks [op, op'] [b, c] = false := by with_unfolding_all rfl) : DE T X (.Compare a [op, op'] [b, c] pos) ρ O (.bl (p && q)) O2 :=
  de_of (pe_chain ho ho' pe_we pe_we pe_we hm) fun σ B H hE hA Q k => two ha hb hE hA fun v w B' H' p1 rv rw' => hr v w B' H' p1.at' rv rw' _ fun u B2 H2 p2 ru => by
    cases ru
    refine ⟨p, rfl, ?_⟩
    cases p with
    | false => exact k _ B2 H2 (p1.trans p2) (.bl false)
    | true =>
      have p12 := p1.trans p2
      exact hc σ B2 H2 (hE.mono p12.bb) p12.at' _ fun t B3 H3 p3 rt => hr' w t B3 H3 p3.at' ((rw'.mono p2.bb).mono p3.bb) rt _ fun u2 B4 H4 p4 r4 => k u2 B4 H4 ((p12.trans p3).trans p4) r4
theorem dt_chain {op op' : CmpOp} {r r' : R2} {p q : Bool} (ho : OpR X (compareOp op) r) (ho' : OpR X (compareOp op') r') (ha : DE T X a ρ O x O1) (hb : DE T X b ρ O1 y O2) (hr : ROp T X r O2 x y (.bl p) O2) (hc : DE T X c ρ O2 z O2) (hr' : ROp T X r' O2 y z (.bl q) O2)
    (hm : lastMarks [op, op'] [b, c] = false := by with_unfolding_all rfl) : DT T X (.Compare a [op, op'] [b, c] pos) ρ O (p && q) O2 :=
  .mk fun σ B H hE hA Q k => wt_of (pt_chain ho ho' pe_we pe_we pe_we hm) (two ha hb hE hA fun v w B' H' p1 rv rw' => hr v w B' H' p1.at' rv rw' _ fun u B2 H2 p2 ru => by
    cases ru
    refine ⟨p, rfl, ?_⟩
    cases p with
    | false => exact ⟨false, rfl, k B2 H2 (p1.trans p2)⟩
    | true =>
      have p12 := p1.trans p2
      exact hc σ B2 H2 (hE.mono p12.bb) p12.at' _ fun t B3 H3 p3 rt => hr' w t B3 H3 p3.at' ((rw'.mono p2.bb).mono p3.bb) rt _ fun u2 B4 H4 p4 r4 => by
        cases r4
        exact ⟨q, rfl, k B4 H4 ((p12.trans p3).trans p4)⟩)
end

/-! ### a def that may raise -/
theorem fn_okX {P : Program} {w : World} {K : PySem.W.Frag} {mg : Str → Option Value} {base : Heap} {T : List Addr} {CE : Addr} {x qual : Str} {st : Stmt} {f : Addr} {fd : FuncData} {cdv : Value} {N ps : List Str} {k : Nat} {R : PR} (F : FunC K x qual st f fd cdv) (S : FnScope N ps (defScope st))
    (hlen : ∀ ss O Rn Rx, R ss O Rn Rx → ss.length = ps.length)
    (body : ∀ (A : Around) (outer : List PySem.Env) (s : Shared) (H : Hp) (E : XK) (ss : List Slot) (O : OH) (Rn : Slot → OH → Prop) (Rx : D → OH → Prop), Room k (A.deeper (envOfC qual (defScope st) s.heap.objs.size f cdv)) → R ss O Rn Rx →
      DS T (bxX P w K mg base N qual st f cdv A outer s H E) CE (defBody st) (ss ++ List.replicate (N.length - ss.length) .no) O { nx := fun _ o => Rn (.dat .non) o, rt := Rn, ex := Rx }) :
    FnOk P w K mg base (L2.CX P w) (k + 1) f fd ps (spX T K CE R) := by
  obtain ⟨oc, od, kV, doc, pm, an, ct, osl, rfl, lk, hcd⟩ := F.ex
  refine fn_of lk hcd S (fun vs H Q E h => ?_) fun A outer s H vs Q E hr hsp => ?_
  · obtain ⟨ss, B, O, Rn, Rx, h1, h2, _⟩ := h
    rw [h2.length]
    exact hlen _ _ _ _ h1
  · obtain ⟨ss, B, O, Rn, Rx, h1, h2, h3, h4, h5⟩ := hsp
    have hb := body A outer s H E ss O Rn Rx hr h1
    refine ⟨WSs (bxX P w K mg base N qual st f cdv A outer s H E) (defBody st), pss_wss, ?_⟩
    have e1 : L2.start N vs = vs.map some ++ List.replicate (N.length - ss.length) none := by
      unfold L2.start
      rw [h2.length]
    rw [e1]
    refine hb _ B H (Env.of_args _ h2) h3 _ (fun cls d _ H => E cls d H) (takes_of rfl rfl rfl rfl) ⟨fun ρ O2 σ B2 H2 q po _ => ?_, fun s' O2 v B2 H2 q po r => ?_, fun _ _ _ _ _ q => q.elim, fun _ _ _ _ _ q => q.elim, fun r O2 v dd σ B2 H2 q po e1 e2 => ?_⟩
    · exact h4 (.dat .non) O2 .non B2 H2 q po .non
    · exact h4 s' O2 v B2 H2 q po r
    · exact h5 r O2 v dd B2 H2 q po e1 e2
end Dz

namespace Dz
open PySem PySem.Spec PyProof.Rows L2 GxR
/-- data whose type is told -/
inductive Pl : D → Prop
  | non : Pl .non
  | bl (b : Bool) : Pl (.bl b)
  | int (i : Int) : Pl (.int i)
  | str (x : Str) : Pl (.str x)
  | lst (ds : List D) : Pl (.lst ds)
  | tup (ds : List D) : Pl (.tup ds)
def D.ty : D → String
  | .non => "NoneType"
  | .bl _ => "bool"
  | .int _ => "int"
  | .str _ => "str"
  | .lst _ => "list"
  | .tup _ => "tuple"
  | _ => "dict"
theorem Pl.dty {d : D} (h : Pl d) : DTy d d.ty := by
  cases h <;> constructor
def isaInt : D → Bool
  | .int _ => true
  | .bl _ => true
  | _ => false
def isaBool : D → Bool
  | .bl _ => true
  | _ => false
def isaStr : D → Bool
  | .str _ => true
  | _ => false
def isaList : D → Bool
  | .lst _ => true
  | _ => false
def isaTup : D → Bool
  | .tup _ => true
  | _ => false
theorem kit_int {d : D} (h : Pl d) : kitB d.ty "int" = some (isaInt d) := by cases h <;> (simp only [D.ty, isaInt]; decide +kernel)
theorem kit_bool {d : D} (h : Pl d) : kitB d.ty "bool" = some (isaBool d) := by cases h <;> (simp only [D.ty, isaBool]; decide +kernel)
theorem kit_str {d : D} (h : Pl d) : kitB d.ty "str" = some (isaStr d) := by cases h <;> (simp only [D.ty, isaStr]; decide +kernel)
theorem kit_list {d : D} (h : Pl d) : kitB d.ty "list" = some (isaList d) := by cases h <;> (simp only [D.ty, isaList]; decide +kernel)
theorem kit_tuple {d : D} (h : Pl d) : kitB d.ty "tuple" = some (isaTup d) := by cases h <;> (simp only [D.ty, isaTup]; decide +kernel)
theorem bt_int : bootBuiltins "int" = some (.type "int") := by decide +kernel
theorem bt_bool : bootBuiltins "bool" = some (.type "bool") := by decide +kernel
theorem bt_str : bootBuiltins "str" = some (.type "str") := by decide +kernel
theorem bt_list : bootBuiltins "list" = some (.type "list") := by decide +kernel
theorem bt_tuple : bootBuiltins "tuple" = some (.type "tuple") := by decide +kernel
/-- what the built-ins' names mean -/
structure Blt (mg : Str → Option Value) : Prop where
  isinstance : mg "isinstance" = none
  int : mg "int" = none
  bool : mg "bool" = none
  str : mg "str" = none
  list : mg "list" = none
  tuple : mg "tuple" = none
  len : mg "len" = none
  set : mg "set" = none
  all : mg "all" = none
  sorted : mg "sorted" = none
  range : mg "range" = none
  abs : mg "abs" = none
section
variable {T : List Addr} {X : Cx} {ρ : List Slot} {O O1 O2 : OH} {e : Expr} {es : List Expr} {d : D} {ss : List Slot} {s : Slot}
theorem DA.cast {ss' : List Slot} (h : DA T X es ρ O ss O1) (q : ss = ss') : DA T X es ρ O ss' O1 := q ▸ h
/-- arguments that are data -/
theorem da_d (ha : DE T X e ρ O d O1) (hr : DA T X es ρ O1 ss O2) (hs : starEach (e :: es) X.env = (false, eval e X.env) :: starEach es X.env := by rfl) : DA T X (e :: es) ρ O (.dat d :: ss) O2 := da_cons ha.dv hr hs
theorem da_v (ha : DV T X e ρ O s O1) (hr : DA T X es ρ O1 ss O2) (hs : starEach (e :: es) X.env = (false, eval e X.env) :: starEach es X.env := by rfl) : DA T X (e :: es) ρ O (s :: ss) O2 := da_cons ha hr hs
end
section
variable {T : List Addr} {X : Cx} {ρ : List Slot} {O O1 O2 O3 : OH} {e a b c : Expr} {pos p0 p1 p2 p3 : Pos} {d x y z : D} {x1 : Nat} (L : Blt X.mg)
include L
theorem de_isInt (hx : Pl x) (ha : DE T X e ρ O x O1) (hg : Gl X "isinstance" := by rfl) (hg2 : Gl X "int" := by rfl) (he : starEach [e, .Name "int" p1] X.env = (false, eval e X.env) :: starEach [.Name "int" p1] X.env := by rfl) (he2 : starEach [.Name "int" p1] X.env = (false, eval (.Name "int" p1) X.env) :: starEach [] X.env := by rfl) (hpl : (backTo pos (starEach [.Name "int" p1] X.env)).any (·.1) = false := by rfl) :
    DE T X (.Call (.Name "isinstance" p0) [e, .Name "int" p1] [] pos) ρ O (.bl (isaInt x)) O1 := de_isi L.isinstance L.int bt_int ha hx.dty (kit_int hx) (by decide +kernel) hg hg2 (by decide) (by decide) he he2 hpl
theorem de_isBool (hx : Pl x) (ha : DE T X e ρ O x O1) (hg : Gl X "isinstance" := by rfl) (hg2 : Gl X "bool" := by rfl) (he : starEach [e, .Name "bool" p1] X.env = (false, eval e X.env) :: starEach [.Name "bool" p1] X.env := by rfl) (he2 : starEach [.Name "bool" p1] X.env = (false, eval (.Name "bool" p1) X.env) :: starEach [] X.env := by rfl) (hpl : (backTo pos (starEach [.Name "bool" p1] X.env)).any (·.1) = false := by rfl) :
    DE T X (.Call (.Name "isinstance" p0) [e, .Name "bool" p1] [] pos) ρ O (.bl (isaBool x)) O1 := de_isi L.isinstance L.bool bt_bool ha hx.dty (kit_bool hx) (by decide +kernel) hg hg2 (by decide) (by decide) he he2 hpl
theorem de_isStr (hx : Pl x) (ha : DE T X e ρ O x O1) (hg : Gl X "isinstance" := by rfl) (hg2 : Gl X "str" := by rfl) (he : starEach [e, .Name "str" p1] X.env = (false, eval e X.env) :: starEach [.Name "str" p1] X.env := by rfl) (he2 : starEach [.Name "str" p1] X.env = (false, eval (.Name "str" p1) X.env) :: starEach [] X.env := by rfl) (hpl : (backTo pos (starEach [.Name "str" p1] X.env)).any (·.1) = false := by rfl) :
    DE T X (.Call (.Name "isinstance" p0) [e, .Name "str" p1] [] pos) ρ O (.bl (isaStr x)) O1 := de_isi L.isinstance L.str bt_str ha hx.dty (kit_str hx) (by decide +kernel) hg hg2 (by decide) (by decide) he he2 hpl
theorem de_isList (hx : Pl x) (ha : DE T X e ρ O x O1) (hg : Gl X "isinstance" := by rfl) (hg2 : Gl X "list" := by rfl) (he : starEach [e, .Name "list" p1] X.env = (false, eval e X.env) :: starEach [.Name "list" p1] X.env := by rfl) (he2 : starEach [.Name "list" p1] X.env = (false, eval (.Name "list" p1) X.env) :: starEach [] X.env := by rfl) (hpl : (backTo pos (starEach [.Name "list" p1] X.env)).any (·.1) = false := by rfl) :
    DE T X (.Call (.Name "isinstance" p0) [e, .Name "list" p1] [] pos) ρ O (.bl (isaList x)) O1 := de_isi L.isinstance L.list bt_list ha hx.dty (kit_list hx) (by decide +kernel) hg hg2 (by decide) (by decide) he he2 hpl
theorem de_isTup (hx : Pl x) (ha : DE T X e ρ O x O1) (hg : Gl X "isinstance" := by rfl) (hg2 : Gl X "tuple" := by rfl) (he : starEach [e, .Name "tuple" p1] X.env = (false, eval e X.env) :: starEach [.Name "tuple" p1] X.env := by rfl) (he2 : starEach [.Name "tuple" p1] X.env = (false, eval (.Name "tuple" p1) X.env) :: starEach [] X.env := by rfl) (hpl : (backTo pos (starEach [.Name "tuple" p1] X.env)).any (·.1) = false := by rfl) :
    DE T X (.Call (.Name "isinstance" p0) [e, .Name "tuple" p1] [] pos) ρ O (.bl (isaTup x)) O1 := de_isi L.isinstance L.tuple bt_tuple ha hx.dty (kit_tuple hx) (by decide +kernel) hg hg2 (by decide) (by decide) he he2 hpl
/-- isinstance(x, (list, tuple)) -/
theorem de_isLT (hx : Pl x) (ha : DE T X e ρ O x O1)
    (hg : Gl X "isinstance" := by rfl) (hg2 : Gl X "list" := by rfl) (hg3 : Gl X "tuple" := by rfl)
    (he : starEach [e, .Tuple [.Name "list" p1, .Name "tuple" p2] x1 p3] X.env = (false, eval e X.env) :: starEach [.Tuple [.Name "list" p1, .Name "tuple" p2] x1 p3] X.env := by rfl) (he2 : starEach [.Tuple [.Name "list" p1, .Name "tuple" p2] x1 p3] X.env = (false, eval (.Tuple [.Name "list" p1, .Name "tuple" p2] x1 p3) X.env) :: starEach [] X.env := by rfl) (hpl : (backTo pos (starEach [.Tuple [.Name "list" p1, .Name "tuple" p2] x1 p3] X.env)).any (·.1) = false := by rfl)
    (he3 : starEach [.Name "list" p1, .Name "tuple" p2] X.env = (false, eval (.Name "list" p1) X.env) :: starEach [.Name "tuple" p2] X.env := by rfl) (he4 : starEach [.Name "tuple" p2] X.env = (false, eval (.Name "tuple" p2) X.env) :: starEach [] X.env := by rfl) :
    DE T X (.Call (.Name "isinstance" p0) [e, .Tuple [.Name "list" p1, .Name "tuple" p2] x1 p3] [] pos) ρ O (.bl (isaList x || isaTup x)) O1 :=
  de_isi2 L.isinstance L.list bt_list L.tuple bt_tuple ha hx.dty (kit_list hx) (kit_tuple hx) rfl (by decide +kernel) hg hg2 hg3 (by decide) (by decide) (by decide) (by decide) he he2 hpl he3 he4
end
end Dz

namespace Dz
open PySem PySem.Spec PyProof.Rows L2 GxR
/-! ### {'a': .., ..} -/
theorem mergeK_app : ∀ (kvs acc : List (Key × V)), ((acc ++ kvs).map (·.1)).Nodup → mergeK acc kvs = acc ++ kvs
  | [], acc, _ => by rw [List.append_nil]; rfl
  | (k, v) :: kvs, acc, h => by
    have e : acc ++ (k, v) :: kvs = (acc ++ [(k, v)]) ++ kvs := by rw [List.append_assoc]; rfl
    have hk : (acc.any fun kv => decide (kv.1 = k)) = false := by
      cases hq : acc.any fun kv => decide (kv.1 = k) with
      | false => rfl
      | true =>
        obtain ⟨y, hy, ey⟩ := List.any_eq_true.mp hq
        have ey : y.1 = k := of_decide_eq_true ey
        rw [List.map_append, List.nodup_append] at h
        exact absurd ey (h.2.2 y.1 (List.mem_map.mpr ⟨y, hy, rfl⟩) k (by simp))
    have hp : putK acc k v = acc ++ [(k, v)] := by
      unfold putK
      rw [hk]
      rfl
    show mergeK (putK acc k v) kvs = _
    rw [hp, mergeK_app kvs (acc ++ [(k, v)]) (by rw [← e]; exact h), e]
theorem RpKs.keys {K : PySem.W.Frag} {B : Hp} : ∀ {kvs : List (Key × V)} {kd : List (Key × D)}, RpKs K B kvs kd → kvs.map (·.1) = kd.map (·.1)
  | _, _, .nil => rfl
  | _, _, .cons _ r => by rw [List.map_cons, List.map_cons, RpKs.keys r]
theorem RpKs.length {K : PySem.W.Frag} {B : Hp} : ∀ {kvs : List (Key × V)} {kd : List (Key × D)}, RpKs K B kvs kd → kvs.length = kd.length
  | _, _, .nil => rfl
  | _, _, .cons _ r => congrArg Nat.succ (RpKs.length r)
/-- the pairs of a display -/
def DP (T : List Addr) (X : Cx) (pos : Pos) (keys : List (Option Expr)) (values : List Expr) (ρ : List Slot) (O : OH) (kd : List (Key × D)) (O' : OH) : Prop := ∃ trs, PPs X pos keys values trs ∧
  ∀ (σ : L2.St) (B H : Hp), Env X.K B σ ρ → At T X.K B O H → ∀ Q : List (V × V) → Hp → Prop, (∀ kvs B' H', Post T X.K B O H B' O' H' → RpKs X.K B' kvs kd → Q (kvs.map fun kv => (kV kv.1, kv.2)) H') → tPairs trs σ H Q
section
variable {T : List Addr} {X : Cx} {CE : Addr} {ρ : List Slot} {O O1 O2 O3 O4 : OH} {e a b e1 e2 : Expr} {pos p0 : Pos} {d d1 d2 : D} {ks : List (Option Expr)} {vs : List Expr} {kd : List (Key × D)} {E : DEn} {s : Slot} {ss : List Slot}
theorem dp_nil : DP T X pos [] [] ρ O [] O := ⟨[], pps_nil, fun σ B H hE hA Q q => q [] B H (Post.refl hA) .nil⟩
theorem dp_str {k : Str} {j : Nat} {kp : Pos} (he : DE T X e ρ O d O1) (hr : DP T X pos ks vs ρ O1 kd O2) : DP T X pos (some (.Constant (.str k) j kp) :: ks) (e :: vs) ρ O ((.inr k, d) :: kd) O2 := by
  obtain ⟨trs, hp, hq⟩ := hr
  refine ⟨(tC (.str k), WE X e) :: trs, pps_cons pe_str pe_we hp, fun σ B H hE hA Q q => ?_⟩
  show WE X e σ H fun y H2 => tPairs trs σ H2 fun ps H3 => Q ((.str k, y) :: ps) H3
  refine he σ B H hE hA _ fun v B1 H1 p1 r1 => hq σ B1 H1 (hE.mono p1.bb) p1.at' _ fun kvs B2 H2 p2 r2 => ?_
  exact q ((.inr k, v) :: kvs) B2 H2 (p1.trans p2) (.cons (r1.mono p2.bb) r2)
theorem de_dict (h : DP T X pos ks vs ρ O kd O1) (hn : (kd.map (·.1)).Nodup) (hl : kd.length ≤ 15) (hall : ks.all (·.isSome) = true := by rfl) (hkv : ks.length = vs.length := by rfl) (h0 : ks ≠ [] := by exact fun z => by cases z) (h15 : ks.length ≤ 15 := by decide) :
    DE T X (.Dict ks vs pos) ρ O (.dic kd) O1 := by
  obtain ⟨trs, hp, hq⟩ := h
  refine de_of (pe_disp hp hall hkv h0 h15) fun σ B H hE hA Q q p np => ?_
  have p0 := Post.laid (o := .dK []) hA np
  refine hq σ B _ hE p0.at' _ fun kvs B1 H1 p1 r1 => ?_
  have nb : B p = none := hA.noB np
  have no : O p = none := hA.noO np
  have hp1 : upd H p (.dK []) p ≠ none := by rw [upd_same]; exact fun z => by cases z
  have b1 : B1 p = none := (p1.new p hp1 no).trans nb
  have o1 : O1 p = none := p1.keepO hp1 no
  have h1 : H1 p = some (.dK []) := p1.fr p _ upd_same no (hA.newT np)
  refine ⟨h1, kvs, rfl, by rw [RpKs.length r1]; exact hl, ?_⟩
  have em : mergeK [] kvs = kvs := by rw [mergeK_app kvs [] (by rw [List.nil_append, RpKs.keys r1]; exact hn)]; rfl
  rw [em]
  have p2 := Post.over (o := .dK kvs) hA np (p0.trans p1) b1 o1
  have p3 := Post.ice hA np p2 b1 o1 upd_same
  exact q (.ref p) _ _ p3 (.dic upd_same (r1.mono fun c w q => by
    have zc : c ≠ p := fun zc => by
      rw [zc, b1] at q
      cases q
    rw [upd_ne zc]
    exact q))
/-- return [e1, e2, a + b], the lists owned -/
theorem d1_retCat {xs ys : List D} {bp lp : Pos} (h1 : DE T X e1 ρ O d1 O1) (h2 : DE T X e2 ρ O1 d2 O2) (ha : DE T X a ρ O2 (.lst xs) O3) (hb : DE T X b ρ O3 (.lst ys) O4) (hl : xs.length + ys.length ≤ 100000)
    (h : ∀ q p, O4 q = none → O4 p = none → p ≠ q → E.rt (.val (.ref p)) (put (put O4 q (.lst ((xs ++ ys).map .dat))) p (.lst [.dat d1, .dat d2, .val (.ref q)])))
    (s1 : starEach [e1, e2, .BinOp a .Add b bp] X.env = (false, eval e1 X.env) :: starEach [e2, .BinOp a .Add b bp] X.env := by rfl) (s2 : starEach [e2, .BinOp a .Add b bp] X.env = (false, eval e2 X.env) :: starEach [.BinOp a .Add b bp] X.env := by rfl) (s3 : starEach [.BinOp a .Add b bp] X.env = (false, eval (.BinOp a .Add b bp) X.env) :: starEach [] X.env := by rfl) :
    D1 T X CE (.Return (some (.List [e1, e2, .BinOp a .Add b bp] lp)) pos) ρ O E := .mk fun σ B H hE hA Dn W tk l => by
  refine ws_of (ps_ret (pe_lst (pa_cons pe_we (pa_cons pe_we (pa_cons (pe_op op_cat pe_we pe_we) pa_nil s3) s2) s1))) ?_
  refine h1 σ B H hE hA _ fun v1 B1 H1 p1 r1 => h2 σ B1 H1 (hE.mono p1.bb) p1.at' _ fun v2 B2 H2 p2 r2 => ?_
  have hE2 := (hE.mono p1.bb).mono p2.bb
  refine two ha hb hE2 p2.at' fun v w B4 H4 p4 rv rw' => ?_
  cases rv with
  | lst hv rv =>
    cases rw' with
    | lst hw rw' =>
      refine ⟨_, _, _, _, rfl, rfl, p4.at'.base _ _ hv, p4.at'.base _ _ hw, by rw [rv.length, rw'.length]; exact Nat.le_trans hl (by decide), fun q nq => ?_⟩
      have q1 := Post.madeO (o := .lst _) (od := .lst ((xs ++ ys).map .dat)) p4.at' nq (Args.of (rv.append rw'))
      refine ⟨by show 3 ≤ sizeLine; decide, fun p np => ?_⟩
      have ne : p ≠ q := fun z => by
        rw [z, upd_same] at np
        cases np
      have np4 : H4 p = none := by rw [upd_ne ne] at np; exact np
      have q2 := Post.madeO (o := .lst [v1, v2, .ref q]) (od := .lst [.dat d1, .dat d2, .val (.ref q)]) q1.at' np (.cons (show SlotOk X.K B4 (some v1) (.dat d1) from (r1.mono p2.bb).mono p4.bb) (.cons (show SlotOk X.K B4 (some v2) (.dat d2) from r2.mono p4.bb) (.cons (show SlotOk X.K B4 (some (.ref q)) (.val (.ref q)) from rfl) .nil)))
      exact l.rt _ _ (.ref p) B4 _ (h q p (p4.at'.noO nq) (p4.at'.noO np4) ne) (((p1.trans p2).trans p4).trans (q1.trans q2)) rfl
/-- x[k][i] = e, the inner list owned -/
theorem d1_setitemG {o ix : Expr} {c : Addr} {k : Int} {j : Nat} {spos : Pos} (he : DV T X e ρ O s O1) (ho : DV T X o ρ O1 (.val (.ref c)) O2) (hb : DE T X ix ρ O2 (.int k) O3) (hO : O3 c = some (.lst ss)) (hj : ixN ss.length k = some j) (h : E.nx ρ (put O3 c (.lst (ss.set j s))))
    (hsub : ∀ v, assign (.Subscript o ix spos) X.env v = (do
      let ov ← holding [v] (eval o X.env)
      let iv ← holding [v, ov] (eval ix X.env)
      standAt spos
      holding [v, ov, iv] (setItem ov iv v)
      release [v, ov, iv] []) := by intro _; rfl)
    (h1 : swapsWithSole [.Subscript o ix spos] e pos.line X.env = pure false := by rfl) (h2 : swappedStores [.Subscript o ix spos] e X.env = pure none := by rfl) (h3 : (assignEach [.Subscript o ix spos] X.env).map (·.2) = [assign (.Subscript o ix spos) X.env] := by rfl) :
    D1 T X CE (.Assign [.Subscript o ix spos] e pos) ρ O E := .mk fun σ B H hE hA Dn W tk l => by
  refine ws_of (ps_asg pe_we (pg_sub pe_we pe_we set_list hsub) h1 h2 h3) ?_
  refine he σ B H hE hA _ fun w B1 H1 p1 r1 => ho σ B1 H1 (hE.mono p1.bb) p1.at' _ fun ov B2 H2 p2 r2 => ?_
  have ev : ov = .ref c := r2
  subst ev
  have hE2 := (hE.mono p1.bb).mono p2.bb
  refine hb σ B2 H2 hE2 p2.at' _ fun iv B3 H3 p3 r3 => ?_
  cases r3
  obtain ⟨_, u, hu, ok⟩ := p3.at'.own c _ hO
  cases u <;> try exact ok.elim
  rename_i vs
  have lv : vs.length = ss.length := Args.length ok
  have po := Post.put (u := .lst (vs.set j w)) (od := .lst (ss.set j s)) p3.at' hO (Args.set ((r1.mono p2.bb).mono p3.bb) j ok)
  exact ⟨c, vs, k, j, rfl, rfl, hu, by rw [lv]; exact hj, l.nx _ _ _ B3 _ h (((p1.trans p2).trans p3).trans po) (hE2.mono p3.bb)⟩
end
/-- a list within an owned list is frozen -/
theorem ds_freezeIn {T : List Addr} {X : Cx} {CE : Addr} {ρ : List Slot} {O : OH} {E : DEn} {body : List Stmt} {a c : Addr} {ds : List D} {ss : List Slot} (j : Nat) (hc : O c = some (.lst (ds.map .dat))) (ha : O a = some (.lst ss)) (hj : ss[j]? = some (.val (.ref c))) (hne : a ≠ c)
    (h : DS T X CE body ρ (put (cut O c) a (.lst (ss.set j (.dat (.lst ds))))) E) : DS T X CE body ρ O E := .mk fun σ B H hE hA Dn W tk l => by
  obtain ⟨_, u, hu, ok⟩ := hA.own c _ hc
  cases u <;> try exact ok.elim
  rename_i vs
  have po := Post.freeze hA hc hu
  have ha' : cut O c a = some (.lst ss) := by rw [cut_ne hne]; exact ha
  obtain ⟨na, u2, hu2, ok2⟩ := po.at'.own a _ ha'
  cases u2 <;> try exact ok2.elim
  rename_i ws
  have ew : ws.set j (.ref c) = ws := by
    obtain ⟨w, e1, e2⟩ := Args.get ok2 hj
    have e2 : w = .ref c := e2
    subst e2
    exact set_same e1
  have ok3 : Args X.K (upd B c (.lst vs)) ws (ss.set j (.dat (.lst ds))) := by
    have q := Args.set (v := .ref c) (s := .dat (.lst ds)) (show SlotOk X.K (upd B c (.lst vs)) (some (.ref c)) (.dat (.lst ds)) from .lst upd_same ((Args.all ok).mono po.bb)) j ok2
    rw [ew] at q
    exact q
  have p2 := Post.put (u := .lst ws) (od := .lst (ss.set j (.dat (.lst ds)))) po.at' ha' ok3
  have eH : upd H a (.lst ws) = H := by
    funext b
    by_cases hb : b = a
    · rw [hb, upd_same, hu2]
    · rw [upd_ne hb]
  rw [eH] at p2
  have p3 := po.trans p2
  exact h σ _ H (hE.mono p3.bb) p3.at' Dn W tk (l.step p3)
end Dz

/-! enumerate(x), x a list or a tuple, walked by a for -/
namespace PySem
section
set_option maxHeartbeats 1000000 in
theorem dz_meets_enum {v : Value} {ob : Obj} {G : Heap → Prop} (B : Begins v ob G) :
    Meets (Builtin.«enumerate.__new__» ⟨[.type "enumerate", v], []⟩) (fun _ R s => G s.heap ∧
      R (.ok (.ret (.ref (s.heap.push ob).objs.size))) { s with heap := (s.heap.push ob).push { cls := .type "enumerate", data := .fields #[.none, .bool false, .ref s.heap.objs.size, rawInt 0, .none, .none] } }) :=
  .of_wp fun prog w A R s h => by
    obtain ⟨hp, g, dr, tk, os⟩ := s
    obtain ⟨h1, h⟩ := h
    have hsub := sub_enumerate
    have q1 : ∀ {A' : Around} {E' : Value → Shared → Prop} {Q : Value → Shared → Prop}, Q (.ref hp.objs.size) ⟨hp.push ob, g, dr, tk, os⟩ → wpAny (model prog w) A' (pyIter v) Q E' ⟨hp, g, dr, tk, os⟩ :=
      fun q => B.iter prog w _ _ ⟨hp, g, dr, tk, os⟩ _ h1 q
    wp_walk using q1
    refine wpAny_stack_any fun st => wpAny_pure ?_
    split
    · rename_i c _ _ _ _ _
      cases (c == Value.type "enumerate")
      · wp_walk using q1
        exact ⟨_, rfl, h⟩
      · wp_walk using q1
        exact ⟨_, rfl, h⟩
    · wp_walk using q1
      exact ⟨_, rfl, h⟩
variable {prog : Program} {w : World} {A : Around} {E : Value → Shared → Prop} {s : Shared}
theorem dz_call_enum {v : Value} {ob : Obj} {G : Heap → Prop} {Q : Value → Shared → Prop} (B : Begins v ob G) (h1 : G s.heap)
    (h : ∀ h', IsEnum h' (s.heap.objs.size + 1) s.heap.objs.size 0 .none → h'.get? s.heap.objs.size = some ob → h'.objs.size = s.heap.objs.size + 2 →
      (∀ b o, s.heap.get? b = some o → h'.get? b = some o) → Q (.ref (s.heap.objs.size + 1)) { s with heap := h' }) :
    wpAny (model prog w) A (call (.type "enumerate") [v]) Q E s := by
  refine callType_new F.called_enumerate (by decide) (F.typeCall_enumerate_1 _) (F.newCall_enumerate_1 _) (fun obj => F.args_object_init_2 obj _) F.entry_enumerate_new
    (dz_meets_enum B) ⟨h1, ?_⟩
  have hz : (s.heap.push ob).objs.size = s.heap.objs.size + 1 := Heap.size_push ..
  show _ ∧ _
  rw [hz]
  have he : IsEnum ((s.heap.push ob).push { cls := .type "enumerate", data := .fields #[.none, .bool false, .ref s.heap.objs.size, rawInt 0, .none, .none] }) (s.heap.objs.size + 1) s.heap.objs.size 0 .none := by
    have q := Heap.get?_push_size (s.heap.push ob) (o := { cls := .type "enumerate", data := .fields #[.none, .bool false, .ref s.heap.objs.size, rawInt 0, .none, .none] }) rfl
    rw [hz] at q
    exact q
  exact ⟨⟨_, he, rfl⟩, h _ he (Heap.get?_push_of_some _ (Heap.get?_push_size _ B.free)) (by rw [Heap.size_push, hz]) fun b o x => Heap.get?_push_of_some _ (Heap.get?_push_of_some _ x)⟩
end
end PySem
namespace Dz
open PySem PySem.Spec PyProof.Rows L2 GxR
/-- the tuple at a as it stands at each turn, each item in a new pair -/
def IteT (K : PySem.W.Frag) (a : Addr) : It :=
  ⟨fun i H => ∃ (xs : List V) (x : V), SqT K H a xs ∧ xs[i]? = some x, fun i H v H' => ∃ P x, v = .ref P ∧ H P = none ∧ H' = upd H P (.tup [.int (i : Nat), x]) ∧ ∀ xs, SqT K H a xs → xs[i]? = some x, fun i H => ∃ xs : List V, SqT K H a xs ∧ xs.length = i⟩
theorem turn_enumT {P : Program} {w : World} {K : PySem.W.Frag} {elts : List Expr} {kk : Nat} {tpos : Pos} (a e it : Addr) :
    Turn P w K (.Tuple elts kk tpos) (IteT K a) [e, it] e (fun i h => (∃ old, IsEnum h e it ((i : Nat) : Int) old) ∧ h.IsTupleIter it a i ∧ e ≠ it) where
  mem := by simp
  obj := fun i h st b hb => by
    obtain ⟨⟨old, he⟩, ⟨o, ho, hc, hd⟩, _⟩ := st
    have e' : b = e ∨ b = it := by simpa using hb
    rcases e' with z | z
    · rw [z]
      exact ⟨_, he, fun v q => nomatch q⟩
    · rw [z]
      exact ⟨o, ho, fun v q => by rw [hd] at q; cases q⟩
  keep := fun i h h' st k => by
    obtain ⟨⟨old, he⟩, hi, hne⟩ := st
    exact ⟨⟨old, k e (by simp) _ he⟩, hi.at fun o q => k it (by simp) o q, hne⟩
  item := by
    intro X hP hw hK hc i pins s σ H E I hf st hg
    subst hP hw hK
    obtain ⟨⟨old, he⟩, hit, hne⟩ := st
    obtain ⟨xs, x, hq, hx⟩ := hg
    obtain ⟨its, rv, p, hz⟩ := I.tuple hq
    obtain ⟨u, hu, ru⟩ := rv.get hx
    have hel : e < s.heap.objs.size := Heap.lt_size he
    have hil : it < s.heap.objs.size := by
      obtain ⟨_, q, _⟩ := hit
      exact Heap.lt_size q
    have hai : a ≠ it := fun z => by
      obtain ⟨o, ho, hcl, hd⟩ := id hit
      obtain ⟨o', ho', hcl', hd'⟩ := show s.heap.IsTuple a its.toArray from p
      rw [z, ho] at ho'
      cases ho'
      rw [hcl] at hcl'
      exact absurd (Value.type.inj hcl') (by decide)
    have hae : e ∉ [it, a] := fun z => by
      have z' : e = it ∨ e = a := by simpa using z
      rcases z' with z' | z'
      · exact hne z'
      · obtain ⟨o', ho', hcl', hd'⟩ := show s.heap.IsTuple a its.toArray from p
        rw [← z', he] at ho'
        cases ho'
        exact absurd (Value.type.inj hcl') (by decide)
    have hlt : i < its.toArray.size := by
      have := (List.getElem?_eq_some_iff.mp hu).1
      simpa using this
    refine wpAny_pyNext_enum_itemD (Draws.tuple (A := X.A.in1) (show X.A.in1.handled = none from I.ok.hd hc) it a hai its.toArray) he ⟨hit, p⟩ hlt hne hae fun y h' tk hy ho hs' hT hsz hk => ?_
    have ey : y = u := by
      have q : its.toArray[i]? = some u := by simpa using hu
      rw [q] at hy
      exact (Option.some.inj hy).symm
    subst ey
    refine ⟨_, rfl, wpAny_letOwnedTupleGo_enum (s := { s with heap := h', toks := tk + 1 }) ho fun h'' he' sb => ?_⟩
    have hT2 : h''.get? s.heap.objs.size = some { cls := .type "tuple", data := .seq #[.int i tk, y] } := (sb.2 _ (Nat.ne_of_gt hel)).trans hT
    have new : ObjOk X.prog X.w (upd H s.heap.objs.size (.tup [.int (i : Nat), x])) h'' s.heap.objs.size (.tup [.int (i : Nat), x]) :=
      ⟨by show 2 ≤ sizeLine; decide, [.int i tk, y], .cons ⟨_, rfl⟩ (.cons ru .nil), ⟨_, hT2, rfl, _, rfl⟩⟩
    have I1 : Inv X pins σ (upd H s.heap.objs.size (.tup [.int (i : Nat), x])) { s with heap := h'', toks := tk + 1 } :=
      I.turnedNew (ch := [e, it]) (fun b ob hb q => (sb.2 b (fun z => hb (by simp [z]))).trans (hk b ob (fun z => hb (by simp [z])) (fun z => hb (by simp [z])) q)) hf (Nat.le_refl _) new
    refine ⟨.ref s.heap.objs.size, _, I1, rfl, ⟨_, x, rfl, I.hok.fresh (Nat.le_refl _), rfl, fun ys hy => by rw [I.tuple_inj hy hq]; exact hx⟩, ⟨⟨y, ?_⟩, hs'.1.at fun o q => (sb.2 it (Ne.symm hne)).trans q, hne⟩, fun b hb => ?_⟩
    · have e1 : ((i + 1 : Nat) : Int) = (i : Int) + 1 := by omega
      rw [e1]
      exact he'
    · have hb' : b < s.heap.objs.size := by
        have e' : b = e ∨ b = it := by simpa using hb
        rcases e' with z | z
        · rw [z]
          exact hel
        · rw [z]
          exact hil
      rw [upd_ne (Nat.ne_of_lt hb')]
      exact (hf b hb).1
  done := by
    intro X hP hw hK hc i pins s σ H E I hf st hg
    subst hP hw hK
    obtain ⟨⟨old, he⟩, hit, hne⟩ := st
    obtain ⟨xs, hq, hx⟩ := hg
    obtain ⟨its, rv, p, hz⟩ := I.tuple hq
    obtain ⟨f0, f1, f2, f3, f4, f5⟩ := hf it (by simp)
    have hl := rv.length
    have ei : i = its.toArray.size := by rw [← hx, hl]; simp
    have hai : a ≠ it := fun z => by
      obtain ⟨o, ho, hcl, hd⟩ := id hit
      obtain ⟨o', ho', hcl', hd'⟩ := show s.heap.IsTuple a its.toArray from p
      rw [z, ho] at ho'
      cases ho'
      rw [hcl] at hcl'
      exact absurd (Value.type.inj hcl') (by decide)
    subst ei
    exact wpAny_pyNext_enum_endD (Draws.tuple (A := X.A.in1) (show X.A.in1.handled = none from I.ok.hd hc) it a hai its.toArray) he ⟨hit, p⟩ fun h' eb => ⟨rfl, I.turned (t' := s.toks) (fun b o hb q => eb b o hb q) f0 f1 f3 f4 f5⟩
  self := fun A i s Q E st h => by
    obtain ⟨⟨_, he⟩, _⟩ := st
    exact wpAny_pyIter_enum he h
def iEnumT (K : PySem.W.Frag) (ta : TA) : TI := fun σ H R => ta σ H fun vs H1 => ∃ a xs, vs = [.ref a] ∧ SqT K H1 a xs ∧ R (IteT K a) H1
theorem pi_enumT {X : Cx} {e : Expr} {ta : TA} {p pos tpos : Pos} {elts : List Expr} {kk : Nat} (hg : Gl X "enumerate") (hm : X.mg "enumerate" = none) (ha : PA X [e] ta) (hs : starEach [e] X.env = [(false, eval e X.env)] := by rfl) :
    PI X (.Tuple elts kk tpos) (.Call (.Name "enumerate" p) [e] [] pos) (iEnumT X.K ta) := by
  refine ⟨fun pins s σ H R I h => ?_⟩
  refine Call_ (ld_blt I hg hm boot_enumerate (PyProof.Rows.callWith_type1 (thn (ha.run pos pins s σ H _ I h) fun us s1 ⟨vs, H1, I1, r1, q1⟩ => ?_) hs rfl))
  obtain ⟨a, xs, ex, hq, q⟩ := q1
  subst ex
  cases r1 with
  | cons r rr =>
    cases rr
    cases r
    obtain ⟨its, rv, p', hz⟩ := I1.tuple hq
    refine dz_call_enum (begins_tuple a its.toArray) (show s1.heap.IsTuple a its.toArray from p') fun h' he hit hsz hk => wpAny_pyIter_enum he ?_
    have I2 : Inv X pins σ H1 { s1 with heap := h' } := I1.kept (t' := s1.toks) hk
    have hti : h'.IsTupleIter s1.heap.objs.size a 0 := ⟨_, hit, rfl, rfl⟩
    refine ⟨s1.heap.objs.size + 1, [s1.heap.objs.size + 1, s1.heap.objs.size], _, _, H1, rfl, I2, turn_enumT a (s1.heap.objs.size + 1) s1.heap.objs.size, ⟨⟨.none, he⟩, hti, Nat.succ_ne_self _⟩, fun b hb => ?_, q⟩
    have e' : b = s1.heap.objs.size + 1 ∨ b = s1.heap.objs.size := by simpa using hb
    have hle : s1.heap.objs.size ≤ b := by
      rcases e' with z | z
      · rw [z]
        exact Nat.le_succ _
      · rw [z]
        exact Nat.le_refl _
    exact I1.fpOk hle (I1.hok.fresh hle)
theorem walk_enumT {K : PySem.W.Frag} {a : Addr} {xs : List V} : Walk (IteT K a) xs.length (fun H => SqT K H a xs) (YPair (fun i => some (.int (i : Nat))) (fun i => xs[i]?)) := by
  refine ⟨fun i _ hi q => ⟨xs, xs[i], q, by simp [hi]⟩, fun _ q => ⟨xs, q, rfl⟩, fun i H v H' _ q y => ?_⟩
  obtain ⟨P, x, h1, h2, h3, h4⟩ := y
  exact ⟨P, .int (i : Nat), x, h1, h2, h3, rfl, h4 xs q⟩

section
variable {T : List Addr} {X : Cx} {CE : Addr} {ρ : List Slot} {O O1 : OH} {e : Expr} {es : List Expr} {pos pos' tp : Pos} {ds : List D} {E : DEn} {body : List Stmt}
/-- for a, b in enumerate(e) -/
theorem d1_forET {k i1 i2 : Nat} {p0 : Pos} (I : Nat → List Slot → OH → Prop) (he : DE T X e ρ O (.tup ds) O1) (h0 : I 0 ρ O1) (hN : X.N.Nodup) (hn : Names X es [i1, i2])
    (hs : ∀ (j : Nat) d ρ' O', ds[j]? = some d → I j ρ' O' → DS T X CE body ((ρ'.set i1 (.dat (.int (j : Int)))).set i2 (.dat d)) O' { E with nx := I (j + 1), ct := I (j + 1), bk := E.nx }) (hd : ∀ ρ' O', I ds.length ρ' O' → E.nx ρ' O')
    (hm : X.mg "enumerate" = none) (hp : PassesOwn (model X.prog X.w) X.A X.env X.xe) (hg : Gl X "enumerate" := by rfl) (hc : X.calm = true := by rfl) (g1 : (assignEach es X.env).length = 2 := by rfl) (g2 : (assignEach es X.env).findIdx? (·.1) = none := by rfl)
    (h1 : starEach [e] X.env = [(false, eval e X.env)] := by rfl) (hfold : ∀ x, foldedSetIterable (.Call (.Name "enumerate" p0) [e] [] pos') X.env x = pure x := by intro _; rfl) :
    D1 T X CE (.For (.Tuple es k tp) (.Call (.Name "enumerate" p0) [e] [] pos') body [] pos) ρ O E := .mk fun σ B H hE hA Dn W tk l => by
  refine ws_of (ps_for hp hc (pi_enumT hg hm (pa_cons pe_we pa_nil h1) h1) (pg_tup hc (pgs_names hN hn) g1 g2) pss_wss hfold) ?_
  refine he σ B H hE hA _ fun v B1 H1 p1 r1 => ?_
  cases r1 with
  | tup hq r =>
    rename_i a xs
    refine ⟨a, xs, rfl, same_t p1.at'.base hq, for_it (walk_enumT (K := X.K) (a := a) (xs := xs)) (fun j σ' H' => ∃ ρ' O' B', I j ρ' O' ∧ Post T X.K B O H B' O' H' ∧ Same B1 B' ∧ Env X.K B' σ' ρ') ⟨ρ, O1, B1, h0, p1, Same.refl _, hE.mono p1.bb⟩ (fun j σ' H' _ ⟨_, _, B', _, po, sb, _⟩ => same_t po.at'.base (same_t sb hq)) ?_ ?_⟩
    · rintro j y σ' H' H2 hj ⟨ρ', O', B', hI, po, sb, hE'⟩ ⟨P, x, z, ey, hP, eH, hx, hz⟩
      subst ey eH
      obtain ⟨d, hd1, hd2⟩ := r.getV hz
      cases hx
      have pm := Post.made (o := .tup [.int (j : Nat), z]) po.at' hP
      have po2 := po.trans pm
      refine ⟨P, _, rfl, SqT.of upd_same, rfl, rfl, ?_⟩
      show WSs X body _ ((σ'.set i1 (some (.int (j : Nat)))).set i2 (some z)) _
      have hE2 := ((hE'.mono pm.bb).set (o := some (.int (j : Nat))) (s := .dat (.int (j : Int))) (show SlotOk X.K _ (some (.int (j : Nat))) (.dat (.int (j : Int))) from .int _) i1).set (o := some z) (s := .dat d) (show SlotOk X.K _ (some z) (.dat d) from (hd2.mono sb).mono pm.bb) i2
      refine hs j d ρ' O' hd1 hI _ _ _ hE2 pm.at' _ W tk ?_
      have l' := l.step po2
      exact ⟨fun ρ2 O2 σ2 B2 H2 h p2 e2 => ⟨ρ2, O2, B2, h, po2.trans p2, (sb.trans pm.bb).trans p2.bb, e2⟩, l'.rt, l'.nx, fun ρ2 O2 σ2 B2 H2 h p2 e2 => ⟨ρ2, O2, B2, h, po2.trans p2, (sb.trans pm.bb).trans p2.bb, e2⟩, l'.ex⟩
    · rintro σ' H' ⟨ρ', O', B', hI, po, sb, hE'⟩
      rw [r.length] at hI
      exact l.nx _ _ _ B' H' (hd ρ' O' hI) po hE'
theorem d1_forEL {k i1 i2 : Nat} {p0 : Pos} (I : Nat → List Slot → OH → Prop) (he : DE T X e ρ O (.lst ds) O1) (h0 : I 0 ρ O1) (hN : X.N.Nodup) (hn : Names X es [i1, i2])
    (hs : ∀ (j : Nat) d ρ' O', ds[j]? = some d → I j ρ' O' → DS T X CE body ((ρ'.set i1 (.dat (.int (j : Int)))).set i2 (.dat d)) O' { E with nx := I (j + 1), ct := I (j + 1), bk := E.nx }) (hd : ∀ ρ' O', I ds.length ρ' O' → E.nx ρ' O')
    (hm : X.mg "enumerate" = none) (hp : PassesOwn (model X.prog X.w) X.A X.env X.xe) (hg : Gl X "enumerate" := by rfl) (hc : X.calm = true := by rfl) (g1 : (assignEach es X.env).length = 2 := by rfl) (g2 : (assignEach es X.env).findIdx? (·.1) = none := by rfl)
    (h1 : starEach [e] X.env = [(false, eval e X.env)] := by rfl) (hfold : ∀ x, foldedSetIterable (.Call (.Name "enumerate" p0) [e] [] pos') X.env x = pure x := by intro _; rfl) :
    D1 T X CE (.For (.Tuple es k tp) (.Call (.Name "enumerate" p0) [e] [] pos') body [] pos) ρ O E := .mk fun σ B H hE hA Dn W tk l => by
  refine ws_of (ps_for hp hc (pi_enum hg hm (pa_cons pe_we pa_nil h1) h1) (pg_tup hc (pgs_names hN hn) g1 g2) pss_wss hfold) ?_
  refine he σ B H hE hA _ fun v B1 H1 p1 r1 => ?_
  cases r1 with
  | lst hq r =>
    rename_i a xs
    refine ⟨a, xs, rfl, SqL.of (p1.at'.base _ _ hq), for_it (walk_enum (K := X.K) (a := a) (xs := xs)) (fun j σ' H' => ∃ ρ' O' B', I j ρ' O' ∧ Post T X.K B O H B' O' H' ∧ Same B1 B' ∧ Env X.K B' σ' ρ') ⟨ρ, O1, B1, h0, p1, Same.refl _, hE.mono p1.bb⟩ (fun j σ' H' _ ⟨_, _, B', _, po, sb, _⟩ => SqL.of (po.at'.base _ _ (sb _ _ hq))) ?_ ?_⟩
    · rintro j y σ' H' H2 hj ⟨ρ', O', B', hI, po, sb, hE'⟩ ⟨P, x, z, ey, hP, eH, hx, hz⟩
      subst ey eH
      obtain ⟨d, hd1, hd2⟩ := r.getV hz
      cases hx
      have pm := Post.made (o := .tup [.int (j : Nat), z]) po.at' hP
      have po2 := po.trans pm
      refine ⟨P, _, rfl, SqT.of upd_same, rfl, rfl, ?_⟩
      show WSs X body _ ((σ'.set i1 (some (.int (j : Nat)))).set i2 (some z)) _
      have hE2 := ((hE'.mono pm.bb).set (o := some (.int (j : Nat))) (s := .dat (.int (j : Int))) (show SlotOk X.K _ (some (.int (j : Nat))) (.dat (.int (j : Int))) from .int _) i1).set (o := some z) (s := .dat d) (show SlotOk X.K _ (some z) (.dat d) from (hd2.mono sb).mono pm.bb) i2
      refine hs j d ρ' O' hd1 hI _ _ _ hE2 pm.at' _ W tk ?_
      have l' := l.step po2
      exact ⟨fun ρ2 O2 σ2 B2 H2 h p2 e2 => ⟨ρ2, O2, B2, h, po2.trans p2, (sb.trans pm.bb).trans p2.bb, e2⟩, l'.rt, l'.nx, fun ρ2 O2 σ2 B2 H2 h p2 e2 => ⟨ρ2, O2, B2, h, po2.trans p2, (sb.trans pm.bb).trans p2.bb, e2⟩, l'.ex⟩
    · rintro σ' H' ⟨ρ', O', B', hI, po, sb, hE'⟩
      rw [r.length] at hI
      exact l.nx _ _ _ B' H' (hd ρ' O' hI) po hE'
end
end Dz

/-! sorted(x), x a list of tuples of small ints, any number of them -/
namespace DzR
open PySem PyProof.Rows Srt
theorem swo_rank (f : Value → Int) : SrtO.Swo fun v u => decide (f v < f u) := by
  refine ⟨fun x y h => ?_, fun x y z h1 h2 => ?_⟩
  · have a := of_decide_eq_true (p := f x < f y) h
    exact decide_eq_false (p := f y < f x) (by omega)
  · have a := of_decide_eq_false (p := f y < f x) h1
    have b := of_decide_eq_false (p := f z < f y) h2
    exact decide_eq_false (p := f z < f x) (by omega)
section
variable {prog : Program} {w : World} {A : Around} {E : Value → Shared → Prop} {s : Shared}
theorem tups_cmp {vs : List Value} {k : Value → List Int} {d : Nat} {B : Int} (hp : ∀ v ∈ vs, TS.TupInts s.heap v (k v) ∧ (k v).length = d ∧ TS.Bd B (k v)) :
    SrtO.Cmp prog w A s (tuples' true) (fun p => p.1 ∈ vs) (SrtO.lt2 fun v u => decide (TS.code B (k v) < TS.code B (k u))) := by
  intro p q hm hm'
  obtain ⟨t1, l1, b1⟩ := hp _ hm
  obtain ⟨t2, l2, b2⟩ := hp _ hm'
  show wpAny (model prog w) A (keyLt' (tuples' true) p.1 q.1) (fun r s' => s' = s ∧ r = decide (TS.code B (k p.1) < TS.code B (k q.1))) (fun _ _ => False) s
  generalize k p.1 = ns at t1 l1 b1 ⊢
  generalize k q.1 = ms at t2 l2 b2 ⊢
  obtain ⟨a, xs, e1, ⟨o, ho, hc, n, hdt⟩, i⟩ := t1
  obtain ⟨a', ys, e2, ⟨o', ho', hc', n', hdt'⟩, i'⟩ := t2
  rw [e1, e2]
  refine PySem.W.kat_lt ho hdt ho' hdt' ?_
  have sz : decide (xs.size < ys.size) = false := by
    have q1 := i.length
    have q2 := i'.length
    rw [Array.length_toList] at q1 q2
    exact decide_eq_false (by omega)
  rw [sz]
  exact TS.lex_ints 0 i i' (by omega) b1 b2 ⟨rfl, rfl⟩
theorem tups_sortable {a : Addr} {vs : List Value} {k : Value → List Int} {d : Nat} {B : Int} (hd : 1 ≤ d) (h2 : 2 ≤ vs.length) (hp : ∀ v ∈ vs, TS.TupInts s.heap v (k v) ∧ (k v).length = d ∧ TS.Bd B (k v)) (ha : ∀ o, s.heap.get? a = some o → o.cls ≠ .type "tuple") :
    SrtO.SortableO prog w A s a vs fun v u => decide (TS.code B (k v) < TS.code B (k u)) := by
  intro h' keep
  have hp' : ∀ v ∈ vs, TS.TupInts h' v (k v) ∧ (k v).length = d ∧ TS.Bd B (k v) := fun v hm => by
    obtain ⟨t1, l1, b1⟩ := hp v hm
    exact ⟨t1.keeps fun b o e c => keep b o (fun z => by subst z; exact ha o e c) e, l1, b1⟩
  have hx : TS.TupsOk h' d B vs := fun v hm => ⟨_, hp' v hm⟩
  obtain ⟨fs, q1, q2, q3⟩ := TS.firsts_of hd vs hx
  refine ⟨tuples' true, fun Q E' hq => ?_, tups_cmp (s := { s with heap := h' }) hp'⟩
  refine PySem.W.kat_kind (T := .type "int") q1 (by omega) (fun f hm => ?_) (by rfl) ?_
  · obtain ⟨x, t, rfl⟩ := q3 f hm
    exact PySem.W.Looks.now
  · have e : (Value.type "int" != Value.type "tuple") = true := by first | decide +kernel | rfl | decide
    rw [e]
    exact hq
end
end DzR
namespace Dz
open PySem PySem.Spec PyProof.Rows L2 GxR
/-- sorted(xs), xs tuples of d ints below B -/
def rSrtT (K : PySem.W.Frag) (d : Nat) (B : Int) : List V → Hp → VK → Prop := fun vs H Q => ∃ (a : Addr) (xs : List V), vs = [V.ref a] ∧ SqL K H a xs ∧ (∀ x ∈ xs, ∃ ns, TupI K H x ns ∧ ns.length = d ∧ TS.Bd B ns) ∧
  ∀ (ys : List V) (p : Addr), ys.Perm xs → ys.Pairwise (fun x y => ∀ n m, TupI K H x n → TupI K H y m → TS.code B n ≤ TS.code B m) → H p = none → Q (.ref p) (upd H p (.lst ys))
theorem cr_srtT {X : Cx} {d : Nat} {B : Int} (hd : 1 ≤ d) : CallR X (.builtin "sorted") (rSrtT X.K d B) := by
  intro pins s σ H vs us Q I r h
  obtain ⟨a, xs, rfl, hs, hx, q⟩ := h
  obtain ⟨its, rv, hl, hz⟩ := I.list hs
  rw [Vals.ref1 r]
  obtain ⟨e1, e2⟩ := bkV_refs rv fun x m => by
    obtain ⟨ns, ⟨t, e, _⟩, _⟩ := hx x m
    exact ⟨t, e⟩
  have hk : ∀ v ∈ its, TS.TupInts s.heap v (TS.intsOf s.heap v) ∧ (TS.intsOf s.heap v).length = d ∧ TS.Bd B (TS.intsOf s.heap v) := fun v hv => by
    obtain ⟨t, rfl⟩ := e2 v hv
    have hm : V.ref t ∈ xs := by
      rw [e1]
      exact List.mem_map.mpr ⟨_, hv, rfl⟩
    obtain ⟨ns, ⟨t', e, ht⟩, hn, hb⟩ := hx _ hm
    cases e
    have ti := tupI_raw I ht
    rw [ti.ints]
    exact ⟨ti, hn, hb⟩
  refine SrtO.sorted_ord (DzR.swo_rank fun v => TS.code B (TS.intsOf s.heap v)) hl.isList (by rw [← rv.length]; exact hz) (fun h2 h₁ a' ha kk => ?_) fun out h1 h2 => ?_
  · refine DzR.tups_sortable (s := { s with heap := h₁ }) hd h2 (fun v hm => ?_) fun o e => ?_
    · obtain ⟨t1, l1, b1⟩ := hk v hm
      exact ⟨t1.keeps fun b o e _ => (kk b o e).2, l1, b1⟩
    · have e' : some o = some (seqObj "list" its.toArray 0) := e.symm.trans ha
      cases e'
      intro c
      exact absurd (Value.type.inj c) (by decide)
  · obtain ⟨ep, he'⟩ := PyProof.Rows.sortedAll_at s.heap its out.toArray
    have h3 : ∀ u ∈ out, ∃ a, u = Value.ref a := fun u hu => e2 u (h2.perm.mem_iff.mp hu)
    have hp : (out.map bkV).Perm xs := by
      rw [e1]
      exact h2.perm.map bkV
    have hlen : (out.map bkV).length ≤ sizeLine := by
      rw [hp.length_eq]
      exact hz
    have hval : Vals (out.map bkV) out := bkV_vals h3
    refine ⟨.ref _, upd H (s.heap.objs.size + 1) (.lst (out.map bkV)), I.laid (t' := s.toks) (fun _ _ => PyProof.Rows.sortedAll_old) (Nat.le_succ _) ⟨hlen, out, ep, hval, by simpa using he'⟩, rfl, q _ _ hp ?_ (I.hok.fresh (Nat.le_succ _))⟩
    rw [List.pairwise_map]
    refine List.Pairwise.imp (fun {u v} huv n m hn hm => ?_) h1
    obtain ⟨t, et, ht⟩ := hn
    obtain ⟨t', et', ht'⟩ := hm
    have eu := bkV_ref et
    have ev := bkV_ref et'
    have i1 : TS.intsOf s.heap u = n := by
      rw [eu]
      exact (tupI_raw I ht).ints
    have i2 : TS.intsOf s.heap v = m := by
      rw [ev]
      exact (tupI_raw I ht').ints
    have z := of_decide_eq_false huv
    rw [i1, i2] at z
    omega
/-- a tuple of ints -/
def tI (ns : List Int) : D := .tup (ns.map .int)
/-- such lists in order -/
def srtT (B : Int) (nss : List (List Int)) : List (List Int) := nss.mergeSort fun a b => decide (TS.code B a ≤ TS.code B b)
theorem code_inj {B : Int} : ∀ {r q : List Int}, r.length = q.length → TS.Bd B r → TS.Bd B q → TS.code B r = TS.code B q → r = q
  | [], [], _, _, _, _ => rfl
  | d :: r, e :: q, hl, h1, h2, h => by
    have hl' : r.length = q.length := by simpa using hl
    rcases Int.lt_trichotomy d e with z | z | z
    · have := TS.code_lt hl' h1.tail h2.tail z
      omega
    · subst z
      have q1 : ¬ TS.code B r < TS.code B q := fun z => by
        have := (TS.code_same (d := d) hl').mpr z
        omega
      have q2 : ¬ TS.code B q < TS.code B r := fun z => by
        have := (TS.code_same (d := d) hl'.symm).mpr z
        omega
      rw [code_inj hl' h1.tail h2.tail (by omega)]
    · have := TS.code_lt hl'.symm h2.tail h1.tail z
      omega
  | [], _ :: _, hl, _, _, _ => by simp at hl
  | _ :: _, [], hl, _, _, _ => by simp at hl
theorem srtT_perm (B : Int) (nss : List (List Int)) : (srtT B nss).Perm nss := List.mergeSort_perm _ _
theorem srtT_sorted (B : Int) (nss : List (List Int)) : (srtT B nss).Pairwise fun a b => TS.code B a ≤ TS.code B b := by
  have h := List.pairwise_mergeSort (le := fun a b : List Int => decide (TS.code B a ≤ TS.code B b)) (fun a b c h1 h2 => decide_eq_true (Int.le_trans (of_decide_eq_true h1) (of_decide_eq_true h2))) (fun a b => by
    rcases Int.le_total (TS.code B a) (TS.code B b) with h | h
    · rw [decide_eq_true h]; rfl
    · rw [decide_eq_true h, Bool.or_true]) nss
  exact h.imp fun h => of_decide_eq_true h
/-- sorted lists of the same tuples are one -/
theorem srt_uniq {d : Nat} {B : Int} {l m : List (List Int)} (hb : ∀ ns ∈ m, ns.length = d ∧ TS.Bd B ns) (hp : l.Perm m) (h1 : l.Pairwise fun a b => TS.code B a ≤ TS.code B b) (h2 : m.Pairwise fun a b => TS.code B a ≤ TS.code B b) : l = m := by
  refine List.Perm.eq_of_pairwise (le := fun a b : List Int => TS.code B a ≤ TS.code B b) (fun a b ha hb' q1 q2 => ?_) h1 h2 hp
  obtain ⟨a1, a2⟩ := hb a (hp.mem_iff.mp ha)
  obtain ⟨b1, b2⟩ := hb b hb'
  exact code_inj (a1.trans b1.symm) a2 b2 (Int.le_antisymm q1 q2)
theorem srtT_eq {d : Nat} {B : Int} {l m : List (List Int)} (hb : ∀ ns ∈ m, ns.length = d ∧ TS.Bd B ns) (hp : l.Perm m) (h1 : l.Pairwise fun a b => TS.code B a ≤ TS.code B b) : l = srtT B m :=
  srt_uniq (fun ns hn => hb ns ((srtT_perm B m).mem_iff.mp hn)) (hp.trans (srtT_perm B m).symm) h1 (srtT_sorted B m)
theorem srtT_congr {d : Nat} {B : Int} {l m : List (List Int)} (hb : ∀ ns ∈ m, ns.length = d ∧ TS.Bd B ns) (hp : l.Perm m) : srtT B l = srtT B m :=
  srtT_eq hb ((srtT_perm B l).trans hp) (srtT_sorted B l)
theorem RpAll.permL {K : PySem.W.Frag} {H : Hp} {vs ws : List V} (hp : ws.Perm vs) : ∀ {ds : List D}, RpAll K H vs ds → ∃ es, es.Perm ds ∧ RpAll K H ws es := by
  induction hp with
  | nil =>
    intro ds r
    exact ⟨ds, .refl _, r⟩
  | cons x _ ih =>
    intro ds r
    cases r with
    | cons h r =>
      obtain ⟨es, p, r'⟩ := ih r
      exact ⟨_ :: es, p.cons _, .cons h r'⟩
  | swap x y l =>
    intro ds r
    cases r with
    | cons h r =>
      cases r with
      | cons h' r => exact ⟨_ :: _ :: _, .swap _ _ _, .cons h' (.cons h r)⟩
  | trans _ _ ih1 ih2 =>
    intro ds r
    obtain ⟨es, p, r'⟩ := ih2 r
    obtain ⟨es', p', r''⟩ := ih1 r'
    exact ⟨es', p'.trans p, r''⟩
theorem rp_tI {K : PySem.W.Frag} {H H' : Hp} (e : Same H H') {v : V} {ns : List Int} (r : Rp K H v (tI ns)) : TupI K H' v ns := by
  cases (show Rp K H v (.tup (ns.map .int)) from r) with
  | tup h r =>
    have q := rp_ints r
    subst q
    exact ⟨_, rfl, same_t e h⟩
theorem of_map_perm {α β : Type} {f : α → β} {l : List β} {m : List α} (h : l.Perm (m.map f)) : ∃ k : List α, k.Perm m ∧ l = k.map f := by
  generalize hn : m.map f = n at h
  induction h generalizing m with
  | nil =>
    cases m with
    | nil => exact ⟨[], .refl _, rfl⟩
    | cons a m => cases hn
  | cons x _ ih =>
    cases m with
    | nil => cases hn
    | cons a m =>
      rw [List.map_cons] at hn
      injection hn with h1 h2
      obtain ⟨k, p, e⟩ := ih h2
      exact ⟨a :: k, p.cons a, by rw [List.map_cons, h1, e]⟩
  | swap x y l =>
    cases m with
    | nil => cases hn
    | cons a m =>
      cases m with
      | nil => cases hn
      | cons b m =>
        rw [List.map_cons, List.map_cons] at hn
        injection hn with h1 h2
        injection h2 with h2 h3
        exact ⟨b :: a :: m, .swap _ _ _, by rw [List.map_cons, List.map_cons, h1, h2, h3]⟩
  | trans _ _ ih1 ih2 =>
    obtain ⟨k, p, e⟩ := ih2 hn
    obtain ⟨k', p', e'⟩ := ih1 e.symm
    exact ⟨k', p'.trans p, e'⟩
section
variable {T : List Addr} {X : Cx} {ρ : List Slot} {O O1 : OH} {e : Expr} {pos p0 : Pos}
theorem pw_tI {K : PySem.W.Frag} {H H' : Hp} {B : Int} (e : Same H H') : ∀ {ys : List V} {nss : List (List Int)}, RpAll K H ys (nss.map tI) → ys.Pairwise (fun x y => ∀ n m, TupI K H' x n → TupI K H' y m → TS.code B n ≤ TS.code B m) → nss.Pairwise fun a b => TS.code B a ≤ TS.code B b
  | _, [], _, _ => .nil
  | y :: ys, n :: nss, .cons h r, hp => by
    obtain ⟨h1, h2⟩ := List.pairwise_cons.mp hp
    refine List.pairwise_cons.mpr ⟨fun m hm => ?_, pw_tI e r h2⟩
    obtain ⟨j, hj⟩ := List.getElem?_of_mem hm
    have hj' : (nss.map tI)[j]? = some (tI m) := by rw [List.getElem?_map, hj]; rfl
    obtain ⟨v, hv, rv⟩ := r.get hj'
    exact h1 v (List.mem_of_getElem? hv) n m (rp_tI e h) (rp_tI e rv)
theorem de_srtT {d : Nat} {B : Int} {nss : List (List Int)} (hd : 1 ≤ d) (hm : X.mg "sorted" = none) (hb : ∀ ns ∈ nss, ns.length = d ∧ TS.Bd B ns) (ha : DE T X e ρ O (.lst (nss.map tI)) O1) (hv : bootBuiltins "sorted" = some (.builtin "sorted") := by decide +kernel) (hg : Gl X "sorted" := by rfl) (he : starEach [e] X.env = (false, eval e X.env) :: starEach [] X.env := by rfl) :
    DE T X (.Call (.Name "sorted" p0) [e] [] pos) ρ O (.lst ((srtT B nss).map tI)) O1 :=
  de_B (cr_srtT (d := d) (B := B) hd) (da_one ha.dv he) (fun vs C H hA hv Q q => by
    obtain ⟨v, rfl, r⟩ := args1 hv
    cases (show Rp X.K C v (.lst (nss.map tI)) from r) with
    | lst h r =>
      refine ⟨_, _, rfl, SqL.of (hA.base _ _ h), fun x hx => ?_, fun ys l hp hs hl => ?_⟩
      · obtain ⟨j, hj⟩ := List.getElem?_of_mem hx
        obtain ⟨dd, h1, h2⟩ := r.getV hj
        rw [List.getElem?_map] at h1
        cases hn : nss[j]? with
        | none => rw [hn] at h1; cases h1
        | some ns =>
          rw [hn] at h1
          cases h1
          exact ⟨ns, rp_tI hA.base h2, hb ns (List.mem_of_getElem? hn)⟩
      · obtain ⟨es, p, r'⟩ := RpAll.permL hp r
        obtain ⟨nss', p', rfl⟩ := of_map_perm p
        have hs' := pw_tI hA.base r' hs
        have e := srtT_eq hb p' hs'
        subst e
        exact q _ _ _ (Post.made (o := .lst _) hA hl) (.lst upd_same (r'.mono (Post.made (o := .lst _) hA hl).bb))) hm hv hg (by decide) (by decide) he
end
end Dz

/-! more rules over data: dicts with int keys, two for in a comprehension, tuple.index, insert, copies that are owned, is of bools -/
namespace Dz
open PySem PySem.Spec PyProof.Rows L2 GxR
section
variable {T : List Addr} {X : Cx} {CE : Addr} {ρ : List Slot} {O O1 O2 O3 : OH} {e a b : Expr} {pos pos' p0 : Pos} {d x y : D} {s : Slot} {ss : List Slot} {ds : List D} {E : DEn} {body : List Stmt} {ks : List (Option Expr)} {vs : List Expr} {kd : List (Key × D)}
/-! ### what is owned is forgotten -/
theorem ds_forget (c : Addr) (h : DS T X CE body ρ (cut O c) E) : DS T X CE body ρ O E := .mk fun σ B H hE hA Dn W tk l => by
  have p : Post T X.K B O H B (cut O c) H := (Post.refl hA).forget c
  exact h σ B H hE p.at' Dn W tk (l.step p)
/-! ### is, is not of bools -/
theorem de_isB {p q : Bool} (ha : DE T X a ρ O (.bl p) O1) (hb : DE T X b ρ O1 (.bl q) O2) : DE T X (.Compare a [.Is] [b] pos) ρ O (.bl (decide (p = q))) O2 :=
  de_cmp op_isBl (nomark _) ha hb fun v w B H hA rv rw' Q k => by
    cases rv
    cases rw'
    exact ⟨p, q, rfl, rfl, k _ B H (Post.refl hA) (.bl _)⟩
theorem dt_isB {p q : Bool} (ha : DE T X a ρ O (.bl p) O1) (hb : DE T X b ρ O1 (.bl q) O2) : DT T X (.Compare a [.Is] [b] pos) ρ O (decide (p = q)) O2 :=
  dt_cmp op_isBl (nomark _) ha hb fun v w B H hA rv rw' Q k => by
    cases rv
    cases rw'
    exact ⟨p, q, rfl, rfl, k _ B H (Post.refl hA) (.bl _)⟩
theorem dt_isnotB {p q : Bool} (ha : DE T X a ρ O (.bl p) O1) (hb : DE T X b ρ O1 (.bl q) O2) : DT T X (.Compare a [.IsNot] [b] pos) ρ O (!decide (p = q)) O2 :=
  dt_cmp op_notBl (nomark _) ha hb fun v w B H hA rv rw' Q k => by
    cases rv
    cases rw'
    exact ⟨p, q, rfl, rfl, k _ B H (Post.refl hA) (.bl _)⟩
/-! ### dicts -/
/-- a key told by any expression -/
theorem dp_key {k : Key} {kx : D} (hk : ∀ B v, Rp X.K B v kx → v = kV k) (h1 : DE T X a ρ O kx O1) (he : DE T X e ρ O1 d O2) (hr : DP T X pos ks vs ρ O2 kd O3) : DP T X pos (some a :: ks) (e :: vs) ρ O ((k, d) :: kd) O3 := by
  obtain ⟨trs, hp, hq⟩ := hr
  refine ⟨(WE X a, WE X e) :: trs, pps_cons pe_we pe_we hp, fun σ B H hE hA Q q => ?_⟩
  show WE X a σ H fun y H1 => WE X e σ H1 fun z H2 => tPairs trs σ H2 fun ps H3 => Q ((y, z) :: ps) H3
  refine h1 σ B H hE hA _ fun u B0 H0 p0 r0 => ?_
  have eu := hk B0 u r0
  subst eu
  refine he σ B0 H0 (hE.mono p0.bb) p0.at' _ fun v B1 H1 p1 r1 => hq σ B1 H1 ((hE.mono p0.bb).mono p1.bb) p1.at' _ fun kvs B2 H2 p2 r2 => ?_
  exact q ((k, v) :: kvs) B2 H2 ((p0.trans p1).trans p2) (.cons (r1.mono p2.bb) r2)
theorem keyI {K : PySem.W.Frag} {i : Int} : ∀ (B : Hp) (v : V), Rp K B v (.int i) → v = kV (.inl i) := fun B v r => by
  cases r
  rfl
theorem keyS {K : PySem.W.Frag} {i : Str} : ∀ (B : Hp) (v : V), Rp K B v (.str i) → v = kV (.inr i) := fun B v r => by
  cases r
  rfl
theorem KsOk.of {K : PySem.W.Frag} {B : Hp} : ∀ {kvs : List (Key × V)} {kd : List (Key × D)}, RpKs K B kvs kd → KsOk K B kvs (kd.map fun q => (q.1, .dat q.2))
  | _, _, .nil => .nil
  | _, _, .cons h r => .cons h (KsOk.of r)
/-- a dict display given to a name, owned -/
theorem d1_ownDic (i : Nat) {n : Str} (hd : DP T X pos ks vs ρ O kd O1) (h : ∀ p, O1 p = none → E.nx (ρ.set i (.val (.ref p))) (put O1 p (.dic (kd.map fun q => (q.1, .dat q.2))))) (hN : X.N.Nodup) (hn : (kd.map (·.1)).Nodup) (hl : kd.length ≤ 15) (hall : ks.all (·.isSome) = true := by rfl) (hkv : ks.length = vs.length := by rfl) (h0 : ks ≠ [] := by exact fun z => by cases z) (h15 : ks.length ≤ 15 := by decide)
    (hi : X.N[i]? = some n := by rfl) (hx : Loc X.env.scope n := by first | exact Or.inl rfl | exact Or.inr rfl) (hs : swapsWith (.Dict ks vs pos) (some (.Name n p0)) pos'.line X.env = pure false := by rfl)
    (hf : X.fn n = true ∨ X.env.scope.names.lookup n = some .local := by first | exact .inl rfl | exact .inr rfl) : D1 T X CE (.Assign [.Name n p0] (.Dict ks vs pos) pos') ρ O E := by
  obtain ⟨trs, hp, hq⟩ := hd
  refine .mk fun σ B H hE hA Dn W tk l => ws_of (ps_set hN hi hx (pe_disp hp hall hkv h0 h15) hs hf) ?_
  intro p np
  have q0 := Post.laid (o := .dK []) hA np
  refine hq σ B _ hE q0.at' _ fun kvs B1 H1 p1 r1 => ?_
  have nb : B p = none := hA.noB np
  have no : O p = none := hA.noO np
  have hp1 : upd H p (.dK []) p ≠ none := by rw [upd_same]; exact fun z => by cases z
  have b1 : B1 p = none := (p1.new p hp1 no).trans nb
  have o1 : O1 p = none := p1.keepO hp1 no
  have h1 : H1 p = some (.dK []) := p1.fr p _ upd_same no (hA.newT np)
  refine ⟨h1, kvs, rfl, by rw [RpKs.length r1]; exact hl, ?_⟩
  have em : mergeK [] kvs = kvs := by rw [mergeK_app kvs [] (by rw [List.nil_append, RpKs.keys r1]; exact hn)]; rfl
  rw [em]
  have p2 := Post.over (o := .dK kvs) hA np (q0.trans p1) b1 o1
  have hpo : Post T X.K B O H B1 (put O1 p (.dic (kd.map fun q => (q.1, .dat q.2)))) (upd H1 p (.dK kvs)) :=
    { at' :=
        { base := p2.at'.base
          own := fun c o e => by
            by_cases z : c = p
            · subst z
              rw [put_same] at e
              cases e
              exact ⟨b1, _, upd_same, KsOk.of r1⟩
            · rw [put_ne z] at e
              exact p2.at'.own c o e
          nt := fun P hP => by
            have z : P ≠ p := fun z => hA.newT np (by rw [← z]; exact hP)
            rw [put_ne z]
            exact p2.at'.nt P hP
          tabs := p2.at'.tabs }
      bb := p2.bb
      new := p2.new
      own := fun c hc => by
        by_cases z : c = p
        · subst z
          exact .inr np
        · rw [put_ne z] at hc
          exact p2.own c hc
      fr := p2.fr
      dom := p2.dom }
  exact l.nx _ _ _ B1 _ (h p o1) hpo ((hE.mono p2.bb).set (s := .val (.ref p)) (show SlotOk X.K B1 (some (.ref p)) (.val (.ref p)) from rfl) i)
/-- a key's slot stored -/
def putKS (ss : List (Key × Slot)) (k : Key) (s : Slot) : List (Key × Slot) :=
  if (ss.any fun kv => decide (kv.1 = k)) = true then ss.map (fun kv => if kv.1 = k then (kv.1, s) else kv) else ss ++ [(k, s)]
theorem KsOk.any {K : PySem.W.Frag} {B : Hp} (k : Key) : ∀ {kvs : List (Key × V)} {ss : List (Key × Slot)}, KsOk K B kvs ss → (kvs.any fun kv => decide (kv.1 = k)) = ss.any fun kv => decide (kv.1 = k)
  | _, _, .nil => rfl
  | _, _, .cons _ r => by
    rw [List.any_cons, List.any_cons, KsOk.any k r]
theorem KsOk.map {K : PySem.W.Frag} {B : Hp} {k : Key} {v : V} {s : Slot} (h : SlotOk K B (some v) s) : ∀ {kvs : List (Key × V)} {ss : List (Key × Slot)}, KsOk K B kvs ss → KsOk K B (kvs.map fun kv => if kv.1 = k then (kv.1, v) else kv) (ss.map fun kv => if kv.1 = k then (kv.1, s) else kv)
  | _, _, .nil => .nil
  | _, _, .cons (f := f) q r => by
    rw [List.map_cons, List.map_cons]
    by_cases z : f = k
    · rw [if_pos z, if_pos z]
      exact .cons h (KsOk.map h r)
    · rw [if_neg z, if_neg z]
      exact .cons q (KsOk.map h r)
theorem KsOk.snoc {K : PySem.W.Frag} {B : Hp} {k : Key} {v : V} {s : Slot} (h : SlotOk K B (some v) s) : ∀ {kvs : List (Key × V)} {ss : List (Key × Slot)}, KsOk K B kvs ss → KsOk K B (kvs ++ [(k, v)]) (ss ++ [(k, s)])
  | _, _, .nil => .cons h .nil
  | _, _, .cons q r => .cons q (KsOk.snoc h r)
theorem KsOk.put {K : PySem.W.Frag} {B : Hp} {k : Key} {v : V} {s : Slot} (h : SlotOk K B (some v) s) {kvs : List (Key × V)} {ss : List (Key × Slot)} (r : KsOk K B kvs ss) : KsOk K B (putK kvs k v) (putKS ss k s) := by
  unfold putK putKS
  rw [KsOk.any k r]
  split
  · exact KsOk.map h r
  · exact KsOk.snoc h r
/-- x[b] = e, x an owned dict -/
theorem d1_dput (i : Nat) {n : Str} {c : Addr} {k : Key} {kx : D} {j : Nat} {so : List (Key × Slot)} {npos spos : Pos} (hr : Room j X.A) (hi : ρ[i]? = some (.val (.ref c))) (he : DV T X e ρ O s O1) (hb : DE T X b ρ O1 kx O2) (hk : ∀ B v, Rp X.K B v kx → v = kV k) (ho : O2 c = some (.dic so)) (hl : so.length < 10000) (h : E.nx ρ (put O2 c (.dic (putKS so k s))))
    (pn : PE X (.Name n npos) (tVar i) := by exact pv _) (hs : swapsWith e (some (.Subscript (.Name n npos) b spos)) pos.line X.env = pure false := by rfl) : D1 T X CE (.Assign [.Subscript (.Name n npos) b spos] e pos) ρ O E := .mk fun σ B H hE hA Dn W tk l => by
  refine ws_of (ps_dput (hu_of hr) pn pe_we pe_we hs) ?_
  refine he σ B H hE hA _ fun w B1 H1 p1 r1 => ?_
  obtain ⟨o, e1, e2⟩ := (hE.mono p1.bb).get hi
  cases o with
  | none => exact e2.elim
  | some v =>
    have ev : v = .ref c := e2
    subst ev
    refine ⟨_, e1, ?_⟩
    refine hb σ B1 H1 (hE.mono p1.bb) p1.at' _ fun iv B2 H2 p2 r2 => ?_
    have ei := hk B2 iv r2
    subst ei
    obtain ⟨_, u, hu, ok⟩ := p2.at'.own c _ ho
    cases u <;> try exact ok.elim
    rename_i kvs
    have ok' : KsOk X.K B2 kvs so := ok
    have po := Post.put (u := .dK (putK kvs k w)) (od := .dic (putKS so k s)) p2.at' ho (KsOk.put (r1.mono p2.bb) ok')
    exact ⟨c, _, rfl, DPut.k hu (by rw [ok'.length]; exact Nat.lt_of_lt_of_le hl (by decide)), l.nx _ _ _ B2 _ h ((p1.trans p2).trans po) ((hE.mono p1.bb).mono p2.bb)⟩
/-- the owned dict becomes data -/
theorem ds_freezeDic (i : Nat) {c : Addr} (hi : ρ[i]? = some (.val (.ref c))) (ho : O c = some (.dic (kd.map fun q => (q.1, .dat q.2)))) (h : DS T X CE body (ρ.set i (.dat (.dic kd))) (cut O c) E) : DS T X CE body ρ O E := .mk fun σ B H hE hA Dn W tk l => by
  obtain ⟨_, u, hu, ok⟩ := hA.own c _ ho
  cases u <;> try exact ok.elim
  rename_i kvs
  have po := Post.freeze hA ho hu
  obtain ⟨o, e1, e2⟩ := hE.get hi
  have hE' := (hE.mono po.bb).set (o := some (.ref c)) (s := .dat (.dic kd)) (show SlotOk X.K (upd B c (.dK kvs)) (some (.ref c)) (.dat (.dic kd)) from .dic upd_same (RpKs.mono po.bb (KsOk.all ok))) i
  have eo : o = some (.ref c) := by
    cases o with
    | none => exact e2.elim
    | some v => exact congrArg some e2
  subst eo
  have es : σ.set i (some (.ref c)) = σ := set_same e1
  rw [es] at hE'
  exact h σ _ H hE' po.at' Dn W tk (l.step po)
theorem de_dgetI {k : Nat} {i : Int} (hr : Room k X.A) (ha : DE T X a ρ O (.dic kd) O1) (hb : DE T X b ρ O1 (.int i) O2) (h : (kd.find? fun kv => decide (kv.1 = (.inl i : Key))).map (·.2) = some d) (hs : NoSl b := by intro _ _; rfl) : DE T X (.Subscript a b pos) ρ O d O2 :=
  de_dget hr ha hb keyI h hs
/-! ### tuple.index of texts, a module's constant -/
def ndB (K : PySem.W.Frag) : Value → Bool
  | .ref c => match K.lookup c with
    | some ⟨.type t, none, _, _⟩ => decide (t = "tuple")
    | _ => false
  | _ => false
abbrev rTI (K : PySem.W.Frag) : V → List V → Hp → VK → Prop := fun x xs H Q => ∃ p, ∃ ys : List Str, ∃ z j, x = .ref p ∧ xs = [.str z] ∧ SqT K H p (ys.map V.str) ∧ ys[j]? = some z ∧ (∀ m, m < j → ys[m]? ≠ some z) ∧ Q (.int (j : Nat)) H
theorem de_tindex {ws : List Str} {z : Str} {j n : Nat} {nm : Str} {c : Addr} {apos npos : Pos} (hm : X.mg nm = some (.ref c)) (hk : kdB X.K (n + 1) (.ref c) (.tup (ws.map .str)) = true) (hn : ndB X.K (.ref c) = true) (hb : DE T X b ρ O (.str z) O2) (hj : ws[j]? = some z) (hno : ∀ m, m < j → ws[m]? ≠ some z) (hg : Gl X nm := by rfl) (hd : (nm == ("__debug__" : Str)) = false := by decide)
    (pe : PE X (.Call (.Attribute (.Name nm npos) "index" apos) [b] [] pos) (tBM X.K "tuple" (rTI X.K) (tC (.ref c)) (tCons (WE X b) tNil)) := by exact pe_bm PySem.F.plainAttrs_tuple PySem.F.slot_tuple_index PySem.F.type_tuple_index mt_tup_index (pe_glob (by rfl) (by assumption) (show RelV (.ref _) (.ref _) from rfl) (by decide)) (pa_cons pe_we pa_nil)) :
    DE T X (.Call (.Attribute (.Name nm npos) "index" apos) [b] [] pos) ρ O (.int (j : Int)) O2 := by
  obtain ⟨v, r, g⟩ := kdB_ok _ _ _ hk
  unfold ndB at hn
  dsimp only at hn
  split at hn
  · rename_i t dt sl hkl
    have ht := of_decide_eq_true hn
    subst ht
    have ev : v = .ref c := by
      cases (g (fun _ => none)) with
      | tup h0 r0 => cases r; rfl
    subst ev
    refine de_of pe fun σ B H hE hA Q q => ?_
    refine ⟨.inr (.inl ⟨rfl, _, hkl, rfl, rfl⟩), ?_⟩
    refine hb σ B H hE hA _ fun w B2 H2 p2 r2 => ?_
    cases r2
    cases (g B2) with
    | tup h r =>
      have e := rp_strs r
      subst e
      exact ⟨_, ws, z, j, rfl, rfl, same_t p2.at'.base h, hj, hno, q _ B2 H2 p2 (.int _)⟩
  · cases hn
/-! ### x.insert(k, e), x owned -/
abbrev rIns : V → List V → Hp → VK → Prop := fun x vs H Q => ∃ (l : Addr) (xs : List V) (i : Int) (y : V), x = .ref l ∧ vs = [.int i, y] ∧ H l = some (.lst xs) ∧ xs.length < sizeLine ∧ 0 ≤ i ∧ i < 2 ^ 63 ∧ Q .non (upd H l (.lst (xs.take i.toNat ++ [y] ++ xs.drop i.toNat)))
theorem d1_insert (i : Nat) {n : Str} {c : Addr} {k : Nat} {apos npos : Pos} (hi : ρ[i]? = some (.val (.ref c))) (h0 : O c = some (.lst ss)) (hb : DE T X b ρ O (.int (k : Int)) O) (he : DV T X e ρ O s O1) (ho : O1 c = some (.lst ss)) (hk : k < 1000) (hl : ss.length < 100000) (h : E.nx ρ (put O1 c (.lst (ss.take k ++ [s] ++ ss.drop k))))
    (pe : PE X (.Call (.Attribute (.Name n npos) "insert" apos) [b, e] [] pos) (tBM X.K "list" rIns (tVar i) (tCons (WE X b) (tCons (WE X e) tNil))) := by exact pe_bm PySem.F.plainAttrs_list PySem.F.slot_list_insert PySem.F.type_list_insert mt_insert (pv _) (pa_cons pe_we (pa_cons pe_we pa_nil)))
    (hs : swapsWith (.Call (.Attribute (.Name n npos) "insert" apos) [b, e] [] pos) none pos'.line X.env = pure false := by rfl) :
    D1 T X CE (.Expr (.Call (.Attribute (.Name n npos) "insert" apos) [b, e] [] pos) pos') ρ O E := .mk fun σ B H hE hA Dn W tk l => by
  refine ws_of (ps_expr pe hs) ?_
  obtain ⟨o, e1, e2⟩ := hE.get hi
  cases o with
  | none => exact e2.elim
  | some v =>
    have ev : v = .ref c := e2
    subst ev
    obtain ⟨_, u0, hu0, ok0⟩ := hA.own c _ h0
    cases u0 <;> try exact ok0.elim
    refine ⟨_, e1, .inl ⟨rfl, _, SqL.of hu0⟩, ?_⟩
    refine hb σ B H hE hA _ fun iv B1 H1 p1 r1 => ?_
    cases r1
    refine he σ B1 H1 (hE.mono p1.bb) p1.at' _ fun w B2 H2 p2 r2 => ?_
    obtain ⟨_, u, hu, ok⟩ := p2.at'.own c _ ho
    cases u <;> try exact ok.elim
    rename_i vs
    have ok' : Args X.K B2 vs ss := ok
    have lv : vs.length = ss.length := Args.length ok'
    have tk1 : ∀ (m : Nat) {vs : List V} {ss : List Slot}, Args X.K B2 vs ss → Args X.K B2 (vs.take m) (ss.take m) ∧ Args X.K B2 (vs.drop m) (ss.drop m) := by
      intro m
      induction m with
      | zero => intro vs ss a; exact ⟨.nil, a⟩
      | succ m ih =>
        intro vs ss a
        cases a with
        | nil => exact ⟨.nil, .nil⟩
        | cons h r => exact ⟨.cons h (ih r).1, (ih r).2⟩
    obtain ⟨t1, t2⟩ := tk1 k ok'
    have po := Post.put (u := .lst (vs.take k ++ [w] ++ vs.drop k)) (od := .lst (ss.take k ++ [s] ++ ss.drop k)) p2.at' ho (Args.append (Args.append t1 (.cons r2 .nil)) t2)
    exact ⟨c, vs, (k : Int), w, rfl, rfl, hu, by rw [lv]; exact Nat.lt_of_lt_of_le hl (by decide), by omega, by omega, l.nx _ _ _ B2 _ h ((p1.trans p2).trans po) ((hE.mono p1.bb).mono p2.bb)⟩
/-! ### x = list(e), owned -/
theorem d1_ownList (i : Nat) {n : Str} (hm : X.mg "list" = none) (he : DE T X e ρ O x O1) (hx : x = .lst ds ∨ x = .tup ds) (h : ∀ p, O1 p = none → E.nx (ρ.set i (.val (.ref p))) (put O1 p (.lst (ds.map .dat)))) (hN : X.N.Nodup) (hi : X.N[i]? = some n := by rfl) (hl : Loc X.env.scope n := by first | exact Or.inl rfl | exact Or.inr rfl) (hg : Gl X "list" := by rfl)
    (hst : starEach [e] X.env = (false, eval e X.env) :: starEach [] X.env := by rfl) (hpl : (backTo pos (starEach [] X.env)).any (·.1) = false := by rfl)
    (hf : X.fn n = true ∨ X.env.scope.names.lookup n = some .local := by first | exact .inl rfl | exact .inr rfl) {pos2 : Pos} (hs2 : swapsWith (.Call (.Name "list" p0) [e] [] pos) (some (.Name n pos')) pos2.line X.env = pure false := by rfl) : D1 T X CE (.Assign [.Name n pos'] (.Call (.Name "list" p0) [e] [] pos) pos2) ρ O E := .mk fun σ B H hE hA Dn W tk l => by
  refine ws_of (ps_set hN hi hl (pe_callTy call_list_of hg hm boot_list (pa_cons pe_we pa_nil hst) (by decide) (by decide) hst hpl) hs2 hf) ?_
  refine he σ B H hE hA _ fun v B1 H1 p1 r1 => ?_
  have go : ∀ {c : Addr} {xs : List V}, (SqL X.K H1 c xs ∨ SqT X.K H1 c xs) → RpAll X.K B1 xs ds → v = .ref c → ∃ p items, [v] = [V.ref p] ∧ (SqL X.K H1 p items ∨ SqT X.K H1 p items) ∧ ∀ q, H1 q = none → Dn.nx (σ.set i (some (.ref q))) (upd H1 q (.lst items)) := by
    intro c xs hq r ev
    subst ev
    refine ⟨c, xs, rfl, hq, fun q nq => ?_⟩
    have po := Post.madeO (o := .lst xs) (od := .lst (ds.map .dat)) p1.at' nq (Args.of r)
    exact l.nx _ _ _ B1 _ (h q (p1.at'.noO nq)) (p1.trans po) ((hE.mono p1.bb).set (s := .val (.ref q)) (show SlotOk X.K B1 (some (.ref q)) (.val (.ref q)) from rfl) i)
  rcases hx with rfl | rfl
  · cases r1 with
    | lst hq r => exact go (.inl (SqL.of (p1.at'.base _ _ hq))) r rfl
  · cases r1 with
    | tup hq r => exact go (.inr (same_t p1.at'.base hq)) r rfl
end
end Dz

/-! [e for a, b in x for c in range(n)], pure -/
namespace Dz
open PySem PySem.Spec PyProof.Rows L2 GxR
theorem wipe_get {σ : L2.St} {vs : List Nat} (j : Nat) : (wipe σ vs)[j]? = if j ∈ vs then (if j < σ.length then some none else none) else σ[j]? := by
  induction vs with
  | nil => rfl
  | cons v vs ih =>
    show ((wipe σ vs).set v none)[j]? = _
    rw [List.getElem?_set]
    by_cases h : v = j
    · subst h
      rw [if_pos rfl, wipe_length, if_pos List.mem_cons_self]
    · rw [if_neg h, ih]
      have e : (j ∈ v :: vs) ↔ j ∈ vs := ⟨fun z => (List.mem_cons.mp z).resolve_left (fun q => h q.symm), List.mem_cons_of_mem _⟩
      by_cases hj : j ∈ vs
      · rw [if_pos hj, if_pos (e.mpr hj)]
      · rw [if_neg hj, if_neg (fun z => hj (e.mp z))]
theorem wipe_set {σ : L2.St} {vs : List Nat} {i : Nat} {x : Option V} (h : i ∈ vs) : wipe (σ.set i x) vs = wipe σ vs := by
  refine List.ext_getElem? fun j => ?_
  rw [wipe_get, wipe_get, List.length_set]
  by_cases hj : j ∈ vs
  · rw [if_pos hj, if_pos hj]
  · rw [if_neg hj, if_neg hj, List.getElem?_set_ne (fun z => hj (by rw [← z]; exact h))]
theorem wipe_wipe {σ : L2.St} {vs ws : List Nat} (h : ∀ i ∈ ws, i ∈ vs) : wipe (wipe σ ws) vs = wipe σ vs := by
  refine List.ext_getElem? fun j => ?_
  rw [wipe_get, wipe_get, wipe_get, wipe_length]
  by_cases hj : j ∈ vs
  · rw [if_pos hj, if_pos hj]
  · rw [if_neg hj, if_neg hj, if_neg (fun z => hj (h j z))]
/-- the list so far, nothing else changed -/
def LcE (T : List Addr) (K : PySem.W.Frag) (B : Hp) (O : OH) (H : Hp) (a : Addr) (acc : List D) (H' : Hp) : Prop :=
  ∃ B' xs, Post T K B O H B' O H' ∧ B' a = none ∧ O a = none ∧ H' a = some (.lst xs) ∧ RpAll K B' xs acc
/-- .. and Bs stands -/
def LcS (T : List Addr) (K : PySem.W.Frag) (B : Hp) (O : OH) (H : Hp) (Bs : Hp) (a : Addr) (acc : List D) (H' : Hp) : Prop :=
  ∃ B' xs, Same Bs B' ∧ Post T K B O H B' O H' ∧ B' a = none ∧ O a = none ∧ H' a = some (.lst xs) ∧ RpAll K B' xs acc
section
variable {T : List Addr} {X : Cx} {scope : Scope} {ρ : List Slot} {O O1 : OH} {elt iter e1 : Expr} {ds : List D} {es : List Expr} {np pos tp rp pos' : Pos} {n1 n2 n3 : Str} {i1 i2 i3 k : Nat}
theorem LcE.start {K : PySem.W.Frag} {B H : Hp} {a : Addr} (hA : At T K B O H) (n : H a = none) : LcE T K B O H a [] (upd H a (.lst [])) :=
  ⟨B, [], Post.over hA n (Post.refl hA) (hA.noB n) (hA.noO n), hA.noB n, hA.noO n, upd_same, .nil⟩
theorem LcE.fin {K : PySem.W.Frag} {B H H' : Hp} {a : Addr} {out : List D} {Q : VK} (hA : At T K B O H) (n : H a = none) (h : LcE T K B O H a out H') (q : ∀ v B' H', Post T K B O H B' O H' → Rp K B' v (.lst out) → Q v H') : Q (.ref a) H' := by
  obtain ⟨B', xs, h2, h3, h4, h5, h6⟩ := h
  have po := Post.ice hA n h2 h3 h4 h5
  exact q (.ref a) _ H' po (.lst upd_same (h6.mono fun c w q => by
    have zc : c ≠ a := fun zc => by
      rw [zc, h3] at q
      cases q
    rw [upd_ne zc]
    exact q))
/-- a piece within the block, that owns nothing new -/
theorem LcE.piece {K : PySem.W.Frag} {B H H' H2 B' B2 : Hp} {a : Addr} {xs : List V} {acc : List D} (hA : At T K B O H) (n : H a = none) (h2 : Post T K B O H B' O H') (h3 : B' a = none) (h4 : O a = none) (h5 : H' a = some (.lst xs)) (h6 : RpAll K B' xs acc) (p2 : Post T K B' O H' B2 O H2) : B2 a = none ∧ H2 a = some (.lst xs) ∧ RpAll K B2 xs acc := by
  have ha : H' a ≠ none := by rw [h5]; exact fun z => by cases z
  exact ⟨by rw [p2.new a ha h4]; exact h3, p2.fr a _ h5 h4 (hA.newT n), h6.mono p2.bb⟩
theorem de_lc2 (F : D → D → Nat → D) (m : Nat) (hm : m ≤ 1000) (hl : ds.length ≤ 100) (he : DE T X iter ρ O (.lst ds) O1) (hpair : ∀ d ∈ ds, ∃ x y, d = .tup [x, y]) (hN : X.N.Nodup) (ok : BlkOk X.N X.env.scope scope [(n1, i1), (n2, i2), (n3, i3)])
    (hnm : ∀ (s : Shared) (H : Hp) (C : Addr) (cl : List (Str × Addr)) (fp : List Addr), Names (blkX X scope s H C cl fp) es [i1, i2])
    (hr1 : ∀ x y, .tup [x, y] ∈ ds → DEb T X scope e1 ((((((ρ.set i3 .no).set i2 .no).set i1 .no).set i1 (.dat x)).set i2 (.dat y))) O1 (.int (m : Int)) O1)
    (hel : ∀ x y j, .tup [x, y] ∈ ds → j < m → DEb T X scope elt ((((((((ρ.set i3 .no).set i2 .no).set i1 .no).set i1 (.dat x)).set i2 (.dat y)).set i3 .no)).set i3 (.dat (.int (j : Int)))) O1 (F x y j) O1)
    (hmg : X.mg "range" = none) (hd : i1 ≠ i2 ∧ i1 ≠ i3 ∧ i2 ≠ i3 := by decide) (hi : X.N[i3]? = some n3 := by rfl)
    (hgl : ∀ (s : Shared) (H : Hp) (C : Addr) (cl : List (Str × Addr)) (fp : List Addr), Gl (blkX X scope s H C cl fp) "range" := by exact fun _ _ _ _ _ => rfl)
    (hx : ∀ (s : Shared) (H : Hp) (C : Addr) (cl : List (Str × Addr)) (fp : List Addr), Loc (blkX X scope s H C cl fp).env.scope n3 := by first | exact fun _ _ _ _ _ => Or.inl rfl | exact fun _ _ _ _ _ => Or.inr rfl)
    (hf : ∀ (s : Shared) (H : Hp) (C : Addr) (cl : List (Str × Addr)) (fp : List Addr), (blkX X scope s H C cl fp).fn n3 = true ∨ (blkX X scope s H C cl fp).env.scope.names.lookup n3 = some .local := by first | exact fun _ _ _ _ _ => .inl rfl | exact fun _ _ _ _ _ => .inr rfl)
    (hst : ∀ (s : Shared) (H : Hp) (C : Addr) (cl : List (Str × Addr)) (fp : List Addr), starEach [e1] (blkX X scope s H C cl fp).env = [(false, eval e1 (blkX X scope s H C cl fp).env)] := by exact fun _ _ _ _ _ => rfl)
    (g1 : ∀ (s : Shared) (H : Hp) (C : Addr) (cl : List (Str × Addr)) (fp : List Addr), (assignEach es (blkX X scope s H C cl fp).env).length = 2 := by exact fun _ _ _ _ _ => rfl) (g2 : ∀ (s : Shared) (H : Hp) (C : Addr) (cl : List (Str × Addr)) (fp : List Addr), (assignEach es (blkX X scope s H C cl fp).env).findIdx? (·.1) = none := by exact fun _ _ _ _ _ => rfl)
    (hc : X.calm = true := by rfl) (hs : ∀ x, foldedSetIterable iter X.env x = pure x := by intro _; rfl) (hs1 : ∀ env x, foldedSetIterable (.Call (.Name "range" rp) [e1] [] pos') env x = pure x := by intro _ _; rfl) :
    DE T X (.ListComp elt [⟨.Tuple es k tp, iter, [], 0⟩, ⟨.Name n3 np, .Call (.Name "range" rp) [e1] [] pos', [], 0⟩] scope pos) ρ O (.lst (ds.flatMap fun d => match d with | .tup [x, y] => (List.range m).map (F x y) | _ => [])) O1 := by
  refine de_of (pe_lc2 (own := [(n1, i1), (n2, i2), (n3, i3)]) (vs1 := [i3]) (g := gTup X.K 2 fun vs σ H Q => vs.length = [i1, i2].length ∧ Q (List.foldl (fun σ (p : Nat × V) => σ.set p.1 (some p.2)) σ ([i1, i2].zip vs)) H) hc hN (pi_list pe_we) ok (by simp) (fun s H C cl fp => pg_tup (X := blkX X scope s H C cl fp) hc (pgs_names (X := blkX X scope s H C cl fp) hN (hnm s H C cl fp)) (g1 s H C cl fp) (g2 s H C cl fp)) (fun s H C cl fp => pts_nil)
    (fun s H C cl fp => pi_range1 (X := blkX X scope s H C cl fp) (hgl s H C cl fp) hmg (pa_cons (peb s H C cl fp) pa_nil (hst s H C cl fp)) (hst s H C cl fp)) (fun s H C cl fp => pg_name (X := blkX X scope s H C cl fp) hN hi (hx s H C cl fp) (hf s H C cl fp)) (fun s H C cl fp => pts_nil) peb hs hs1) fun σ B H hE hA Q q => ?_
  refine he σ B H hE hA _ fun v B1 H1 p1 r1 => ?_
  obtain ⟨d12, d13, d23⟩ := hd
  cases r1 with
  | lst hq r =>
    rename_i l xs
    have hA1 := p1.at'
    refine ⟨l, rfl, ⟨xs, SqL.of (hA1.base _ _ hq)⟩, fun a na => ?_⟩
    let G : D → List D := fun d => match d with | .tup [x, y] => (List.range m).map (F x y) | _ => []
    have lenG : ∀ d, (G d).length ≤ m := fun d => by
      show (match d with | .tup [x, y] => (List.range m).map (F x y) | _ => []).length ≤ m
      split
      · simp
      · simp
    have lenF : ∀ ds' : List D, (ds'.flatMap G).length ≤ ds'.length * m := by
      intro ds'
      induction ds' with
      | nil => simp
      | cons d ds' ih =>
        rw [List.flatMap_cons, List.length_append, List.length_cons, Nat.add_mul, Nat.one_mul]
        have := lenG d
        omega
    refine ⟨fun i mm H' => mm = ds.length - i ∧ i ≤ ds.length ∧ LcE T X.K B1 O1 H1 a ((ds.take i).flatMap G) H', ⟨ds.length, by simp, Nat.zero_le _, LcE.start hA1 na⟩, ?_⟩
    rintro i mm Hc ⟨rfl, hile, hl'⟩
    have hl0 := hl'
    obtain ⟨B', ys, h2, h3, h4, h5, h6⟩ := hl'
    have hql : SqL X.K Hc l xs := SqL.of (h2.at'.base _ _ (h2.bb _ _ hq))
    by_cases hlt : i < ds.length
    · refine .inr ⟨⟨xs, xs[i]'(by rw [r.length]; exact hlt), hql, by simp [r.length, hlt]⟩, fun H'' => LcE T X.K B1 O1 H1 a ((ds.take (i + 1)).flatMap G) H'', fun H'' h => ⟨ds.length - (i + 1), by omega, rfl, hlt, h⟩, fun y H'' hy => ?_⟩
      obtain ⟨eH, hy⟩ := hy
      subst eH
      obtain ⟨d, hd1, hd2⟩ := r.getV (hy xs hql)
      have hdm := List.mem_of_getElem? hd1
      obtain ⟨u, w, rfl⟩ := hpair d hdm
      have et : (ds.take (i + 1)).flatMap G = (ds.take i).flatMap G ++ G (.tup [u, w]) := by
        rw [List.take_add_one, hd1, List.flatMap_append]
        simp
      cases hd2 with
      | tup ht rt =>
        rename_i tt ts
        cases rt with
        | cons ru rt =>
          cases rt with
          | cons rw' rt =>
            cases rt
            rename_i vu vw
            refine ⟨tt, [vu, vw], rfl, same_t h2.at'.base (same_t h2.bb ht), rfl, rfl, ?_⟩
            show wipe (((wipe σ [i1, i2, i3]).set i1 (some vu)).set i2 (some vw)) [i1, i2, i3] = wipe σ [i1, i2, i3] ∧ _
            refine ⟨by rw [wipe_set (by simp), wipe_set (by simp), wipe_wipe fun _ h => h], ?_⟩
            have hE0 : Env X.K B1 (wipe σ [i1, i2, i3]) (((ρ.set i3 .no).set i2 .no).set i1 .no) := (((hE.mono p1.bb).wipe1 i3).wipe1 i2).wipe1 i1
            have hE2 : Env X.K B' (((wipe σ [i1, i2, i3]).set i1 (some vu)).set i2 (some vw)) (((((ρ.set i3 .no).set i2 .no).set i1 .no).set i1 (.dat u)).set i2 (.dat w)) :=
              ((hE0.mono h2.bb).set (o := some vu) (s := .dat u) (show SlotOk X.K B' (some vu) (.dat u) from ru.mono h2.bb) i1).set (o := some vw) (s := .dat w) (show SlotOk X.K B' (some vw) (.dat w) from rw'.mono h2.bb) i2
            dsimp only [tYes]
            rw [if_pos rfl]
            show TEb X scope e1 (((wipe σ [i1, i2, i3]).set i1 (some vu)).set i2 (some vw)) _ _
            generalize eσ : ((wipe σ [i1, i2, i3]).set i1 (some vu)).set i2 (some vw) = σ2 at hE2 ⊢
            show TEb X scope e1 σ2 _ _
            have h1 := hr1 u w hdm
            intro s0 H0 C cl fp
            refine h1 s0 H0 C cl fp _ B' _ hE2 h2.at' _ fun vr B3 H3 p3 r3 => ?_
            cases r3
            obtain ⟨k3, k5, k6⟩ := LcE.piece hA1 na h2 h3 h4 h5 h6 p3
            have h23 := h2.trans p3
            refine ⟨(m : Int), rfl, by omega, by omega, ?_⟩
            refine ⟨fun j kk H'' => kk = m - j ∧ j ≤ m ∧ LcS T X.K B1 O1 H1 B' a ((ds.take i).flatMap G ++ (List.range j).map (F u w)) H'', ⟨m, by simp, Nat.zero_le _, B3, ys, p3.bb, h23, k3, h4, k5, by simpa using k6⟩, ?_⟩
            rintro j kk H4 ⟨rfl, hjm, hj⟩
            have hm0 : (m : Int).toNat = m := by omega
            by_cases hjl : j < m
            · refine .inr ⟨by show j < (m : Int).toNat; omega, fun H5 => LcS T X.K B1 O1 H1 B' a ((ds.take i).flatMap G ++ (List.range (j + 1)).map (F u w)) H5, fun H5 h => ⟨m - (j + 1), by omega, rfl, hjl, h⟩, fun yv H5 hy => ?_⟩
              obtain ⟨eH, ey⟩ := hy
              subst eH ey
              obtain ⟨B5, zs, sbb, j2, j3, j4, j5, j6⟩ := hj
              have e0 : (0 : Int) + (j : Int) = (j : Int) := Int.zero_add _
              refine ⟨?_, ?_⟩
              · show wipe ((wipe (((wipe σ [i1, i2, i3]).set i1 (some vu)).set i2 (some vw)) [i3]).set i3 (some (.int (0 + (j : Int))))) [i3] = wipe (((wipe σ [i1, i2, i3]).set i1 (some vu)).set i2 (some vw)) [i3]
                rw [wipe_set (by simp), wipe_wipe fun _ h => h]
              rw [if_pos rfl]
              show TEb X scope elt ((wipe (((wipe σ [i1, i2, i3]).set i1 (some vu)).set i2 (some vw)) [i3]).set i3 (some (.int (0 + (j : Int))))) _ _
              rw [e0, eσ]
              have hE5 : Env X.K B5 ((wipe σ2 [i3]).set i3 (some (.int (j : Int)))) ((((((((ρ.set i3 .no).set i2 .no).set i1 .no).set i1 (.dat u)).set i2 (.dat w)).set i3 .no)).set i3 (.dat (.int (j : Int)))) :=
                ((hE2.mono sbb).wipe1 i3).set (o := some (.int (j : Int))) (s := .dat (.int (j : Int))) (show SlotOk X.K B5 (some (.int (j : Int))) (.dat (.int (j : Int))) from .int _) i3
              intro s0 H0 C cl fp
              refine hel u w j hdm hjl s0 H0 C cl fp _ B5 _ hE5 j2.at' _ fun ve B6 H6 p6 r6 => ?_
              obtain ⟨l3, l5, l6⟩ := LcE.piece hA1 na j2 j3 j4 j5 j6 p6
              refine ⟨zs, l5, ?_, ?_⟩
              · rw [l6.length, List.length_append, List.length_map, List.length_range]
                have q1 := lenF (ds.take i)
                have q2 : (ds.take i).length ≤ 100 := by rw [List.length_take]; omega
                have q3 : (ds.take i).length * m ≤ 100 * 1000 := Nat.mul_le_mul q2 hm
                have q4 : 200000 < sizeLine := by decide
                omega
              · have er : (List.range (j + 1)).map (F u w) = (List.range j).map (F u w) ++ [F u w j] := by rw [List.range_succ, List.map_append]; rfl
                rw [er, ← List.append_assoc]
                exact ⟨B6, zs ++ [ve], sbb.trans p6.bb, Post.over hA1 na (j2.trans p6) l3 j4, l3, j4, upd_same, l6.append (.cons r6 .nil)⟩
            · have ej : j = m := by omega
              subst ej
              refine .inl ⟨by show (j : Int).toNat ≤ j; omega, ?_⟩
              show LcE T X.K B1 O1 H1 a ((ds.take (i + 1)).flatMap G) H4
              rw [et]
              obtain ⟨B5, zs, _, j2, j3, j4, j5, j6⟩ := hj
              exact ⟨B5, zs, j2, j3, j4, j5, j6⟩
    · have ei : i = ds.length := by omega
      subst ei
      rw [List.take_length] at hl0
      refine .inl ⟨⟨xs, hql, by rw [r.length]; exact Nat.le_refl _⟩, LcE.fin hA1 na hl0 fun v B2 H2 p2 r2 => q v B2 H2 (p1.trans p2) r2⟩
end
end Dz

/-! x = [e for y in z if t], the list owned -/
namespace Dz
open PySem PySem.Spec PyProof.Rows L2 GxR
theorem grabO {T : List Addr} {K : PySem.W.Frag} {B H B1 H1 : Hp} {O O1 : OH} {a : Addr} {u : HO} {od : OD} (hA : At T K B O H) (n : H a = none) (p : Post T K B O H B1 O1 H1) (b1 : B1 a = none) (h1 : H1 a = some u) (ok : OdOk K B1 u od) : Post T K B O H B1 (put O1 a od) H1 where
  at' :=
    { base := p.at'.base
      own := fun c o e => by
        by_cases z : c = a
        · subst z
          rw [put_same] at e
          cases e
          exact ⟨b1, _, h1, ok⟩
        · rw [put_ne z] at e
          exact p.at'.own c o e
      nt := fun P hP => by
        have z : P ≠ a := fun z => hA.newT n (by rw [← z]; exact hP)
        rw [put_ne z]
        exact p.at'.nt P hP
      tabs := p.at'.tabs }
  bb := p.bb
  new := p.new
  own := fun c hc => by
    by_cases z : c = a
    · subst z
      exact .inr n
    · rw [put_ne z] at hc
      exact p.own c hc
  fr := p.fr
  dom := p.dom
section
variable {T : List Addr} {X : Cx} {CE : Addr} {scope : Scope} {ρ : List Slot} {O O1 O2 : OH} {elt iter : Expr} {ifs : List Expr} {ds out : List D} {np pos py spos : Pos} {n y : Str} {E : DEn}
theorem d1_ownLc (i i0 : Nat) (he : DE T X iter ρ O (.lst ds) O1) (I : Nat → List D → OH → Prop) (h0 : I 0 [] O1) (ht : ∀ j d acc O', ds[j]? = some d → I j acc O' → LcTurn T X scope ifs elt I j (ρ.set i (.dat d)) acc O') (hd : ∀ acc O', I ds.length acc O' → acc = out ∧ O' = O2)
    (hk : ∀ p, O2 p = none → E.nx (ρ.set i0 (.val (.ref p))) (put O2 p (.lst (out.map .dat))))
    (hl : ds.length ≤ 100000) (hN : X.N.Nodup) (ok : BlkOk X.N X.env.scope scope [(n, i)]) (hi : X.N[i]? = some n := by rfl) (hx : ∀ (s : Shared) (H : Hp) (C : Addr) (cl : List (Str × Addr)) (fp : List Addr), Loc (blkX X scope s H C cl fp).env.scope n := by first | exact fun _ _ _ _ _ => Or.inl rfl | exact fun _ _ _ _ _ => Or.inr rfl)
    (hf : ∀ (s : Shared) (H : Hp) (C : Addr) (cl : List (Str × Addr)) (fp : List Addr), (blkX X scope s H C cl fp).fn n = true ∨ (blkX X scope s H C cl fp).env.scope.names.lookup n = some .local := by first | exact fun _ _ _ _ _ => .inl rfl | exact fun _ _ _ _ _ => .inr rfl) (hc : X.calm = true := by rfl) (hs : ∀ x, foldedSetIterable iter X.env x = pure x := by intro _; rfl)
    (hy : X.N[i0]? = some y := by rfl) (hyl : X.env.scope.names.lookup y = some .local := by rfl) (hsw : swapsWith (.ListComp elt [⟨.Name n np, iter, ifs, 0⟩] scope pos) (some (.Name y py)) spos.line X.env = pure true := by exact sw_true rfl rfl rfl (by decide +kernel)) :
    D1 T X CE (.Assign [.Name y py] (.ListComp elt [⟨.Name n np, iter, ifs, 0⟩] scope pos) spos) ρ O E := .mk fun σ B H hE hA Dn W tk l => by
  refine ws_of (ps_setLc (own := [(n, i)]) (tt := TTb X scope ifs) (te := TEb X scope elt) (g := gName i) hc hN hy hyl hsw (pi_list pe_we) ok (fun s H C cl fp => pg_name (X := blkX X scope s H C cl fp) hN hi (hx s H C cl fp) (hf s H C cl fp)) ptsb peb hs) ?_
  refine he σ B H hE hA _ fun v B1 H1 p1 r1 => ?_
  cases r1 with
  | lst hq r =>
    rename_i c xs
    refine ⟨c, rfl, ⟨xs, SqL.of (p1.at'.base _ _ hq)⟩, fun a na => ?_⟩
    have hA1 := p1.at'
    refine lc_list (K := X.K) (xs := xs) (a := c) (fun j H' => LcI T X.K B1 O1 H1 a I j H') (LcI.start hA1 na h0) (fun j H' _ h => ?_) (fun j x H' hj h => ?_) (fun H' h => ?_)
    · obtain ⟨B', _, _, _, _, h2, _⟩ := h
      exact SqL.of (h2.at'.base _ _ (h2.bb _ _ hq))
    · obtain ⟨d, hd1, hd2⟩ := r.getV hj
      have hjl : j < ds.length := by
        rw [← r.length]
        exact (List.getElem?_eq_some_iff.mp hj).1
      exact lc_turn hA1 na (Nat.lt_of_lt_of_le hjl hl) (hE.mono p1.bb) (fun B' sb => hd2.mono sb) (fun acc O' hI => ht j d acc O' hd1 hI) h
    · rw [r.length] at h
      obtain ⟨B', O', acc, zs, h1, h2, h3, h4, h5, h6, _⟩ := h
      obtain ⟨e1, e2⟩ := hd acc O' h1
      subst e1 e2
      have po := grabO (od := .lst (acc.map .dat)) hA1 na h2 h3 h5 (Args.of h6)
      exact l.nx _ _ _ B' H' (hk a h4) (p1.trans po) (((hE.mono p1.bb).mono h2.bb).set (s := .val (.ref a)) (show SlotOk X.K B' (some (.ref a)) (.val (.ref a)) from rfl) i0)
/-- a comprehension without draws: f none leaves an item out -/
theorem d1_ownLcP (i i0 : Nat) {f : D → Option D} (he : DE T X iter ρ O (.lst ds) O1) (h : ∀ d ∈ ds, (∃ y, f d = some y ∧ DIfs T X scope ifs (ρ.set i (.dat d)) O1 true O1 ∧ DEb T X scope elt (ρ.set i (.dat d)) O1 y O1) ∨ (f d = none ∧ DIfs T X scope ifs (ρ.set i (.dat d)) O1 false O1))
    (hk : ∀ p, O1 p = none → E.nx (ρ.set i0 (.val (.ref p))) (put O1 p (.lst ((ds.filterMap f).map .dat))))
    (hl : ds.length ≤ 100000) (hN : X.N.Nodup) (ok : BlkOk X.N X.env.scope scope [(n, i)]) (hi : X.N[i]? = some n := by rfl) (hx : ∀ (s : Shared) (H : Hp) (C : Addr) (cl : List (Str × Addr)) (fp : List Addr), Loc (blkX X scope s H C cl fp).env.scope n := by first | exact fun _ _ _ _ _ => Or.inl rfl | exact fun _ _ _ _ _ => Or.inr rfl)
    (hf : ∀ (s : Shared) (H : Hp) (C : Addr) (cl : List (Str × Addr)) (fp : List Addr), (blkX X scope s H C cl fp).fn n = true ∨ (blkX X scope s H C cl fp).env.scope.names.lookup n = some .local := by first | exact fun _ _ _ _ _ => .inl rfl | exact fun _ _ _ _ _ => .inr rfl) (hc : X.calm = true := by rfl) (hs : ∀ x, foldedSetIterable iter X.env x = pure x := by intro _; rfl)
    (hy : X.N[i0]? = some y := by rfl) (hyl : X.env.scope.names.lookup y = some .local := by rfl) (hsw : swapsWith (.ListComp elt [⟨.Name n np, iter, ifs, 0⟩] scope pos) (some (.Name y py)) spos.line X.env = pure true := by exact sw_true rfl rfl rfl (by decide +kernel)) :
    D1 T X CE (.Assign [.Name y py] (.ListComp elt [⟨.Name n np, iter, ifs, 0⟩] scope pos) spos) ρ O E :=
  d1_ownLc (out := ds.filterMap f) (O2 := O1) i i0 he (fun j acc O' => acc = (ds.take j).filterMap f ∧ O' = O1) ⟨rfl, rfl⟩ (lc_pure h) (fun acc O' q => by
    rw [List.take_length] at q
    exact q) hk hl hN ok hi hx hf hc hs hy hyl hsw
/-- the owned list is frozen at once -/
theorem d1_ice {st : Stmt} (i : Nat) (h : D1 T X CE st ρ O { E with nx := fun ρ' O' => ∃ p, O1 p = none ∧ ρ' = ρ.set i (.val (.ref p)) ∧ O' = put O1 p (.lst (out.map .dat)) }) (k : E.nx (ρ.set i (.dat (.lst out))) O1) (hi : ∀ p, (ρ.set i (.val (.ref p)))[i]? = some (.val (.ref p)) := by intro _; rfl) : D1 T X CE st ρ O E :=
  .mk fun σ B H hE hA Dn W tk l => h σ B H hE hA Dn W tk ⟨fun ρ' O' σ' B' H' q po hE' => by
    obtain ⟨p, hp, e1, e2⟩ := q
    subst e1 e2
    obtain ⟨_, u, hu, ok⟩ := po.at'.own p _ put_same
    cases u <;> try exact ok.elim
    rename_i vs
    have pf := Post.freeze po.at' put_same hu
    rw [cut_put hp] at pf
    obtain ⟨o, f1, f2⟩ := hE'.get (hi p)
    have eo : o = some (.ref p) := by
      cases o with
      | none => exact f2.elim
      | some v => exact congrArg some f2
    subst eo
    have hE2 := (hE'.mono pf.bb).set (o := some (.ref p)) (s := .dat (.lst out)) (show SlotOk X.K (upd B' p (.lst vs)) (some (.ref p)) (.dat (.lst out)) from .lst upd_same ((Args.all ok).mono pf.bb)) i
    rw [set_same f1, List.set_set] at hE2
    exact l.nx _ _ σ' _ H' k (po.trans pf) hE2, l.rt, l.bk, l.ct, l.ex⟩
end
end Dz

/-! for over a list of tuples, several names at once -/
namespace Dz
open PySem PySem.Spec PyProof.Rows L2 GxR
section
variable {T : List Addr} {X : Cx} {CE : Addr} {ρ : List Slot} {O O1 O2 : OH} {e : Expr} {es : List Expr} {body : List Stmt} {pos tp : Pos} {ds : List D} {E : DEn}
theorem d1_forLP {k : Nat} {is : List Nat} (I : Nat → List Slot → OH → Prop) (he : DE T X e ρ O (.lst ds) O1) (h0 : I 0 ρ O1) (hN : X.N.Nodup) (hn : Names X es is) (hd2 : ∀ d ∈ ds, ∃ cs, d = .tup cs ∧ cs.length = is.length)
    (hs : ∀ (j : Nat) cs ρ' O', ds[j]? = some (.tup cs) → I j ρ' O' → DS T X CE body (setAll ρ' is (cs.map .dat)) O' { E with nx := I (j + 1), ct := I (j + 1), bk := E.nx }) (hd : ∀ ρ' O', I ds.length ρ' O' → E.nx ρ' O')
    (hp : PassesOwn (model X.prog X.w) X.A X.env X.xe) (hc : X.calm = true := by rfl) (g1 : (assignEach es X.env).length = is.length := by rfl) (g2 : (assignEach es X.env).findIdx? (·.1) = none := by rfl)
    (hfold : ∀ x, foldedSetIterable e X.env x = pure x := by intro _; rfl) :
    D1 T X CE (.For (.Tuple es k tp) e body [] pos) ρ O E := .mk fun σ B H hE hA Dn W tk l => by
  refine ws_of (ps_for hp hc (pi_list pe_we) (pg_tup hc (pgs_names hN hn) g1 g2) pss_wss hfold) ?_
  refine he σ B H hE hA _ fun v B1 H1 p1 r1 => ?_
  cases r1 with
  | lst hq r =>
    rename_i a xs
    refine ⟨a, rfl, ⟨xs, SqL.of (p1.at'.base _ _ hq)⟩, for_list (K := X.K) (a := a) (xs := xs) (fun j σ' H' => ∃ ρ' O' B', I j ρ' O' ∧ Post T X.K B O H B' O' H' ∧ Same B1 B' ∧ Env X.K B' σ' ρ') ⟨ρ, O1, B1, h0, p1, Same.refl _, hE.mono p1.bb⟩ (fun j σ' H' _ ⟨_, _, B', _, po, sb, _⟩ => SqL.of (po.at'.base _ _ (sb _ _ hq))) ?_ ?_⟩
    · rintro j y σ' H' hj ⟨ρ', O', B', hI, po, sb, hE'⟩
      obtain ⟨d, hd1, hd3⟩ := r.getV hj
      obtain ⟨cs, rfl, hl⟩ := hd2 d (List.mem_of_getElem? hd1)
      have hd4 := hd3.mono sb
      cases hd4 with
      | tup hq2 r2 =>
        rename_i a2 ys
        have e1 : ys.length = is.length := r2.length.trans hl
        refine ⟨a2, ys, rfl, same_t po.at'.base hq2, e1, e1, ?_⟩
        refine hs j cs ρ' O' hd1 hI _ B' H' (Env.setAll is hE' (Args.of r2)) po.at' _ W tk ?_
        have l' := l.step po
        exact ⟨fun ρ2 O2 σ2 B2 H2 h p2 e2 => ⟨ρ2, O2, B2, h, po.trans p2, sb.trans p2.bb, e2⟩, l'.rt, l'.nx, fun ρ2 O2 σ2 B2 H2 h p2 e2 => ⟨ρ2, O2, B2, h, po.trans p2, sb.trans p2.bb, e2⟩, l'.ex⟩
    · rintro σ' H' ⟨ρ', O', B', hI, po, sb, hE'⟩
      rw [r.length] at hI
      exact l.nx _ _ _ B' H' (hd ρ' O' hI) po hE'
end
end Dz

/-! an owned dict of owned lists: reads by any expression, appends, the display that a def returns -/
namespace Dz
open PySem PySem.Spec PyProof.Rows L2 GxR
theorem KsOk.get {K : PySem.W.Frag} {H : Hp} {k : Key} {d : Slot} : ∀ {fs : List (Key × V)} {fd : List (Key × Slot)}, KsOk K H fs fd → (fd.find? fun kv => decide (kv.1 = k)).map (·.2) = some d → ∃ v, valV fs k = some v ∧ SlotOk K H (some v) d
  | _, _, .cons (f := g) (v := v) h r, e => by
    by_cases hb : g = k
    · rw [List.find?_cons_of_pos (by simpa using hb)] at e
      cases e
      exact ⟨_, valV_pos hb, h⟩
    · rw [List.find?_cons_of_neg (by simpa using hb)] at e
      obtain ⟨w, h1, h2⟩ := KsOk.get r e
      exact ⟨w, (valV_neg hb).trans h1, h2⟩
section
variable {T : List Addr} {X : Cx} {CE : Addr} {ρ : List Slot} {O O1 O2 O3 : OH} {e a b o : Expr} {es : List Expr} {pos pos' p0 : Pos} {d x y kx : D} {s : Slot} {ss : List Slot} {ds : List D} {E : DEn} {ks : List (Option Expr)} {vs : List Expr} {c : Addr}
/-- a[b], a an owned dict -/
theorem dv_dgetO {k : Nat} {so : List (Key × Slot)} (hr : Room k X.A) {key : Key} (ha : DV T X a ρ O (.val (.ref c)) O1) (hb : DE T X b ρ O1 kx O2) (hk : ∀ B v, Rp X.K B v kx → v = kV key) (ho : O2 c = some (.dic so)) (h : (so.find? fun kv => decide (kv.1 = key)).map (·.2) = some s) (hs : NoSl b := by intro _ _; rfl) :
    DV T X (.Subscript a b pos) ρ O s O2 := .mk fun σ B H hE hA Q q => by
  refine we_of (pe_dget (hu_of hr) pe_we pe_we hs) ?_
  refine ha σ B H hE hA _ fun v B1 H1 p1 r1 => ?_
  have ev : v = .ref c := r1
  subst ev
  refine hb σ B1 H1 (hE.mono p1.bb) p1.at' _ fun iv B2 H2 p2 r2 => ?_
  have ei := hk B2 iv r2
  subst ei
  obtain ⟨_, u, hu, ok⟩ := p2.at'.own c _ ho
  cases u <;> try exact ok.elim
  rename_i kvs
  obtain ⟨w, h1, h2⟩ := KsOk.get (show KsOk X.K B2 kvs so from ok) h
  refine ⟨_, w, rfl, ?_, q w B2 H2 (p1.trans p2) h2⟩
  rw [← h1]
  exact DGet.k hu
/-- a[b], a an owned list told by any expression -/
theorem dv_ixOG {k : Int} (ha : DV T X a ρ O (.val (.ref c)) O1) (hb : DE T X b ρ O1 (.int k) O2) (ho : O2 c = some (.lst ss)) (h : atI ss k = some s) (hs : PlainIx b := by intro _ _; rfl) : DV T X (.Subscript a b pos) ρ O s O2 := .mk fun σ B H hE hA Q q => by
  refine we_of (pe_ix ix_list pe_we pe_we hs) ?_
  refine ha σ B H hE hA _ fun v B1 H1 p1 r1 => ?_
  have ev : v = .ref c := r1
  subst ev
  refine hb σ B1 H1 (hE.mono p1.bb) p1.at' _ fun iv B2 H2 p2 r2 => ?_
  cases r2
  obtain ⟨_, u, hu, ok⟩ := p2.at'.own c _ ho
  cases u <;> try exact ok.elim
  rename_i vs
  unfold atI at h
  cases ek : ixN ss.length k with
  | none =>
    rw [ek] at h
    cases h
  | some j =>
    rw [ek] at h
    obtain ⟨w, h1, h2⟩ := Args.get ok h
    refine ⟨c, vs, k, w, rfl, rfl, SqL.of hu, ?_, q w B2 H2 (p1.trans p2) h2⟩
    unfold atI
    rw [Args.length ok, ek]
    exact h1
/-- o.append(e), o an owned list told by any expression -/
theorem d1_appG {apos : Pos} {acc : List D} (ho : DV T X o ρ O (.val (.ref c)) O1) (h0 : O1 c = some (.lst (acc.map .dat))) (he : DE T X e ρ O1 d O1) (hl : acc.length < 100000) (h : E.nx ρ (put O1 c (.lst ((acc ++ [d]).map .dat))))
    (pe : PE X (.Call (.Attribute o "append" apos) [e] [] pos) (tBM X.K "list" rAppend (WE X o) (tCons (WE X e) tNil)) := by exact pe_bm PySem.F.plainAttrs_list PySem.F.slot_list_append PySem.F.type_list_append mt_append pe_we (pa_cons pe_we pa_nil)) (hs : swapsWith (.Call (.Attribute o "append" apos) [e] [] pos) none pos'.line X.env = pure false := by rfl) :
    D1 T X CE (.Expr (.Call (.Attribute o "append" apos) [e] [] pos) pos') ρ O E := .mk fun σ B H hE hA Dn W tk l => by
  refine ws_of (ps_expr pe hs) ?_
  refine ho σ B H hE hA _ fun v B1 H1 p1 r1 => ?_
  have ev : v = .ref c := r1
  subst ev
  obtain ⟨_, u0, hu0, ok0⟩ := p1.at'.own c _ h0
  cases u0 <;> try exact ok0.elim
  refine ⟨.inl ⟨rfl, _, SqL.of hu0⟩, ?_⟩
  refine he.dv σ B1 H1 (hE.mono p1.bb) p1.at' _ fun w B2 H2 p2 r2 => ?_
  obtain ⟨_, u, hu, ok⟩ := p2.at'.own c _ h0
  cases u <;> try exact ok.elim
  rename_i vs
  have lv : vs.length = (acc.map Slot.dat).length := Args.length ok
  have po := Post.put (u := .lst (vs ++ [w])) (od := .lst (acc.map Slot.dat ++ [Slot.dat d])) p2.at' h0 (show Args X.K B2 (vs ++ [w]) (acc.map Slot.dat ++ [Slot.dat d]) from Args.append (show Args X.K B2 vs (acc.map Slot.dat) from ok) (.cons r2 .nil))
  have em : (acc ++ [d]).map Slot.dat = acc.map .dat ++ [.dat d] := by rw [List.map_append]; rfl
  rw [em] at h
  exact ⟨c, vs, w, rfl, rfl, hu, by rw [lv, List.length_map]; exact Nat.lt_of_lt_of_le hl (by decide), l.nx _ _ _ B2 _ h ((p1.trans p2).trans po) ((hE.mono p1.bb).mono p2.bb)⟩
/-! ### return {..}, the values owned -/
def trsOf (X : Cx) : List (Str × Expr) → List (TE × TE)
  | [] => []
  | (k, e) :: r => (tC (.str k), WE X e) :: trsOf X r
def DPS (T : List Addr) (X : Cx) (ρ : List Slot) (O : OH) (kes : List (Str × Expr)) (R : List (Key × Slot) → OH → Prop) : Prop :=
  ∀ (σ : L2.St) (B H : Hp), Env X.K B σ ρ → At T X.K B O H → ∀ Q : List (V × V) → Hp → Prop, (∀ ss O' kvs B' H', R ss O' → Post T X.K B O H B' O' H' → KsOk X.K B' kvs ss → Q (kvs.map fun kv => (kV kv.1, kv.2)) H') → tPairs (trsOf X kes) σ H Q
theorem dps_nil {R : List (Key × Slot) → OH → Prop} (h : R [] O) : DPS T X ρ O [] R := fun σ B H hE hA Q q => q [] O [] B H h (Post.refl hA) .nil
theorem dps_cons {k : Str} {kes : List (Str × Expr)} {R1 : Slot → OH → Prop} {R : List (Key × Slot) → OH → Prop} (he : DVX T X CE e ρ O R1 (fun _ _ => False)) (hr : ∀ s O1, R1 s O1 → DPS T X ρ O1 kes (fun ss O' => R ((.inr k, s) :: ss) O')) : DPS T X ρ O ((k, e) :: kes) R := fun σ B H hE hA Q q => by
  show WE X e σ H fun y H2 => tPairs (trsOf X kes) σ H2 fun ps H3 => Q ((.str k, y) :: ps) H3
  refine he σ B H hE hA _ (fun _ _ _ _ => False) takes0 (fun s O1 v B1 H1 h1 p1 r1 => ?_) (fun _ _ _ _ _ _ _ h => h.elim)
  refine hr s O1 h1 σ B1 H1 (hE.mono p1.bb) p1.at' _ fun ss O' kvs B2 H2 hR p2 r2 => ?_
  exact q ((.inr k, s) :: ss) O' ((.inr k, v) :: kvs) B2 H2 hR (p1.trans p2) (.cons (r1.mono p2.bb) r2)
theorem dvx_dv (h : DV T X e ρ O s O1) : DVX T X CE e ρ O (fun s' O' => s' = s ∧ O' = O1) (fun _ _ => False) := fun σ B H hE hA Q W tk q _ => h σ B H hE hA Q fun v B' H' p r => q s O1 v B' H' ⟨rfl, rfl⟩ p r
/-- [..], owned at once -/
theorem dvx_lst {lp : Pos} (ha : DA T X es ρ O ss O1) (hl : ss.length ≤ 10000 := by decide) : DVX T X CE (.List es lp) ρ O (fun s' O' => ∃ p, O1 p = none ∧ s' = .val (.ref p) ∧ O' = put O1 p (.lst ss)) (fun _ _ => False) := fun σ B H hE hA Q W tk q _ => by
  refine we_of (pe_lst pa_wa) ?_
  refine ha σ B H hE hA _ fun vs B1 H1 p1 r1 => ⟨by rw [r1.length]; exact Nat.le_trans hl (by decide), fun p hp => ?_⟩
  have po := Post.madeO (o := .lst vs) (od := .lst ss) p1.at' hp r1
  exact q _ _ (.ref p) B1 _ ⟨p, p1.at'.noO hp, rfl, rfl⟩ (p1.trans po) rfl
theorem d1_retDic {kes : List (Str × Expr)} {R : List (Key × Slot) → OH → Prop} (hp : PPs X p0 ks vs (trsOf X kes)) (hd : DPS T X ρ O kes R) (h : ∀ ss O1 p, R ss O1 → O1 p = none → E.rt (.val (.ref p)) (put O1 p (.dic ss))) (hk : ∀ ss O1, R ss O1 → (ss.map (·.1)).Nodup ∧ ss.length ≤ 15) (hall : ks.all (·.isSome) = true := by rfl) (hkv : ks.length = vs.length := by rfl) (h0 : ks ≠ [] := by exact fun z => by cases z) (h15 : ks.length ≤ 15 := by decide) :
    D1 T X CE (.Return (some (.Dict ks vs p0)) pos) ρ O E := .mk fun σ B H hE hA Dn W tk l => by
  refine ws_of (ps_ret (pe_disp hp hall hkv h0 h15)) ?_
  intro p np
  have q0 := Post.laid (o := .dK []) hA np
  refine hd σ B _ hE q0.at' _ fun ss O1 kvs B1 H1 hR p1 r1 => ?_
  have nb : B p = none := hA.noB np
  have no : O p = none := hA.noO np
  have hp1 : upd H p (.dK []) p ≠ none := by rw [upd_same]; exact fun z => by cases z
  have b1 : B1 p = none := (p1.new p hp1 no).trans nb
  have o1 : O1 p = none := p1.keepO hp1 no
  have h1 : H1 p = some (.dK []) := p1.fr p _ upd_same no (hA.newT np)
  obtain ⟨kn, kl⟩ := hk ss O1 hR
  have e1 : kvs.map (·.1) = ss.map (·.1) := by
    clear kn kl h1 o1 b1 hp1 no nb hR
    induction r1 with
    | nil => rfl
    | cons _ _ ih => rw [List.map_cons, List.map_cons, ih]
  refine ⟨h1, kvs, rfl, by rw [r1.length]; exact kl, ?_⟩
  have em : mergeK [] kvs = kvs := by rw [mergeK_app kvs [] (by rw [List.nil_append, e1]; exact kn)]; rfl
  rw [em]
  have p2 := Post.over (o := .dK kvs) hA np (q0.trans p1) b1 o1
  have hpo : Post T X.K B O H B1 (put O1 p (.dic ss)) (upd H1 p (.dK kvs)) :=
    { at' :=
        { base := p2.at'.base
          own := fun c o e => by
            by_cases z : c = p
            · subst z
              rw [put_same] at e
              cases e
              exact ⟨b1, _, upd_same, r1⟩
            · rw [put_ne z] at e
              exact p2.at'.own c o e
          nt := fun P hP => by
            have z : P ≠ p := fun z => hA.newT np (by rw [← z]; exact hP)
            rw [put_ne z]
            exact p2.at'.nt P hP
          tabs := p2.at'.tabs }
      bb := p2.bb
      new := p2.new
      own := fun c hc => by
        by_cases z : c = p
        · subst z
          exact .inr np
        · rw [put_ne z] at hc
          exact p2.own c hc
      fr := p2.fr
      dom := p2.dom }
  exact l.rt _ _ (.ref p) B1 _ (h ss O1 p hR o1) hpo rfl
end
end Dz

/-! a name = [.. for i in range(m) if ..] -/
namespace Dz
open PySem PySem.Spec PyProof.Rows L2 GxR
section
variable {T : List Addr} {X : Cx} {CE : Addr} {scope : Scope} {ρ : List Slot} {O O1 O2 : OH} {elt e : Expr} {ifs : List Expr} {ds out : List D} {np pos py spos rp pos' : Pos} {n y : Str} {E : DEn}
theorem d1_ownLcR (i i0 : Nat) {m : Int} (he : DE T X e ρ O (.int m) O1) (I : Nat → List D → OH → Prop) (h0 : I 0 [] O1) (ht : ∀ (j : Nat) acc O', (j : Int) < m → I j acc O' → LcTurn T X scope ifs elt I j (ρ.set i (.dat (.int (j : Int)))) acc O') (hd : ∀ acc O', I m.toNat acc O' → acc = out ∧ O' = O2)
    (hk : ∀ p, O2 p = none → E.nx (ρ.set i0 (.val (.ref p))) (put O2 p (.lst (out.map .dat))))
    (hl : m ≤ 100000) (hl0 : -100000 ≤ m) (hmg : X.mg "range" = none) (hN : X.N.Nodup) (ok : BlkOk X.N X.env.scope scope [(n, i)]) (hg : Gl X "range" := by rfl) (hi : X.N[i]? = some n := by rfl) (hx : ∀ (s : Shared) (H : Hp) (C : Addr) (cl : List (Str × Addr)) (fp : List Addr), Loc (blkX X scope s H C cl fp).env.scope n := by first | exact fun _ _ _ _ _ => Or.inl rfl | exact fun _ _ _ _ _ => Or.inr rfl)
    (hf : ∀ (s : Shared) (H : Hp) (C : Addr) (cl : List (Str × Addr)) (fp : List Addr), (blkX X scope s H C cl fp).fn n = true ∨ (blkX X scope s H C cl fp).env.scope.names.lookup n = some .local := by first | exact fun _ _ _ _ _ => .inl rfl | exact fun _ _ _ _ _ => .inr rfl) (hc : X.calm = true := by rfl) (h1 : starEach [e] X.env = [(false, eval e X.env)] := by rfl) (hs : ∀ x, foldedSetIterable (.Call (.Name "range" rp) [e] [] pos') X.env x = pure x := by intro _; rfl)
    (hy : X.N[i0]? = some y := by rfl) (hyl : X.env.scope.names.lookup y = some .local := by rfl) (hsw : swapsWith (.ListComp elt [⟨.Name n np, .Call (.Name "range" rp) [e] [] pos', ifs, 0⟩] scope pos) (some (.Name y py)) spos.line X.env = pure true := by exact sw_true rfl rfl rfl (by decide +kernel)) :
    D1 T X CE (.Assign [.Name y py] (.ListComp elt [⟨.Name n np, .Call (.Name "range" rp) [e] [] pos', ifs, 0⟩] scope pos) spos) ρ O E := .mk fun σ B H hE hA Dn W tk l => by
  refine ws_of (ps_setLc (own := [(n, i)]) (tt := TTb X scope ifs) (te := TEb X scope elt) (g := gName i) hc hN hy hyl hsw (pi_range1 hg hmg (pa_cons pe_we pa_nil h1) h1) ok (fun s H C cl fp => pg_name (X := blkX X scope s H C cl fp) hN hi (hx s H C cl fp) (hf s H C cl fp)) ptsb peb hs) ?_
  refine he σ B H hE hA _ fun v B1 H1 p1 r1 => ?_
  cases r1
  refine ⟨m, rfl, by omega, by omega, fun a na => ?_⟩
  have hA1 := p1.at'
  refine lc_range (fun j H' => LcI T X.K B1 O1 H1 a I j H') (LcI.start hA1 na h0) (fun j H' hj h => ?_) (fun H' h => ?_)
  · have e0 : (0 : Int) + (j : Int) = (j : Int) := Int.zero_add _
    rw [e0]
    exact lc_turn hA1 na (by omega) (hE.mono p1.bb) (fun B' sb => .int _) (fun acc O' hI => ht j acc O' (by omega) hI) h
  · obtain ⟨B', O', acc, zs, h1, h2, h3, h4, h5, h6, _⟩ := h
    obtain ⟨e1, e2⟩ := hd acc O' h1
    subst e1 e2
    have po := grabO (od := .lst (acc.map .dat)) hA1 na h2 h3 h5 (Args.of h6)
    exact l.nx _ _ _ B' H' (hk a h4) (p1.trans po) (((hE.mono p1.bb).mono h2.bb).set (s := .val (.ref a)) (show SlotOk X.K B' (some (.ref a)) (.val (.ref a)) from rfl) i0)
/-- the items by a function, none leaves one out -/
theorem lc_pureRF {i : Nat} {F : Nat → Option D} {m : Int} (h : ∀ j : Nat, (j : Int) < m → (∃ y, F j = some y ∧ DIfs T X scope ifs (ρ.set i (.dat (.int (j : Int)))) O true O ∧ DEb T X scope elt (ρ.set i (.dat (.int (j : Int)))) O y O) ∨ (F j = none ∧ DIfs T X scope ifs (ρ.set i (.dat (.int (j : Int)))) O false O)) :
    ∀ (j : Nat) acc O', (j : Int) < m → (acc = (List.range j).filterMap F ∧ O' = O) → LcTurn T X scope ifs elt (fun j acc O' => acc = (List.range j).filterMap F ∧ O' = O) j (ρ.set i (.dat (.int (j : Int)))) acc O' := by
  rintro j acc O' hj ⟨e1, e2⟩
  subst e2
  rcases h j hj with ⟨y, h1, h2, h3⟩ | ⟨h1, h2⟩
  · refine ⟨true, O', h2, (fun _ => ⟨y, O', h3, ?_, rfl⟩), fun z => by cases z⟩
    rw [List.range_succ, List.filterMap_append, e1]
    simp [h1]
  · refine ⟨false, O', h2, (fun z => by cases z), fun _ => ⟨?_, rfl⟩⟩
    rw [List.range_succ, List.filterMap_append, e1]
    simp [h1]
end
end Dz

/-! a = b = e; n += e of ints -/
namespace Dz
open PySem PySem.Spec PyProof.Rows L2 GxR
section
variable {T : List Addr} {X : Cx} {CE : Addr} {ρ : List Slot} {O O1 : OH} {e : Expr} {pos p1 p2 : Pos} {d : D} {s : Slot} {E : DEn} {n m : Str}
theorem d1_set2 (i j : Nat) (he : DV T X e ρ O s O1) (h : E.nx ((ρ.set i s).set j s) O1) (hN : X.N.Nodup) (hi : X.N[i]? = some n := by rfl) (hj : X.N[j]? = some m := by rfl) (hx : Loc X.env.scope n := by first | exact Or.inl rfl | exact Or.inr rfl) (hy : Loc X.env.scope m := by first | exact Or.inl rfl | exact Or.inr rfl)
    (hf : X.fn n = true ∨ X.env.scope.names.lookup n = some .local := by first | exact .inl rfl | exact .inr rfl) (hg : X.fn m = true ∨ X.env.scope.names.lookup m = some .local := by first | exact .inl rfl | exact .inr rfl)
    (ha : (assignEach [.Name n p1, .Name m p2] X.env).map (·.2) = [assign (.Name n p1) X.env, assign (.Name m p2) X.env] := by rfl) (hw : swappedStores [.Name n p1, .Name m p2] e X.env = pure none := by rfl) : D1 T X CE (.Assign [.Name n p1, .Name m p2] e pos) ρ O E :=
  .mk fun σ B H hE hA Dn W tk l => ws_of (ps_asg2 pe_we (pg_name hN hi hx hf) (pg_name hN hj hy hg) ha hw) (he σ B H hE hA _ fun v B1 H1 p1 r1 => l.nx _ _ _ B1 H1 h p1 (((hE.mono p1.bb).set r1 i).set r1 j))
theorem d1_augI (i : Nat) {k j : Int} (hi0 : ρ[i]? = some (.dat (.int k))) (he : DE T X e ρ O (.int j) O1) (h : E.nx (ρ.set i (.dat (.int (k + j)))) O1) (hN : X.N.Nodup) (hi : X.N[i]? = some n := by rfl) (hx : Loc X.env.scope n := by first | exact Or.inl rfl | exact Or.inr rfl)
    (hf : X.fn n = true ∨ X.env.scope.names.lookup n = some .local := by first | exact .inl rfl | exact .inr rfl) : D1 T X CE (.AugAssign (.Name n p1) .Add e pos) ρ O E :=
  .mk fun σ B H hE hA Dn W tk l => by
    refine ws_of (ps_aug hN hi hx pe_we ip_add hf) ?_
    obtain ⟨o, e1, e2⟩ := hE.get hi0
    cases o with
    | none => exact e2.elim
    | some v =>
      have e2 : Rp X.K B v (.int k) := e2
      cases e2
      refine ⟨_, e1, ?_⟩
      refine he σ B H hE hA _ fun w B1 H1 q1 r1 => ?_
      cases r1
      refine ⟨k, j, rfl, rfl, ?_⟩
      exact l.nx _ _ _ B1 H1 h q1 ((hE.mono q1.bb).set (s := .dat (.int (k + j))) (show SlotOk X.K B1 (some (.int (k + j))) (.dat (.int (k + j))) from .int _) i)
end
end Dz

/-! methods of owned objects; while; pop; fields as targets; slices of tuples; dicts of the module; comprehensions over what is owned -/
namespace Dz
open PySem PySem.Spec PyProof.Rows L2 GxR
theorem FsOk.lkN {K : PySem.W.Frag} {B : Hp} {f : Str} : ∀ {fs : List (Str × V)} {ss : List (Str × Slot)}, FsOk K B fs ss → ss.lookup f = none → fs.lookup f = none
  | _, _, .nil, _ => rfl
  | _, _, .cons (f := g) h r, e => by
    rw [List.lookup_cons] at e ⊢
    cases hb : f == g with
    | true =>
      rw [hb] at e
      cases e
    | false =>
      rw [hb] at e
      exact r.lkN e
section
variable {T : List Addr} {X : Cx} {CE : Addr} {ρ : List Slot} {O O1 O2 O3 : OH} {e a b c o : Expr} {es rest : List Expr} {pos pos' p0 apos : Pos} {d x y z : D} {s : Slot} {ss : List Slot} {ds : List D} {E : DEn} {R : Slot → OH → Prop} {Rx : D → OH → Prop} {P : PR} {body : List Stmt}
/-! ### o.m(..) -/
theorem dvx_meth {pl : Sem Bool} {k : Nat} {f C ad : Addr} {fd : FuncData} {ps : List Str} {m : Str} {fs : List (Str × Slot)} (cl : Cls X.K C) (hm : Meth X.K C m f) (F : FnOk X.prog X.w X.K X.mg X.base (L2.CX X.prog X.w) k f fd ps (spX T X.K CE P)) (hr : Room k X.A) (hb : Binds X.K fd ps [])
    (ho : DV T X o ρ O (.val (.ref ad)) O1) (hO : O1 ad = some (.ins C fs)) (hn : fs.lookup m = none) (ha : DA T X (e :: es) ρ O1 ss O2) (h : P (.val (.ref ad) :: ss) O2 R Rx)
    (hst : starEach (e :: es) X.env = (false, eval e X.env) :: starEach es X.env := by rfl) (hpl : (backTo pos (starEach es X.env)).any (·.1) = false := by rfl)
    (ht : eval (.Call (.Attribute o m apos) (e :: es) [] pos) X.env = (do
      let ov ← eval o X.env
      standAt apos.atName
      let (f, first) ← holding [ov] (getMethod ov m pl)
      callWith pos f first (backTo pos (starEach (e :: es) X.env)) (backToKw pos (keywordEach [] X.env))) := by rfl) :
    DVX T X CE (.Call (.Attribute o m apos) (e :: es) [] pos) ρ O R Rx := fun σ B H hE hA Q W tk q qx =>
  we_of (pe_meth (pl := pl) (E := fun cls d H' => ∀ σ', W cls d σ' H') pe_we cl hm F hr hb .nil (passes_call tk fun cls d σ H h => h σ) pa_wa hst hpl ht) (ho σ B H hE hA _ fun v B1 H1 p1 r1 => by
    have ev : v = .ref ad := r1
    subst ev
    obtain ⟨_, u, hu, ok⟩ := p1.at'.own ad _ hO
    cases u <;> try exact ok.elim
    rename_i C' dx vs
    obtain ⟨eC, ok⟩ := ok
    subst eC
    refine ⟨ad, dx, vs, rfl, hu, ok.lkN hn, ?_⟩
    refine ha σ B1 H1 (hE.mono p1.bb) p1.at' _ fun ws B2 H2 p2 r2 => ?_
    rw [List.append_nil]
    exact ⟨.val (.ref ad) :: ss, B2, O2, R, Rx, h, .cons (show SlotOk X.K B2 (some (.ref ad)) (.val (.ref ad)) from rfl) r2, p2.at', fun s O' v B3 H3 h3 p3 r3 => q s O' v B3 H3 h3 ((p1.trans p2).trans p3) r3, fun r O' v dd B3 H3 h3 p3 e1 r3 σ' => qx r O' v dd σ' B3 H3 h3 ((p1.trans p2).trans p3) e1 r3⟩)
/-- a method that lets no error out and gives data -/
theorem de_meth {pl : Sem Bool} {k : Nat} {f C ad : Addr} {fd : FuncData} {ps : List Str} {m : Str} {fs : List (Str × Slot)} {P : List Slot → OH → D → OH → Prop} (cl : Cls X.K C) (hm : Meth X.K C m f) (F : FnOk X.prog X.w X.K X.mg X.base CX0 k f fd ps (spF T X.K P)) (hr : Room k X.A) (hb : Binds X.K fd ps [])
    (ho : DV T X o ρ O (.val (.ref ad)) O1) (hO : O1 ad = some (.ins C fs)) (hn : fs.lookup m = none) (ha : DA T X (e :: es) ρ O1 ss O2) (h : P (.val (.ref ad) :: ss) O2 d O3)
    (hst : starEach (e :: es) X.env = (false, eval e X.env) :: starEach es X.env := by rfl) (hpl : (backTo pos (starEach es X.env)).any (·.1) = false := by rfl)
    (ht : eval (.Call (.Attribute o m apos) (e :: es) [] pos) X.env = (do
      let ov ← eval o X.env
      standAt apos.atName
      let (f, first) ← holding [ov] (getMethod ov m pl)
      callWith pos f first (backTo pos (starEach (e :: es) X.env)) (backToKw pos (keywordEach [] X.env))) := by rfl) :
    DE T X (.Call (.Attribute o m apos) (e :: es) [] pos) ρ O d O3 :=
  de_of (pe_meth (pl := pl) (E := fun _ _ _ => False) pe_we cl hm F hr hb .nil pass0 pa_wa hst hpl ht) fun σ B H hE hA Q q => ho σ B H hE hA _ fun v B1 H1 p1 r1 => by
    have ev : v = .ref ad := r1
    subst ev
    obtain ⟨_, u, hu, ok⟩ := p1.at'.own ad _ hO
    cases u <;> try exact ok.elim
    rename_i C' dx vs
    obtain ⟨eC, ok⟩ := ok
    subst eC
    refine ⟨ad, dx, vs, rfl, hu, ok.lkN hn, ?_⟩
    refine ha σ B1 H1 (hE.mono p1.bb) p1.at' _ fun ws B2 H2 p2 r2 => ?_
    rw [List.append_nil]
    exact ⟨.val (.ref ad) :: ss, B2, O2, d, O3, h, .cons (show SlotOk X.K B2 (some (.ref ad)) (.val (.ref ad)) from rfl) r2, p2.at', fun v B3 H3 p3 r3 => q v B3 H3 ((p1.trans p2).trans p3) r3⟩
theorem de_meth0 {pl : Sem Bool} {k : Nat} {f C ad : Addr} {fd : FuncData} {ps : List Str} {m : Str} {fs : List (Str × Slot)} {P : List Slot → OH → D → OH → Prop} (cl : Cls X.K C) (hm : Meth X.K C m f) (F : FnOk X.prog X.w X.K X.mg X.base CX0 k f fd ps (spF T X.K P)) (hr : Room k X.A) (hb : Binds X.K fd ps [])
    (ho : DV T X o ρ O (.val (.ref ad)) O1) (hO : O1 ad = some (.ins C fs)) (hn : fs.lookup m = none) (h : P [.val (.ref ad)] O1 d O3)
    (ht : eval (.Call (.Attribute o m apos) [] [] pos) X.env = (do
      let ov ← eval o X.env
      standAt apos.atName
      let (f, first) ← holding [ov] (getMethod ov m pl)
      callWith pos f first (backTo pos (starEach [] X.env)) (backToKw pos (keywordEach [] X.env))) := by rfl) :
    DE T X (.Call (.Attribute o m apos) [] [] pos) ρ O d O3 :=
  de_of (pe_meth0 (pl := pl) (E := fun _ _ _ => False) pe_we cl hm F hr hb .nil pass0 ht) fun σ B H hE hA Q q => ho σ B H hE hA _ fun v B1 H1 p1 r1 => by
    have ev : v = .ref ad := r1
    subst ev
    obtain ⟨_, u, hu, ok⟩ := p1.at'.own ad _ hO
    cases u <;> try exact ok.elim
    rename_i C' dx vs
    obtain ⟨eC, ok⟩ := ok
    subst eC
    refine ⟨ad, dx, vs, rfl, hu, ok.lkN hn, ?_⟩
    show spF T X.K P (.ref ad :: ([] ++ [])) H1 Q (fun _ _ _ => False)
    exact ⟨[.val (.ref ad)], B1, O1, d, O3, h, .cons (show SlotOk X.K B1 (some (.ref ad)) (.val (.ref ad)) from rfl) .nil, p1.at', fun v B3 H3 p3 r3 => q v B3 H3 (p1.trans p3) r3⟩
/-! ### o.f = e, e with many answers -/
theorem d1_fstX (i : Nat) {n f : Str} {ad C : Addr} {npos apos : Pos} (cl : Cls X.K C) (na : NoAttr X.K C f) (hi : ρ[i]? = some (.val (.ref ad))) (he : DVX T X CE e ρ O R E.ex)
    (h : ∀ s O', R s O' → ∃ fs, O' ad = some (.ins C fs) ∧ fs.length < 1000 ∧ E.nx ρ (put O' ad (.ins C (putS f s fs))))
    (pn : PE X (.Name n npos) (tVar i) := by exact pv _) (hs : swapsWith e (some (.Attribute (.Name n npos) f apos)) pos.line X.env = pure false := by rfl) : D1 T X CE (.Assign [.Attribute (.Name n npos) f apos] e pos) ρ O E := .mk fun σ B H hE hA Dn W tk l => by
  refine ws_of (ps_fld pn pe_we hs) ?_
  refine he σ B H hE hA _ W tk (fun s O' w B1 H1 h1 p1 r1 => ?_) fun r O' v dd σ' B1 H1 h1 p1 e1 r1 => l.ex r O' v dd σ' B1 H1 h1 p1 e1 r1
  obtain ⟨fs, hO, hl, hn⟩ := h s O' h1
  obtain ⟨ov, e1, e2⟩ := (hE.mono p1.bb).get hi
  cases ov with
  | none => exact e2.elim
  | some v =>
    have ev : v = .ref ad := e2
    subst ev
    obtain ⟨_, u, hu, ok⟩ := p1.at'.own ad _ hO
    cases u <;> try exact ok.elim
    rename_i C' dx vs
    obtain ⟨eC, ok⟩ := ok
    subst eC
    have po := Post.put (u := .ins C' dx (putF f w vs)) (od := .ins C' (putS f s fs)) p1.at' hO ⟨rfl, FsOk.put r1 ok⟩
    exact ⟨_, e1, ad, C', dx, vs, rfl, hu, cl, na, by rw [ok.length]; exact hl, l.nx _ _ _ B1 _ hn (p1.trans po) (hE.mono p1.bb)⟩
/-! ### while -/
theorem d1_while (I : Nat → List Slot → OH → Prop) (n : Nat) (h0 : I n ρ O) (hs : ∀ m ρ' O', I m ρ' O' → ∃ p O2, DT T X c ρ' O' p O2 ∧
      (p = true → DS T X CE body ρ' O2 { E with nx := fun ρ2 O3 => ∃ m', m' < m ∧ I m' ρ2 O3, ct := fun ρ2 O3 => ∃ m', m' < m ∧ I m' ρ2 O3, bk := E.nx }) ∧ (p = false → E.nx ρ' O2)) (hp : PassesOwn (model X.prog X.w) X.A X.env X.xe) : D1 T X CE (.While c body [] pos) ρ O E := .mk fun σ B H hE hA Dn W tk l => by
  refine ws_of (ps_while hp pt_wt pss_wss) ⟨fun m σ' H' => ∃ ρ' O' B', I m ρ' O' ∧ Post T X.K B O H B' O' H' ∧ Env X.K B' σ' ρ', ⟨n, ρ, O, B, h0, Post.refl hA, hE⟩, ?_⟩
  rintro m σ' H' ⟨ρ', O', B', hI, po, hE'⟩
  obtain ⟨p, O2, t1, t2, t3⟩ := hs m ρ' O' hI
  refine t1 σ' B' H' hE' po.at' _ fun B2 H2 p2 => ?_
  have po2 := po.trans p2
  cases p with
  | true =>
    rw [if_pos rfl]
    refine ⟨fun σ3 H3 => ∃ m', m' < m ∧ ∃ ρ3 O3 B3, I m' ρ3 O3 ∧ Post T X.K B O H B3 O3 H3 ∧ Env X.K B3 σ3 ρ3, fun σ3 H3 q => q, ?_⟩
    refine t2 rfl σ' B2 H2 (hE'.mono p2.bb) p2.at' _ W tk ?_
    have l' := l.step po2
    exact ⟨fun ρ3 O3 σ3 B3 H3 ⟨m', h1, h2⟩ p3 e3 => ⟨m', h1, ρ3, O3, B3, h2, po2.trans p3, e3⟩, l'.rt, l'.nx, fun ρ3 O3 σ3 B3 H3 ⟨m', h1, h2⟩ p3 e3 => ⟨m', h1, ρ3, O3, B3, h2, po2.trans p3, e3⟩, l'.ex⟩
  | false =>
    rw [if_neg (by decide)]
    exact l.nx _ _ _ B2 _ (t3 rfl) po2 (hE'.mono p2.bb)
/-! ### pop -/
theorem dv_pop {ad : Addr} (ho : DV T X o ρ O (.val (.ref ad)) O1) (hO : O1 ad = some (.lst ss)) (hs : ss[ss.length - 1]? = some s)
    (pe : PE X (.Call (.Attribute o "pop" apos) [] [] pos) (tBM X.K "list" rPop (WE X o) tNil) := by exact pe_bm0 PySem.F.plainAttrs_list PySem.F.slot_list_pop PySem.F.type_list_pop mt_pop pe_we) : DV T X (.Call (.Attribute o "pop" apos) [] [] pos) ρ O s (put O1 ad (.lst ss.dropLast)) := .mk fun σ B H hE hA Q q => by
  refine we_of pe ?_
  refine ho σ B H hE hA _ fun v B1 H1 p1 r1 => ?_
  have ev : v = .ref ad := r1
  subst ev
  obtain ⟨_, u, hu, ok⟩ := p1.at'.own ad _ hO
  cases u <;> try exact ok.elim
  rename_i vs
  have ok' : Args X.K B1 vs ss := ok
  obtain ⟨w, h1, h2⟩ := ok'.get hs
  refine ⟨.inl ⟨rfl, vs, SqL.of hu⟩, ?_⟩
  refine ⟨ad, vs, w, rfl, rfl, hu, by rw [ok'.length]; exact h1, ?_⟩
  have po := Post.put (u := .lst vs.dropLast) (od := .lst ss.dropLast) p1.at' hO (show Args X.K B1 vs.dropLast ss.dropLast from ok'.dropLast)
  exact q w B1 _ (p1.trans po) h2
/-! ### a field among the targets -/
def gFld (K : PySem.W.Frag) (ta : TE) (f : Str) : TG := fun v σ H Q => ta σ H fun x H2 => ∃ a C dx fs, x = .ref a ∧ H2 a = some (.ins C dx fs) ∧ Cls K C ∧ NoAttr K C f ∧ fs.length < 1000 ∧ Q σ (upd H2 a (.ins C dx (putF f v fs)))
theorem pg_fld {o : Expr} {f : Str} {ta : TE} {p : Pos} (ha : PE X o ta) : PG X (.Attribute o f p) (gFld X.K ta f) := by
  refine ⟨fun pins s σ H v u Q I r h => ?_⟩
  rw [PySem.assign_Attribute]
  refine wpAny_bind (wpAny_holding (thn (ha.run pins s σ H _ I h) fun ov s1 ⟨x, H1, I1, rx, a, C, dx, fs, ex, ea, c, n, l, q⟩ => ?_))
  subst ex
  obtain rfl : ov = Value.ref a := rx
  exact wpAny_bind (wpAny_standAt (wpAny_bind (wpAny_holding (setattr_ok I1 ea c n l r fun s3 I3 => wpAny_release ⟨σ, _, I3, q⟩))))
/-- x, o.f = e, e a pair -/
theorem d1_unpackF (i j : Nat) {n m f : Str} {ad C : Addr} {k : Nat} {tp p1 p2 p3 : Pos} {fs : List (Str × Slot)} (cl : Cls X.K C) (na : NoAttr X.K C f) (he : DE T X e ρ O (.tup [x, y]) O1) (hj : (ρ.set i (.dat x))[j]? = some (.val (.ref ad))) (hO : O1 ad = some (.ins C fs)) (hl : fs.length < 1000)
    (h : E.nx (ρ.set i (.dat x)) (put O1 ad (.ins C (putS f (.dat y) fs)))) (hN : X.N.Nodup) (hc : X.calm = true := by rfl)
    (hi : X.N[i]? = some n := by rfl) (hx : Loc X.env.scope n := by first | exact Or.inl rfl | exact Or.inr rfl) (hf : X.fn n = true ∨ X.env.scope.names.lookup n = some .local := by first | exact .inl rfl | exact .inr rfl)
    (pn : PE X (.Name m p2) (tVar j) := by exact pv _)
    (q1 : (assignEach [.Name n p1, .Attribute (.Name m p2) f p3] X.env).map (·.2) = assign (.Name n p1) X.env :: (assignEach [.Attribute (.Name m p2) f p3] X.env).map (·.2) := by rfl) (q2 : (assignEach [.Attribute (.Name m p2) f p3] X.env).map (·.2) = assign (.Attribute (.Name m p2) f p3) X.env :: (assignEach [] X.env).map (·.2) := by rfl)
    (g1 : (assignEach [.Name n p1, .Attribute (.Name m p2) f p3] X.env).length = 2 := by rfl) (g2 : (assignEach [.Name n p1, .Attribute (.Name m p2) f p3] X.env).findIdx? (·.1) = none := by rfl) (h1 : swapsWithSole [.Tuple [.Name n p1, .Attribute (.Name m p2) f p3] k tp] e pos.line X.env = pure false := by rfl) (h2 : swappedStores [.Tuple [.Name n p1, .Attribute (.Name m p2) f p3] k tp] e X.env = pure none := by rfl) (h3 : (assignEach [.Tuple [.Name n p1, .Attribute (.Name m p2) f p3] k tp] X.env).map (·.2) = [assign (.Tuple [.Name n p1, .Attribute (.Name m p2) f p3] k tp) X.env] := by rfl) :
    D1 T X CE (.Assign [.Tuple [.Name n p1, .Attribute (.Name m p2) f p3] k tp] e pos) ρ O E := .mk fun σ B H hE hA Dn W tk l => by
  refine ws_of (ps_asg pe_we (pg_tup hc (pgs_cons (pg_name hN hi hx hf) (pgs_cons (pg_fld pn) pgs_nil q2) q1) g1 g2) h1 h2 h3) ?_
  refine he σ B H hE hA _ fun v B1 H1 p1 r1 => ?_
  cases r1 with
  | tup hq r =>
    cases r with
    | cons ra r =>
      cases r with
      | cons rb r =>
        cases r
        rename_i aa va vb
        refine ⟨aa, _, rfl, same_t p1.at'.base hq, rfl, va, _, rfl, vb, _, rfl, ?_⟩
        have hE1 := (hE.mono p1.bb).set (o := some va) (s := .dat x) (show SlotOk X.K B1 (some va) (.dat x) from ra) i
        obtain ⟨ov, e1, e2⟩ := hE1.get hj
        cases ov with
        | none => exact e2.elim
        | some v =>
          have ev : v = .ref ad := e2
          subst ev
          obtain ⟨_, u, hu, ok⟩ := p1.at'.own ad _ hO
          cases u <;> try exact ok.elim
          rename_i C' dx vs
          obtain ⟨eC, ok⟩ := ok
          subst eC
          have po := Post.put (u := .ins C' dx (putF f vb vs)) (od := .ins C' (putS f (.dat y) fs)) p1.at' hO ⟨rfl, FsOk.put (show SlotOk X.K B1 (some vb) (.dat y) from rb) ok⟩
          exact ⟨_, e1, ad, C', dx, vs, rfl, hu, cl, na, by rw [ok.length]; exact hl, rfl, l.nx _ _ _ B1 _ h (p1.trans po) hE1⟩
/-- a, b, .. = e, e a list that is owned -/
theorem d1_unpackO {k : Nat} {tp : Pos} {is : List Nat} {ad : Addr} (he : DV T X e ρ O (.val (.ref ad)) O1) (hO : O1 ad = some (.lst ss)) (hl : ss.length = is.length) (hn : Names X es is) (h : E.nx (setAll ρ is ss) O1) (hN : X.N.Nodup) (hc : X.calm = true := by rfl)
    (g1 : (assignEach es X.env).length = is.length := by rfl) (g2 : (assignEach es X.env).findIdx? (·.1) = none := by rfl) (h1 : swapsWithSole [.Tuple es k tp] e pos.line X.env = pure false := by rfl) (h2 : swappedStores [.Tuple es k tp] e X.env = pure none := by rfl) (h3 : (assignEach [.Tuple es k tp] X.env).map (·.2) = [assign (.Tuple es k tp) X.env] := by rfl) :
    D1 T X CE (.Assign [.Tuple es k tp] e pos) ρ O E := .mk fun σ B H hE hA Dn W tk l => by
  refine ws_of (ps_asg pe_we (pg_unl hc (pgs_names hN hn) g1 g2) h1 h2 h3) ?_
  refine he σ B H hE hA _ fun v B1 H1 p1 r1 => ?_
  have ev : v = .ref ad := r1
  subst ev
  obtain ⟨_, u, hu, ok⟩ := p1.at'.own ad _ hO
  cases u <;> try exact ok.elim
  rename_i vs
  have ok' : Args X.K B1 vs ss := ok
  have e1 : vs.length = is.length := by rw [ok'.length]; exact hl
  exact ⟨ad, vs, rfl, SqL.of hu, e1, e1, l.nx _ _ _ B1 H1 h p1 (Env.setAll is (hE.mono p1.bb) ok')⟩
/-! ### slices of tuples -/
theorem de_takeT {i : Int} {p2 : Pos} (ha : DE T X a ρ O (.tup ds) O1) (hb : DE T X b ρ O1 (.int i) O2) (h0 : 0 ≤ i) (h1 : i ≤ ds.length) (hz : ds.length ≤ 100000) : DE T X (.Subscript a (.Slice none (some b) none p2) pos) ρ O (.tup (ds.take i.toNat)) O2 :=
  de_of (pe_slice sl_tupA pe_we po_none (po_some pe_we)) fun σ B H hE hA Q q => ha σ B H hE hA _ fun v B1 H1 p1 r1 => by
    refine hb σ B1 H1 (hE.mono p1.bb) p1.at' _ fun w B2 H2 p2 r2 => ?_
    cases r2
    refine ⟨i, rfl, ?_⟩
    have po := p1.trans p2
    cases r1.mono p2.bb with
    | tup hq r =>
      rename_i l xs
      have hx : xs.length = ds.length := r.length
      have s0 : HT.sIx xs.length 0 none = 0 := rfl
      have s1 : HT.sIx xs.length xs.length (some i) = i.toNat := by
        unfold HT.sIx
        simp only [h0]
        first | omega | (split <;> omega) | simp <;> omega
      refine ⟨l, xs, rfl, same_t po.at'.base hq, fun hw => ?_, fun hw p np => ?_⟩
      · rw [s1] at hw
        exact q _ B2 H2 po (by rw [show ds.take i.toNat = ds from List.take_of_length_le (by rw [← hx]; omega)]; exact .tup hq r)
      · have ec : cutV xs none (some i) = xs.take i.toNat := by
          unfold cutV
          rw [s0, s1, List.drop_zero, Nat.sub_zero]
        rw [ec]
        have pm := Post.made (o := .tup (xs.take i.toNat)) p2.at' np
        exact q _ _ _ (po.trans pm) (.tup (SqT.of upd_same) ((r.take i.toNat).mono pm.bb))
theorem de_dropT {i : Int} {p2 : Pos} (ha : DE T X a ρ O (.tup ds) O1) (hb : DE T X b ρ O1 (.int i) O2) (h0 : 0 ≤ i) (h1 : i ≤ ds.length) (hz : ds.length ≤ 100000) : DE T X (.Subscript a (.Slice (some b) none none p2) pos) ρ O (.tup (ds.drop i.toNat)) O2 :=
  de_of (pe_slice sl_tupA pe_we (po_some pe_we) po_none) fun σ B H hE hA Q q => ha σ B H hE hA _ fun v B1 H1 p1 r1 => by
    refine hb σ B1 H1 (hE.mono p1.bb) p1.at' _ fun w B2 H2 p2 r2 => ?_
    cases r2
    refine ⟨i, rfl, ?_⟩
    have po := p1.trans p2
    cases r1.mono p2.bb with
    | tup hq r =>
      rename_i l xs
      have hx : xs.length = ds.length := r.length
      have s0 : HT.sIx xs.length xs.length none = xs.length := rfl
      have s1 : HT.sIx xs.length 0 (some i) = i.toNat := by
        unfold HT.sIx
        simp only [h0]
        first | omega | (split <;> omega) | simp <;> omega
      refine ⟨l, xs, rfl, same_t po.at'.base hq, fun hw => ?_, fun hw p np => ?_⟩
      · rw [s1] at hw
        exact q _ B2 H2 po (by rw [show ds.drop i.toNat = ds from by rw [hw.1]; rfl]; exact .tup hq r)
      · have ec : cutV xs (some i) none = xs.drop i.toNat := by
          unfold cutV
          rw [s0, s1]
          exact List.take_of_length_le (by rw [List.length_drop]; omega)
        rw [ec]
        have pm := Post.made (o := .tup (xs.drop i.toNat)) p2.at' np
        exact q _ _ _ (po.trans pm) (.tup (SqT.of upd_same) ((r.drop i.toNat).mono pm.bb))
/-! ### a dict of the module -/
theorem de_inKD {n : Str} {z : Str} {ad : Addr} {es : Array DictEntry} {m : Nat} {r : Option Value} {p : Pos} (hm : X.mg n = some (.ref ad)) (D : KDict X.K X.w ad es m) (hk : PySem.W.nsIn X.K ad z = some r) (ha : DE T X a ρ O (.str z) O1) (hg : Gl X n := by rfl) (hd : (n == ("__debug__" : Str)) = false := by decide) (hi : behindInMarks .In (.Name n p) = false := by rfl) :
    DT T X (.Compare a [.In] [.Name n p] pos) ρ O r.isSome O1 :=
  dt_of (pt_cmpR (op_in_kd D) pe_we (pe_glob (v := .ref ad) hg hm rfl hd) hi) fun σ B H hE hA Q q => ha σ B H hE hA _ fun v B1 H1 p1 r1 => by
    cases r1
    exact ⟨z, r, rfl, rfl, hk, _, rfl, q B1 H1 p1⟩
theorem de_ninKD {n : Str} {z : Str} {ad : Addr} {es : Array DictEntry} {m : Nat} {r : Option Value} {p : Pos} (hm : X.mg n = some (.ref ad)) (D : KDict X.K X.w ad es m) (hk : PySem.W.nsIn X.K ad z = some r) (ha : DE T X a ρ O (.str z) O1) (hg : Gl X n := by rfl) (hd : (n == ("__debug__" : Str)) = false := by decide) (hi : behindInMarks .NotIn (.Name n p) = false := by rfl) :
    DT T X (.Compare a [.NotIn] [.Name n p] pos) ρ O (!r.isSome) O1 :=
  dt_of (pt_cmpR (op_notIn_kd D) pe_we (pe_glob (v := .ref ad) hg hm rfl hd) hi) fun σ B H hE hA Q q => ha σ B H hE hA _ fun v B1 H1 p1 r1 => by
    cases r1
    exact ⟨z, r, rfl, rfl, hk, _, rfl, q B1 H1 p1⟩
/-! ### new lists -/
/-- list(e), e an owned list: a new one, owned -/
theorem dvx_listO {ad : Addr} (hm : X.mg "list" = none) (ho : DV T X e ρ O (.val (.ref ad)) O1) (hO : O1 ad = some (.lst ss)) (hg : Gl X "list" := by rfl) (he : starEach [e] X.env = (false, eval e X.env) :: starEach [] X.env := by rfl) :
    DVX T X CE (.Call (.Name "list" p0) [e] [] pos) ρ O (fun s' O' => ∃ p, O1 p = none ∧ s' = .val (.ref p) ∧ O' = put O1 p (.lst ss)) (fun _ _ => False) := fun σ B H hE hA Q W tk q _ =>
  we_of (pe_callTy call_list_of hg hm boot_list (pa_cons pe_we pa_nil he) (by decide) (by decide) he) (ho σ B H hE hA _ fun v B1 H1 p1 r1 => by
    have ev : v = .ref ad := r1
    subst ev
    obtain ⟨_, u, hu, ok⟩ := p1.at'.own ad _ hO
    cases u <;> try exact ok.elim
    rename_i vs
    have ok' : Args X.K B1 vs ss := ok
    refine ⟨ad, vs, rfl, .inl (SqL.of hu), fun l hl => ?_⟩
    have pm := Post.madeO (o := .lst vs) (od := .lst ss) p1.at' hl ok'
    exact q _ _ (.ref l) B1 _ ⟨l, p1.at'.noO hl, rfl, rfl⟩ (p1.trans pm) rfl)
/-- x = [e, ..], e with many answers -/
theorem d1_ownX (i : Nat) {n : Str} {lp : Pos} (he : DVX T X CE e ρ O R (fun _ _ => False)) (h : ∀ s O1, R s O1 → ∃ ss O2, DA T X es ρ O1 ss O2 ∧ ss.length < 1000 ∧ ∀ p, O2 p = none → E.nx (ρ.set i (.val (.ref p))) (put O2 p (.lst (s :: ss)))) (hN : X.N.Nodup) (hi : X.N[i]? = some n := by rfl) (hx : Loc X.env.scope n := by first | exact Or.inl rfl | exact Or.inr rfl)
    (hs : swapsWith (.List (e :: es) lp) (some (.Name n pos')) pos.line X.env = pure false := by rfl) (hf : X.fn n = true ∨ X.env.scope.names.lookup n = some .local := by first | exact .inl rfl | exact .inr rfl) (hst : starEach (e :: es) X.env = (false, eval e X.env) :: starEach es X.env := by rfl) : D1 T X CE (.Assign [.Name n pos'] (.List (e :: es) lp) pos) ρ O E :=
  .mk fun σ B H hE hA Dn W tk l => ws_of (ps_set hN hi hx (pe_lst (pa_cons pe_we pa_wa hst)) hs hf) (he σ B H hE hA _ W tk (fun s O1 v B1 H1 h1 p1 r1 => by
    obtain ⟨ss, O2, ha, hl, hk⟩ := h s O1 h1
    refine ha σ B1 H1 (hE.mono p1.bb) p1.at' _ fun vs B2 H2 p2 r2 => ?_
    refine ⟨?_, fun p hp => ?_⟩
    · rw [List.length_cons, r2.length]
      have : (100000 : Nat) ≤ sizeLine := by decide
      omega
    · have ok : Args X.K B2 (v :: vs) (s :: ss) := .cons (r1.mono p2.bb) r2
      have pm := Post.madeO (o := .lst (v :: vs)) (od := .lst (s :: ss)) p2.at' hp ok
      exact l.nx _ _ _ B2 _ (hk p (p2.at'.noO hp)) ((p1.trans p2).trans pm) (((hE.mono p1.bb).mono p2.bb).set (s := .val (.ref p)) (show SlotOk X.K B2 (some (.ref p)) (.val (.ref p)) from rfl) i)) fun _ _ _ _ _ _ _ z _ _ _ => z.elim)
/-- [e], e with many answers, all of them data -/
theorem dvx_lst1 {lp : Pos} (he : DVX T X CE e ρ O R Rx) (hd : ∀ s O', R s O' → ∃ d, s = .dat d) (hst : starEach [e] X.env = (false, eval e X.env) :: starEach [] X.env := by rfl) : DVX T X CE (.List [e] lp) ρ O (fun s' O' => ∃ d, R (.dat d) O' ∧ s' = .dat (.lst [d])) Rx := fun σ B H hE hA Q W tk q qx =>
  we_of (pe_lst (pa_cons pe_we pa_nil hst)) (he σ B H hE hA _ W tk (fun s O1 v B1 H1 h1 p1 r1 => by
    obtain ⟨d, rfl⟩ := hd s O1 h1
    refine ⟨by show 1 ≤ sizeLine; decide, fun p hp => ?_⟩
    have pm := Post.made (o := .lst [v]) p1.at' hp
    exact q _ O1 (.ref p) _ _ ⟨d, h1, rfl⟩ (p1.trans pm) (show Rp X.K _ (.ref p) (.lst [d]) from .lst upd_same (.cons (Rp.mono pm.bb r1) .nil))) qx)
/-- x = {} -/
theorem d1_ownDic0 (i : Nat) {n : Str} {dp : Pos} (h : ∀ p, O p = none → E.nx (ρ.set i (.val (.ref p))) (put O p (.dic []))) (hN : X.N.Nodup) (hi : X.N[i]? = some n := by rfl) (hx : Loc X.env.scope n := by first | exact Or.inl rfl | exact Or.inr rfl)
    (hs : swapsWith (.Dict [] [] dp) (some (.Name n pos')) pos.line X.env = pure false := by rfl) (hf : X.fn n = true ∨ X.env.scope.names.lookup n = some .local := by first | exact .inl rfl | exact .inr rfl) : D1 T X CE (.Assign [.Name n pos'] (.Dict [] [] dp) pos) ρ O E :=
  .mk fun σ B H hE hA Dn W tk l => ws_of (ps_set hN hi hx pe_dnewK hs hf) (fun p hp => by
    have pm := Post.madeO (o := .dK []) (od := .dic []) hA hp (show KsOk X.K B [] [] from .nil)
    exact l.nx _ _ _ B _ (h p (hA.noO hp)) pm (hE.set (s := .val (.ref p)) (show SlotOk X.K B (some (.ref p)) (.val (.ref p)) from rfl) i))
end
end Dz

/-! comprehensions over lists that are owned -/
namespace Dz
open PySem PySem.Spec PyProof.Rows L2 GxR
section
variable {T : List Addr} {X : Cx} {scope : Scope} {ρ ρ1 : List Slot} {O O1 O2 : OH} {c elt iter : Expr} {ifs : List Expr} {b : Bool} {d : D} {B H : Hp} {a : Addr} {I : Nat → List D → OH → Prop} {s : Slot} {ss : List Slot} {ds out : List D} {np pos tp : Pos} {n n1 n2 : Str}
/-- what is owned at l is given back behind a piece that did not touch it -/
theorem Post.regain {T : List Addr} {K : PySem.W.Frag} {B H B1 H1 : Hp} {O O1 : OH} {l : Addr} {od : OD} (hA : At T K B O H) (ho : O l = some od) (p : Post T K B (cut O l) H B1 O1 H1) : Post T K B O H B1 (Dz.put O1 l od) H1 := by
  obtain ⟨b0, u, hu, ok⟩ := hA.own l od ho
  have hT := hA.notT ho
  have h1 : H1 l = some u := p.fr l u hu cut_same hT
  have b1 : B1 l = none := (p.new l (ne_some hu) cut_same).trans b0
  have cn : ∀ {c : Addr}, O c = none → cut O l c = none := fun {c} h => by
    unfold cut
    split
    · rfl
    · exact h
  exact
    { at' :=
        { base := p.at'.base
          own := fun c o e => by
            by_cases z : c = l
            · subst z
              rw [put_same] at e
              cases e
              exact ⟨b1, u, h1, ok.mono p.bb⟩
            · rw [put_ne z] at e
              exact p.at'.own c o e
          nt := fun P hP => by
            have z : P ≠ l := fun z => hT (by rw [← z]; exact hP)
            rw [put_ne z]
            exact p.at'.nt P hP
          tabs := p.at'.tabs }
      bb := p.bb
      new := fun c h1 h2 => p.new c h1 (cn h2)
      own := fun c h => by
        by_cases z : c = l
        · subst z
          exact .inl (ne_some ho)
        · rw [put_ne z] at h
          rcases p.own c h with q | q
          · rw [cut_ne z] at q
            exact .inl q
          · exact .inr q
      fr := fun c o h1 h2 h3 => p.fr c o h1 (cn h2) h3
      dom := p.dom }
theorem put_cut {O : OH} {l : Addr} {o : OD} (h : O l = some o) : put (cut O l) l o = O := by
  funext c
  unfold put cut
  by_cases z : c = l
  · subst z
    simp [h]
  · simp [z]
/-- the tests and the element, wherever the names stand -/
theorem lc_turnS {σ σ1 : L2.St} {j : Nat} {Hj : Hp} {is : List Nat} (hA : At T X.K B O H) (n : H a = none) (hj : j < 100000)
    (hw : wipe σ1 is = wipe σ is) (hE : ∀ B', Same B B' → Env X.K B' σ1 ρ1) (ht : ∀ acc O', I j acc O' → LcTurn T X scope ifs elt I j ρ1 acc O') (h : LcI T X.K B O H a I j Hj) :
    wipe σ1 is = wipe σ is ∧ TTb X scope ifs σ1 Hj fun b H3 =>
      if b = true then TEb X scope elt σ1 H3 fun y H4 => ∃ acc, H4 a = some (.lst acc) ∧ acc.length < sizeLine ∧ LcI T X.K B O H a I (j + 1) (upd H4 a (.lst (acc ++ [y]))) else LcI T X.K B O H a I (j + 1) H3 := by
  obtain ⟨B', O', acc, xs, h1, h2, h3, h4, h5, h6, h7⟩ := h
  refine ⟨hw, ?_⟩
  have hE' := hE B' h2.bb
  have ha : Hj a ≠ none := by rw [h5]; exact fun z => by cases z
  obtain ⟨b, O2, t1, t2, t3⟩ := ht acc O' h1
  refine t1 _ B' Hj hE' h2.at' _ fun B2 H2 p2 => ?_
  have k1 : B2 a = none := by rw [p2.new a ha h4]; exact h3
  have k2 : O2 a = none := p2.keepO ha h4
  have k3 : H2 a = some (.lst xs) := p2.fr a _ h5 h4 (hA.newT n)
  cases b with
  | false =>
    rw [if_neg (by decide)]
    exact ⟨B2, O2, acc, xs, t3 rfl, h2.trans p2, k1, k2, k3, h6.mono p2.bb, Nat.le_succ_of_le h7⟩
  | true =>
    rw [if_pos rfl]
    obtain ⟨y, O3, t4, t5⟩ := t2 rfl
    intro s0 H0 C cl fp
    refine t4 s0 H0 C cl fp _ B2 H2 (hE'.mono p2.bb) p2.at' _ fun w B3 H3 p3 r3 => ?_
    have ha2 : H2 a ≠ none := by rw [k3]; exact fun z => by cases z
    have m1 : B3 a = none := by rw [p3.new a ha2 k2]; exact k1
    have m2 : O3 a = none := p3.keepO ha2 k2
    have m3 : H3 a = some (.lst xs) := p3.fr a _ k3 k2 (hA.newT n)
    refine ⟨xs, m3, ?_, B3, O3, acc ++ [y], xs ++ [w], t5, Post.over hA n ((h2.trans p2).trans p3) m1 m2, m1, m2, upd_same, ((h6.mono p2.bb).mono p3.bb).append (.cons r3 .nil), ?_⟩
    · rw [h6.length]
      have : (100000 : Nat) ≤ sizeLine := by decide
      omega
    · rw [List.length_append, List.length_singleton]
      omega
/-- [e for x in xs], xs owned -/
theorem de_lcO (i : Nat) {l : Addr} (he : DV T X iter ρ O (.val (.ref l)) O1) (hO : O1 l = some (.lst ss)) (I : Nat → List D → Prop) (h0 : I 0 []) (ht : ∀ j s acc, ss[j]? = some s → I j acc → LcTurn T X scope ifs elt (fun j acc O' => I j acc ∧ O' = cut O1 l) j ((ρ.set i .no).set i s) acc (cut O1 l)) (hd : ∀ acc, I ss.length acc → acc = out)
    (hl : ss.length ≤ 100000) (hN : X.N.Nodup) (ok : BlkOk X.N X.env.scope scope [(n, i)]) (hi : X.N[i]? = some n := by rfl) (hx : ∀ (s : Shared) (H : Hp) (C : Addr) (cl : List (Str × Addr)) (fp : List Addr), Loc (blkX X scope s H C cl fp).env.scope n := by first | exact fun _ _ _ _ _ => Or.inl rfl | exact fun _ _ _ _ _ => Or.inr rfl)
    (hf : ∀ (s : Shared) (H : Hp) (C : Addr) (cl : List (Str × Addr)) (fp : List Addr), (blkX X scope s H C cl fp).fn n = true ∨ (blkX X scope s H C cl fp).env.scope.names.lookup n = some .local := by first | exact fun _ _ _ _ _ => .inl rfl | exact fun _ _ _ _ _ => .inr rfl) (hc : X.calm = true := by rfl) (hs : ∀ x, foldedSetIterable iter X.env x = pure x := by intro _; rfl) :
    DE T X (.ListComp elt [⟨.Name n np, iter, ifs, 0⟩] scope pos) ρ O (.lst out) O1 :=
  de_of (pe_lc hc hN (pi_list pe_we) ok (fun s H C cl fp => pg_name hN hi (hx s H C cl fp) (hf s H C cl fp)) ptsb peb hs) fun σ B H hE hA Q q => he σ B H hE hA _ fun v B1 H1 p1 r1 => by
    have ev : v = .ref l := r1
    subst ev
    have hA0 := p1.at'
    obtain ⟨_, u, hu, ok'⟩ := hA0.own l _ hO
    cases u <;> try exact ok'.elim
    rename_i xs
    have okA : Args X.K B1 xs ss := ok'
    refine ⟨l, rfl, ⟨xs, SqL.of hu⟩, fun a na => ?_⟩
    have hA1 : At T X.K B1 (cut O1 l) H1 := hA0.forget l
    refine lc_list (K := X.K) (xs := xs) (a := l) (fun j H' => LcI T X.K B1 (cut O1 l) H1 a (fun j acc O' => I j acc ∧ O' = cut O1 l) j H') (LcI.start hA1 na ⟨h0, rfl⟩) (fun j H' _ h => ?_) (fun j x H' hj h => ?_) (fun H' h => ?_)
    · obtain ⟨B', _, _, _, _, h2, _⟩ := h
      exact SqL.of (h2.fr l _ hu cut_same (hA0.notT hO))
    · have hjl : j < ss.length := by
        rw [← okA.length]
        exact (List.getElem?_eq_some_iff.mp hj).1
      have hsj : ss[j]? = some ss[j] := List.getElem?_eq_getElem hjl
      obtain ⟨x', e1, e2⟩ := okA.get hsj
      have ex : x' = x := by rw [hj] at e1; exact (Option.some.inj e1).symm
      subst ex
      exact lc_turnS (σ := σ) (σ1 := (wipe σ [i]).set i (some x')) (ρ1 := (ρ.set i .no).set i ss[j]) (is := [i]) hA1 na (Nat.lt_of_lt_of_le hjl hl) ((wipe_set (List.mem_singleton.mpr rfl)).trans (wipe_wipe fun _ h => h)) (fun B' sb => (((hE.mono p1.bb).mono sb).wipe1 i).set (o := some x') (s := ss[j]) (e2.mono sb) i) (fun acc O' hI => by
        obtain ⟨hI, rfl⟩ := hI
        exact ht j _ acc hsj hI) h
    · rw [okA.length] at h
      exact LcI.fin (out := out) (Oo := cut O1 l) hA1 na h (fun acc O' hI => ⟨hd acc hI.1, hI.2⟩) fun v B2 H2 p2 r2 => q v B2 H2 (p1.trans (by have z := Post.regain hA0 hO p2; rw [put_cut hO] at z; exact z)) r2
/-- [e for x, y in xs], xs owned, of pairs -/
theorem de_lcO2 (i1 i2 : Nat) {l : Addr} {k : Nat} {p1' p2' : Pos} (he : DV T X iter ρ O (.val (.ref l)) O1) (hO : O1 l = some (.lst (ds.map .dat))) (hds : ∀ d ∈ ds, ∃ x y, d = .tup [x, y]) (I : Nat → List D → Prop) (h0 : I 0 []) (ht : ∀ j x y acc, ds[j]? = some (.tup [x, y]) → I j acc → LcTurn T X scope ifs elt (fun j acc O' => I j acc ∧ O' = cut O1 l) j ((((ρ.set i2 .no).set i1 .no).set i1 (.dat x)).set i2 (.dat y)) acc (cut O1 l)) (hd : ∀ acc, I ds.length acc → acc = out)
    (hl : ds.length ≤ 100000) (hN : X.N.Nodup) (ok : BlkOk X.N X.env.scope scope [(n1, i1), (n2, i2)]) (hn : ∀ (s : Shared) (H : Hp) (C : Addr) (cl : List (Str × Addr)) (fp : List Addr), Names (blkX X scope s H C cl fp) [.Name n1 p1', .Name n2 p2'] [i1, i2])
    (g1 : ∀ (s : Shared) (H : Hp) (C : Addr) (cl : List (Str × Addr)) (fp : List Addr), (assignEach [.Name n1 p1', .Name n2 p2'] (blkX X scope s H C cl fp).env).length = 2 := by intro _ _ _ _ _; rfl) (g2 : ∀ (s : Shared) (H : Hp) (C : Addr) (cl : List (Str × Addr)) (fp : List Addr), (assignEach [.Name n1 p1', .Name n2 p2'] (blkX X scope s H C cl fp).env).findIdx? (·.1) = none := by intro _ _ _ _ _; rfl)
    (hc2 : ∀ (s : Shared) (H : Hp) (C : Addr) (cl : List (Str × Addr)) (fp : List Addr), (blkX X scope s H C cl fp).calm = true := by intro _ _ _ _ _; rfl) (hc : X.calm = true := by rfl) (hs : ∀ x, foldedSetIterable iter X.env x = pure x := by intro _; rfl) :
    DE T X (.ListComp elt [⟨.Tuple [.Name n1 p1', .Name n2 p2'] k tp, iter, ifs, 0⟩] scope pos) ρ O (.lst out) O1 :=
  de_of (pe_lc (g := gTup X.K 2 (fun vs σ H Q => vs.length = [i1, i2].length ∧ Q (List.foldl (fun σ (p : Nat × V) => σ.set p.1 (some p.2)) σ ([i1, i2].zip vs)) H)) hc hN (pi_list pe_we) ok (fun s H C cl fp => pg_tup (hc2 s H C cl fp) (pgs_names (X := blkX X scope s H C cl fp) hN (hn s H C cl fp)) (g1 s H C cl fp) (g2 s H C cl fp)) ptsb peb hs) fun σ B H hE hA Q q => he σ B H hE hA _ fun v B1 H1 p1 r1 => by
    have ev : v = .ref l := r1
    subst ev
    have hA0 := p1.at'
    obtain ⟨_, u, hu, ok'⟩ := hA0.own l _ hO
    cases u <;> try exact ok'.elim
    rename_i xs
    have okA : RpAll X.K B1 xs ds := Args.all ok'
    refine ⟨l, rfl, ⟨xs, SqL.of hu⟩, fun a na => ?_⟩
    have hA1 : At T X.K B1 (cut O1 l) H1 := hA0.forget l
    refine lc_list (K := X.K) (xs := xs) (a := l) (fun j H' => LcI T X.K B1 (cut O1 l) H1 a (fun j acc O' => I j acc ∧ O' = cut O1 l) j H') (LcI.start hA1 na ⟨h0, rfl⟩) (fun j H' _ h => ?_) (fun j x H' hj h => ?_) (fun H' h => ?_)
    · obtain ⟨B', _, _, _, _, h2, _⟩ := h
      exact SqL.of (h2.fr l _ hu cut_same (hA0.notT hO))
    · have hjl : j < ds.length := by
        rw [← okA.length]
        exact (List.getElem?_eq_some_iff.mp hj).1
      obtain ⟨d, hsj, e2⟩ := okA.getV hj
      obtain ⟨dx, dy, rfl⟩ := hds d (List.mem_of_getElem? hsj)
      have sb0 : ∃ B', Same B1 B' ∧ At T X.K B' (cut O1 l) H' := by
        obtain ⟨B', O', _, _, ⟨_, rfl⟩, h2, _⟩ := h
        exact ⟨B', h2.bb, h2.at'⟩
      obtain ⟨B', sb, hAt⟩ := sb0
      cases e2 with
      | tup hq r =>
        cases r with
        | cons ra r =>
          cases r with
          | cons rb r =>
            cases r
            rename_i aa va vb
            refine ⟨aa, _, rfl, same_t hAt.base (same_t sb hq), rfl, rfl, ?_⟩
            exact lc_turnS (σ := σ) (σ1 := ((wipe σ [i1, i2]).set i1 (some va)).set i2 (some vb)) (ρ1 := (((ρ.set i2 .no).set i1 .no).set i1 (.dat dx)).set i2 (.dat dy)) (is := [i1, i2]) hA1 na (Nat.lt_of_lt_of_le hjl hl) ((wipe_set (by simp)).trans ((wipe_set (by simp)).trans (wipe_wipe fun _ h => h))) (fun B' sb => (((((hE.mono p1.bb).mono sb).wipe1 i2).wipe1 i1).set (o := some va) (s := .dat dx) (Rp.mono sb ra) i1).set (o := some vb) (s := .dat dy) (Rp.mono sb rb) i2) (fun acc O' hI => by
              obtain ⟨hI, rfl⟩ := hI
              exact ht j _ _ acc hsj hI) h
    · rw [okA.length] at h
      exact LcI.fin (out := out) (Oo := cut O1 l) hA1 na h (fun acc O' hI => ⟨hd acc hI.1, hI.2⟩) fun v B2 H2 p2 r2 => q v B2 H2 (p1.trans (by have z := Post.regain hA0 hO p2; rw [put_cut hO] at z; exact z)) r2
end
end Dz

namespace Dg
open PySem PySem.Spec PyProof.Rows L2 GxR Dz
def top (i : Nat) : Stmt := PySem.Challenge.pw_dragtold_k05_stages.main.body.getD i (.Pass ⟨0, 0, 0, 0⟩)
abbrev sIsNumber : Stmt := top 1
abbrev sIsBelow : Stmt := top 2
abbrev sIsWord : Stmt := top 3
abbrev sErrI : Stmt := inClass (top 5) 0
abbrev s_is_within : Stmt := top 10
abbrev s_is_there : Stmt := top 11
abbrev s_is_movable : Stmt := top 12
abbrev s_side_of : Stmt := top 13
abbrev s_is_possible_change : Stmt := top 14
abbrev s_changed : Stmt := top 15
abbrev s_put_into : Stmt := top 16
abbrev sSetupI : Stmt := inClass (top 25) 0
abbrev sListI : Stmt := inClass (top 26) 0
abbrev sIsChoice : Stmt := top 27
abbrev sInOrder : Stmt := top 28
abbrev sAreStates : Stmt := top 29
abbrev sAreRules : Stmt := top 30
abbrev sIsRule : Stmt := top 31
abbrev sNext : Stmt := top 32
abbrev sApplies : Stmt := top 33
abbrev sTakes : Stmt := top 34
abbrev s_events_of : Stmt := top 37
abbrev s_point_events : Stmt := top 38
abbrev s_target_behind : Stmt := top 39
abbrev s_heard : Stmt := top 40
abbrev s_reaches : Stmt := top 41
abbrev s_signal_of : Stmt := top 42
abbrev s_without_zone : Stmt := top 43
abbrev s_Stage_init : Stmt := inClass (top 49) 0
abbrev s_Stage_act : Stmt := inClass (top 49) 1
abbrev s_Stage_undo : Stmt := inClass (top 49) 2
abbrev s_Stage_steps : Stmt := inClass (top 49) 3
abbrev s_Stage_side : Stmt := inClass (top 49) 4
abbrev s_Stage_is_hovered : Stmt := inClass (top 49) 5
abbrev s_play : Stmt := top 50
abbrev s_first_scene : Stmt := top 51
abbrev s_current_target : Stmt := top 52
abbrev s_is_zone_hovered : Stmt := top 53
abbrev s_is_possible : Stmt := top 54
abbrev s_is_possible_tick : Stmt := top 55
abbrev s_is_possible_slip : Stmt := top 56
abbrev s_carried_out : Stmt := top 57
abbrev s_signals_on_page : Stmt := top 58
abbrev sLCell : Stmt := top 60
abbrev sLRow : Stmt := top 61
abbrev sLDraw : Stmt := top 62
abbrev sLSome : Stmt := top 63
abbrev sLKinds : Stmt := top 64
abbrev sLSetup : Stmt := top 65
abbrev s_law_troubles : Stmt := top 66
abbrev sLSignals : Stmt := top 67
abbrev sLRule : Stmt := top 68
abbrev sLSample : Stmt := top 69
abbrev sLList : Stmt := top 70
abbrev sLNext : Stmt := top 71
abbrev s_law_made : Stmt := top 72
abbrev sLListening : Stmt := top 73
abbrev s_law_reaches : Stmt := top 74
abbrev s_law_signal : Stmt := top 75
abbrev s_law_page : Stmt := top 76
abbrev s_law_is_there : Stmt := top 77
abbrev s_law_is_within : Stmt := top 78
abbrev s_law_number : Stmt := top 79
abbrev s_law_current : Stmt := top 80
abbrev s_law_removed : Stmt := top 81
abbrev s_law_can : Stmt := top 82
abbrev s_law_changes : Stmt := top 83
abbrev s_law_events : Stmt := top 84
abbrev s_law_tick : Stmt := top 85
abbrev s_law_copied : Stmt := top 86
abbrev s_law_step : Stmt := top 87
abbrev s_law_told : Stmt := top 88
abbrev s_law_due : Stmt := top 89
abbrev s_law_is_hovered : Stmt := top 90
abbrev s_law_sides : Stmt := top 91
abbrev s_law_same_look : Stmt := top 92
abbrev sLaw : Stmt := top 93
end Dg

namespace Dg
open PySem PySem.Spec PyProof.Rows L2 GxR Dz
def isNum : D → Bool
  | .int i => decide (0 ≤ i)
  | _ => false
def isBelow (n : Int) : D → Bool
  | .int i => decide (0 ≤ i) && decide (i < n)
  | _ => false
def isWord (ws : List Str) : D → Bool
  | .str x => (ws.map D.str).any fun y => deq y (.str x)
  | _ => false
theorem oks_strs (ws : List Str) (n : Nat) : D.oks n (ws.map D.str) = true := by
  rw [oks_all, List.all_map]
  exact List.all_eq_true.mpr fun _ _ => by cases n <;> rfl
section
variable {P : Program} {w : World} {K : PySem.W.Frag} {mg : Str → Option Value} {base : Heap} {T : List Addr}
theorem scNum : FnScope ["value"] ["value"] (defScope sIsNumber) := ⟨rfl, rfl, rfl, by decide +kernel, rfl, by decide +kernel, by decide +kernel⟩
def pNum (ss : List Slot) (O : OH) (d : D) (O' : OH) : Prop := ∃ x, ss = [.dat x] ∧ Pl x ∧ d = .bl (isNum x) ∧ O' = O
theorem ok_num {f : Addr} {fd : FuncData} {cdv : Value} (F : FunC K "is_number" "is_number" sIsNumber f fd cdv) (L : Blt mg) : FnOk P w K mg base CX0 1 f fd ["value"] (spF T K pNum) := by
  refine fn_ok (CE := (0 : Addr)) (R := pNum) F scNum (fun ss O d O' ⟨x, h, _⟩ => by rw [h]; rfl) fun A outer s H E ss O d O' hr h => ?_
  obtain ⟨x, h1, h2, h3, h4⟩ := h
  subst h1 h3 h4
  refine ds_one (d1_ret (s := .dat (.bl (isNum x))) (O1 := O') ?_ (by exact ⟨rfl, rfl⟩))
  have h1 : isaInt x = true → isaBool x = false → ∃ i, x = .int i := by cases h2 <;> simp [isaInt, isaBool]
  have hq : isNum x = (isaInt x && ((!isaBool x) && isNum x)) := by cases h2 <;> rfl
  rw [hq]
  refine (de_and (de_isInt L h2 (de_var 0)) fun z1 => de_and (de_not (de_isBool L h2 (de_var 0))) fun z2 => de_one ?_).dv
  obtain ⟨i, rfl⟩ := h1 z1 (by simpa using z2)
  exact de_ge (de_var 0) de_int
theorem scBelow : FnScope ["value", "bound"] ["value", "bound"] (defScope sIsBelow) := ⟨rfl, rfl, rfl, by decide +kernel, rfl, by decide +kernel, by decide +kernel⟩
def pBelow (ss : List Slot) (O : OH) (d : D) (O' : OH) : Prop := ∃ x n, ss = [.dat x, .dat (.int n)] ∧ Pl x ∧ d = .bl (isBelow n x) ∧ O' = O
theorem ok_below {f g : Addr} {fd gd : FuncData} {cdv : Value} (F : FunC K "is_number_below" "is_number_below" sIsBelow f fd cdv) (L : Blt mg) (G : FnOk P w K mg base CX0 1 g gd ["value"] (spF T K pNum)) (hg : mg "is_number" = some (.ref g)) (kg : PySem.W.keepIn K (.ref g) = true) (bg : Binds K gd ["value"] []) :
    FnOk P w K mg base CX0 2 f fd ["value", "bound"] (spF T K pBelow) := by
  refine fn_ok (CE := (0 : Addr)) (R := pBelow) F scBelow (fun ss O d O' ⟨x, n, h, _⟩ => by rw [h]; rfl) fun A outer s H E ss O d O' hr h => ?_
  obtain ⟨x, n, h1, h2, h3, h4⟩ := h
  subst h1 h3 h4
  refine ds_one (d1_ret (s := .dat (.bl (isBelow n x))) (O1 := O') ?_ (by exact ⟨rfl, rfl⟩))
  have hq : isBelow n x = (isNum x && isBelow n x) := by
    cases h2 with
    | int i => show (decide (0 ≤ i) && decide (i < n)) = (decide (0 ≤ i) && (decide (0 ≤ i) && decide (i < n))); rw [← Bool.and_assoc, Bool.and_self]
    | _ => rfl
  have h1 : isNum x = true → ∃ i, x = .int i ∧ 0 ≤ i := by cases h2 <;> simp [isNum]
  rw [hq]
  refine DE.dv (de_and (de_call G hr hg kg bg pass0 (da_d (de_var 0) da_nil) ⟨x, rfl, h2, rfl, rfl⟩) fun z => de_one ?_)
  obtain ⟨i, rfl, hi⟩ := h1 z
  have e : isBelow n (.int i) = decide (i < n) := by show (decide (0 ≤ i) && decide (i < n)) = _; rw [decide_eq_true hi, Bool.true_and]
  rw [e]
  exact de_lt (de_var 0) (de_var 1)
theorem scWord : FnScope ["value", "words"] ["value", "words"] (defScope sIsWord) := ⟨rfl, rfl, rfl, by decide +kernel, rfl, by decide +kernel, by decide +kernel⟩
def pWord (ss : List Slot) (O : OH) (d : D) (O' : OH) : Prop := ∃ x ws, ss = [.dat x, .dat (.tup (ws.map .str))] ∧ Pl x ∧ d = .bl (isWord ws x) ∧ O' = O
theorem ok_word {f : Addr} {fd : FuncData} {cdv : Value} (F : FunC K "is_word" "is_word" sIsWord f fd cdv) (L : Blt mg) : FnOk P w K mg base CX0 1 f fd ["value", "words"] (spF T K pWord) := by
  refine fn_ok (CE := (0 : Addr)) (R := pWord) F scWord (fun ss O d O' ⟨x, ws, h, _⟩ => by rw [h]; rfl) fun A outer s H E ss O d O' hr h => ?_
  obtain ⟨x, ws, h1, h2, h3, h4⟩ := h
  subst h1 h3 h4
  refine ds_one (d1_ret (s := .dat (.bl (isWord ws x))) (O1 := O') ?_ (by exact ⟨rfl, rfl⟩))
  have hq : isWord ws x = (isaStr x && isWord ws x) := by cases h2 <;> rfl
  have h1 : isaStr x = true → ∃ t, x = .str t := by cases h2 <;> simp [isaStr]
  rw [hq]
  refine (de_and (de_isStr L h2 (de_var 0)) fun z => de_one ?_).dv
  obtain ⟨t, rfl⟩ := h1 z
  exact de_inT hr (by rfl) (oks_strs ws 32) (de_var 0) (de_var 1)
end
end Dg

namespace Dg
open PySem PySem.Spec PyProof.Rows L2 GxR Dz
theorem deq_int (a b : Int) : deq (.int a) (.int b) = decide (a = b) := by
  unfold deq D.py PyData.eqv
  rfl
theorem deq_str (a b : Str) : deq (.str a) (.str b) = decide (a = b) := by
  unfold deq D.py PyData.eqv
  rfl
def strsOf : List D → List Str := List.filterMap fun
  | .str x => some x
  | _ => none
def intsOf : List D → List Int := List.filterMap fun
  | .int x => some x
  | _ => none
theorem strs_of {ws : List Str} : ∀ {ds : List D}, ds.all (isWord ws) = true → ds = (strsOf ds).map .str
  | [], _ => rfl
  | d :: ds, h => by
    rw [List.all_cons, Bool.and_eq_true] at h
    have e := strs_of h.2
    cases d <;> first | (simp [isWord] at h; done) | skip
    rename_i x
    show D.str x :: ds = (x :: strsOf ds).map .str
    rw [List.map_cons, ← e]
theorem ints_of {n : Int} : ∀ {ds : List D}, ds.all (isBelow n) = true → ds = (intsOf ds).map .int
  | [], _ => rfl
  | d :: ds, h => by
    rw [List.all_cons, Bool.and_eq_true] at h
    have e := ints_of h.2
    cases d <;> first | (simp [isBelow] at h; done) | skip
    rename_i x
    show D.int x :: ds = (x :: intsOf ds).map .int
    rw [List.map_cons, ← e]
def isChoice (ws : List Str) : D → Bool
  | .lst ds => ds.all (isWord ws) && decide (((DzS.dd (strsOf ds)).length : Int) = ds.length)
  | .tup ds => ds.all (isWord ws) && decide (((DzS.dd (strsOf ds)).length : Int) = ds.length)
  | _ => false
/-- short, and the items plain -/
def PlS : D → Prop
  | .lst ds => ds.length ≤ 4000 ∧ ∀ d ∈ ds, Pl d
  | .tup ds => ds.length ≤ 4000 ∧ ∀ d ∈ ds, Pl d
  | _ => True
section
variable {P : Program} {w : World} {K : PySem.W.Frag} {mg : Str → Option Value} {base : Heap} {T : List Addr}
theorem scChoice : FnScope ["chosen", "words", "word"] ["chosen", "words"] (defScope sIsChoice) := ⟨rfl, rfl, rfl, by decide +kernel, rfl, by decide +kernel, by decide +kernel⟩
def pChoice (ss : List Slot) (O : OH) (d : D) (O' : OH) : Prop := ∃ x ws, ss = [.dat x, .dat (.tup (ws.map .str))] ∧ Pl x ∧ PlS x ∧ d = .bl (isChoice ws x) ∧ O' = O
theorem ok_choice {f g c tb : Addr} {fd gd : FuncData} (F : FunC K "is_choice" "is_choice" sIsChoice f fd (.ref c)) (L : Blt mg) (hT : tb ∈ T) (TB : TabB base mg c tb) (G : FnOk P w K mg base CX0 1 g gd ["value", "words"] (spF T K pWord)) (hg : mg "is_word" = some (.ref g)) (kg : PySem.W.keepIn K (.ref g) = true) (bg : Binds K gd ["value", "words"] []) :
    FnOk P w K mg base CX0 3 f fd ["chosen", "words"] (spF T K pChoice) := by
  refine fn_ok (CE := (0 : Addr)) (R := pChoice) F scChoice (fun ss O d O' ⟨x, ws, h, _⟩ => by rw [h]; rfl) fun A outer s H E ss O d O' hr h => ?_
  obtain ⟨x, ws, h1, h2, h3, h4, h5⟩ := h
  subst h1 h4 h5
  have hp := h2
  cases h2 with
  | lst ds =>
    refine ds_cons (d1_if (DT.cast (q := false) (dt_not (dt_val (de_isLT L hp (de_var 0)))) rfl) (fun z => by cases z) fun _ => ds_nil ?_)
    refine ds_cons (d1_if (dt_not (dt_val (de_allL 2 hr hT TB rfl scChoice.nd L.all (blkOk_by rfl) (by exact ⟨rfl, rfl, by decide +kernel, rfl, rfl⟩) (de_var 0) (fun y hy s' H' cl C code fp A' hr' => de_call G hr' hg kg bg pass0 (da_d (de_var 2) (da_d (de_var 1) da_nil)) ⟨y, ws, rfl, h3.2 y hy, rfl, rfl⟩)))) (fun z => ?_) fun z => ds_nil ?_)
    · have z' : ds.all (isWord ws) = false := by simpa using z
      refine ds_one (d1_ret (s := .dat (.bl false)) de_bl.dv ⟨by show _ = Slot.dat (.bl (_ && _)); rw [z']; rfl, rfl⟩)
    · have z' : ds.all (isWord ws) = true := by simpa using z
      refine ds_one (d1_ret (s := .dat (.bl (isChoice ws (.lst ds)))) ?_ ⟨rfl, rfl⟩)
      have hs : SetLenD ds (DzS.dd (strsOf ds)).length := by
        have e := strs_of z'
        have q := SetLenD.str (strsOf ds)
        rw [← e] at q
        exact q
      refine DE.dv (DE.cast (de_eq hr (by rfl) (by rfl) (de_lenSetL L.len L.set (de_var 0) hs h3.1) (de_lenL L.len (de_var 0))) ?_)
      rw [deq_int]
      show D.bl _ = .bl (ds.all (isWord ws) && _)
      rw [z', Bool.true_and]
  | tup ds =>
    refine ds_cons (d1_if (DT.cast (q := false) (dt_not (dt_val (de_isLT L hp (de_var 0)))) rfl) (fun z => by cases z) fun _ => ds_nil ?_)
    refine ds_cons (d1_if (dt_not (dt_val (de_allT 2 hr hT TB rfl scChoice.nd L.all (blkOk_by rfl) (by exact ⟨rfl, rfl, by decide +kernel, rfl, rfl⟩) (de_var 0) (fun y hy s' H' cl C code fp A' hr' => de_call G hr' hg kg bg pass0 (da_d (de_var 2) (da_d (de_var 1) da_nil)) ⟨y, ws, rfl, h3.2 y hy, rfl, rfl⟩)))) (fun z => ?_) fun z => ds_nil ?_)
    · have z' : ds.all (isWord ws) = false := by simpa using z
      refine ds_one (d1_ret (s := .dat (.bl false)) de_bl.dv ⟨by show _ = Slot.dat (.bl (_ && _)); rw [z']; rfl, rfl⟩)
    · have z' : ds.all (isWord ws) = true := by simpa using z
      refine ds_one (d1_ret (s := .dat (.bl (isChoice ws (.tup ds)))) ?_ ⟨rfl, rfl⟩)
      have hs : SetLenD ds (DzS.dd (strsOf ds)).length := by
        have e := strs_of z'
        have q := SetLenD.str (strsOf ds)
        rw [← e] at q
        exact q
      refine DE.dv (DE.cast (de_eq hr (by rfl) (by rfl) (de_lenSetT L.len L.set (de_var 0) hs h3.1) (de_lenT L.len (de_var 0))) ?_)
      rw [deq_int]
      show D.bl _ = .bl (ds.all (isWord ws) && _)
      rw [z', Bool.true_and]
  | non => exact ds_cons (d1_if (DT.cast (q := true) (dt_not (dt_val (de_isLT L hp (de_var 0)))) rfl) (fun _ => ds_one (d1_ret (s := .dat (.bl false)) de_bl.dv ⟨rfl, rfl⟩)) fun z => by cases z)
  | bl b => exact ds_cons (d1_if (DT.cast (q := true) (dt_not (dt_val (de_isLT L hp (de_var 0)))) rfl) (fun _ => ds_one (d1_ret (s := .dat (.bl false)) de_bl.dv ⟨rfl, rfl⟩)) fun z => by cases z)
  | int b => exact ds_cons (d1_if (DT.cast (q := true) (dt_not (dt_val (de_isLT L hp (de_var 0)))) rfl) (fun _ => ds_one (d1_ret (s := .dat (.bl false)) de_bl.dv ⟨rfl, rfl⟩)) fun z => by cases z)
  | str b => exact ds_cons (d1_if (DT.cast (q := true) (dt_not (dt_val (de_isLT L hp (de_var 0)))) rfl) (fun _ => ds_one (d1_ret (s := .dat (.bl false)) de_bl.dv ⟨rfl, rfl⟩)) fun z => by cases z)
end
end Dg

namespace Dg
open PySem PySem.Spec PyProof.Rows L2 GxR Dz
def pickW (ds : List D) : D → Option D := fun d => if ds.any (fun z => deq z d) = true then some d else none
def orderD (ds : List D) (ws : List Str) : List D := (ws.map D.str).filterMap (pickW ds)
def isStates (n : Int) : D → Bool
  | .lst ds => ds.all (isBelow n) && decide (((DzS.dd (intsOf ds)).length : Int) = ds.length)
  | _ => false
def KINDS : List Str := ["enter", "leave", "over", "drop", "end"]
def SIDES : List Str := ["outside", "inside", "zone"]
def RELS : List Str := ["none", "outside", "inside"]
def isRule (n : Int) : D → Bool
  | .tup [a, b, c, d, e, f] => (a.isNon || isBelow n a) && ((b.isNon || isWord KINDS b) && ((c.isNon || isWord SIDES c) && ((d.isNon || isaBool d) && ((e.isNon || isWord RELS e) && isBelow n f))))
  | _ => false
def isRules (n : Int) : D → Bool
  | .lst ds => decide ((ds.length : Int) ≤ 1200) && ds.all (isRule n)
  | _ => false
/-- the items of a rule are plain -/
def PlT : D → Prop
  | .tup ds => ∀ d ∈ ds, Pl d
  | _ => True
def PlRs : D → Prop
  | .lst ds => ds.length ≤ 4000 ∧ ∀ d ∈ ds, Pl d ∧ PlT d
  | _ => True
section
variable {P : Program} {w : World} {K : PySem.W.Frag} {mg : Str → Option Value} {base : Heap} {T : List Addr}
theorem scOrder : FnScope ["chosen", "words", "word"] ["chosen", "words"] (defScope sInOrder) := ⟨rfl, rfl, rfl, by decide +kernel, rfl, by decide +kernel, by decide +kernel⟩
def pOrder (ss : List Slot) (O : OH) (d : D) (O' : OH) : Prop := ∃ x ws ds, ss = [.dat x, .dat (.tup (ws.map .str))] ∧ (x = .lst ds ∨ x = .tup ds) ∧ D.oks 32 ds = true ∧ ws.length ≤ 100 ∧ d = .tup (orderD ds ws) ∧ O' = O
theorem ok_order {f : Addr} {fd : FuncData} {cdv : Value} (F : FunC K "in_order" "in_order" sInOrder f fd cdv) (L : Blt mg) : FnOk P w K mg base CX0 1 f fd ["chosen", "words"] (spF T K pOrder) := by
  refine fn_ok (CE := (0 : Addr)) (R := pOrder) F scOrder (fun ss O d O' ⟨x, ws, ds, h, _⟩ => by rw [h]; rfl) fun A outer s H E ss O d O' hr h => ?_
  obtain ⟨x, ws, ds, h1, h2, h3, h4, h5, h6⟩ := h
  subst h1 h5 h6
  refine ds_one (d1_ret (s := .dat (.tup (orderD ds ws))) (O1 := O') (DE.dv (de_tupleL L.tuple (de_lcT 2 (de_var 1) (fun j acc O2 => acc = ((ws.map D.str).take j).filterMap (pickW ds) ∧ O2 = O') ⟨rfl, rfl⟩ (lc_pure (f := pickW ds) ?_) (fun acc O2 h => ?_) ?_ scOrder.nd (blkOk_by rfl)))) ⟨rfl, rfl⟩)
  · intro d hd
    obtain ⟨t, _, rfl⟩ := List.mem_map.mp hd
    unfold pickW
    rcases h2 with rfl | rfl
    · by_cases hq : ds.any (fun z => deq z (.str t)) = true
      · exact .inl ⟨.str t, if_pos hq, difs_one fun s H C cl fp => DT.cast (dt_inL (x := D.str t) hr (by rfl) h3 (de_var 2) (de_var 0)) hq, fun s H C cl fp => de_var 2⟩
      · exact .inr ⟨if_neg hq, difs_one fun s H C cl fp => DT.cast (dt_inL (x := D.str t) hr (by rfl) h3 (de_var 2) (de_var 0)) (by simpa using hq)⟩
    · by_cases hq : ds.any (fun z => deq z (.str t)) = true
      · exact .inl ⟨.str t, if_pos hq, difs_one fun s H C cl fp => DT.cast (dt_inT (x := D.str t) hr (by rfl) h3 (de_var 2) (de_var 0)) hq, fun s H C cl fp => de_var 2⟩
      · exact .inr ⟨if_neg hq, difs_one fun s H C cl fp => DT.cast (dt_inT (x := D.str t) hr (by rfl) h3 (de_var 2) (de_var 0)) (by simpa using hq)⟩
  · rw [List.length_map, List.take_of_length_le (by rw [List.length_map]; exact Nat.le_refl _)] at h
    exact h
  · rw [List.length_map]; omega

theorem scStates : FnScope ["on", "states", "state"] ["on", "states"] (defScope sAreStates) := ⟨rfl, rfl, rfl, by decide +kernel, rfl, by decide +kernel, by decide +kernel⟩
def pStates (ss : List Slot) (O : OH) (d : D) (O' : OH) : Prop := ∃ x n, ss = [.dat x, .dat (.int n)] ∧ Pl x ∧ PlS x ∧ d = .bl (isStates n x) ∧ O' = O
theorem ok_states {f g c tb : Addr} {fd gd : FuncData} (F : FunC K "are_states" "are_states" sAreStates f fd (.ref c)) (L : Blt mg) (hT : tb ∈ T) (TB : TabB base mg c tb) (G : FnOk P w K mg base CX0 2 g gd ["value", "bound"] (spF T K pBelow)) (hg : mg "is_number_below" = some (.ref g)) (kg : PySem.W.keepIn K (.ref g) = true) (bg : Binds K gd ["value", "bound"] []) :
    FnOk P w K mg base CX0 4 f fd ["on", "states"] (spF T K pStates) := by
  refine fn_ok (CE := (0 : Addr)) (R := pStates) F scStates (fun ss O d O' ⟨x, n, h, _⟩ => by rw [h]; rfl) fun A outer s H E ss O d O' hr h => ?_
  obtain ⟨x, n, h1, h2, h3, h4, h5⟩ := h
  subst h1 h4 h5
  have hp := h2
  cases h2 with
  | lst ds =>
    refine ds_cons (d1_if (DT.cast (q := false) (dt_not (dt_val (de_isList L hp (de_var 0)))) rfl) (fun z => by cases z) fun _ => ds_nil ?_)
    refine ds_cons (d1_if (dt_not (dt_val (de_allL 2 hr hT TB rfl scStates.nd L.all (blkOk_by rfl) (by exact ⟨rfl, rfl, by decide +kernel, rfl, rfl⟩) (de_var 0) (fun y hy s' H' cl C code fp A' hr' => de_call G hr' hg kg bg pass0 (da_d (de_var 2) (da_d (de_var 1) da_nil)) ⟨y, n, rfl, h3.2 y hy, rfl, rfl⟩)))) (fun z => ?_) fun z => ds_nil ?_)
    · have z' : ds.all (isBelow n) = false := by simpa using z
      refine ds_one (d1_ret (s := .dat (.bl false)) de_bl.dv ⟨by show _ = Slot.dat (.bl (_ && _)); rw [z']; rfl, rfl⟩)
    · have z' : ds.all (isBelow n) = true := by simpa using z
      refine ds_one (d1_ret (s := .dat (.bl (isStates n (.lst ds)))) ?_ ⟨rfl, rfl⟩)
      have hs : SetLenD ds (DzS.dd (intsOf ds)).length := by
        have e := ints_of z'
        have q := SetLenD.int (intsOf ds)
        rw [← e] at q
        exact q
      refine DE.dv (DE.cast (de_eq hr (by rfl) (by rfl) (de_lenSetL L.len L.set (de_var 0) hs h3.1) (de_lenL L.len (de_var 0))) ?_)
      rw [deq_int]
      show D.bl _ = .bl (ds.all (isBelow n) && _)
      rw [z', Bool.true_and]
  | _ => exact ds_cons (d1_if (DT.cast (q := true) (dt_not (dt_val (de_isList L hp (de_var 0)))) rfl) (fun _ => ds_one (d1_ret (s := .dat (.bl false)) de_bl.dv ⟨rfl, rfl⟩)) fun z => by cases z)

theorem scRules : FnScope ["rules", "states", "rule"] ["rules", "states"] (defScope sAreRules) := ⟨rfl, rfl, rfl, by decide +kernel, rfl, by decide +kernel, by decide +kernel⟩
def pRule (ss : List Slot) (O : OH) (d : D) (O' : OH) : Prop := ∃ x n, ss = [.dat x, .dat (.int n)] ∧ Pl x ∧ PlT x ∧ d = .bl (isRule n x) ∧ O' = O
def pRules (ss : List Slot) (O : OH) (d : D) (O' : OH) : Prop := ∃ x n, ss = [.dat x, .dat (.int n)] ∧ Pl x ∧ PlRs x ∧ d = .bl (isRules n x) ∧ O' = O
theorem ok_rules {f g c tb : Addr} {fd gd : FuncData} {um : Value} (F : FunC K "are_rules" "are_rules" sAreRules f fd (.ref c)) (L : Blt mg) (hT : tb ∈ T) (TB : TabB base mg c tb) (hM : mg "MOST_RULES" = some um) (kM : kdB K 0 um (.int 1200) = true) (G : FnOk P w K mg base CX0 3 g gd ["rule", "states"] (spF T K pRule)) (hg : mg "is_rule" = some (.ref g)) (kg : PySem.W.keepIn K (.ref g) = true) (bg : Binds K gd ["rule", "states"] []) :
    FnOk P w K mg base CX0 5 f fd ["rules", "states"] (spF T K pRules) := by
  refine fn_ok (CE := (0 : Addr)) (R := pRules) F scRules (fun ss O d O' ⟨x, n, h, _⟩ => by rw [h]; rfl) fun A outer s H E ss O d O' hr h => ?_
  obtain ⟨x, n, h1, h2, h3, h4, h5⟩ := h
  subst h1 h4 h5
  have hp := h2
  cases h2 with
  | lst ds =>
    refine ds_cons (d1_if (DW.dt (dw_or (p := false) (dt_not (dt_val (de_isList L hp (de_var 0)))) fun _ => dw_or1 (dt_gt (de_lenL L.len (de_var 0)) (de_gk hM kM)))) (fun z => ?_) fun z => ds_nil ?_)
    · have z' : ((1200 : Int) < ds.length) := by simpa using z
      refine ds_one (d1_ret (s := .dat (.bl false)) de_bl.dv ⟨by show _ = Slot.dat (.bl (_ && _)); rw [decide_eq_false (by omega)]; rfl, rfl⟩)
    · have z' : ¬ ((1200 : Int) < ds.length) := by simpa using z
      refine ds_one (d1_ret (s := .dat (.bl (isRules n (.lst ds)))) ?_ ⟨rfl, rfl⟩)
      refine DE.dv (DE.cast (de_allL 2 hr hT TB rfl scRules.nd L.all (blkOk_by rfl) (by exact ⟨rfl, rfl, by decide +kernel, rfl, rfl⟩) (de_var 0) (fun y hy s' H' cl C code fp A' hr' => de_call G (hr'.mono (by decide)) hg kg bg pass0 (da_d (de_var 2) (da_d (de_var 1) da_nil)) ⟨y, n, rfl, (h3.2 y hy).1, (h3.2 y hy).2, rfl, rfl⟩)) ?_)
      show D.bl _ = .bl (decide ((ds.length : Int) ≤ 1200) && _)
      rw [decide_eq_true (by omega), Bool.true_and]
  | _ => exact ds_cons (d1_if (DW.dt (dw_or (p := true) (q := true) (DT.cast (dt_not (dt_val (de_isList L hp (de_var 0)))) rfl) fun z => by cases z)) (fun _ => ds_one (d1_ret (s := .dat (.bl false)) de_bl.dv ⟨rfl, rfl⟩)) fun z => by cases z)
end
end Dg
namespace Dg
open PySem PySem.Spec PyProof.Rows L2 GxR Dz
section
variable {P : Program} {w : World} {K : PySem.W.Frag} {mg : Str → Option Value} {base : Heap} {T : List Addr}
theorem scRule : FnScope ["rule", "states", "source", "kind", "side", "same", "related", "following"] ["rule", "states"] (defScope sIsRule) := ⟨rfl, rfl, rfl, by decide +kernel, rfl, by decide +kernel, by decide +kernel⟩
theorem ok_rule {f g g2 : Addr} {fd gd gd2 : FuncData} {cdv uk us ur : Value} (F : FunC K "is_rule" "is_rule" sIsRule f fd cdv) (L : Blt mg)
    (hk : mg "KINDS" = some uk) (kk : kdB K 1 uk (.tup (KINDS.map .str)) = true) (hs : mg "SIDES" = some us) (ks : kdB K 1 us (.tup (SIDES.map .str)) = true) (hR : mg "RELATED_SIDES" = some ur) (kR : kdB K 1 ur (.tup (RELS.map .str)) = true)
    (G : FnOk P w K mg base CX0 2 g gd ["value", "bound"] (spF T K pBelow)) (hg : mg "is_number_below" = some (.ref g)) (kg : PySem.W.keepIn K (.ref g) = true) (bg : Binds K gd ["value", "bound"] [])
    (G2 : FnOk P w K mg base CX0 1 g2 gd2 ["value", "words"] (spF T K pWord)) (hg2 : mg "is_word" = some (.ref g2)) (kg2 : PySem.W.keepIn K (.ref g2) = true) (bg2 : Binds K gd2 ["value", "words"] []) :
    FnOk P w K mg base CX0 3 f fd ["rule", "states"] (spF T K pRule) := by
  refine fn_ok (CE := (0 : Addr)) (R := pRule) F scRule (fun ss O d O' ⟨x, n, h, _⟩ => by rw [h]; rfl) fun A outer s H E ss O d O' hr h => ?_
  obtain ⟨x, n, h1, h2, h3, h4, h5⟩ := h
  subst h1 h4 h5
  have hp := h2
  cases h2 with
  | tup ds =>
    have pl : ∀ d ∈ ds, Pl d := h3
    by_cases hl : (ds.length : Int) = 6
    · refine ds_cons (d1_if (DT.cast (q := false) (dt_not (DW.dt (dw_and (p := true) (dt_val (de_isTup L hp (de_var 0))) fun _ => dw_and1 (dt_eq hr (by rfl) (by rfl) (de_lenT L.len (de_var 0)) de_int)))) ?_) (fun z => by cases z) fun _ => ds_nil ?_)
      · rw [deq_int, decide_eq_true hl]; rfl
      match ds, hl, pl, hp, h3 with
      | [a, b, c, d, e, g'], _, pl, hp, h3 =>
        refine ds_cons (d1_unpack (is := [2, 3, 4, 5, 6, 7]) (de_var 0) rfl (by repeat' (first | exact Dz.Names.nil | refine Dz.Names.cons rfl (by first | exact Or.inl rfl | exact Or.inr rfl) (by first | exact .inl rfl | exact .inr rfl) rfl ?_)) ?_ scRule.nd)
        have pa : Pl a := pl a (by simp)
        have pb : Pl b := pl b (by simp)
        have pc : Pl c := pl c (by simp)
        have pd : Pl d := pl d (by simp)
        have pe : Pl e := pl e (by simp)
        have pg : Pl g' := pl g' (by simp)
        refine ds_one (d1_ret (s := .dat (.bl (isRule n (.tup [a, b, c, d, e, g'])))) (DE.dv ?_) ⟨rfl, rfl⟩)
        show DE T _ _ [.dat (.tup [a, b, c, d, e, g']), .dat (.int n), .dat a, .dat b, .dat c, .dat d, .dat e, .dat g'] O' (.bl ((a.isNon || isBelow n a) && ((b.isNon || isWord KINDS b) && ((c.isNon || isWord SIDES c) && ((d.isNon || isaBool d) && ((e.isNon || isWord RELS e) && isBelow n g')))))) O'
        refine de_and (de_or (de_isN (de_var 2) de_non) fun _ => de_one (de_call G (hr.mono (by decide)) hg kg bg pass0 (da_d (de_var 2) (da_d (de_var 1) da_nil)) ⟨a, n, rfl, pa, rfl, rfl⟩)) fun _ => ?_
        refine de_and (de_or (de_isN (de_var 3) de_non) fun _ => de_one (de_call G2 (hr.mono (by decide)) hg2 kg2 bg2 pass0 (da_d (de_var 3) (da_d (de_gk hk kk) da_nil)) ⟨b, KINDS, rfl, pb, rfl, rfl⟩)) fun _ => ?_
        refine de_and (de_or (de_isN (de_var 4) de_non) fun _ => de_one (de_call G2 (hr.mono (by decide)) hg2 kg2 bg2 pass0 (da_d (de_var 4) (da_d (de_gk hs ks) da_nil)) ⟨c, SIDES, rfl, pc, rfl, rfl⟩)) fun _ => ?_
        refine de_and (de_or (de_isN (de_var 5) de_non) fun _ => de_one (de_isBool L pd (de_var 5))) fun _ => ?_
        refine de_and (de_or (de_isN (de_var 6) de_non) fun _ => de_one (de_call G2 (hr.mono (by decide)) hg2 kg2 bg2 pass0 (da_d (de_var 6) (da_d (de_gk hR kR) da_nil)) ⟨e, RELS, rfl, pe, rfl, rfl⟩)) fun _ => ?_
        exact de_one (de_call G (hr.mono (by decide)) hg kg bg pass0 (da_d (de_var 7) (da_d (de_var 1) da_nil)) ⟨g', n, rfl, pg, rfl, rfl⟩)
      | [], h, _, _, _ => simp at h
      | [_], h, _, _, _ => simp at h
      | [_, _], h, _, _, _ => simp at h
      | [_, _, _], h, _, _, _ => simp at h
      | [_, _, _, _], h, _, _, _ => simp at h
      | [_, _, _, _, _], h, _, _, _ => simp at h
      | _ :: _ :: _ :: _ :: _ :: _ :: _ :: _, h, _, _, _ => simp at h; omega
    · have hq : isRule n (.tup ds) = false := by
        unfold isRule
        split
        · rename_i z
          cases z
          exact absurd rfl hl
        · rfl
      refine ds_cons (d1_if (DT.cast (q := true) (dt_not (DW.dt (dw_and (p := true) (dt_val (de_isTup L hp (de_var 0))) fun _ => dw_and1 (dt_eq hr (by rfl) (by rfl) (de_lenT L.len (de_var 0)) de_int)))) ?_) (fun _ => ds_one (d1_ret (s := .dat (.bl false)) de_bl.dv ⟨by rw [hq], rfl⟩)) fun z => by cases z)
      rw [deq_int, decide_eq_false hl]; rfl
  | _ => exact ds_cons (d1_if (DT.cast (q := true) (dt_not (DW.dt (dw_and (p := false) (q := false) (dt_val (de_isTup L hp (de_var 0))) fun z => by cases z))) rfl) (fun _ => ds_one (d1_ret (s := .dat (.bl false)) de_bl.dv ⟨rfl, rfl⟩)) fun z => by cases z)
end
end Dg

namespace Dg
open PySem PySem.Spec PyProof.Rows L2 GxR Dz
/-- what is known of the program's own error -/
structure Err (K : PySem.W.Frag) (mg : Str → Option Value) (CE fI : Addr) : Prop where
  o : OexC K CE
  iC : PySem.W.findIn K (.ref CE) "__init__" = some (some (.ref fI))
  tI : PySem.W.typeIn K (.ref fI) = some (.type "function")
  gC : mg "DragError" = some (.ref CE)
  no : PySem.W.findIn K (.ref CE) "reason" = some none
  vV : PySem.W.findCls K (.type "ValueError") (.type "type") "__init__" = some (.val (.builtin "ValueError.__init__"))
  mV : mg "ValueError" = none
  xf : XfC K CE
  me : PySem.W.exmOne K (.ref CE) (.ref CE) = some true
section
variable {P : Program} {w : World} {K : PySem.W.Frag} {mg : Str → Option Value} {base : Heap} {T : List Addr} {CE fI : Addr}
theorem scErrI : FnScope ["self", "reason"] ["self", "reason"] (defScope sErrI) := ⟨rfl, rfl, rfl, by decide +kernel, rfl, by decide +kernel, by decide +kernel⟩
theorem ok_errI {f : Addr} {fd : FuncData} {cdv : Value} (F : FunC K "__init__" "DragError.__init__" sErrI f fd cdv) (V : Err K mg CE fI) : FnOk P w K mg base CX0 1 f fd ["self", "reason"] (spI CE) := by
  obtain ⟨oc, od, kV, doc, pm, an, ct, osl, rfl, lk, hcd⟩ := F.ex
  refine fn_of lk hcd scErrI (fun vs H Q E h => ?_) fun A outer s H vs Q E hr hsp => ?_
  · obtain ⟨a, v, rfl, _⟩ := h
    rfl
  · obtain ⟨a, v, rfl, ha, q⟩ := hsp
    refine ⟨_, PSs.nox (pss_cons (ps_expr (pe_veinit rfl V.mV V.vV (pa_cons (pv 0) (pa_cons (pv 1) pa_nil)))) (pss_one (ps_ost (pv 0) (pv 1)))), ?_⟩
    refine ⟨_, rfl, _, rfl, a, CE, [v], rfl, (by show 1 ≤ 1000; decide), V.o, ha, _, rfl, _, rfl, a, CE, rfl, V.o, V.no, .inl ⟨ha, fun dx ndx ne => q dx ndx ne⟩⟩

def appl (st h1 h2 h3 h4 : D) : D → Bool
  | .tup [a, b, c, d, e, _] => (a.isNon || deq a st) && ((b.isNon || deq b h1) && ((c.isNon || deq c h2) && ((d.isNon || deq d h3) && (e.isNon || deq e h4))))
  | _ => false
/-- a rule's shape -/
def RShape (r : D) : Prop := ∃ a b c d e f, r = .tup [a, b, c, d, e, f] ∧ D.ok 32 a = true ∧ D.ok 32 b = true ∧ D.ok 32 c = true ∧ D.ok 32 d = true ∧ D.ok 32 e = true
def pApplies (ss : List Slot) (O : OH) (d : D) (O' : OH) : Prop := ∃ r st h1 h2 h3 h4, ss = [.dat r, .dat st, .dat (.tup [h1, h2, h3, h4])] ∧ RShape r ∧ D.ok 32 st = true ∧ D.ok 32 h1 = true ∧ D.ok 32 h2 = true ∧ D.ok 32 h3 = true ∧ D.ok 32 h4 = true ∧ d = .bl (appl st h1 h2 h3 h4 r) ∧ O' = O
def ruleEnd : D → D
  | .tup [_, _, _, _, _, f] => f
  | _ => .non
def nextD (st h1 h2 h3 h4 : D) : List D → D
  | [] => st
  | r :: rs => if appl st h1 h2 h3 h4 r = true then ruleEnd r else nextD st h1 h2 h3 h4 rs
theorem nextD_cons {st h1 h2 h3 h4 r : D} {rs : List D} : nextD st h1 h2 h3 h4 (r :: rs) = if appl st h1 h2 h3 h4 r = true then ruleEnd r else nextD st h1 h2 h3 h4 rs := rfl
theorem nextD_skip {st h1 h2 h3 h4 : D} : ∀ (rs : List D) (j : Nat), (rs.take j).all (fun r => !appl st h1 h2 h3 h4 r) = true → nextD st h1 h2 h3 h4 rs = nextD st h1 h2 h3 h4 (rs.drop j)
  | _, 0, _ => rfl
  | [], _ + 1, _ => rfl
  | r :: rs, j + 1, h => by
    rw [List.take_succ_cons, List.all_cons, Bool.and_eq_true] at h
    have h0 : appl st h1 h2 h3 h4 r = false := by simpa using h.1
    rw [nextD_cons, if_neg (by rw [h0]; exact Bool.false_ne_true), List.drop_succ_cons]
    exact nextD_skip rs j h.2
/-- the classes' objects -/
def insSetup (C : Addr) (place kinds sights : D) : D := .ins C [("place", place), ("kinds", kinds), ("sights", sights)]
def insList (C : Addr) (states on rules : D) : D := .ins C [("states", states), ("on", on), ("rules", rules)]
structure Fld3 (K : PySem.W.Frag) (C : Addr) (a b c : Str) : Prop where
  cl : Cls K C
  a : NoAttr K C a
  b : NoAttr K C b
  c : NoAttr K C c
def pNext (CL : Addr) (ss : List Slot) (O : OH) (d : D) (O' : OH) : Prop := ∃ n on rs st h1 h2 h3 h4, ss = [.dat (insList CL n on (.lst rs)), .dat st, .dat (.tup [h1, h2, h3, h4])] ∧ (∀ r ∈ rs, RShape r) ∧ D.ok 32 st = true ∧ D.ok 32 h1 = true ∧ D.ok 32 h2 = true ∧ D.ok 32 h3 = true ∧ D.ok 32 h4 = true ∧ d = nextD st h1 h2 h3 h4 rs ∧ O' = O
end
end Dg
namespace Dg
open PySem PySem.Spec PyProof.Rows L2 GxR Dz
section
variable {P : Program} {w : World} {K : PySem.W.Frag} {mg : Str → Option Value} {base : Heap} {T : List Addr} {CE fI : Addr}
def takD (h1 h2 h3 h4 : D) : D → Bool
  | .tup [_, b, c, d, e, _] => (b.isNon || deq b h1) && ((c.isNon || deq c h2) && ((d.isNon || deq d h3) && (e.isNon || deq e h4)))
  | _ => false
def pTakes (ss : List Slot) (O : OH) (d : D) (O' : OH) : Prop := ∃ r h1 h2 h3 h4, ss = [.dat r, .dat (.tup [h1, h2, h3, h4])] ∧ RShape r ∧ D.ok 32 h1 = true ∧ D.ok 32 h2 = true ∧ D.ok 32 h3 = true ∧ D.ok 32 h4 = true ∧ d = .bl (takD h1 h2 h3 h4 r) ∧ O' = O
theorem scTakes : FnScope ["rule", "signal", "_", "kind", "side", "same", "related", "heard_kind", "heard_side", "heard_same", "heard_related"] ["rule", "signal"] (defScope sTakes) := ⟨rfl, rfl, rfl, by decide +kernel, rfl, by decide +kernel, by decide +kernel⟩
theorem ok_takes {f : Addr} {fd : FuncData} {cdv : Value} (F : FunC K "takes_signal" "takes_signal" sTakes f fd cdv) : FnOk P w K mg base CX0 1 f fd ["rule", "signal"] (spF T K pTakes) := by
  refine fn_ok (CE := (0 : Addr)) (R := pTakes) F scTakes (fun ss O d O' ⟨r, h1, h2, h3, h4, h, _⟩ => by rw [h]; rfl) fun A outer s H E ss O d O' hr h => ?_
  obtain ⟨r, h1, h2, h3, h4, e1, ⟨a, b, c, d', e, f', er, ka, kb, kc, kd, ke⟩, k1, k2, k3, k4, e2, e3⟩ := h
  subst e1 er e2 e3
  refine ds_cons (d1_unpack (is := [2, 3, 4, 5, 6, 2]) (de_var 0) rfl (by repeat' (first | exact Dz.Names.nil | refine Dz.Names.cons rfl (by first | exact Or.inl rfl | exact Or.inr rfl) (by first | exact .inl rfl | exact .inr rfl) rfl ?_)) ?_ scTakes.nd)
  refine ds_cons (d1_unpack (is := [7, 8, 9, 10]) (de_var 1) rfl (by repeat' (first | exact Dz.Names.nil | refine Dz.Names.cons rfl (by first | exact Or.inl rfl | exact Or.inr rfl) (by first | exact .inl rfl | exact .inr rfl) rfl ?_)) ?_ scTakes.nd)
  refine ds_one (d1_ret (s := .dat (.bl (takD h1 h2 h3 h4 (.tup [a, b, c, d', e, f'])))) (DE.dv ?_) ⟨rfl, rfl⟩)
  show DE T _ _ [.dat (.tup [a, b, c, d', e, f']), .dat (.tup [h1, h2, h3, h4]), .dat f', .dat b, .dat c, .dat d', .dat e, .dat h1, .dat h2, .dat h3, .dat h4] O' (.bl ((b.isNon || deq b h1) && ((c.isNon || deq c h2) && ((d'.isNon || deq d' h3) && (e.isNon || deq e h4))))) O'
  refine de_and (de_or (de_isN (de_var 3) de_non) fun _ => de_one (de_eq hr kb k1 (de_var 3) (de_var 7))) fun _ => ?_
  refine de_and (de_or (de_isN (de_var 4) de_non) fun _ => de_one (de_eq hr kc k2 (de_var 4) (de_var 8))) fun _ => ?_
  refine de_and (de_or (de_isN (de_var 5) de_non) fun _ => de_one (de_eq hr kd k3 (de_var 5) (de_var 9))) fun _ => ?_
  exact de_one (de_or (de_isN (de_var 6) de_non) fun _ => de_one (de_eq hr ke k4 (de_var 6) (de_var 10)))
theorem scApplies : FnScope ["rule", "state", "signal"] ["rule", "state", "signal"] (defScope sApplies) := ⟨rfl, rfl, rfl, by decide +kernel, rfl, by decide +kernel, by decide +kernel⟩
theorem ok_applies {f g : Addr} {fd gd : FuncData} {cdv : Value} (F : FunC K "applies" "applies" sApplies f fd cdv) (G : FnOk P w K mg base CX0 1 g gd ["rule", "signal"] (spF T K pTakes)) (hg : mg "takes_signal" = some (.ref g)) (kg : PySem.W.keepIn K (.ref g) = true) (bg : Binds K gd ["rule", "signal"] []) : FnOk P w K mg base CX0 2 f fd ["rule", "state", "signal"] (spF T K pApplies) := by
  refine fn_ok (CE := (0 : Addr)) (R := pApplies) F scApplies (fun ss O d O' ⟨r, st, h1, h2, h3, h4, h, _⟩ => by rw [h]; rfl) fun A outer s H E ss O d O' hr h => ?_
  obtain ⟨r, st, h1, h2, h3, h4, e1, hs, ks, k1, k2, k3, k4, e2, e3⟩ := h
  obtain ⟨a, b, c, d', e, f', er, ka, kb, kc, kd, ke⟩ := hs
  subst e1 er e2 e3
  have ix : ∀ {ρ : List Slot} {pos : Pos} {p1 : Pos} {k : Nat} {p2 : Pos}, ρ[0]? = some (.dat (.tup [a, b, c, d', e, f'])) → True := fun _ => True.intro
  refine ds_one (d1_ret (s := .dat (.bl (appl st h1 h2 h3 h4 (.tup [a, b, c, d', e, f'])))) (DE.dv ?_) ⟨rfl, rfl⟩)
  show DE T _ _ [.dat (.tup [a, b, c, d', e, f']), .dat st, .dat (.tup [h1, h2, h3, h4])] O' (.bl ((a.isNon || deq a st) && takD h1 h2 h3 h4 (.tup [a, b, c, d', e, f']))) O'
  exact de_and (de_or (de_isN (de_ixT (de_var 0) de_int rfl) de_non) fun _ => de_one (de_eq hr ka ks (de_ixT (de_var 0) de_int rfl) (de_var 1))) fun _ => de_one (de_call G hr hg kg bg pass0 (da_d (de_var 0) (da_d (de_var 2) da_nil)) ⟨_, h1, h2, h3, h4, rfl, ⟨a, b, c, d', e, f', rfl, ka, kb, kc, kd, ke⟩, k1, k2, k3, k4, rfl, rfl⟩)
theorem scNext : FnScope ["listener", "state", "signal", "rule"] ["listener", "state", "signal"] (defScope sNext) := ⟨rfl, rfl, rfl, by decide +kernel, rfl, by decide +kernel, by decide +kernel⟩
theorem ok_next {f g CL : Addr} {fd gd : FuncData} {cdv : Value} (F : FunC K "next_state" "next_state" sNext f fd cdv) (A3 : Fld3 K CL "states" "on" "rules") (G : FnOk P w K mg base CX0 2 g gd ["rule", "state", "signal"] (spF T K pApplies)) (hg : mg "applies" = some (.ref g)) (kg : PySem.W.keepIn K (.ref g) = true) (bg : Binds K gd ["rule", "state", "signal"] []) :
    FnOk P w K mg base CX0 3 f fd ["listener", "state", "signal"] (spF T K (pNext CL)) := by
  refine fn_ok (CE := (0 : Addr)) (R := pNext CL) F scNext (fun ss O d O' ⟨n, on, rs, st, h1, h2, h3, h4, h, _⟩ => by rw [h]; rfl) fun A outer s H E ss O d O' hr h => ?_
  obtain ⟨n, on, rs, st, h1, h2, h3, h4, e1, hs, ks, k1, k2, k3, k4, e2, e3⟩ := h
  subst e1 e2 e3
  refine ds_cons (d1_forL 3 (fun j ρ' O2 => (∃ s3, ρ' = [.dat (insList CL n on (.lst rs)), .dat st, .dat (.tup [h1, h2, h3, h4]), s3]) ∧ O2 = O' ∧ (rs.take j).all (fun r => !appl st h1 h2 h3 h4 r) = true) (de_fld A3.cl A3.c (de_var 0) rfl) ⟨⟨_, rfl⟩, rfl, rfl⟩ scNext.nd ?_ ?_ PassesOwn.never)
  · rintro j r ρ' O2 hj ⟨⟨s3, rfl⟩, rfl, hall⟩
    have hsh := hs r (List.mem_of_getElem? hj)
    refine ds_one (d1_if (dt_val (de_call G hr hg kg bg pass0 (da_d (de_var 3) (da_d (de_var 1) (da_d (de_var 2) da_nil))) ⟨r, st, h1, h2, h3, h4, rfl, hsh, ks, k1, k2, k3, k4, rfl, rfl⟩)) (fun z => ?_) fun z => ds_nil ?_)
    · obtain ⟨a, b, c, d', e, f', er, _⟩ := hsh
      subst er
      refine ds_one (d1_ret (s := .dat f') (DE.dv (de_ixT (de_var 3) de_int rfl)) ⟨?_, rfl⟩)
      have hdrop : rs.drop j = .tup [a, b, c, d', e, f'] :: rs.drop (j + 1) := by
        obtain ⟨hlt, hx⟩ := List.getElem?_eq_some_iff.mp hj
        rw [List.drop_eq_getElem_cons hlt, hx]
      rw [nextD_skip rs j hall, hdrop, nextD_cons, if_pos z]
      rfl
    · refine ⟨⟨_, rfl⟩, rfl, ?_⟩
      rw [List.take_add_one, hj, List.all_append, hall]
      simp [z]
  · rintro ρ' O2 ⟨⟨s3, rfl⟩, rfl, hall⟩
    refine ds_one (d1_ret (s := .dat st) (dv_var 1 rfl) ⟨?_, rfl⟩)
    rw [nextD_skip rs rs.length hall, List.drop_length]
    rfl
end
end Dg

namespace Dz
open PySem PySem.Spec PyProof.Rows L2 GxR
def rgI (a b : Int) : List Int := (List.range (b - a).toNat).map fun i => a + (i : Nat)
theorem rgV_eq (a b : Int) : rgV a b = (rgI a b).map V.int := by
  unfold rgV rgI
  rw [List.map_map]
  rfl
section
variable {T : List Addr} {X : Cx} {ρ : List Slot} {O O1 O2 : OH} {a b e : Expr} {p p0 pos pos2 : Pos}
/-- list(range(a, b)) -/
theorem de_listRg2 {i j : Int} (hm : X.mg "list" = none) (hm2 : X.mg "range" = none) (ha : DE T X a ρ O (.int i) O1) (hb : DE T X b ρ O1 (.int j) O2) (h : -100000 ≤ i ∧ i ≤ 100000 ∧ -100000 ≤ j ∧ j ≤ 100000) (hc : X.calm = true := by rfl) (hg : Gl X "list" := by rfl) (hg2 : Gl X "range" := by rfl)
    (na : starEach [.Call (.Name "range" p) [a, b] [] pos2] X.env = (false, eval (.Call (.Name "range" p) [a, b] [] pos2) X.env) :: starEach [] X.env := by rfl) (nb : starEach [a, b] X.env = (false, eval a X.env) :: starEach [b] X.env := by rfl) (nc : starEach [b] X.env = (false, eval b X.env) :: starEach [] X.env := by rfl) (hp : (backTo pos2 (starEach [b] X.env)).any (·.1) = false := by rfl) :
    DE T X (.Call (.Name "list" p0) [.Call (.Name "range" p) [a, b] [] pos2] [] pos) ρ O (.lst ((rgI i j).map .int)) O2 :=
  de_of (pe_listRg hc hg hm (prg_2 hg2 hm2 pe_we pe_we nb nc hp) na) fun σ B H hE hA Q q => two ha hb hE hA fun v w B' H' p1 r1 r2 => by
    cases r1
    cases r2
    refine ⟨i, j, rfl, rfl, ⟨by omega, by omega, by omega, by omega, by omega⟩, fun l hl => ?_⟩
    rw [rgV_eq]
    exact q _ _ _ (p1.trans (Post.made (o := .lst _) p1.at' hl)) (.lst upd_same (ints_rp _))
end
end Dz
namespace Dz
theorem putS_len {f : PySem.Str} {s : Slot} : ∀ fs : List (PySem.Str × Slot), (putS f s fs).length ≤ fs.length + 1
  | [] => Nat.le_refl _
  | (g, t) :: r => by
    unfold putS
    split
    · simp
    · have := putS_len (f := f) (s := s) r
      rw [List.length_cons, List.length_cons]
      omega
theorem putS1 {f : PySem.Str} {s : Slot} {fs : List (PySem.Str × Slot)} {n : Nat} (h : fs.length + 1 < n) : (putS f s fs).length < n := Nat.lt_of_le_of_lt (putS_len fs) h
theorem putS2 {f : PySem.Str} {s : Slot} {fs : List (PySem.Str × Slot)} {n k : Nat} (h : fs.length + (k + 1) < n) : (putS f s fs).length + k < n := Nat.lt_of_le_of_lt (Nat.add_le_add_right (putS_len fs) k) (by omega)
end Dz
namespace Dg
open PySem PySem.Spec PyProof.Rows L2 GxR Dz
def PLACES : List Str := ["zone", "root", "capture"]
def SIGHTS : List Str := ["own", "same", "related"]
def itemsD : D → List D
  | .lst ds => ds
  | .tup ds => ds
  | _ => []
def ordD (x : D) (ws : List Str) : D := .tup (orderD (itemsD x) ws)
def okSetup (p k s : D) : Bool := isWord PLACES p && (isChoice KINDS k && isChoice SIGHTS s)
/-- Setup(..): its promise -/
def pSetup (CS : Addr) : PR := fun ss O Rn Rx => ∃ a p k s, ss = [.val (.ref a), .dat p, .dat k, .dat s] ∧ O a = some (.ins CS []) ∧ Pl p ∧ Pl k ∧ PlS k ∧ Pl s ∧ PlS s ∧
  ((okSetup p k s = true ∧ Rn = (fun v O' => v = .dat .non ∧ O' = put O a (.ins CS [("place", .dat p), ("kinds", .dat (ordD k KINDS)), ("sights", .dat (ordD s SIGHTS))])) ∧ Rx = fun _ _ => False) ∨
    (okSetup p k s = false ∧ Rn = (fun _ _ => False) ∧ Rx = fun r O' => r = .str "no setup" ∧ O' = O))
theorem choice_items {ws : List Str} {x : D} (h : isChoice ws x = true) : (x = .lst (itemsD x) ∨ x = .tup (itemsD x)) ∧ D.oks 32 (itemsD x) = true := by
  cases x <;> first | (simp [isChoice] at h; done) | skip
  · rename_i ds
    have h' : (ds.all (isWord ws) && decide (((DzS.dd (strsOf ds)).length : Int) = ds.length)) = true := h
    rw [Bool.and_eq_true] at h'
    refine ⟨.inl rfl, ?_⟩
    show D.oks 32 ds = true
    rw [strs_of h'.1]
    exact oks_strs _ _
  · rename_i ds
    have h' : (ds.all (isWord ws) && decide (((DzS.dd (strsOf ds)).length : Int) = ds.length)) = true := h
    rw [Bool.and_eq_true] at h'
    refine ⟨.inr rfl, ?_⟩
    show D.oks 32 ds = true
    rw [strs_of h'.1]
    exact oks_strs _ _
section
variable {P : Program} {w : World} {K : PySem.W.Frag} {mg : Str → Option Value} {base : Heap} {T : List Addr} {CE fI : Addr}
theorem scSetup : FnScope ["self", "place", "kinds", "sights"] ["self", "place", "kinds", "sights"] (defScope sSetupI) := ⟨rfl, rfl, rfl, by decide +kernel, rfl, by decide +kernel, by decide +kernel⟩
theorem ok_setup {f g1 g2 g3 CS : Addr} {fd gd1 gd2 gd3 fdI : FuncData} {cdv up uk us : Value} (F : FunC K "__init__" "Setup.__init__" sSetupI f fd cdv) (V : Err K mg CE fI) (A3 : Fld3 K CS "place" "kinds" "sights")
    (hp : mg "PLACES" = some up) (kp : kdB K 1 up (.tup (PLACES.map .str)) = true) (hk : mg "KINDS" = some uk) (kk : kdB K 1 uk (.tup (KINDS.map .str)) = true) (hs : mg "SIGHTS" = some us) (ks : kdB K 1 us (.tup (SIGHTS.map .str)) = true)
    (EI : FnOk P w K mg base CX0 1 fI fdI ["self", "reason"] (spI CE)) (bI : Binds K fdI ["self", "reason"] [])
    (G1 : FnOk P w K mg base CX0 1 g1 gd1 ["value", "words"] (spF T K pWord)) (hg1 : mg "is_word" = some (.ref g1)) (kg1 : PySem.W.keepIn K (.ref g1) = true) (bg1 : Binds K gd1 ["value", "words"] [])
    (G2 : FnOk P w K mg base CX0 3 g2 gd2 ["chosen", "words"] (spF T K pChoice)) (hg2 : mg "is_choice" = some (.ref g2)) (kg2 : PySem.W.keepIn K (.ref g2) = true) (bg2 : Binds K gd2 ["chosen", "words"] [])
    (G3 : FnOk P w K mg base CX0 1 g3 gd3 ["chosen", "words"] (spF T K pOrder)) (hg3 : mg "in_order" = some (.ref g3)) (kg3 : PySem.W.keepIn K (.ref g3) = true) (bg3 : Binds K gd3 ["chosen", "words"] []) :
    FnOk P w K mg base (L2.CX P w) 4 f fd ["self", "place", "kinds", "sights"] (spX T K CE (pSetup CS)) := by
  refine fn_okX (R := pSetup CS) F scSetup (fun ss O Rn Rx ⟨a, p, k, s, h, _⟩ => by rw [h]; rfl) fun A outer s H E ss O Rn Rx hr h => ?_
  obtain ⟨a, p, k, sg, e1, ha, h1, h2, h3, h4, h5, hc⟩ := h
  subst e1
  refine ds_cons (d1_if (p := !okSetup p k sg) (O1 := O) (dt_not (DW.dt (dw_and (dt_val (de_call G1 (hr.mono (by decide)) hg1 kg1 bg1 pass0 (da_d (de_var 1) (da_d (de_gk hp kp) da_nil)) ⟨p, PLACES, rfl, h1, rfl, rfl⟩)) fun _ =>
    dw_and (dt_val (de_call G2 hr hg2 kg2 bg2 pass0 (da_d (de_var 2) (da_d (de_gk hk kk) da_nil)) ⟨k, KINDS, rfl, h2, h3, rfl, rfl⟩)) fun _ => dw_and1 (dt_val (de_call G2 hr hg2 kg2 bg2 pass0 (da_d (de_var 3) (da_d (de_gk hs ks) da_nil)) ⟨sg, SIGHTS, rfl, h4, h5, rfl, rfl⟩))))) (fun z => ?_) fun z => ds_nil ?_)
  · rcases hc with ⟨ok, eN, eX⟩ | ⟨ok, eN, eX⟩
    · rw [ok] at z
      cases z
    · refine ds_one (d1_raise V.o V.iC V.tI EI (hr.mono (by decide)) bI pass0 V.gC de_str ?_)
      show Rx _ _
      rw [eX]
      exact ⟨rfl, rfl⟩
  · rcases hc with ⟨ok, eN, eX⟩ | ⟨ok, eN, eX⟩
    · have ok' : isWord PLACES p = true ∧ isChoice KINDS k = true ∧ isChoice SIGHTS sg = true := by simpa [okSetup] using ok
      obtain ⟨i1, i2⟩ := choice_items ok'.2.1
      obtain ⟨j1, j2⟩ := choice_items ok'.2.2
      refine ds_cons (d1_fst 0 A3.cl A3.a rfl (dv_var 1 rfl) ha ?_ (by simp))
      refine ds_cons (d1_fst 0 A3.cl A3.b rfl (DE.dv (de_call G3 (hr.mono (by decide)) hg3 kg3 bg3 pass0 (da_d (de_var 2) (da_d (de_gk hk kk) da_nil)) ⟨k, KINDS, itemsD k, rfl, i1, i2, by decide, rfl, rfl⟩)) put_same ?_ (by first | (show 0 < 1000; decide) | (refine Dz.putS1 ?_; repeat' (refine Dz.putS2 ?_)); decide))
      refine ds_one (d1_fst 0 A3.cl A3.c rfl (DE.dv (de_call G3 (hr.mono (by decide)) hg3 kg3 bg3 pass0 (da_d (de_var 3) (da_d (de_gk hs ks) da_nil)) ⟨sg, SIGHTS, itemsD sg, rfl, j1, j2, by decide, rfl, rfl⟩)) put_same ?_ (by first | (show 0 < 1000; decide) | (refine Dz.putS1 ?_; repeat' (refine Dz.putS2 ?_)); decide))
      rw [eN]
      exact ⟨rfl, by rw [put_put, put_put]; rfl⟩
    · rw [ok] at z
      cases z
end
end Dg

namespace Dg
open PySem PySem.Spec PyProof.Rows L2 GxR Dz
/-- states in range -/
def okSt : D → Bool
  | .int n => decide (0 ≤ n) && (decide (1 ≤ n) && decide (n ≤ 60))
  | _ => false
def valI : D → Int
  | .int n => n
  | _ => 0
def okList (st on rules : D) : Bool := okSt st && (isStates (valI st) on && isRules (valI st) rules)
def onD (on : D) : D := .lst ((srt (intsOf (itemsD on))).map .int)
/-- Listener(..): its promise -/
def pList (CL : Addr) : PR := fun ss O Rn Rx => ∃ a st on rules, ss = [.val (.ref a), .dat st, .dat on, .dat rules] ∧ O a = some (.ins CL []) ∧ Pl st ∧ Pl on ∧ PlS on ∧ Pl rules ∧ PlRs rules ∧
  ((okList st on rules = true ∧ Rn = (fun v O' => v = .dat .non ∧ O' = put O a (.ins CL [("states", .dat st), ("on", .dat (onD on)), ("rules", .dat rules)])) ∧ Rx = fun _ _ => False) ∨
    (okList st on rules = false ∧ Rn = (fun _ _ => False) ∧ Rx = fun r O' => r = .str "no listener" ∧ O' = O))
section
variable {P : Program} {w : World} {K : PySem.W.Frag} {mg : Str → Option Value} {base : Heap} {T : List Addr} {CE fI : Addr}
theorem scList : FnScope ["self", "states", "on", "rules"] ["self", "states", "on", "rules"] (defScope sListI) := ⟨rfl, rfl, rfl, by decide +kernel, rfl, by decide +kernel, by decide +kernel⟩
theorem ok_list {f g1 g2 g3 CL : Addr} {fd gd1 gd2 gd3 fdI : FuncData} {cdv um : Value} (F : FunC K "__init__" "Listener.__init__" sListI f fd cdv) (L : Blt mg) (V : Err K mg CE fI) (A3 : Fld3 K CL "states" "on" "rules")
    (hM : mg "MOST_STATES" = some um) (kM : kdB K 0 um (.int 60) = true)
    (EI : FnOk P w K mg base CX0 1 fI fdI ["self", "reason"] (spI CE)) (bI : Binds K fdI ["self", "reason"] [])
    (G1 : FnOk P w K mg base CX0 1 g1 gd1 ["value"] (spF T K pNum)) (hg1 : mg "is_number" = some (.ref g1)) (kg1 : PySem.W.keepIn K (.ref g1) = true) (bg1 : Binds K gd1 ["value"] [])
    (G2 : FnOk P w K mg base CX0 4 g2 gd2 ["on", "states"] (spF T K pStates)) (hg2 : mg "are_states" = some (.ref g2)) (kg2 : PySem.W.keepIn K (.ref g2) = true) (bg2 : Binds K gd2 ["on", "states"] [])
    (G3 : FnOk P w K mg base CX0 5 g3 gd3 ["rules", "states"] (spF T K pRules)) (hg3 : mg "are_rules" = some (.ref g3)) (kg3 : PySem.W.keepIn K (.ref g3) = true) (bg3 : Binds K gd3 ["rules", "states"] []) :
    FnOk P w K mg base (L2.CX P w) 6 f fd ["self", "states", "on", "rules"] (spX T K CE (pList CL)) := by
  refine fn_okX (R := pList CL) F scList (fun ss O Rn Rx ⟨a, p, k, s, h, _⟩ => by rw [h]; rfl) fun A outer s H E ss O Rn Rx hr h => ?_
  obtain ⟨a, st, on, rules, e1, ha, h1, h2, h3, h4, h5, hc⟩ := h
  subst e1
  have sp : okSt st = (isNum st && okSt st) := by
    cases h1 with
    | int i =>
      show (decide (0 ≤ i) && (decide (1 ≤ i) && decide (i ≤ 60))) = (decide (0 ≤ i) && (decide (0 ≤ i) && (decide (1 ≤ i) && decide (i ≤ 60))))
      cases decide (0 ≤ i) <;> rfl
    | _ => rfl
  have sn : isNum st = true → ∃ n, st = .int n ∧ 0 ≤ n := by cases h1 <;> simp [isNum]
  refine ds_cons (d1_if (p := !okSt st) (O1 := O) ?_ (fun z => ?_) fun z => ds_nil ?_)
  · rw [sp]
    refine dt_not (DW.dt (dw_and (dt_val (de_call G1 (hr.mono (by decide)) hg1 kg1 bg1 pass0 (da_d (de_var 1) da_nil) ⟨st, rfl, h1, rfl, rfl⟩)) fun z => dw_and1 ?_))
    obtain ⟨n, rfl, hn⟩ := sn z
    have e : okSt (.int n) = (decide (1 ≤ n) && decide (n ≤ 60)) := by show (decide (0 ≤ n) && _) = _; rw [decide_eq_true hn, Bool.true_and]
    rw [e]
    exact dt_chain op_le op_le de_int (de_var 1) (rop_I0 fun _ => .bl _) (de_gk hM kM) (rop_I0 fun _ => .bl _)
  · rcases hc with ⟨ok, eN, eX⟩ | ⟨ok, eN, eX⟩
    · exfalso
      have q : okSt st = true := by
        unfold okList at ok
        rw [Bool.and_eq_true] at ok
        exact ok.1
      rw [q] at z
      cases z
    · refine ds_one (d1_raise V.o V.iC V.tI EI (hr.mono (by decide)) bI pass0 V.gC de_str ?_)
      show Rx _ _
      rw [eX]
      exact ⟨rfl, rfl⟩
  · have oks : okSt st = true := by simpa using z
    have e0 : ∃ n, st = .int n := by cases st <;> first | exact ⟨_, rfl⟩ | (simp [okSt] at oks; done)
    obtain ⟨n, rfl⟩ := e0
    refine ds_cons (d1_if (p := !(isStates n on && isRules n rules)) (O1 := O) (dt_not (DW.dt (dw_and (dt_val (de_call G2 (hr.mono (by decide)) hg2 kg2 bg2 pass0 (da_d (de_var 2) (da_d (de_var 1) da_nil)) ⟨on, n, rfl, h2, h3, rfl, rfl⟩)) fun _ =>
      dw_and1 (dt_val (de_call G3 hr hg3 kg3 bg3 pass0 (da_d (de_var 3) (da_d (de_var 1) da_nil)) ⟨rules, n, rfl, h4, h5, rfl, rfl⟩))))) (fun z2 => ?_) fun z2 => ds_nil ?_)
    · rcases hc with ⟨ok, eN, eX⟩ | ⟨ok, eN, eX⟩
      · exfalso
        have q : (isStates n on && isRules n rules) = true := by
          unfold okList at ok
          rw [Bool.and_eq_true] at ok
          exact ok.2
        rw [q] at z2
        cases z2
      · refine ds_one (d1_raise V.o V.iC V.tI EI (hr.mono (by decide)) bI pass0 V.gC de_str ?_)
        show Rx _ _
        rw [eX]
        exact ⟨rfl, rfl⟩
    · have ok2 : (isStates n on && isRules n rules) = true := by simpa using z2
      rcases hc with ⟨ok, eN, eX⟩ | ⟨ok, eN, eX⟩
      · rw [Bool.and_eq_true] at ok2
        have eo : ∃ ds, on = .lst ds ∧ ds.all (isBelow n) = true := by
          have q := ok2.1
          cases on <;> first | (simp [isStates] at q; done) | skip
          rename_i ds
          have q' : (ds.all (isBelow n) && _) = true := q
          rw [Bool.and_eq_true] at q'
          exact ⟨ds, rfl, q'.1⟩
        have er : ∃ rs, rules = .lst rs := by
          have q := ok2.2
          cases rules <;> first | exact ⟨_, rfl⟩ | (simp [isRules] at q; done)
        obtain ⟨ds, rfl, hds⟩ := eo
        obtain ⟨rs, rfl⟩ := er
        have hi : D.lst ds = .lst ((intsOf ds).map .int) := congrArg D.lst (ints_of hds)
        refine ds_cons (d1_fst 0 A3.cl A3.a rfl (dv_var 1 rfl) ha ?_ (by first | (show 0 < 1000; decide) | (refine Dz.putS1 ?_; repeat' (refine Dz.putS2 ?_)); decide))
        refine ds_cons (d1_fst 0 A3.cl A3.b rfl (s := .dat (onD (.lst ds))) (DE.dv (de_sorted L.sorted (de_var 2 (congrArg (fun q => some (Dz.Slot.dat q)) hi)))) put_same ?_ (by first | (show 0 < 1000; decide) | (refine Dz.putS1 ?_; repeat' (refine Dz.putS2 ?_)); decide))
        refine ds_one (d1_fst 0 A3.cl A3.c rfl (DE.dv (de_listL L.list (de_var 3))) put_same ?_ (by first | (show 0 < 1000; decide) | (refine Dz.putS1 ?_; repeat' (refine Dz.putS2 ?_)); decide))
        rw [eN]
        exact ⟨rfl, by rw [put_put, put_put]; rfl⟩
      · exfalso
        have q : okList (.int n) on rules = true := by
          unfold okList
          rw [oks, Bool.true_and]
          exact ok2
        rw [q] at ok
        cases ok

def COMMON : List D := [.tup [.non, .str "drop", .non, .non, .non, .int 0], .tup [.non, .str "end", .non, .non, .non, .int 0]]
end
end Dg

namespace Dg
open PySem PySem.Spec PyProof.Rows L2 GxR Dz
def iter {α : Type} (f : Nat → α → α) : Nat → α → α
  | 0, a => a
  | n + 1, a => f n (iter f n a)
def cell0 (ns : List Int) (k : Int) : Int := if k < ns.length then ns.getD k.toNat 0 else 0
def wideStep (s : Int × List Int) : Int × List Int := if 0 < s.1 then (s.1 / 840, s.2 ++ [s.1 % 840]) else s
def thinStep (k : Int) (turn : Nat) (s : Int × List Int) : Int × List Int := let c := (s.1 * 69069 + 104729 * (k + (turn : Int)) + 1) % 4294967291; (c, s.2 ++ [(c / 5003) % 840])
def cell1 (c : Int) : Int := (if 2 * c < 0 then -(2 * c) else 2 * c) + (if c < 0 then 1 else 0)
def cellRow (ns : List Int) (k : Int) (acc : List Int) : List Int := if 10 ^ 18 < cell1 (cell0 ns k) then (iter (fun _ => wideStep) 60 (cell1 (cell0 ns k), acc)).2 else (iter (thinStep k) 10 (cell1 (cell0 ns k), acc)).2
def rowF (ns : List Int) (first last : Int) : List Int := iter (fun j acc => cellRow ns (first + (j : Int)) acc) (last - first).toNat []
theorem wideStep_len (s : Int × List Int) : (wideStep s).2.length ≤ s.2.length + 1 := by
  unfold wideStep
  split
  · rw [List.length_append, List.length_singleton]; exact Nat.le_refl _
  · omega
theorem thinStep_len (k : Int) (t : Nat) (s : Int × List Int) : (thinStep k t s).2.length = s.2.length + 1 := by
  unfold thinStep
  rw [List.length_append, List.length_singleton]
theorem wide_len : ∀ (n : Nat) (s : Int × List Int), (iter (fun _ => wideStep) n s).2.length ≤ s.2.length + n
  | 0, _ => Nat.le_refl _
  | n + 1, s => by
    have := wide_len n s
    have h2 := wideStep_len (iter (fun _ => wideStep) n s)
    show (wideStep (iter (fun _ => wideStep) n s)).2.length ≤ _
    omega
theorem thin_len (k : Int) : ∀ (n : Nat) (s : Int × List Int), (iter (thinStep k) n s).2.length = s.2.length + n
  | 0, _ => rfl
  | n + 1, s => by
    have := thin_len k n s
    have h2 := thinStep_len k n (iter (thinStep k) n s)
    show (thinStep k n (iter (thinStep k) n s)).2.length = _
    omega
theorem cellRow_len (ns : List Int) (k : Int) (acc : List Int) : (cellRow ns k acc).length ≤ acc.length + 60 := by
  unfold cellRow
  split
  · exact wide_len 60 (_, acc)
  · have := thin_len k 10 (cell1 (cell0 ns k), acc)
    have e : ((cell1 (cell0 ns k), acc) : Int × List Int).2.length = acc.length := rfl
    omega
theorem rows_len (ns : List Int) (first : Int) : ∀ n : Nat, (iter (fun j acc => cellRow ns (first + (j : Int)) acc) n []).length ≤ 60 * n
  | 0 => Nat.le_refl _
  | n + 1 => by
    have := rows_len ns first n
    have h2 := cellRow_len ns (first + (n : Int)) (iter (fun j acc => cellRow ns (first + (j : Int)) acc) n [])
    show (cellRow ns (first + (n : Int)) (iter (fun j acc => cellRow ns (first + (j : Int)) acc) n [])).length ≤ _
    omega
section
variable {P : Program} {w : World} {K : PySem.W.Frag} {mg : Str → Option Value} {base : Heap} {T : List Addr}
theorem atI_ints {ns : List Int} {k : Int} (h0 : 0 ≤ k) (h : k < ns.length) : atI (ns.map D.int) k = some (.int (ns.getD k.toNat 0)) := by
  have hk : k.toNat < ns.length := by omega
  have h1 : ixN (ns.map D.int).length k = some k.toNat := by
    unfold ixN
    rw [List.length_map]
    simp only [h0, h]
    first | rfl | simp [h0, h] | (split <;> first | rfl | omega)
  unfold atI
  rw [h1]
  show (ns.map D.int)[k.toNat]? = _
  rw [List.getElem?_map, List.getElem?_eq_getElem hk, List.getD_eq_getElem?_getD, List.getElem?_eq_getElem hk]
  rfl
theorem scCell : FnScope ["script", "k"] ["script", "k"] (defScope sLCell) := ⟨rfl, rfl, rfl, by decide +kernel, rfl, by decide +kernel, by decide +kernel⟩
def pCell (ss : List Slot) (O : OH) (d : D) (O' : OH) : Prop := ∃ ns k, ss = [.dat (.kst (ns.map .int)), .dat (.int k)] ∧ 0 ≤ k ∧ d = .int (cell0 ns k) ∧ O' = O
theorem ok_cell {f : Addr} {fd : FuncData} {cdv : Value} (F : FunC K "_law_cell" "_law_cell" sLCell f fd cdv) (L : Blt mg) : FnOk P w K mg base CX0 1 f fd ["script", "k"] (spF T K pCell) := by
  refine fn_ok (CE := (0 : Addr)) (R := pCell) F scCell (fun ss O d O' ⟨x, n, h, _⟩ => by rw [h]; rfl) fun A outer s H E ss O d O' hr h => ?_
  obtain ⟨ns, k, h1, h0, h2, h3⟩ := h
  subst h1 h2 h3
  refine ds_cons (d1_if (p := decide (k < ns.length)) (DT.cast (dt_lt (de_var 1) (de_lenK L.len (de_var 0))) (by rw [List.length_map])) (fun z => ?_) fun z => ds_nil ?_)
  · have z' := of_decide_eq_true z
    refine ds_one (d1_ret (s := .dat (.int (cell0 ns k))) (DE.dv (de_ixK (de_var 0) (de_var 1) ?_)) ⟨rfl, rfl⟩)
    unfold cell0
    rw [if_pos z']
    exact atI_ints h0 z'
  · have z' := of_decide_eq_false z
    refine ds_one (d1_ret (s := .dat (.int 0)) de_int.dv ⟨?_, rfl⟩)
    unfold cell0
    rw [if_neg z']

theorem scRow : FnScope ["script", "first", "last", "row", "k", "cell", "turn"] ["script", "first", "last"] (defScope sLRow) := ⟨rfl, rfl, rfl, by decide +kernel, rfl, by decide +kernel, by decide +kernel⟩
def pRow (ss : List Slot) (O : OH) (d : D) (O' : OH) : Prop := ∃ ns first last, ss = [.dat (.kst (ns.map .int)), .dat (.int first), .dat (.int last)] ∧ 0 ≤ first ∧ first ≤ 1000 ∧ 0 ≤ last ∧ last ≤ 1000 ∧ d = .lst ((rowF ns first last).map .int) ∧ O' = O
def rowO (acc : List Int) : OD := .lst (acc.map fun i => .dat (.int i))
theorem map_dat (acc : List Int) : acc.map (fun i => Slot.dat (.int i)) = (acc.map D.int).map .dat := by rw [List.map_map]; rfl
theorem ok_row {f g : Addr} {fd gd : FuncData} {cdv : Value} (F : FunC K "_law_row" "_law_row" sLRow f fd cdv) (L : Blt mg) (G : FnOk P w K mg base CX0 1 g gd ["script", "k"] (spF T K pCell)) (hg : mg "_law_cell" = some (.ref g)) (kg : PySem.W.keepIn K (.ref g) = true) (bg : Binds K gd ["script", "k"] []) :
    FnOk P w K mg base CX0 2 f fd ["script", "first", "last"] (spF T K pRow) := by
  refine fn_ok (CE := (0 : Addr)) (R := pRow) F scRow (fun ss O d O' ⟨x, n, m, h, _⟩ => by rw [h]; rfl) fun A outer s H E ss O d O' hr h => ?_
  obtain ⟨ns, first, last, h1, hf0, hf1, hl0, hl1, h2, h3⟩ := h
  subst h1 h2 h3
  refine ds_cons (d1_own 3 da_nil (fun p hp => ?_) scRow.nd)
  refine ds_cons (d1_forR2 4 (fun j ρ' O2 => ∃ s4 s5 s6, ρ' = [.dat (.kst (ns.map .int)), .dat (.int first), .dat (.int last), .val (.ref p), s4, s5, s6] ∧ O2 = put O' p (rowO (iter (fun j acc => cellRow ns (first + (j : Int)) acc) j [])) ∧ (j : Int) ≤ 1000)
    (de_var 1) (de_var 2) ⟨by omega, by omega, by omega, by omega⟩ ⟨_, _, _, rfl, rfl, by decide⟩ scRow.nd ?_ ?_ L.range PassesOwn.never)
  · rintro j ρ' O2 hj ⟨s4, s5, s6, rfl, rfl, hjl⟩
    generalize hacc : iter (fun j acc => cellRow ns (first + (j : Int)) acc) j [] = acc
    have hal : acc.length ≤ 60000 := by
      have := rows_len ns first j
      rw [hacc] at this
      omega
    have hnext : iter (fun j acc => cellRow ns (first + (j : Int)) acc) (j + 1) [] = cellRow ns (first + (j : Int)) acc := by rw [← hacc]; rfl
    refine ds_cons (d1_set 5 (DE.dv (de_call G hr hg kg bg pass0 (da_d (de_var 0) (da_d (de_var 4) da_nil)) ⟨ns, first + (j : Int), rfl, by omega, rfl, rfl⟩)) ?_ scRow.nd)
    refine ds_cons (d1_set 5 (s := .dat (.int (cell1 (cell0 ns (first + (j : Int)))))) (DE.dv (DE.cast (de_add (de_abs L.abs (de_mul (.inl (by omega)) de_int (de_var 5))) (de_intB L.int (de_lt (de_var 5) de_int))) ?_)) ?_ scRow.nd)
    · unfold cell1
      by_cases hc : cell0 ns (first + (j : Int)) < 0
      · simp [hc]
      · simp [hc]
    generalize hcl : cell1 (cell0 ns (first + (j : Int))) = cl
    have hrow : cellRow ns (first + (j : Int)) acc = if 10 ^ 18 < cl then (iter (fun _ => wideStep) 60 (cl, acc)).2 else (iter (thinStep (first + (j : Int))) 10 (cl, acc)).2 := by unfold cellRow; rw [hcl]
    refine ds_one (d1_if (dt_gt (de_var 5) (de_pow ⟨by omega, by omega, by decide⟩ de_int de_int)) (fun z => ?_) fun z => ?_)
    · have z' : (10 : Int) ^ 18 < cl := of_decide_eq_true z
      refine ds_one (d1_forR 6 (fun t ρ' O2 => ∃ s6, ρ' = [.dat (.kst (ns.map .int)), .dat (.int first), .dat (.int last), .val (.ref p), .dat (.int (first + (j : Int))), .dat (.int (iter (fun _ => wideStep) t (cl, acc)).1), s6] ∧ O2 = put O' p (rowO (iter (fun _ => wideStep) t (cl, acc)).2) ∧ t ≤ 60)
        de_int (by decide) ⟨_, rfl, rfl, by decide⟩ scRow.nd ?_ ?_ L.range PassesOwn.never)
      · rintro t ρ' O2 ht ⟨s6, rfl, rfl, htl⟩
        have hwl := wide_len t (cl, acc)
        have e0 : ((cl, acc) : Int × List Int).2.length = acc.length := rfl
        have hstep : iter (fun _ => wideStep) (t + 1) (cl, acc) = wideStep (iter (fun _ => wideStep) t (cl, acc)) := rfl
        generalize hst : iter (fun _ => wideStep) t (cl, acc) = st at hwl hstep
        refine ds_one (d1_if (dt_gt (de_var 5) de_int) (fun z => ?_) fun z => ds_nil ?_)
        · have z' : 0 < st.1 := of_decide_eq_true z
          refine ds_cons (d1_append 3 rfl put_same (DE.dv (de_mod (by decide) (de_intI L.int (de_var 5)) de_int)) put_same (by rw [List.length_map]; omega) ?_)
          refine ds_one (d1_set 5 (DE.dv (de_fdiv ⟨by decide, by decide⟩ (de_var 5) de_int)) ?_ scRow.nd)
          refine ⟨.dat (.int (t : Int)), ?_, ?_, by omega⟩
          · rw [hstep]; unfold wideStep; rw [if_pos z']; rfl
          · rw [hstep, put_put]; unfold wideStep rowO; rw [if_pos z']; simp
        · have z' : ¬ 0 < st.1 := of_decide_eq_false z
          refine ⟨.dat (.int (t : Int)), ?_, ?_, by omega⟩
          · rw [hstep]; unfold wideStep; rw [if_neg z']; rfl
          · rw [hstep]; unfold wideStep; rw [if_neg z']
      · rintro ρ' O2 ⟨s6, rfl, rfl, _⟩
        refine ⟨_, _, _, rfl, ?_, by omega⟩
        rw [hnext, hrow, if_pos z']
        rfl
    · have z' : ¬ (10 : Int) ^ 18 < cl := of_decide_eq_false z
      refine ds_one (d1_forR 6 (fun t ρ' O2 => ∃ s6, ρ' = [.dat (.kst (ns.map .int)), .dat (.int first), .dat (.int last), .val (.ref p), .dat (.int (first + (j : Int))), .dat (.int (iter (thinStep (first + (j : Int))) t (cl, acc)).1), s6] ∧ O2 = put O' p (rowO (iter (thinStep (first + (j : Int))) t (cl, acc)).2) ∧ t ≤ 10)
        de_int (by decide) ⟨_, rfl, rfl, by decide⟩ scRow.nd ?_ ?_ L.range PassesOwn.never)
      · rintro t ρ' O2 ht ⟨s6, rfl, rfl, htl⟩
        have hwl := thin_len (first + (j : Int)) t (cl, acc)
        have e0 : ((cl, acc) : Int × List Int).2.length = acc.length := rfl
        have hstep : iter (thinStep (first + (j : Int))) (t + 1) (cl, acc) = thinStep (first + (j : Int)) t (iter (thinStep (first + (j : Int))) t (cl, acc)) := rfl
        generalize hst : iter (thinStep (first + (j : Int))) t (cl, acc) = st at hwl hstep
        refine ds_cons (d1_set 5 (DE.dv (de_mod (by decide) (de_intI L.int (de_add (de_add (de_mul (.inr (by omega)) (de_var 5) de_int) (de_mul (.inl (by omega)) de_int (de_add (de_var 4) (de_var 6)))) de_int)) de_int)) ?_ scRow.nd)
        refine ds_one (d1_append 3 rfl put_same (DE.dv (de_mod (by decide) (de_intI L.int (de_fdiv ⟨by decide, by decide⟩ (de_var 5) de_int)) de_int)) put_same (by rw [List.length_map]; omega) ?_)
        refine ⟨.dat (.int (t : Int)), ?_, ?_, by omega⟩
        · rw [hstep]; rfl
        · rw [hstep, put_put]; unfold thinStep rowO; simp
      · rintro ρ' O2 ⟨s6, rfl, rfl, _⟩
        refine ⟨_, _, _, rfl, ?_, by omega⟩
        rw [hnext, hrow, if_neg z']
        rfl
  · rintro ρ' O2 ⟨s4, s5, s6, rfl, rfl, hjl⟩
    refine ds_freeze 3 rfl (ds := (rowF ns first last).map .int) (by rw [put_same]; unfold rowO rowF; rw [map_dat]) ?_
    refine ds_one (d1_ret (s := .dat (.lst ((rowF ns first last).map .int))) (dv_var 3 rfl) ⟨rfl, ?_⟩)
    exact cut_put hp
end
end Dg

namespace Dg
open PySem PySem.Spec PyProof.Rows L2 GxR Dz
/-- the box of a law: its row and where it stands -/
def Bx (row : List Int) (at_ : Nat) : OD := .lst [.dat (.lst (row.map .int)), .dat (.int (at_ : Int))]
def drw (row : List Int) (at_ : Nat) (many : Int) : Int := if at_ < row.length then row.getD at_ 0 % many else ((at_ : Int) * 5 + 1) % many
theorem drw_0 (row : List Int) (at_ : Nat) {many : Int} (h : 0 < many) : 0 ≤ drw row at_ many := by
  unfold drw
  split <;> exact Int.emod_nonneg _ (by omega)
theorem drw_lt (row : List Int) (at_ : Nat) {many : Int} (h : 0 < many) : drw row at_ many < many := by
  unfold drw
  split <;> exact Int.emod_lt_of_pos _ h
/-- items by draws -/
def sel {α : Type} (row : List Int) (many : Int) (p : Int → Bool) : Nat → List α → List α
  | _, [] => []
  | a, x :: xs => if p (drw row a many) = true then x :: sel row many p (a + 1) xs else sel row many p (a + 1) xs
theorem sel_nil {α : Type} (row : List Int) (many : Int) (p : Int → Bool) (a : Nat) : sel row many p a ([] : List α) = [] := rfl
theorem sel_snoc {α : Type} (row : List Int) (many : Int) (p : Int → Bool) (x : α) : ∀ (xs : List α) (a : Nat), sel row many p a (xs ++ [x]) = sel row many p a xs ++ (if p (drw row (a + xs.length) many) = true then [x] else [])
  | [], a => by
    show (if _ then [x] else []) = [] ++ _
    rfl
  | y :: xs, a => by
    have e : a + (y :: xs).length = (a + 1) + xs.length := by rw [List.length_cons]; omega
    rw [List.cons_append, sel, sel, sel_snoc row many p x xs (a + 1), e]
    split <;> rfl
theorem sel_map {α β : Type} (f : α → β) (row : List Int) (many : Int) (p : Int → Bool) : ∀ (xs : List α) (a : Nat), sel row many p a (xs.map f) = (sel row many p a xs).map f
  | [], _ => rfl
  | x :: xs, a => by
    rw [List.map_cons, sel, sel, sel_map f row many p xs (a + 1)]
    split <;> rfl
theorem atI_D {ds : List D} {k : Int} (h0 : 0 ≤ k) (h : k < ds.length) : atI ds k = some (ds.getD k.toNat .non) := by
  have hk : k.toNat < ds.length := by omega
  have h1 : ixN ds.length k = some k.toNat := by
    unfold ixN
    simp only [h0, h]
    first | rfl | simp [h0, h] | (split <;> first | rfl | omega)
  unfold atI
  rw [h1]
  show ds[k.toNat]? = _
  rw [List.getElem?_eq_getElem hk, List.getD_eq_getElem?_getD, List.getElem?_eq_getElem hk]
  rfl
section
variable {P : Program} {w : World} {K : PySem.W.Frag} {mg : Str → Option Value} {base : Heap} {T : List Addr}
theorem scDraw : FnScope ["box", "many", "at"] ["box", "many"] (defScope sLDraw) := ⟨rfl, rfl, rfl, by decide +kernel, rfl, by decide +kernel, by decide +kernel⟩
def pDraw (ss : List Slot) (O : OH) (d : D) (O' : OH) : Prop := ∃ b row at_ many, ss = [.val (.ref b), .dat (.int many)] ∧ O b = some (Bx row at_) ∧ 0 < many ∧ at_ ≤ 100000 ∧ d = .int (drw row at_ many) ∧ O' = put O b (Bx row (at_ + 1))
theorem ok_draw {f : Addr} {fd : FuncData} {cdv : Value} (F : FunC K "_law_draw" "_law_draw" sLDraw f fd cdv) (L : Blt mg) : FnOk P w K mg base CX0 1 f fd ["box", "many"] (spF T K pDraw) := by
  refine fn_ok (CE := (0 : Addr)) (R := pDraw) F scDraw (fun ss O d O' ⟨x, n, a, m, h, _⟩ => by rw [h]; rfl) fun A outer s H E ss O d O' hr h => ?_
  obtain ⟨b, row, at_, many, h1, hO, hm, ha, h2, h3⟩ := h
  subst h1 h2 h3
  refine ds_cons (d1_set 2 (dv_ixO 0 rfl de_int hO rfl) ?_ scDraw.nd)
  refine ds_cons (d1_setitem 0 rfl (DE.dv (de_add (de_var 2) de_int)) de_int hO rfl ?_)
  have e1 : put O b (OD.lst (List.set [Slot.dat (.lst (row.map .int)), Slot.dat (.int (at_ : Int))] 1 (.dat (.int ((at_ : Int) + 1))))) = put O b (Bx row (at_ + 1)) := by
    unfold Bx
    rw [show ((at_ + 1 : Nat) : Int) = (at_ : Int) + 1 by omega]
    rfl
  show DS T _ _ _ _ (put O b (OD.lst (List.set [Slot.dat (.lst (row.map .int)), Slot.dat (.int (at_ : Int))] 1 (.dat (.int ((at_ : Int) + 1)))))) _
  rw [e1]
  refine ds_cons (d1_if (p := decide ((at_ : Int) < row.length)) (DT.cast (dt_lt (de_var 2) (de_lenL L.len (DV.de (dv_ixO 0 rfl de_int put_same rfl)))) (by rw [List.length_map])) (fun z => ?_) fun z => ds_nil ?_)
  · have z' : (at_ : Int) < row.length := of_decide_eq_true z
    refine ds_one (d1_ret (s := .dat (.int (drw row at_ many))) (DE.dv (DE.cast (de_mod hm (de_intI L.int (de_ixL (DV.de (dv_ixO 0 rfl de_int put_same rfl)) (de_var 2) (atI_ints (by omega) z'))) (de_var 1)) ?_)) ⟨rfl, rfl⟩)
    unfold drw
    rw [if_pos (by omega)]
    rfl
  · have z' : ¬ (at_ : Int) < row.length := of_decide_eq_false z
    refine ds_one (d1_ret (s := .dat (.int (drw row at_ many))) (DE.dv (DE.cast (de_mod hm (de_intI L.int (de_add (de_mul (.inr (by omega)) (de_var 2) de_int) de_int)) (de_var 1)) ?_)) ⟨rfl, rfl⟩)
    unfold drw
    rw [if_neg (by omega)]
/-- a turn that draws -/
theorem draw_turn {X : Cx} {scope : Scope} {ifs : List Expr} {elt : Expr} {ρ : List Slot} {O : OH} {i : Nat} {ds : List D} {b : Addr} {row : List Int} {many : Int} {p : Int → Bool} {at_ : Nat}
    (h : ∀ j d, ds[j]? = some d → DIfs T X scope ifs (ρ.set i (.dat d)) (put O b (Bx row (at_ + j))) (p (drw row (at_ + j) many)) (put O b (Bx row (at_ + j + 1))) ∧ DEb T X scope elt (ρ.set i (.dat d)) (put O b (Bx row (at_ + j + 1))) d (put O b (Bx row (at_ + j + 1)))) :
    ∀ j d acc O', ds[j]? = some d → (acc = sel row many p at_ (ds.take j) ∧ O' = put O b (Bx row (at_ + j))) → LcTurn T X scope ifs elt (fun j acc O' => acc = sel row many p at_ (ds.take j) ∧ O' = put O b (Bx row (at_ + j))) j (ρ.set i (.dat d)) acc O' := by
  rintro j d acc O' hj ⟨rfl, rfl⟩
  obtain ⟨h1, h2⟩ := h j d hj
  have hlt := (List.getElem?_eq_some_iff.mp hj).1
  have el : (ds.take j).length = j := by rw [List.length_take]; omega
  have et : ds.take (j + 1) = ds.take j ++ [d] := by rw [List.take_add_one, hj]; rfl
  have es : sel row many p at_ (ds.take (j + 1)) = sel row many p at_ (ds.take j) ++ (if p (drw row (at_ + j) many) = true then [d] else []) := by rw [et, sel_snoc, el]
  refine ⟨_, _, h1, fun z => ⟨d, _, h2, ?_, rfl⟩, fun z => ⟨?_, rfl⟩⟩
  · rw [es, if_pos z]
  · rw [es, if_neg (by rw [z]; exact Bool.false_ne_true), List.append_nil]
theorem scSome : FnScope ["box", "names", "name"] ["box", "names"] (defScope sLSome) := ⟨rfl, rfl, rfl, by decide +kernel, rfl, by decide +kernel, by decide +kernel⟩
def gt0 (i : Int) : Bool := decide (0 < i)
def eq0 (i : Int) : Bool := decide (i = 0)
def pSome (ss : List Slot) (O : OH) (d : D) (O' : OH) : Prop := ∃ b row at_ ds, ss = [.val (.ref b), .dat (.lst ds)] ∧ O b = some (Bx row at_) ∧ at_ ≤ 10000 ∧ ds.length ≤ 1000 ∧ d = .lst (sel row 3 gt0 at_ ds) ∧ O' = put O b (Bx row (at_ + ds.length))
theorem ok_some {f g : Addr} {fd gd : FuncData} {cdv : Value} (F : FunC K "_law_some" "_law_some" sLSome f fd cdv) (G : FnOk P w K mg base CX0 1 g gd ["box", "many"] (spF T K pDraw)) (hg : mg "_law_draw" = some (.ref g)) (kg : PySem.W.keepIn K (.ref g) = true) (bg : Binds K gd ["box", "many"] []) :
    FnOk P w K mg base CX0 2 f fd ["box", "names"] (spF T K pSome) := by
  refine fn_ok (CE := (0 : Addr)) (R := pSome) F scSome (fun ss O d O' ⟨x, n, a, m, h, _⟩ => by rw [h]; rfl) fun A outer s H E ss O d O' hr h => ?_
  obtain ⟨b, row, at_, ds, h1, hO, ha, hl, h2, h3⟩ := h
  subst h1 h2 h3
  have eO : O = put O b (Bx row (at_ + 0)) := (put_self hO).symm
  refine ds_one (d1_ret (s := .dat (.lst (sel row 3 gt0 at_ ds))) (O1 := put O b (Bx row (at_ + ds.length))) (DE.dv (de_lcL 2 (de_var 1) (fun j acc O2 => acc = sel row 3 gt0 at_ (ds.take j) ∧ O2 = put O b (Bx row (at_ + j))) ⟨rfl, eO⟩ (draw_turn (p := gt0) fun j d hj => ⟨?_, fun s H C cl fp => de_var 2⟩) (fun acc O2 h => ?_) (by omega) scSome.nd (blkOk_by rfl))) ⟨rfl, rfl⟩)
  · have hj' := (List.getElem?_eq_some_iff.mp hj).1
    exact difs_one fun s H C cl fp => dt_gt (de_call G hr hg kg bg pass0 (da_v (dv_var 0 rfl) (da_d de_int da_nil)) ⟨b, row, at_ + j, 3, rfl, put_same, by decide, by omega, rfl, by rw [put_put]⟩) de_int
  · rw [List.take_of_length_le (Nat.le_refl _)] at h
    exact h
theorem scKinds : FnScope [] [] (defScope sLKinds) := ⟨rfl, rfl, rfl, by decide +kernel, rfl, by decide +kernel, by decide +kernel⟩
def pKinds (ss : List Slot) (O : OH) (d : D) (O' : OH) : Prop := ss = [] ∧ d = .lst (KINDS.map .str) ∧ O' = O
theorem ok_kinds {f : Addr} {fd : FuncData} {cdv : Value} (F : FunC K "_law_kinds" "_law_kinds" sLKinds f fd cdv) : FnOk P w K mg base CX0 1 f fd [] (spF T K pKinds) := by
  refine fn_ok (CE := (0 : Addr)) (R := pKinds) F scKinds (fun ss O d O' ⟨h, _⟩ => by rw [h]; rfl) fun A outer s H E ss O d O' hr h => ?_
  obtain ⟨h1, h2, h3⟩ := h
  subst h1 h2 h3
  exact ds_one (d1_ret (s := .dat (.lst (KINDS.map .str))) (DE.dv (de_lst (da_d de_str (da_d de_str (da_d de_str (da_d de_str (da_d de_str da_nil))))))) ⟨rfl, rfl⟩)

end
end Dg

namespace Dg
open PySem PySem.Spec PyProof.Rows L2 GxR Dz
section
variable {P : Program} {w : World} {K : PySem.W.Frag} {mg : Str → Option Value} {base : Heap} {T : List Addr}
def PL4 : List D := [.str "zone", .str "zone", .str "root", .str "capture"]
def KOP : List D := [.lst [.str "enter", .str "leave", .str "drop"], .lst [.str "over", .str "drop", .str "end"], .lst [.str "enter", .str "leave", .str "over", .str "drop", .str "end"], .lst [.str "enter", .str "leave"]]
def suP (row : List Int) (a : Nat) : D := PL4.getD (drw row a 4).toNat .non
def suB (row : List Int) (a : Nat) : Bool := eq0 (drw row (a + 6) 2)
def suK (row : List Int) (a : Nat) : D := if suB row a = true then KOP.getD (drw row (a + 7) 4).toNat .non else .lst (sel row 3 gt0 (a + 1) (KINDS.map .str))
def suA (row : List Int) (a : Nat) : Nat := if suB row a = true then a + 8 else a + 7
def suS (row : List Int) (a : Nat) : List D := sel row 3 eq0 (suA row a) (SIGHTS.map .str)
def setupD (row : List Int) (a : Nat) : D := .lst [suP row a, suK row a, .lst (suS row a)]
theorem scLSetup : FnScope ["box", "place", "kinds", "name"] ["box"] (defScope sLSetup) := ⟨rfl, rfl, rfl, by decide +kernel, rfl, by decide +kernel, by decide +kernel⟩
def pLSetup (ss : List Slot) (O : OH) (d : D) (O' : OH) : Prop := ∃ b row a, ss = [.val (.ref b)] ∧ O b = some (Bx row a) ∧ a ≤ 9000 ∧ d = setupD row a ∧ O' = put O b (Bx row (suA row a + 3))
theorem deq_i0 (i : Int) : deq (.int i) (.int 0) = eq0 i := deq_int i 0
theorem ok_lsetup {f g g2 g3 : Addr} {fd gd gd2 gd3 : FuncData} {cdv : Value} (F : FunC K "_law_setup" "_law_setup" sLSetup f fd cdv) (G : FnOk P w K mg base CX0 1 g gd ["box", "many"] (spF T K pDraw)) (hg : mg "_law_draw" = some (.ref g)) (kg : PySem.W.keepIn K (.ref g) = true) (bg : Binds K gd ["box", "many"] [])
    (G2 : FnOk P w K mg base CX0 2 g2 gd2 ["box", "names"] (spF T K pSome)) (hg2 : mg "_law_some" = some (.ref g2)) (kg2 : PySem.W.keepIn K (.ref g2) = true) (bg2 : Binds K gd2 ["box", "names"] [])
    (G3 : FnOk P w K mg base CX0 1 g3 gd3 [] (spF T K pKinds)) (hg3 : mg "_law_kinds" = some (.ref g3)) (kg3 : PySem.W.keepIn K (.ref g3) = true) (bg3 : Binds K gd3 [] []) :
    FnOk P w K mg base CX0 3 f fd ["box"] (spF T K pLSetup) := by
  refine fn_ok (CE := (0 : Addr)) (R := pLSetup) F scLSetup (fun ss O d O' ⟨x, n, a, h, _⟩ => by rw [h]; rfl) fun A outer s H E ss O d O' hr h => ?_
  obtain ⟨b, row, a, h1, hO, ha, h2, h3⟩ := h
  subst h1 h2 h3
  have hr1 := hr.mono (show 1 ≤ 2 by decide)
  refine ds_cons (d1_set 1 (O1 := put O b (Bx row (a + 1))) (s := .dat (suP row a)) (DE.dv (de_ixL (de_lst (ds := PL4) (da_d de_str (da_d de_str (da_d de_str (da_d de_str da_nil))))) (de_call G hr1 hg kg bg pass0 (da_v (dv_var 0 rfl) (da_d de_int da_nil)) ⟨b, row, a, 4, rfl, hO, by decide, by omega, rfl, rfl⟩) (atI_D (drw_0 row a (by decide)) (drw_lt row a (by decide))))) ?_ scLSetup.nd)
  refine ds_cons (d1_set 2 (O1 := put O b (Bx row (a + 6))) (s := .dat (.lst (sel row 3 gt0 (a + 1) (KINDS.map .str)))) (DE.dv (de_call G2 hr hg2 kg2 bg2 pass0 (da_v (dv_var 0 rfl) (da_d (de_call0 G3 hr1 hg3 kg3 bg3 pass0 ⟨rfl, rfl, rfl⟩) da_nil)) ⟨b, row, a + 1, _, rfl, put_same, by omega, by decide, rfl, by rw [put_put]; rfl⟩)) ?_ scLSetup.nd)
  refine ds_cons (d1_if (p := suB row a) (O1 := put O b (Bx row (a + 7))) (DT.cast (dt_eq hr (by rfl) (by rfl) (de_call G hr1 hg kg bg pass0 (da_v (dv_var 0 rfl) (da_d de_int da_nil)) ⟨b, row, a + 6, 2, rfl, put_same, by decide, by omega, rfl, by rw [put_put]⟩) de_int) (deq_i0 _)) (fun z => ?_) fun z => ds_nil ?_)
  · have eA : suA row a = a + 8 := if_pos z
    have eK : suK row a = KOP.getD (drw row (a + 7) 4).toNat .non := if_pos z
    have hK : atI KOP (drw row (a + 7) 4) = some (suK row a) := by rw [eK]; exact atI_D (drw_0 row _ (by decide)) (drw_lt row _ (by decide))
    refine ds_cons (d1_set 2 (O1 := put O b (Bx row (a + 8))) (s := .dat (suK row a)) ?_ ?_ scLSetup.nd (hs := by kernel_rfl))
    refine DE.dv ?_
    refine de_ixL (ds := KOP) (i := drw row (a + 7) 4) (O1 := put O b (Bx row (a + 7))) ?_ ?_ hK
    · exact de_lst (ds := KOP) (da_d (de_lst (ds := [.str "enter", .str "leave", .str "drop"]) (da_d de_str (da_d de_str (da_d de_str da_nil)))) (da_d (de_lst (ds := [.str "over", .str "drop", .str "end"]) (da_d de_str (da_d de_str (da_d de_str da_nil)))) (da_d (de_lst (ds := [.str "enter", .str "leave", .str "over", .str "drop", .str "end"]) (da_d de_str (da_d de_str (da_d de_str (da_d de_str (da_d de_str da_nil)))))) (da_d (de_lst (ds := [.str "enter", .str "leave"]) (da_d de_str (da_d de_str da_nil))) da_nil))))
    · exact de_call G hr1 hg kg bg pass0 (da_v (dv_var 0 rfl) (da_d de_int da_nil)) ⟨b, row, a + 7, 4, rfl, put_same, by decide, by omega, rfl, by rw [put_put]⟩
    refine ds_nil ?_
    refine ds_one (d1_ret (s := .dat (setupD row a)) (O1 := put O b (Bx row (suA row a + 3))) (DE.dv (de_lst (ds := [suP row a, suK row a, .lst (suS row a)]) ?_ (by show 3 ≤ 10000; decide))) ⟨rfl, rfl⟩)
    refine da_d (d := suP row a) (de_var 1) (da_d (d := suK row a) (O1 := put O b (Bx row (a + 8))) (de_var 2) (da_d (d := .lst (suS row a)) ?_ da_nil))
    refine de_lcL (O1 := put O b (Bx row (a + 8))) (ds := SIGHTS.map .str) 3 (de_lst (ds := SIGHTS.map .str) (da_d de_str (da_d de_str (da_d de_str da_nil)))) (fun j acc O2 => acc = sel row 3 eq0 (suA row a) ((SIGHTS.map D.str).take j) ∧ O2 = put O b (Bx row (suA row a + j))) ⟨by show [] = sel row 3 eq0 (suA row a) []; rw [sel_nil], by rw [eA]⟩ (draw_turn (p := eq0) fun j d hj => ⟨?_, fun s H C cl fp => de_var 3⟩) (fun acc O2 h => h) (by decide) scLSetup.nd (blkOk_by rfl)
    have hj' : j < 3 := (List.getElem?_eq_some_iff.mp hj).1
    have ha' : suA row a ≤ 9008 := by rw [eA]; omega
    exact difs_one fun s H C cl fp => DT.cast (dt_eq hr (by rfl) (by rfl) (de_call G hr1 hg kg bg pass0 (da_v (dv_var 0 rfl) (da_d de_int da_nil)) ⟨b, row, suA row a + j, 3, rfl, put_same, by decide, by omega, rfl, by rw [put_put]⟩) de_int) (deq_i0 _)
  · have eA : suA row a = a + 7 := if_neg (by rw [z]; exact Bool.false_ne_true)
    have eK : suK row a = .lst (sel row 3 gt0 (a + 1) (KINDS.map .str)) := if_neg (by rw [z]; exact Bool.false_ne_true)
    refine ds_one (d1_ret (s := .dat (setupD row a)) (O1 := put O b (Bx row (suA row a + 3))) (DE.dv (de_lst (ds := [suP row a, suK row a, .lst (suS row a)]) ?_ (by show 3 ≤ 10000; decide))) ⟨rfl, rfl⟩)
    refine da_d (d := suP row a) (de_var 1) (da_d (d := suK row a) (O1 := put O b (Bx row (a + 7))) (de_var 2 (by rw [eK]; rfl)) (da_d (d := .lst (suS row a)) ?_ da_nil))
    refine de_lcL (O1 := put O b (Bx row (a + 7))) (ds := SIGHTS.map .str) 3 (de_lst (ds := SIGHTS.map .str) (da_d de_str (da_d de_str (da_d de_str da_nil)))) (fun j acc O2 => acc = sel row 3 eq0 (suA row a) ((SIGHTS.map D.str).take j) ∧ O2 = put O b (Bx row (suA row a + j))) ⟨by show [] = sel row 3 eq0 (suA row a) []; rw [sel_nil], by rw [eA]⟩ (draw_turn (p := eq0) fun j d hj => ⟨?_, fun s H C cl fp => de_var 3⟩) (fun acc O2 h => h) (by decide) scLSetup.nd (blkOk_by rfl)
    have hj' : j < 3 := (List.getElem?_eq_some_iff.mp hj).1
    have ha' : suA row a ≤ 9008 := by rw [eA]; omega
    exact difs_one fun s H C cl fp => DT.cast (dt_eq hr (by rfl) (by rfl) (de_call G hr1 hg kg bg pass0 (da_v (dv_var 0 rfl) (da_d de_int da_nil)) ⟨b, row, suA row a + j, 3, rfl, put_same, by decide, by omega, rfl, by rw [put_put]⟩) de_int) (deq_i0 _)
end
end Dg

namespace Dg
open PySem PySem.Spec PyProof.Rows L2 GxR Dz
/-- a rule by digits: its eight draws, from a on -/
def ruSrc (row : List Int) (a : Nat) (n : Int) : D := [D.non, .int (drw row a n)].getD (drw row (a + 1) 2).toNat .non
def ruKind (row : List Int) (a : Nat) : D := [D.non, (KINDS.map D.str).getD (drw row (a + 2) 5).toNat .non].getD (if decide (0 < drw row (a + 3) 4) = true then 1 else 0) .non
def ruSide (row : List Int) (a : Nat) : D := [D.non, .non, .str "outside", .str "inside", .str "zone"].getD (drw row (a + 4) 5).toNat .non
def ruSame (row : List Int) (a : Nat) : D := [D.non, .non, .bl true, .bl false].getD (drw row (a + 5) 4).toNat .non
def ruRel (row : List Int) (a : Nat) : D := [D.non, .non, .non, .str "none", .str "outside", .str "inside"].getD (drw row (a + 6) 6).toNat .non
def ruleD (row : List Int) (a : Nat) (n : Int) : D := .tup [ruSrc row a n, ruKind row a, ruSide row a, ruSame row a, ruRel row a, .int (drw row (a + 7) n)]
section
variable {P : Program} {w : World} {K : PySem.W.Frag} {mg : Str → Option Value} {base : Heap} {T : List Addr} {CE fI : Addr}
theorem scLRule : FnScope ["box", "states", "source", "kind", "side", "same", "related"] ["box", "states"] (defScope sLRule) := ⟨rfl, rfl, rfl, by decide +kernel, rfl, by decide +kernel, by decide +kernel⟩
def pLRule (ss : List Slot) (O : OH) (d : D) (O' : OH) : Prop := ∃ b row a n, ss = [.val (.ref b), .dat (.int n)] ∧ O b = some (Bx row a) ∧ 0 < n ∧ a ≤ 9000 ∧ d = ruleD row a n ∧ O' = put O b (Bx row (a + 8))
theorem ok_lrule {f g g3 : Addr} {fd gd gd3 : FuncData} {cdv : Value} (F : FunC K "_law_rule" "_law_rule" sLRule f fd cdv) (L : Blt mg) (G : FnOk P w K mg base CX0 1 g gd ["box", "many"] (spF T K pDraw)) (hg : mg "_law_draw" = some (.ref g)) (kg : PySem.W.keepIn K (.ref g) = true) (bg : Binds K gd ["box", "many"] [])
    (G3 : FnOk P w K mg base CX0 1 g3 gd3 [] (spF T K pKinds)) (hg3 : mg "_law_kinds" = some (.ref g3)) (kg3 : PySem.W.keepIn K (.ref g3) = true) (bg3 : Binds K gd3 [] []) :
    FnOk P w K mg base CX0 2 f fd ["box", "states"] (spF T K pLRule) := by
  refine fn_ok (CE := (0 : Addr)) (R := pLRule) F scLRule (fun ss O d O' ⟨x, n, a, m, h, _⟩ => by rw [h]; rfl) fun A outer s H E ss O d O' hr h => ?_
  obtain ⟨b, row, a, n, h1, hO, hn, ha, h2, h3⟩ := h
  subst h1 h2 h3
  -- source
  refine ds_cons (d1_set 2 (O1 := put O b (Bx row (a + 2))) (s := .dat (ruSrc row a n)) (DE.dv (de_ixL (ds := [.non, .int (drw row a n)]) (i := drw row (a + 1) 2) (O1 := put O b (Bx row (a + 1))) ?_ ?_ (atI_D (drw_0 row _ (by decide)) (drw_lt row _ (by decide))))) ?_ scLRule.nd)
  · exact de_lst (ds := [.non, .int (drw row a n)]) (da_d de_non (da_d (de_call G hr hg kg bg pass0 (da_v (dv_var 0 rfl) (da_d (de_var 1) da_nil)) ⟨b, row, a, n, rfl, hO, hn, by omega, rfl, rfl⟩) da_nil)) (by show 2 ≤ 10000; decide)
  · exact de_call G hr hg kg bg pass0 (da_v (dv_var 0 rfl) (da_d de_int da_nil)) ⟨b, row, a + 1, 2, rfl, put_same, by decide, by omega, rfl, by rw [put_put]⟩
  -- kind
  refine ds_cons (d1_set 3 (O1 := put O b (Bx row (a + 4))) (s := .dat (ruKind row a)) (DE.dv (de_ixL (ds := [.non, (KINDS.map D.str).getD (drw row (a + 2) 5).toNat .non]) (i := if decide (0 < drw row (a + 3) 4) = true then 1 else 0) (O1 := put O b (Bx row (a + 3))) ?_ ?_ ?_)) ?_ scLRule.nd)
  · refine de_lst (ds := [.non, (KINDS.map D.str).getD (drw row (a + 2) 5).toNat .non]) (da_d de_non (da_d (de_ixL (ds := KINDS.map D.str) (i := drw row (a + 2) 5) (O1 := put O b (Bx row (a + 2))) (de_call0 G3 hr hg3 kg3 bg3 pass0 ⟨rfl, rfl, rfl⟩) ?_ (atI_D (drw_0 row _ (by decide)) (drw_lt row _ (by decide)))) da_nil)) (by show 2 ≤ 10000; decide)
    exact de_call G hr hg kg bg pass0 (da_v (dv_var 0 rfl) (da_d de_int da_nil)) ⟨b, row, a + 2, 5, rfl, put_same, by decide, by omega, rfl, by rw [put_put]⟩
  · exact de_intB L.int (de_gt (de_call G hr hg kg bg pass0 (da_v (dv_var 0 rfl) (da_d de_int da_nil)) ⟨b, row, a + 3, 4, rfl, put_same, by decide, by omega, rfl, by rw [put_put]⟩) de_int)
  · unfold ruKind
    by_cases hq : decide (0 < drw row (a + 3) 4) = true
    · rw [if_pos hq, if_pos hq]; rfl
    · rw [if_neg hq, if_neg hq]; rfl
  -- side, same, related
  refine ds_cons (d1_set 4 (O1 := put O b (Bx row (a + 5))) (s := .dat (ruSide row a)) (DE.dv (de_ixL (ds := [D.non, .non, .str "outside", .str "inside", .str "zone"]) (i := drw row (a + 4) 5) (O1 := put O b (Bx row (a + 4))) ?_ ?_ (atI_D (drw_0 row _ (by decide)) (drw_lt row _ (by decide))))) ?_ scLRule.nd)
  · exact de_lst (ds := [D.non, .non, .str "outside", .str "inside", .str "zone"]) (da_d de_non (da_d de_non (da_d de_str (da_d de_str (da_d de_str da_nil)))))
  · exact de_call G hr hg kg bg pass0 (da_v (dv_var 0 rfl) (da_d de_int da_nil)) ⟨b, row, a + 4, 5, rfl, put_same, by decide, by omega, rfl, by rw [put_put]⟩
  refine ds_cons (d1_set 5 (O1 := put O b (Bx row (a + 6))) (s := .dat (ruSame row a)) (DE.dv (de_ixL (ds := [D.non, .non, .bl true, .bl false]) (i := drw row (a + 5) 4) (O1 := put O b (Bx row (a + 5))) ?_ ?_ (atI_D (drw_0 row _ (by decide)) (drw_lt row _ (by decide))))) ?_ scLRule.nd)
  · exact de_lst (ds := [D.non, .non, .bl true, .bl false]) (da_d de_non (da_d de_non (da_d de_bl (da_d de_bl da_nil))))
  · exact de_call G hr hg kg bg pass0 (da_v (dv_var 0 rfl) (da_d de_int da_nil)) ⟨b, row, a + 5, 4, rfl, put_same, by decide, by omega, rfl, by rw [put_put]⟩
  refine ds_cons (d1_set 6 (O1 := put O b (Bx row (a + 7))) (s := .dat (ruRel row a)) (DE.dv (de_ixL (ds := [D.non, .non, .non, .str "none", .str "outside", .str "inside"]) (i := drw row (a + 6) 6) (O1 := put O b (Bx row (a + 6))) ?_ ?_ (atI_D (drw_0 row _ (by decide)) (drw_lt row _ (by decide))))) ?_ scLRule.nd)
  · exact de_lst (ds := [D.non, .non, .non, .str "none", .str "outside", .str "inside"]) (da_d de_non (da_d de_non (da_d de_non (da_d de_str (da_d de_str (da_d de_str da_nil))))))
  · exact de_call G hr hg kg bg pass0 (da_v (dv_var 0 rfl) (da_d de_int da_nil)) ⟨b, row, a + 6, 6, rfl, put_same, by decide, by omega, rfl, by rw [put_put]⟩
  refine ds_one (d1_ret (s := .dat (ruleD row a n)) (O1 := put O b (Bx row (a + 8))) (DE.dv (de_tup (ds := [ruSrc row a n, ruKind row a, ruSide row a, ruSame row a, ruRel row a, .int (drw row (a + 7) n)]) ?_ (by show 6 ≤ 10000; decide))) ⟨rfl, rfl⟩)
  exact da_d (de_var 2) (da_d (de_var 3) (da_d (de_var 4) (da_d (de_var 5) (da_d (de_var 6) (da_d (de_call G hr hg kg bg pass0 (da_v (dv_var 0 rfl) (da_d (de_var 1) da_nil)) ⟨b, row, a + 7, n, rfl, put_same, hn, by omega, rfl, by rw [put_put]⟩) da_nil)))))

end
end Dg

namespace Dg
open PySem PySem.Spec PyProof.Rows L2 GxR Dz
def A6 (a b c d e f : D) (j : Nat) : D := [a, b, c, d, e, f].getD j .non
def S5 (st h1 h2 h3 h4 : D) (j : Nat) : D := [st, h1, h2, h3, h4].getD j .non
def tb (x s : Nat → D) (j : Nat) : Bool := !(x j).isNon && !deq (x j) (s j)
theorem tb_appl (a b c d e f st h1 h2 h3 h4 : D) : decide (((((List.range 5).filter (tb (A6 a b c d e f) (S5 st h1 h2 h3 h4))).map fun i : Nat => D.int (i : Int)).length : Int) = 0) = appl st h1 h2 h3 h4 (.tup [a, b, c, d, e, f]) := by
  have e5 : List.range 5 = [0, 1, 2, 3, 4] := rfl
  rw [e5]
  have t0 : tb (A6 a b c d e f) (S5 st h1 h2 h3 h4) 0 = !(a.isNon || deq a st) := by rw [Bool.not_or]; rfl
  have t1 : tb (A6 a b c d e f) (S5 st h1 h2 h3 h4) 1 = !(b.isNon || deq b h1) := by rw [Bool.not_or]; rfl
  have t2 : tb (A6 a b c d e f) (S5 st h1 h2 h3 h4) 2 = !(c.isNon || deq c h2) := by rw [Bool.not_or]; rfl
  have t3 : tb (A6 a b c d e f) (S5 st h1 h2 h3 h4) 3 = !(d.isNon || deq d h3) := by rw [Bool.not_or]; rfl
  have t4 : tb (A6 a b c d e f) (S5 st h1 h2 h3 h4) 4 = !(e.isNon || deq e h4) := by rw [Bool.not_or]; rfl
  have ea : appl st h1 h2 h3 h4 (.tup [a, b, c, d, e, f]) = ((a.isNon || deq a st) && ((b.isNon || deq b h1) && ((c.isNon || deq c h2) && ((d.isNon || deq d h3) && (e.isNon || deq e h4))))) := rfl
  rw [ea]
  simp only [List.filter, t0, t1, t2, t3, t4]
  generalize (a.isNon || deq a st) = x0
  generalize (b.isNon || deq b h1) = x1
  generalize (c.isNon || deq c h2) = x2
  generalize (d.isNon || deq d h3) = x3
  generalize (e.isNon || deq e h4) = x4
  cases x0 <;> cases x1 <;> cases x2 <;> cases x3 <;> cases x4 <;> rfl
section
variable {P : Program} {w : World} {K : PySem.W.Frag} {mg : Str → Option Value} {base : Heap} {T : List Addr} {CE fI : Addr}
theorem scLNext : FnScope ["listener", "state", "signal", "rule", "k"] ["listener", "state", "signal"] (defScope sLNext) := ⟨rfl, rfl, rfl, by decide +kernel, rfl, by decide +kernel, by decide +kernel⟩
def pLNext (ss : List Slot) (O : OH) (d : D) (O' : OH) : Prop := ∃ n on rs st h1 h2 h3 h4, ss = [.dat (.lst [n, on, .lst rs]), .dat st, .dat (.tup [h1, h2, h3, h4])] ∧ (∀ r ∈ rs, RShape r) ∧ D.ok 32 st = true ∧ D.ok 32 h1 = true ∧ D.ok 32 h2 = true ∧ D.ok 32 h3 = true ∧ D.ok 32 h4 = true ∧ d = nextD st h1 h2 h3 h4 rs ∧ O' = O
theorem ok_lnext {f : Addr} {fd : FuncData} {cdv : Value} (F : FunC K "_law_next" "_law_next" sLNext f fd cdv) (L : Blt mg) : FnOk P w K mg base CX0 1 f fd ["listener", "state", "signal"] (spF T K pLNext) := by
  refine fn_ok (CE := (0 : Addr)) (R := pLNext) F scLNext (fun ss O d O' ⟨n, on, rs, st, h1, h2, h3, h4, h, _⟩ => by rw [h]; rfl) fun A outer s H E ss O d O' hr h => ?_
  obtain ⟨n, on, rs, st, h1, h2, h3, h4, e1, hs, ks, k1, k2, k3, k4, e2, e3⟩ := h
  subst e1 e2 e3
  refine ds_cons (d1_forL 3 (fun j ρ' O2 => (∃ s3, ρ' = [.dat (.lst [n, on, .lst rs]), .dat st, .dat (.tup [h1, h2, h3, h4]), s3, .no]) ∧ O2 = O' ∧ (rs.take j).all (fun r => !appl st h1 h2 h3 h4 r) = true) (de_ixL (d := .lst rs) (de_var 0) de_int rfl) ⟨⟨_, rfl⟩, rfl, rfl⟩ scLNext.nd ?_ ?_ PassesOwn.never)
  · rintro j r ρ' O2 hj ⟨⟨s3, rfl⟩, rfl, hall⟩
    obtain ⟨a, b, c, d', e, f', er, ka, kb, kc, kd, ke⟩ := hs r (List.mem_of_getElem? hj)
    subst er
    have okA : ∀ i : Nat, i < 5 → D.ok 32 (A6 a b c d' e f' i) = true := fun i hi => by
      match i, hi with
      | 0, _ => exact ka
      | 1, _ => exact kb
      | 2, _ => exact kc
      | 3, _ => exact kd
      | 4, _ => exact ke
    have okS : ∀ i : Nat, i < 5 → D.ok 32 (S5 st h1 h2 h3 h4 i) = true := fun i hi => by
      match i, hi with
      | 0, _ => exact ks
      | 1, _ => exact k1
      | 2, _ => exact k2
      | 3, _ => exact k3
      | 4, _ => exact k4
    refine ds_one (d1_if (p := appl st h1 h2 h3 h4 (.tup [a, b, c, d', e, f'])) (O1 := O2) (DT.cast (dt_eq (x := .int ((((List.range 5).filter (tb (A6 a b c d' e f') (S5 st h1 h2 h3 h4))).map fun i : Nat => D.int (i : Int)).length : Nat)) hr (by rfl) (by rfl) (de_lenL L.len ?_) de_int) ?_) (fun z => ?_) fun z => ds_nil ?_)
    · refine de_lcR (m := 5) 4 de_int (fun j acc O3 => acc = ((List.range j).filter (tb (A6 a b c d' e f') (S5 st h1 h2 h3 h4))).map (fun i : Nat => D.int (i : Int)) ∧ O3 = O2) ⟨rfl, rfl⟩ ?_ (fun acc O3 h => h) (by decide) (by decide) L.range scLNext.nd (blkOk_by rfl)
      rintro i acc O3 hi ⟨rfl, rfl⟩
      have hi5 : i < 5 := by omega
      have eA : atI [a, b, c, d', e, f'] (i : Int) = some (A6 a b c d' e f' i) := atI_D (by omega) (by show (i : Int) < 6; omega)
      have eS : atI ([st] ++ [h1, h2, h3, h4]) (i : Int) = some (S5 st h1 h2 h3 h4 i) := atI_D (by omega) (by show (i : Int) < 5; omega)
      refine ⟨tb (A6 a b c d' e f') (S5 st h1 h2 h3 h4) i, O3, difs_one fun s H C cl fp => DW.dt (dw_and (dt_notN (de_ixT (de_var 3) (de_var 4) eA) de_non) fun _ => dw_and1 (dt_ne hr (okA i hi5) (okS i hi5) (de_ixT (de_var 3) (de_var 4) eA) (de_ixT (de_catT (ds := [st]) (de_tup (ds := [st]) (da_d (de_var 1) da_nil) (by show 1 ≤ 10000; decide)) (de_var 2) (by simp) (by show 1 + 4 ≤ 100000; decide)) (de_var 4) eS))), fun z => ⟨.int (i : Int), O3, fun s H C cl fp => de_var 4, ?_, rfl⟩, fun z => ⟨?_, rfl⟩⟩
      · rw [List.range_succ, List.filter_append, List.map_append]
        congr 1
        simp [List.filter, z]
      · rw [List.range_succ, List.filter_append, List.map_append]
        simp [List.filter, z]
    · rw [deq_int]
      exact tb_appl a b c d' e f' st h1 h2 h3 h4
    · refine ds_one (d1_ret (s := .dat f') (DE.dv (de_ixT (de_var 3) de_int rfl)) ⟨?_, rfl⟩)
      have hdrop : rs.drop j = .tup [a, b, c, d', e, f'] :: rs.drop (j + 1) := by
        obtain ⟨hlt, hx⟩ := List.getElem?_eq_some_iff.mp hj
        rw [List.drop_eq_getElem_cons hlt, hx]
      rw [nextD_skip rs j hall, hdrop, nextD_cons, if_pos z]
      rfl
    · refine ⟨⟨_, rfl⟩, rfl, ?_⟩
      rw [List.take_add_one, hj, List.all_append, hall]
      simp [z]
  · rintro ρ' O2 ⟨⟨s3, rfl⟩, rfl, hall⟩
    refine ds_one (d1_ret (s := .dat st) (dv_var 1 rfl) ⟨?_, rfl⟩)
    rw [nextD_skip rs rs.length hall, List.drop_length]
    rfl

theorem scListening : FnScope ["told"] ["told"] (defScope sLListening) := ⟨rfl, rfl, rfl, by decide +kernel, rfl, by decide +kernel, by decide +kernel⟩
def pListening (CL : Addr) : PR := fun ss O Rn Rx => ∃ st on rs, ss = [.dat (.lst [st, .lst on, .lst rs])] ∧ Pl st ∧ PlS (.lst on) ∧ PlRs (.lst rs) ∧ okList st (.lst on) (.lst rs) = true ∧ Rn = (fun v O' => v = .dat (insList CL st (onD (.lst on)) (.lst rs)) ∧ O' = O) ∧ Rx = fun _ _ => False
theorem ok_listening {f g CL : Addr} {fd gd : FuncData} {cdv : Value} (F : FunC K "_law_listening" "_law_listening" sLListening f fd cdv) (L : Blt mg) (M : Mk K CL g) (gS : mg "Listener" = some (.ref CL))
    (G : FnOk P w K mg base (L2.CX P w) 6 g gd ["self", "states", "on", "rules"] (spX T K CE (pList CL))) (bg : Binds K gd ["self", "states", "on", "rules"] []) :
    FnOk P w K mg base (L2.CX P w) 8 f fd ["told"] (spX T K CE (pListening CL)) := by
  refine fn_okX (R := pListening CL) F scListening (fun ss O Rn Rx ⟨p, k, s, h, _⟩ => by rw [h]; rfl) fun A outer s H E ss O Rn Rx hr h => ?_
  obtain ⟨st, on, rs, e1, h1, h2, h3, ok, eN, eX⟩ := h
  subst e1 eN eX
  refine ds_one (d1_retX (R := fun s' O' => s' = .dat (insList CL st (onD (.lst on)) (.lst rs)) ∧ O' = O) (dvx_makeF (O1 := O) M G hr gS bg
    (da_d (d := st) (de_ixL (ds := [st, .lst on, .lst rs]) (de_var 0) de_int rfl) (da_d (d := .lst on) (de_listL L.list (de_ixL (ds := [st, .lst on, .lst rs]) (de_var 0) de_int rfl)) (da_d (d := .lst rs) (de_listL L.list (de_ixL (ds := [st, .lst on, .lst rs]) (de_var 0) de_int rfl)) da_nil))) fun x hx => ?_) fun s' O' q => q)
  refine ⟨_, _, ⟨x, st, .lst on, .lst rs, rfl, put_same, h1, .lst _, h2, .lst _, h3, .inl ⟨ok, rfl, rfl⟩⟩, fun s' O' h => ?_, fun r O' h => h.elim⟩
  obtain ⟨q1, q2⟩ := h
  subst q1 q2
  refine ⟨rfl, [("states", st), ("on", onD (.lst on)), ("rules", .lst rs)], ?_, rfl, ?_⟩
  · rw [put_same]; rfl
  · rw [put_put, cut_put hx]

def sigD (k s : D) (m : D) (r : D) : D := .tup [k, s, m, r]
def MS : List D := [.bl false, .bl true]
def sigR (k s m : D) : List D := (RELS.map D.str).map fun r => sigD k s m r
def sigM (k s : D) : List D := MS.flatMap fun m => sigR k s m
def sigS (k : D) : List D := (SIDES.map D.str).flatMap fun s => sigM k s
def signals : List D := (KINDS.map D.str).flatMap fun k => sigS k
theorem lenR (k s m : D) : (sigR k s m).length ≤ 3 := by unfold sigR; rw [List.length_map, List.length_map]; decide
end
end Dg

namespace Dg
open PySem PySem.Spec PyProof.Rows L2 GxR Dz
def rs_simple : List D := [.tup [.non, .str "enter", .non, .non, .non, .int 1], .tup [.non, .str "leave", .non, .non, .non, .int 0]]
def rs_counting : List D := [.tup [.int 0, .str "enter", .non, .non, .non, .int 1], .tup [.int 1, .str "enter", .non, .non, .non, .int 2], .tup [.int 2, .str "leave", .non, .non, .non, .int 1], .tup [.int 1, .str "leave", .non, .non, .non, .int 0]]
def rs_latest : List D := [.tup [.non, .str "enter", .str "outside", .non, .non, .int 0], .tup [.non, .str "enter", .non, .non, .non, .int 1], .tup [.non, .str "leave", .non, .bl true, .non, .int 0]]
def rs_over : List D := [.tup [.non, .str "over", .str "outside", .non, .non, .int 0], .tup [.non, .str "over", .non, .non, .non, .int 1], .tup [.non, .str "leave", .non, .non, .non, .int 0]]
def rs_related : List D := [.tup [.non, .str "enter", .non, .non, .non, .int 1], .tup [.int 1, .str "leave", .non, .non, .str "inside", .int 1], .tup [.non, .str "leave", .non, .non, .non, .int 0]]
def SAMP : List (Str × Int × List D) := [("simple", 2, rs_simple), ("counting", 3, rs_counting), ("latest", 2, rs_latest), ("over", 2, rs_over), ("related", 2, rs_related)]
def SKD : List (Key × D) := [(.inr "simple", .lst rs_simple), (.inr "counting", .lst rs_counting), (.inr "latest", .lst rs_latest), (.inr "over", .lst rs_over), (.inr "related", .lst rs_related)]
section
variable {P : Program} {w : World} {K : PySem.W.Frag} {mg : Str → Option Value} {base : Heap} {T : List Addr} {CE fI : Addr}
theorem scLSample : FnScope ["name", "rules", "states", "more"] ["name"] (defScope sLSample) := ⟨rfl, rfl, rfl, by decide +kernel, rfl, by decide +kernel, by decide +kernel⟩
/-- a told sample, its lists owned: the outer at p, the rules at q -/
def ownL (O : OH) (p q : Addr) (n : Int) (on rs : List D) : OH := put (put O q (.lst (rs.map .dat))) p (.lst [.dat (.int n), .dat (.lst on), .val (.ref q)])
def pLSample : PR := fun ss O Rn Rx => ∃ z n rs, ss = [.dat (.str z)] ∧ (z, n, rs) ∈ SAMP ∧ Rn = (fun v O' => ∃ p q, O p = none ∧ O q = none ∧ p ≠ q ∧ v = .val (.ref p) ∧ O' = ownL O p q n ((rgI 1 n).map .int) (rs ++ COMMON)) ∧ Rx = fun _ _ => False
theorem samp_at {z : Str} {n : Int} {rs : List D} (h : (z, n, rs) ∈ SAMP) : (2 + (if deq (.str z) (.str "counting") = true then 1 else 0) : Int) = n ∧ (SKD.find? fun kv => decide (kv.1 = .inr z)).map (·.2) = some (.lst rs) ∧ rs.length ≤ 10 ∧ 2 ≤ n ∧ n ≤ 3 := by
  have h' : (z, n, rs) = (("simple" : Str), (2 : Int), rs_simple) ∨ (z, n, rs) = (("counting" : Str), (3 : Int), rs_counting) ∨ (z, n, rs) = (("latest" : Str), (2 : Int), rs_latest) ∨ (z, n, rs) = (("over" : Str), (2 : Int), rs_over) ∨ (z, n, rs) = (("related" : Str), (2 : Int), rs_related) := by unfold SAMP at h; simp only [List.mem_cons, List.not_mem_nil, or_false] at h; exact h
  rcases h' with h' | h' | h' | h' | h' <;> (cases h'; refine ⟨by rw [deq_str]; decide +kernel, rfl, by decide, by decide, by decide⟩)
theorem ok_lsample {f : Addr} {fd : FuncData} {cdv : Value} (F : FunC K "_law_sample" "_law_sample" sLSample f fd cdv) (L : Blt mg) :
    FnOk P w K mg base (L2.CX P w) 1 f fd ["name"] (spX T K CE pLSample) := by
  refine fn_okX (R := pLSample) F scLSample (fun ss O Rn Rx ⟨p, k, s, h, _⟩ => by rw [h]; rfl) fun A outer s H E ss O Rn Rx hr h => ?_
  obtain ⟨z, n, rs, e1, hm, eN, eX⟩ := h
  subst e1 eN eX
  obtain ⟨hn, hk, hl, hn2, hn3⟩ := samp_at hm
  refine ds_cons (d1_set 1 (s := .dat (.dic SKD)) (O1 := O) (DE.dv (de_dict (kd := SKD) ?_ (by decide +kernel) (by decide))) ?_ scLSample.nd)
  · exact (dp_str (de_lst (ds := [.tup [.non, .str "enter", .non, .non, .non, .int 1], .tup [.non, .str "leave", .non, .non, .non, .int 0]]) (da_d (de_tup (ds := [.non, .str "enter", .non, .non, .non, .int 1]) (da_d de_non (da_d de_str (da_d de_non (da_d de_non (da_d de_non (da_d de_int da_nil))))))) (da_d (de_tup (ds := [.non, .str "leave", .non, .non, .non, .int 0]) (da_d de_non (da_d de_str (da_d de_non (da_d de_non (da_d de_non (da_d de_int da_nil))))))) da_nil))) (dp_str (de_lst (ds := [.tup [.int 0, .str "enter", .non, .non, .non, .int 1], .tup [.int 1, .str "enter", .non, .non, .non, .int 2], .tup [.int 2, .str "leave", .non, .non, .non, .int 1], .tup [.int 1, .str "leave", .non, .non, .non, .int 0]]) (da_d (de_tup (ds := [.int 0, .str "enter", .non, .non, .non, .int 1]) (da_d de_int (da_d de_str (da_d de_non (da_d de_non (da_d de_non (da_d de_int da_nil))))))) (da_d (de_tup (ds := [.int 1, .str "enter", .non, .non, .non, .int 2]) (da_d de_int (da_d de_str (da_d de_non (da_d de_non (da_d de_non (da_d de_int da_nil))))))) (da_d (de_tup (ds := [.int 2, .str "leave", .non, .non, .non, .int 1]) (da_d de_int (da_d de_str (da_d de_non (da_d de_non (da_d de_non (da_d de_int da_nil))))))) (da_d (de_tup (ds := [.int 1, .str "leave", .non, .non, .non, .int 0]) (da_d de_int (da_d de_str (da_d de_non (da_d de_non (da_d de_non (da_d de_int da_nil))))))) da_nil))))) (dp_str (de_lst (ds := [.tup [.non, .str "enter", .str "outside", .non, .non, .int 0], .tup [.non, .str "enter", .non, .non, .non, .int 1], .tup [.non, .str "leave", .non, .bl true, .non, .int 0]]) (da_d (de_tup (ds := [.non, .str "enter", .str "outside", .non, .non, .int 0]) (da_d de_non (da_d de_str (da_d de_str (da_d de_non (da_d de_non (da_d de_int da_nil))))))) (da_d (de_tup (ds := [.non, .str "enter", .non, .non, .non, .int 1]) (da_d de_non (da_d de_str (da_d de_non (da_d de_non (da_d de_non (da_d de_int da_nil))))))) (da_d (de_tup (ds := [.non, .str "leave", .non, .bl true, .non, .int 0]) (da_d de_non (da_d de_str (da_d de_non (da_d de_bl (da_d de_non (da_d de_int da_nil))))))) da_nil)))) (dp_str (de_lst (ds := [.tup [.non, .str "over", .str "outside", .non, .non, .int 0], .tup [.non, .str "over", .non, .non, .non, .int 1], .tup [.non, .str "leave", .non, .non, .non, .int 0]]) (da_d (de_tup (ds := [.non, .str "over", .str "outside", .non, .non, .int 0]) (da_d de_non (da_d de_str (da_d de_str (da_d de_non (da_d de_non (da_d de_int da_nil))))))) (da_d (de_tup (ds := [.non, .str "over", .non, .non, .non, .int 1]) (da_d de_non (da_d de_str (da_d de_non (da_d de_non (da_d de_non (da_d de_int da_nil))))))) (da_d (de_tup (ds := [.non, .str "leave", .non, .non, .non, .int 0]) (da_d de_non (da_d de_str (da_d de_non (da_d de_non (da_d de_non (da_d de_int da_nil))))))) da_nil)))) (dp_str (de_lst (ds := [.tup [.non, .str "enter", .non, .non, .non, .int 1], .tup [.int 1, .str "leave", .non, .non, .str "inside", .int 1], .tup [.non, .str "leave", .non, .non, .non, .int 0]]) (da_d (de_tup (ds := [.non, .str "enter", .non, .non, .non, .int 1]) (da_d de_non (da_d de_str (da_d de_non (da_d de_non (da_d de_non (da_d de_int da_nil))))))) (da_d (de_tup (ds := [.int 1, .str "leave", .non, .non, .str "inside", .int 1]) (da_d de_int (da_d de_str (da_d de_non (da_d de_non (da_d de_str (da_d de_int da_nil))))))) (da_d (de_tup (ds := [.non, .str "leave", .non, .non, .non, .int 0]) (da_d de_non (da_d de_str (da_d de_non (da_d de_non (da_d de_non (da_d de_int da_nil))))))) da_nil)))) dp_nil)))))
  refine ds_cons (d1_set 2 (s := .dat (.int n)) (O1 := O) (DE.dv (DE.cast (de_add de_int (de_intB L.int (de_eq (x := .str z) (y := .str "counting") hr (by rfl) (by rfl) (de_var 0) de_str))) (by rw [hn]))) ?_ scLSample.nd)
  refine ds_cons (d1_set 3 (s := .dat (.lst COMMON)) (O1 := O) (DE.dv (de_lst (ds := [.tup [.non, .str "drop", .non, .non, .non, .int 0], .tup [.non, .str "end", .non, .non, .non, .int 0]]) (da_d (de_tup (ds := [.non, .str "drop", .non, .non, .non, .int 0]) (da_d de_non (da_d de_str (da_d de_non (da_d de_non (da_d de_non (da_d de_int da_nil))))))) (da_d (de_tup (ds := [.non, .str "end", .non, .non, .non, .int 0]) (da_d de_non (da_d de_str (da_d de_non (da_d de_non (da_d de_non (da_d de_int da_nil))))))) da_nil)))) ?_ scLSample.nd)
  refine ds_one (d1_retCat (O4 := O) (xs := rs) (ys := COMMON) (de_var 2) (de_listRg2 L.list L.range de_int (de_var 2) (by omega)) (de_dget hr (key := .inr z) (de_var 1) (de_var 0) (fun B v r => by cases r; rfl) hk) (de_var 3) (by show rs.length + 2 ≤ 100000; omega) fun q p hq hp ne => ⟨p, q, hp, hq, ne, rfl, rfl⟩)
end
end Dg

namespace Dg
open PySem PySem.Spec PyProof.Rows L2 GxR Dz
theorem put_comm {O : OH} {a b : Addr} {x y : OD} (h : a ≠ b) : put (put O a x) b y = put (put O b y) a x := by
  funext c
  unfold put
  by_cases h1 : c = b
  · rw [if_pos h1, if_neg (fun z => h (z.symm.trans h1)), if_pos h1]
  · rw [if_neg h1]
    by_cases h2 : c = a
    · rw [if_pos h2, if_pos h2]
    · rw [if_neg h2, if_neg h2, if_neg h1]
section
variable {O : OH} {p q b : Addr} {n : Int} {on rs : List D} {x : OD}
theorem ownL_p : ownL O p q n on rs p = some (.lst [.dat (.int n), .dat (.lst on), .val (.ref q)]) := put_same
theorem ownL_q (h : p ≠ q) : ownL O p q n on rs q = some (.lst (rs.map .dat)) := by
  unfold ownL
  rw [put_ne (Ne.symm h), put_same]
theorem ownL_b (hp : b ≠ p) (hq : b ≠ q) : ownL O p q n on rs b = O b := by
  unfold ownL
  rw [put_ne hp, put_ne hq]
theorem ownL_put (hp : b ≠ p) (hq : b ≠ q) : put (ownL O p q n on rs) b x = ownL (put O b x) p q n on rs := by
  unfold ownL
  rw [put_comm (Ne.symm hp), put_comm (Ne.symm hq)]
theorem ownL_set (h : p ≠ q) (rs' : List D) : put (ownL O p q n on rs) q (.lst (rs'.map .dat)) = ownL O p q n on rs' := by
  unfold ownL
  rw [put_comm h, put_put]
theorem ownL_end (hp : O p = none) (hq : O q = none) (y : OD) : cut (put (cut (ownL O p q n on rs) q) p y) p = O := by
  funext c
  unfold ownL cut put
  by_cases h1 : c = p
  · simp [h1, hp]
  · by_cases h2 : c = q
    · simp [h2, hq]
    · simp [h1, h2]
end
section
variable {T : List Addr} {X : Cx} {CE : Addr} {ρ : List Slot} {E : DEn} {O : OH} {p q : Addr} {n : Int} {on rs : List D} {p1 p2 : Pos}
/-- return told -/
theorem told_ret (hi : ρ[3]? = some (.val (.ref p))) (hl : 3 < ρ.length) (hN : X.N[3]? = some ("told" : Str)) (hv : Vis X.env.scope ("told" : Str)) (hp : O p = none) (hq : O q = none) (ne : p ≠ q) (h : E.rt (.dat (.lst [.int n, .lst on, .lst rs])) O) : DS T X CE [.Return (some (.Name "told" p1)) p2] ρ (ownL O p q n on rs) E := by
  refine ds_freezeIn 2 (ownL_q ne) ownL_p rfl ne ?_
  refine ds_freeze 3 hi (ds := [.int n, .lst on, .lst rs]) put_same ?_
  refine ds_one (d1_ret (s := .dat (.lst [.int n, .lst on, .lst rs])) (dv_var 3 (by rw [List.getElem?_set_self hl]) (by intro z; cases z) hN hv) ?_)
  rw [ownL_end hp hq]
  exact h
end
def NAMES : List D := SAMP.map fun t => .str t.1
def sAt (row : List Int) (a : Nat) : Str × Int × List D := SAMP.getD (drw row a 8).toNat ("", 0, [])
def rangeD (n : Int) : List D := (List.range n.toNat).map fun i : Nat => .int (i : Int)
/-- a listener by digits -/
def liK (row : List Int) (a : Nat) : Bool := decide (drw row a 8 < 5)
def liC (row : List Int) (a : Nat) : Bool := eq0 (drw row (a + 1) 3)
def liN (row : List Int) (a : Nat) (most : Int) : Int := if liK row a = true then (sAt row a).2.1 else 1 + drw row (a + 1) most
def liO (row : List Int) (a : Nat) (most : Int) : List D := if liK row a = true then (rgI 1 (sAt row a).2.1).map .int else sel row 2 eq0 (a + 2) (rangeD (liN row a most))
def liR0 (row : List Int) (a : Nat) : List D := (sAt row a).2.2 ++ COMMON
def liE (row : List Int) (a : Nat) (most : Int) : Nat := a + 2 + (liN row a most).toNat
def liR (row : List Int) (a : Nat) (most : Int) : List D := if liK row a = true then (if liC row a = true then (liR0 row a).set (drw row (a + 10) (liR0 row a).length).toNat (ruleD row (a + 2) (sAt row a).2.1) else liR0 row a)
  else (List.range (drw row (liE row a most) 8).toNat).map fun i => ruleD row (liE row a most + 1 + 8 * i) (liN row a most)
def liA (row : List Int) (a : Nat) (most : Int) : Nat := if liK row a = true then (if liC row a = true then a + 11 else a + 2) else liE row a most + 1 + 8 * (drw row (liE row a most) 8).toNat
def listD (row : List Int) (a : Nat) (most : Int) : D := .lst [.int (liN row a most), .lst (liO row a most), .lst (liR row a most)]
theorem sAt_mem {row : List Int} {a : Nat} (h : liK row a = true) : ∃ z n rs, sAt row a = (z, n, rs) ∧ (z, n, rs) ∈ SAMP ∧ atI NAMES (drw row a 8) = some (.str z) := by
  have h5 : drw row a 8 < 5 := of_decide_eq_true h
  have h0 := drw_0 row a (many := 8) (by decide)
  have hlt : (drw row a 8).toNat < SAMP.length := by show (drw row a 8).toNat < 5; omega
  have e : sAt row a = SAMP[(drw row a 8).toNat] := by unfold sAt; rw [List.getD_eq_getElem?_getD, List.getElem?_eq_getElem hlt]; rfl
  refine ⟨_, _, _, e, List.getElem_mem hlt, ?_⟩
  rw [atI_D h0 (by show drw row a 8 < 5; exact h5)]
  unfold NAMES
  rw [List.getD_eq_getElem?_getD, List.getElem?_map, List.getElem?_eq_getElem hlt]
  rfl
section
variable {P : Program} {w : World} {K : PySem.W.Frag} {mg : Str → Option Value} {base : Heap} {T : List Addr} {CE fI : Addr}
theorem scLList : FnScope ["box", "most", "kind", "told", "states", "s", "k"] ["box", "most"] (defScope sLList) := ⟨rfl, rfl, rfl, by decide +kernel, rfl, by decide +kernel, by decide +kernel⟩
def pLList : PR := fun ss O Rn Rx => ∃ b row a most, ss = [.val (.ref b), .dat (.int most)] ∧ O b = some (Bx row a) ∧ 0 < most ∧ most ≤ 50 ∧ a ≤ 5000 ∧ Rn = (fun v O' => v = .dat (listD row a most) ∧ O' = put O b (Bx row (liA row a most))) ∧ Rx = fun _ _ => False
theorem ok_llist {f g g2 g3 : Addr} {fd gd gd2 gd3 : FuncData} {cdv : Value} (F : FunC K "_law_listener" "_law_listener" sLList f fd cdv) (L : Blt mg) (G : FnOk P w K mg base CX0 1 g gd ["box", "many"] (spF T K pDraw)) (hg : mg "_law_draw" = some (.ref g)) (kg : PySem.W.keepIn K (.ref g) = true) (bg : Binds K gd ["box", "many"] [])
    (G2 : FnOk P w K mg base CX0 2 g2 gd2 ["box", "states"] (spF T K pLRule)) (hg2 : mg "_law_rule" = some (.ref g2)) (kg2 : PySem.W.keepIn K (.ref g2) = true) (bg2 : Binds K gd2 ["box", "states"] [])
    (G3 : FnOk P w K mg base (L2.CX P w) 1 g3 gd3 ["name"] (spX T K CE pLSample)) (hg3 : mg "_law_sample" = some (.ref g3)) (kg3 : PySem.W.keepIn K (.ref g3) = true) (bg3 : Binds K gd3 ["name"] []) :
    FnOk P w K mg base (L2.CX P w) 3 f fd ["box", "most"] (spX T K CE pLList) := by
  refine fn_okX (R := pLList) F scLList (fun ss O Rn Rx ⟨p, k, s, m, h, _⟩ => by rw [h]; rfl) fun A outer s H E ss O Rn Rx hr h => ?_
  obtain ⟨b, row, a, most, e1, hO, hm0, hm1, ha, eN, eX⟩ := h
  subst e1 eN eX
  have hr1 := hr.mono (show 1 ≤ 2 by decide)
  refine ds_cons (d1_set 2 (s := .dat (.int (drw row a 8))) (O1 := put O b (Bx row (a + 1))) (DE.dv (de_call G hr1 hg kg bg pass0 (da_v (dv_var 0 rfl) (da_d de_int da_nil)) ⟨b, row, a, 8, rfl, hO, by decide, by omega, rfl, rfl⟩)) ?_ scLList.nd)
  refine ds_cons (d1_if (p := liK row a) (O1 := put O b (Bx row (a + 1))) (dt_lt (de_var 2) de_int) (fun z => ?_) fun z => ds_nil ?_)
  · obtain ⟨zz, n, rs, es, hmem, hat⟩ := sAt_mem z
    obtain ⟨_, _, hl, hn2, hn3⟩ := samp_at hmem
    have eR0 : liR0 row a = rs ++ COMMON := by unfold liR0; rw [es]
    have eN : liN row a most = n := by unfold liN; rw [if_pos z, es]
    have eO : liO row a most = (rgI 1 n).map .int := by unfold liO; rw [if_pos z, es]
    refine ds_cons (d1_setX (R := fun v O' => ∃ p q, put O b (Bx row (a + 1)) p = none ∧ put O b (Bx row (a + 1)) q = none ∧ p ≠ q ∧ v = .val (.ref p) ∧ O' = ownL (put O b (Bx row (a + 1))) p q n ((rgI 1 n).map .int) (rs ++ COMMON)) 3
      (dvn_call (O1 := put O b (Bx row (a + 1))) (ss := [.dat (.str zz)]) G3 hr1 hg3 kg3 bg3 (da_d (de_ixL (ds := NAMES) (de_lst (ds := NAMES) (da_d de_str (da_d de_str (da_d de_str (da_d de_str (da_d de_str da_nil)))))) (de_var 2) hat) da_nil) ⟨zz, n, rs, rfl, hmem, rfl, rfl⟩) (fun v O' q => ?_) scLList.nd)
    obtain ⟨p, q, hp, hq, ne, e1, e2⟩ := q
    subst e1 e2
    have bp : b ≠ p := fun zz => by rw [← zz, put_same] at hp; cases hp
    have bq : b ≠ q := fun zz => by rw [← zz, put_same] at hq; cases hq
    have hp0 : O p = none := by rw [put_ne (Ne.symm bp)] at hp; exact hp
    have hq0 : O q = none := by rw [put_ne (Ne.symm bq)] at hq; exact hq
    refine ds_cons (d1_if (p := liC row a) (O1 := ownL (put O b (Bx row (a + 2))) p q n ((rgI 1 n).map .int) (rs ++ COMMON)) (DT.cast (dt_eq hr (by rfl) (by rfl) (de_call G hr1 hg kg bg pass0 (da_v (dv_var 0 rfl) (da_d de_int da_nil)) ⟨b, row, a + 1, 3, rfl, by rw [ownL_b bp bq, put_same], by decide, by omega, rfl, by rw [ownL_put bp bq, put_put]⟩) de_int) (deq_i0 _)) (fun zc => ?_) fun zc => ds_nil ?_)
    · have hlp : 0 < ((rs ++ COMMON).length : Int) := by rw [List.length_append]; show 0 < ((rs.length + 2 : Nat) : Int); omega
      have hll : (rs ++ COMMON).length ≤ 12 := by rw [List.length_append]; show rs.length + 2 ≤ 12; omega
      have eR : liR row a most = (rs ++ COMMON).set (drw row (a + 10) (rs ++ COMMON).length).toNat (ruleD row (a + 2) n) := by unfold liR; rw [if_pos z, if_pos zc, eR0, es]
      have eA : liA row a most = a + 11 := by unfold liA; rw [if_pos z, if_pos zc]
      refine ds_cons (d1_setitemG (s := .dat (ruleD row (a + 2) n)) (c := q) (k := drw row (a + 10) (rs ++ COMMON).length) (j := (drw row (a + 10) (rs ++ COMMON).length).toNat) (ss := (rs ++ COMMON).map .dat)
        (O1 := ownL (put O b (Bx row (a + 10))) p q n ((rgI 1 n).map .int) (rs ++ COMMON)) (O2 := ownL (put O b (Bx row (a + 10))) p q n ((rgI 1 n).map .int) (rs ++ COMMON)) (O3 := ownL (put O b (Bx row (a + 11))) p q n ((rgI 1 n).map .int) (rs ++ COMMON)) ?_ ?_ ?_ (ownL_q ne) ?_ ?_)
      · exact DE.dv (de_call G2 hr hg2 kg2 bg2 pass0 (da_v (dv_var 0 rfl) (da_d (DV.de (dv_ixO 3 rfl de_int ownL_p rfl)) da_nil)) ⟨b, row, a + 2, n, rfl, by rw [ownL_b bp bq, put_same], by omega, by omega, rfl, by rw [ownL_put bp bq, put_put]⟩)
      · exact dv_ixO 3 rfl de_int ownL_p rfl
      · exact de_call G hr1 hg kg bg pass0 (da_v (dv_var 0 rfl) (da_d (de_lenO L.len (dv_ixO 3 rfl de_int ownL_p rfl) (ownL_q ne)) da_nil)) ⟨b, row, a + 10, ((rs ++ COMMON).length : Int), by rw [List.length_map], by rw [ownL_b bp bq, put_same], hlp, by omega, rfl, by rw [ownL_put bp bq, put_put]⟩
      · rw [List.length_map]
        have h0 := drw_0 row (a + 10) hlp
        have h1 := drw_lt row (a + 10) hlp
        unfold ixN
        simp only [h0, h1]
        first | rfl | simp [h0, h1] | (split <;> first | rfl | omega)
      · refine ds_nil ?_
        have eS : ((rs ++ COMMON).map Slot.dat).set (drw row (a + 10) (rs ++ COMMON).length).toNat (.dat (ruleD row (a + 2) n)) = (liR row a most).map .dat := by rw [eR, List.map_set]
        show DS _ _ _ _ _ (put (ownL _ p q n _ _) q (.lst (((rs ++ COMMON).map Slot.dat).set _ _))) _
        rw [eS, ownL_set ne]
        have hp1 : put O b (Bx row (a + 11)) p = none := by rw [put_ne (Ne.symm bp)]; exact hp0
        have hq1 : put O b (Bx row (a + 11)) q = none := by rw [put_ne (Ne.symm bq)]; exact hq0
        refine told_ret rfl (by show 3 < 7; decide) rfl (Or.inl rfl) hp1 hq1 ne ?_
        show Slot.dat (.lst [.int n, .lst ((rgI 1 n).map .int), .lst (liR row a most)]) = .dat (listD row a most) ∧ put O b (Bx row (a + 11)) = put O b (Bx row (liA row a most))
        unfold listD
        rw [eN, eO, eA]
        exact ⟨rfl, rfl⟩
    · have zc' : ¬ liC row a = true := by rw [zc]; exact Bool.false_ne_true
      have eR : liR row a most = rs ++ COMMON := by unfold liR; rw [if_pos z, if_neg zc', eR0]
      have eA : liA row a most = a + 2 := by unfold liA; rw [if_pos z, if_neg zc']
      have hp1 : put O b (Bx row (a + 2)) p = none := by rw [put_ne (Ne.symm bp)]; exact hp0
      have hq1 : put O b (Bx row (a + 2)) q = none := by rw [put_ne (Ne.symm bq)]; exact hq0
      refine told_ret rfl (by show 3 < 7; decide) rfl (Or.inl rfl) hp1 hq1 ne ?_
      show Slot.dat (.lst [.int n, .lst ((rgI 1 n).map .int), .lst (rs ++ COMMON)]) = .dat (listD row a most) ∧ put O b (Bx row (a + 2)) = put O b (Bx row (liA row a most))
      unfold listD
      rw [eN, eO, eA, eR]
      exact ⟨rfl, rfl⟩
  · have z' : ¬ liK row a = true := by rw [z]; exact Bool.false_ne_true
    have eN : liN row a most = 1 + drw row (a + 1) most := by unfold liN; rw [if_neg z']
    have d0 := drw_0 row (a + 1) hm0
    have d1 := drw_lt row (a + 1) hm0
    have n0 : 1 ≤ liN row a most := by rw [eN]; omega
    have n1 : liN row a most ≤ 50 := by rw [eN]; omega
    have eE : liE row a most = a + 2 + (liN row a most).toNat := rfl
    have k0 := drw_0 row (liE row a most) (many := 8) (by decide)
    have k1 := drw_lt row (liE row a most) (many := 8) (by decide)
    refine ds_cons (d1_set 4 (s := .dat (.int (liN row a most))) (O1 := put O b (Bx row (a + 2))) (DE.dv (DE.cast (de_add de_int (de_call G hr1 hg kg bg pass0 (da_v (dv_var 0 rfl) (da_d (de_var 1) da_nil)) ⟨b, row, a + 1, most, rfl, put_same, hm0, by omega, rfl, by rw [put_put]⟩)) (by rw [eN]))) ?_ scLList.nd)
    generalize hn : liN row a most = n at n0 n1 eE
    have eO : liO row a most = sel row 2 eq0 (a + 2) (rangeD n) := by unfold liO; rw [if_neg z', hn]
    generalize hc : liE row a most = c at eE k0 k1
    have eR : liR row a most = (List.range (drw row c 8).toNat).map fun i => ruleD row (c + 1 + 8 * i) n := by unfold liR; rw [if_neg z', hn, hc]
    have eA : liA row a most = c + 1 + 8 * (drw row c 8).toNat := by unfold liA; rw [if_neg z', hc]
    have lenR : (rangeD n).length = n.toNat := by unfold rangeD; rw [List.length_map, List.length_range]
    refine ds_one (d1_ret (s := .dat (listD row a most)) (O1 := put O b (Bx row (liA row a most))) (DE.dv (DE.cast (de_lst (ds := [.int n, .lst (sel row 2 eq0 (a + 2) (rangeD n)), .lst ((List.range (drw row c 8).toNat).map fun i => ruleD row (c + 1 + 8 * i) n)]) ?_ (by show 3 ≤ 10000; decide)) (by unfold listD; rw [hn, eO, eR]))) ⟨rfl, rfl⟩)
    rw [eA]
    refine da_d (d := .int n) (O1 := put O b (Bx row (a + 2))) (de_var 4) (da_d (d := .lst (sel row 2 eq0 (a + 2) (rangeD n))) (O1 := put O b (Bx row c)) ?_ (da_d (d := .lst ((List.range (drw row c 8).toNat).map fun i => ruleD row (c + 1 + 8 * i) n)) ?_ da_nil))
    · refine de_lcR (m := n) (O1 := put O b (Bx row (a + 2))) 5 (de_var 4) (fun j acc O2 => acc = sel row 2 eq0 (a + 2) ((rangeD n).take j) ∧ O2 = put O b (Bx row (a + 2 + j))) ⟨by show [] = sel row 2 eq0 (a + 2) []; rw [sel_nil], rfl⟩ (fun j acc O2 hj hI => ?_) (fun acc O2 h => ?_) (by omega) (by omega) L.range scLList.nd (blkOk_by rfl)
      · have hjn : j < (rangeD n).length := by rw [lenR]; omega
        have ej : (rangeD n)[j]? = some (.int (j : Int)) := by
          unfold rangeD
          rw [List.getElem?_map, List.getElem?_range (by omega)]
          rfl
        refine draw_turn (p := eq0) (fun i d hi => ⟨?_, fun s H C cl fp => de_var 5⟩) j _ acc O2 ej hI
        have hi' := (List.getElem?_eq_some_iff.mp hi).1
        rw [lenR] at hi'
        have hid : ∃ v : Int, d = .int v := by
          obtain ⟨v, _, hv⟩ := List.mem_map.mp (List.mem_of_getElem? hi)
          exact ⟨_, hv.symm⟩
        exact difs_one fun s H C cl fp => DT.cast (dt_eq hr (by rfl) (by rfl) (de_call G hr1 hg kg bg pass0 (da_v (dv_var 0 rfl) (da_d de_int da_nil)) ⟨b, row, a + 2 + i, 2, rfl, put_same, by decide, by omega, rfl, by rw [put_put]⟩) de_int) (deq_i0 _)
      · rw [← lenR, List.take_length, lenR, ← eE] at h
        exact h
    · refine de_lcR (m := drw row c 8) (O1 := put O b (Bx row (c + 1))) 6 (de_call G hr1 hg kg bg pass0 (da_v (dv_var 0 rfl) (da_d de_int da_nil)) ⟨b, row, c, 8, rfl, put_same, by decide, by omega, rfl, by rw [put_put]⟩) (fun j acc O2 => acc = (List.range j).map (fun i => ruleD row (c + 1 + 8 * i) n) ∧ O2 = put O b (Bx row (c + 1 + 8 * j))) ⟨rfl, rfl⟩ (fun j acc O2 hj hI => ?_) (fun acc O2 h => h) (by omega) (by omega) L.range scLList.nd (blkOk_by rfl)
      obtain ⟨rfl, rfl⟩ := hI
      refine ⟨true, _, difs_nil, (fun _ => ⟨ruleD row (c + 1 + 8 * j) n, _, fun s H C cl fp => de_call G2 hr hg2 kg2 bg2 pass0 (da_v (dv_var 0 rfl) (da_d (de_var 4) da_nil)) ⟨b, row, c + 1 + 8 * j, n, rfl, put_same, by omega, by omega, rfl, rfl⟩, ?_, ?_⟩), fun z => by cases z⟩
      · rw [List.range_succ, List.map_append]
        rfl
      · rw [put_put]
        congr 2
end
end Dg

namespace Dz
open PySem PySem.Spec PyProof.Rows L2 GxR
theorem de_neg {T : List Addr} {X : Cx} {ρ : List Slot} {O O1 : OH} {a : Expr} {i : Int} {pos : Pos} (ha : DE T X a ρ O (.int i) O1) : DE T X (.UnaryOp .USub a pos) ρ O (.int (-i)) O1 :=
  de_of (pe_un un_neg pe_we) fun σ B H hE hA Q k => ha σ B H hE hA _ fun v B1 H1 p1 r1 => by
    cases r1
    exact ⟨i, rfl, k _ B1 H1 p1 (.int _)⟩
end Dz
namespace Dg
open PySem PySem.Spec PyProof.Rows L2 GxR Dz
section
variable {P : Program} {w : World} {K : PySem.W.Frag} {mg : Str → Option Value} {base : Heap} {T : List Addr} {CE fI : Addr}
end
end Dg

namespace Dg
open PySem PySem.Spec PyProof.Rows L2 GxR Dz
section
variable {α : Type} [DecidableEq α]
theorem dd_le : ∀ (xs acc : List α), (xs.foldl (fun s x => if x ∈ s then s else s ++ [x]) acc).length ≤ acc.length + xs.length
  | [], _ => Nat.le_refl _
  | x :: xs, acc => by
    rw [List.foldl_cons, List.length_cons]
    split
    · have := dd_le xs acc; omega
    · have := dd_le xs (acc ++ [x])
      rw [List.length_append, List.length_singleton] at this
      omega
theorem dd_all : ∀ (xs acc : List α), xs.Nodup → (∀ x ∈ xs, x ∉ acc) → (xs.foldl (fun s x => if x ∈ s then s else s ++ [x]) acc).length = acc.length + xs.length
  | [], _, _, _ => rfl
  | x :: xs, acc, h, hd => by
    rw [List.nodup_cons] at h
    rw [List.foldl_cons, if_neg (hd x (by simp)), dd_all xs (acc ++ [x]) h.2 (fun y hy => ?_), List.length_append, List.length_singleton, List.length_cons]
    · omega
    · rw [List.mem_append, List.mem_singleton, not_or]
      exact ⟨hd y (by simp [hy]), fun z => h.1 (z ▸ hy)⟩
theorem dd_full : ∀ (xs acc : List α), (xs.foldl (fun s x => if x ∈ s then s else s ++ [x]) acc).length = acc.length + xs.length → xs.Nodup ∧ ∀ x ∈ xs, x ∉ acc
  | [], _, _ => ⟨List.nodup_nil, fun _ h => by simp at h⟩
  | x :: xs, acc, h => by
    rw [List.foldl_cons, List.length_cons] at h
    by_cases hx : x ∈ acc
    · rw [if_pos hx] at h
      have := dd_le xs acc
      omega
    · rw [if_neg hx] at h
      obtain ⟨h1, h2⟩ := dd_full xs (acc ++ [x]) (by rw [h, List.length_append, List.length_singleton]; omega)
      refine ⟨List.nodup_cons.mpr ⟨fun z => h2 x z (by simp), h1⟩, fun y hy => ?_⟩
      rcases List.mem_cons.mp hy with rfl | hy
      · exact hx
      · exact fun z => h2 y hy (by simp [z])
theorem dd_len {xs : List α} : (DzS.dd xs).length = xs.length ↔ xs.Nodup := by
  constructor
  · intro h
    exact (dd_full xs [] (by rw [List.length_nil, Nat.zero_add]; exact h)).1
  · intro h
    have := dd_all xs [] h (by simp)
    rw [List.length_nil, Nat.zero_add] at this
    exact this
end
theorem strsOf_map : ∀ ks : List Str, strsOf (ks.map .str) = ks
  | [] => rfl
  | k :: ks => by
    show k :: strsOf (ks.map .str) = _
    rw [strsOf_map ks]
theorem intsOf_map : ∀ ks : List Int, intsOf (ks.map .int) = ks
  | [] => rfl
  | k :: ks => by
    show k :: intsOf (ks.map .int) = _
    rw [intsOf_map ks]
theorem isWord_mem (ws : List Str) (x : Str) : isWord ws (.str x) = decide (x ∈ ws) := by
  show (ws.map D.str).any (fun y => deq y (.str x)) = _
  rw [List.any_map]
  have e : ((fun y => deq y (D.str x)) ∘ D.str) = fun y => decide (y = x) := by
    funext y
    exact deq_str y x
  rw [e]
  by_cases h : x ∈ ws
  · rw [decide_eq_true h]
    exact List.any_eq_true.mpr ⟨x, h, by simp⟩
  · rw [decide_eq_false h, Bool.eq_false_iff]
    intro z
    obtain ⟨y, hy, e⟩ := List.any_eq_true.mp z
    exact h (of_decide_eq_true e ▸ hy)
theorem all_words {ws ks : List Str} (h : ∀ k ∈ ks, k ∈ ws) : (ks.map D.str).all (isWord ws) = true := by
  rw [List.all_map, List.all_eq_true]
  intro k hk
  show isWord ws (.str k) = true
  rw [isWord_mem, decide_eq_true (h k hk)]
theorem choice_L {ws ks : List Str} (h : ∀ k ∈ ks, k ∈ ws) (hn : ks.Nodup) : isChoice ws (.lst (ks.map .str)) = true := by
  show ((ks.map D.str).all (isWord ws) && decide (((DzS.dd (strsOf (ks.map .str))).length : Int) = (ks.map D.str).length)) = true
  rw [all_words h, strsOf_map, dd_len.mpr hn, List.length_map, Bool.true_and]
  exact decide_eq_true rfl
theorem choice_T {ws ks : List Str} (h : ∀ k ∈ ks, k ∈ ws) (hn : ks.Nodup) : isChoice ws (.tup (ks.map .str)) = true := choice_L h hn
/-- in the words' order -/
theorem order_filter (ks ws : List Str) : orderD (ks.map .str) ws = (ws.filter fun w => decide (w ∈ ks)).map .str := by
  unfold orderD
  induction ws with
  | nil => rfl
  | cons w ws ih =>
    have hp : pickW (ks.map D.str) (.str w) = if decide (w ∈ ks) = true then some (.str w) else none := by
      unfold pickW
      have := isWord_mem ks w
      rw [show isWord ks (.str w) = (ks.map D.str).any (fun z => deq z (.str w)) from rfl] at this
      rw [this]
    rw [List.map_cons, List.filterMap_cons, hp, ih]
    by_cases h : w ∈ ks
    · rw [if_pos (decide_eq_true h), List.filter_cons_of_pos (by simpa using h)]; rfl
    · rw [if_neg (by rw [decide_eq_false h]; exact Bool.false_ne_true), List.filter_cons_of_neg (by simpa using h)]
theorem filter_sub : ∀ {ks ws : List Str}, ks.Sublist ws → ws.Nodup → (ws.filter fun w => decide (w ∈ ks)) = ks := by
  intro ks ws h
  induction h with
  | slnil => intro _; rfl
  | @cons ks ws w h ih =>
    intro hn
    rw [List.nodup_cons] at hn
    rw [List.filter_cons_of_neg (by simpa using fun z => hn.1 (h.subset z)), ih hn.2]
  | @cons_cons ks ws w h ih =>
    intro hn
    rw [List.nodup_cons] at hn
    rw [List.filter_cons_of_pos (by simp)]
    congr 1
    rw [← ih hn.2]
    apply List.filter_congr
    intro x hx
    have hxw : x ≠ w := fun z => hn.1 (z ▸ hx)
    rw [ih hn.2]
    simp [hxw]
theorem order_sub {ks ws : List Str} (h : ks.Sublist ws) (hn : ws.Nodup) : orderD (ks.map .str) ws = ks.map .str := by rw [order_filter, filter_sub h hn]
theorem sel_sub {α : Type} (row : List Int) (many : Int) (p : Int → Bool) : ∀ (xs : List α) (a : Nat), (sel row many p a xs).Sublist xs
  | [], _ => List.Sublist.slnil
  | x :: xs, a => by
    rw [sel]
    split
    · exact (sel_sub row many p xs (a + 1)).cons₂ x
    · exact (sel_sub row many p xs (a + 1)).cons x
/-- a told setup -/
structure SuOk (row : List Int) (a : Nat) (p : Str) (ks ss : List Str) : Prop where
  eq : setupD row a = .lst [.str p, .lst (ks.map .str), .lst (ss.map .str)]
  p : p ∈ PLACES
  k : ks.Sublist KINDS
  s : ss.Sublist SIGHTS
theorem getD_cases {ds : List D} {k : Int} {Q : D → Prop} (h0 : 0 ≤ k) (h1 : k < ds.length) (h : ∀ d ∈ ds, Q d) : Q (ds.getD k.toNat .non) := by
  have hk : k.toNat < ds.length := by omega
  rw [List.getD_eq_getElem?_getD, List.getElem?_eq_getElem hk]
  exact h _ (List.getElem_mem hk)
theorem su_ok (row : List Int) (a : Nat) : ∃ p ks ss, SuOk row a p ks ss := by
  have h1 : ∃ p, suP row a = .str p ∧ p ∈ PLACES := by
    unfold suP
    refine getD_cases (Q := fun d => ∃ p, d = .str p ∧ p ∈ PLACES) (drw_0 row a (by decide)) (drw_lt row a (by decide)) ?_
    intro d hd
    simp only [PL4, List.mem_cons, List.not_mem_nil, or_false] at hd
    rcases hd with rfl | rfl | rfl | rfl <;> exact ⟨_, rfl, by decide +kernel⟩
  have h2 : ∃ ks : List Str, suK row a = .lst (ks.map .str) ∧ ks.Sublist KINDS := by
    unfold suK
    split
    · refine getD_cases (Q := fun d => ∃ ks : List Str, d = .lst (ks.map .str) ∧ ks.Sublist KINDS) (drw_0 row _ (by decide)) (drw_lt row _ (by decide)) ?_
      intro d hd
      simp only [KOP, List.mem_cons, List.not_mem_nil, or_false] at hd
      rcases hd with rfl | rfl | rfl | rfl
      · exact ⟨["enter", "leave", "drop"], rfl, by decide +kernel⟩
      · exact ⟨["over", "drop", "end"], rfl, by decide +kernel⟩
      · exact ⟨["enter", "leave", "over", "drop", "end"], rfl, by decide +kernel⟩
      · exact ⟨["enter", "leave"], rfl, by decide +kernel⟩
    · exact ⟨sel row 3 gt0 (a + 1) KINDS, by rw [sel_map], sel_sub _ _ _ _ _⟩
  obtain ⟨p, ep, hp⟩ := h1
  obtain ⟨ks, ek, hk⟩ := h2
  refine ⟨p, ks, sel row 3 eq0 (suA row a) SIGHTS, ?_, hp, hk, sel_sub _ _ _ _ _⟩
  unfold setupD suS
  rw [ep, ek, sel_map]
theorem KINDS_nd : KINDS.Nodup := by decide +kernel
theorem SIGHTS_nd : SIGHTS.Nodup := by decide +kernel
end Dg

namespace Dg
open PySem PySem.Spec PyProof.Rows L2 GxR Dz
theorem isRule_tup {n : Int} {a b c d e f : D} : isRule n (.tup [a, b, c, d, e, f]) = ((a.isNon || isBelow n a) && ((b.isNon || isWord KINDS b) && ((c.isNon || isWord SIDES c) && ((d.isNon || isaBool d) && ((e.isNon || isWord RELS e) && isBelow n f))))) := rfl
theorem nb_pl {n : Int} {x : D} (h : (x.isNon || isBelow n x) = true) : Pl x ∧ D.ok 32 x = true := by
  cases x <;> first | exact ⟨.non, rfl⟩ | exact ⟨.int _, rfl⟩ | (simp [D.isNon, isBelow] at h; done)
theorem nw_pl {ws : List Str} {x : D} (h : (x.isNon || isWord ws x) = true) : Pl x ∧ D.ok 32 x = true := by
  cases x <;> first | exact ⟨.non, rfl⟩ | exact ⟨.str _, rfl⟩ | (simp [D.isNon, isWord] at h; done)
theorem nl_pl {x : D} (h : (x.isNon || isaBool x) = true) : Pl x ∧ D.ok 32 x = true := by
  cases x <;> first | exact ⟨.non, rfl⟩ | exact ⟨.bl _, rfl⟩ | (simp [D.isNon, isaBool] at h; done)
theorem b_pl {n : Int} {x : D} (h : isBelow n x = true) : Pl x ∧ D.ok 32 x = true := nb_pl (n := n) (by rw [h, Bool.or_true])
theorem rule_parts {n : Int} {r : D} (h : isRule n r = true) : ∃ a b c d e f, r = .tup [a, b, c, d, e, f] ∧ (Pl a ∧ D.ok 32 a = true) ∧ (Pl b ∧ D.ok 32 b = true) ∧ (Pl c ∧ D.ok 32 c = true) ∧ (Pl d ∧ D.ok 32 d = true) ∧ (Pl e ∧ D.ok 32 e = true) ∧ (Pl f ∧ D.ok 32 f = true) := by
  unfold isRule at h
  split at h
  · rename_i a b c d e f
    simp only [Bool.and_eq_true] at h
    obtain ⟨h1, h2, h3, h4, h5, h6⟩ := h
    exact ⟨a, b, c, d, e, f, rfl, nb_pl h1, nw_pl h2, nw_pl h3, nl_pl h4, nw_pl h5, b_pl h6⟩
  · cases h
theorem rule_shape {n : Int} {r : D} (h : isRule n r = true) : RShape r := by
  obtain ⟨a, b, c, d, e, f, rfl, ha, hb, hc, hd, he, hf⟩ := rule_parts h
  exact ⟨a, b, c, d, e, f, rfl, ha.2, hb.2, hc.2, hd.2, he.2⟩
theorem rule_pl {n : Int} {r : D} (h : isRule n r = true) : Pl r ∧ PlT r ∧ D.ok 31 r = true := by
  obtain ⟨a, b, c, d, e, f, rfl, ha, hb, hc, hd, he, hf⟩ := rule_parts h
  refine ⟨.tup _, ?_, ?_⟩
  · intro x hx
    simp only [List.mem_cons, List.not_mem_nil, or_false] at hx
    rcases hx with rfl | rfl | rfl | rfl | rfl | rfl
    · exact ha.1
    · exact hb.1
    · exact hc.1
    · exact hd.1
    · exact he.1
    · exact hf.1
  · unfold isRule at h
    simp only [Bool.and_eq_true] at h
    obtain ⟨h1, h2, h3, h4, h5, h6⟩ := h
    have ok1 : ∀ {x : D}, ((x.isNon || isBelow n x) = true ∨ (∃ ws, (x.isNon || isWord ws x) = true) ∨ (x.isNon || isaBool x) = true) → D.ok 30 x = true := by
      intro x hx
      cases x <;> first | rfl | (simp [D.isNon, isBelow, isWord, isaBool] at hx; done)
    refine ok_tup ?_
    intro x hx
    simp only [List.mem_cons, List.not_mem_nil, or_false] at hx
    rcases hx with rfl | rfl | rfl | rfl | rfl | rfl
    · exact ok1 (.inl h1)
    · exact ok1 (.inr (.inl ⟨_, h2⟩))
    · exact ok1 (.inr (.inl ⟨_, h3⟩))
    · exact ok1 (.inr (.inr h4))
    · exact ok1 (.inr (.inl ⟨_, h5⟩))
    · exact ok1 (.inl (by rw [h6, Bool.or_true]))
theorem ruleD_is (row : List Int) (a : Nat) {n : Int} (hn : 0 < n) : isRule n (ruleD row a n) = true := by
  have below : ∀ k : Nat, isBelow n (.int (drw row k n)) = true := fun k => by
    show (decide (0 ≤ drw row k n) && decide (drw row k n < n)) = true
    rw [decide_eq_true (drw_0 row k hn), decide_eq_true (drw_lt row k hn)]
    rfl
  have h1 : ((ruSrc row a n).isNon || isBelow n (ruSrc row a n)) = true := by
    unfold ruSrc
    refine getD_cases (Q := fun d => (d.isNon || isBelow n d) = true) (drw_0 row _ (by decide)) (drw_lt row _ (by decide)) ?_
    intro d hd
    simp only [List.mem_cons, List.not_mem_nil, or_false] at hd
    rcases hd with rfl | rfl
    · rfl
    · rw [below, Bool.or_true]
  have h2 : ((ruKind row a).isNon || isWord KINDS (ruKind row a)) = true := by
    unfold ruKind
    split
    · show ((_ : D).isNon || isWord KINDS ((KINDS.map D.str).getD (drw row (a + 2) 5).toNat .non)) = true
      have q : isWord KINDS ((KINDS.map D.str).getD (drw row (a + 2) 5).toNat .non) = true := getD_cases (Q := fun d => isWord KINDS d = true) (drw_0 row _ (by decide)) (drw_lt row _ (by decide)) (by
        intro d hd
        obtain ⟨k, hk, rfl⟩ := List.mem_map.mp hd
        rw [isWord_mem, decide_eq_true hk])
      rw [q, Bool.or_true]
    · rfl
  have h3 : ((ruSide row a).isNon || isWord SIDES (ruSide row a)) = true := by
    unfold ruSide
    refine getD_cases (Q := fun d => (d.isNon || isWord SIDES d) = true) (drw_0 row _ (by decide)) (drw_lt row _ (by decide)) ?_
    intro d hd
    simp only [List.mem_cons, List.not_mem_nil, or_false] at hd
    rcases hd with rfl | rfl | rfl | rfl | rfl <;> decide +kernel
  have h4 : ((ruSame row a).isNon || isaBool (ruSame row a)) = true := by
    unfold ruSame
    refine getD_cases (Q := fun d => (d.isNon || isaBool d) = true) (drw_0 row _ (by decide)) (drw_lt row _ (by decide)) ?_
    intro d hd
    simp only [List.mem_cons, List.not_mem_nil, or_false] at hd
    rcases hd with rfl | rfl | rfl | rfl <;> rfl
  have h5 : ((ruRel row a).isNon || isWord RELS (ruRel row a)) = true := by
    unfold ruRel
    refine getD_cases (Q := fun d => (d.isNon || isWord RELS d) = true) (drw_0 row _ (by decide)) (drw_lt row _ (by decide)) ?_
    intro d hd
    simp only [List.mem_cons, List.not_mem_nil, or_false] at hd
    rcases hd with rfl | rfl | rfl | rfl | rfl | rfl <;> decide +kernel
  show ((_ || _) && ((_ || _) && ((_ || _) && ((_ || _) && ((_ || _) && _))))) = true
  rw [h1, h2, h3, h4, h5, below]
  rfl
/-- a told listener's parts are in order -/
structure LiOk (n : Int) (os : List Int) (rs : List D) : Prop where
  n1 : 1 ≤ n
  n2 : n ≤ 60
  asc : os.Pairwise (· < ·)
  lt : ∀ o ∈ os, 0 ≤ o ∧ o < n
  ol : os.length ≤ 60
  r : ∀ r ∈ rs, isRule n r = true
  rl : rs.length ≤ 100
theorem samp_rules {z : Str} {n : Int} {rs : List D} (h : (z, n, rs) ∈ SAMP) : ∀ r ∈ rs ++ COMMON, isRule n r = true := by
  have h' : (rs ++ COMMON).all (isRule n) = true := by
    have h' : (z, n, rs) = (("simple" : Str), (2 : Int), rs_simple) ∨ (z, n, rs) = (("counting" : Str), (3 : Int), rs_counting) ∨ (z, n, rs) = (("latest" : Str), (2 : Int), rs_latest) ∨ (z, n, rs) = (("over" : Str), (2 : Int), rs_over) ∨ (z, n, rs) = (("related" : Str), (2 : Int), rs_related) := by unfold SAMP at h; simp only [List.mem_cons, List.not_mem_nil, or_false] at h; exact h
    rcases h' with h' | h' | h' | h' | h' <;> (cases h'; decide +kernel)
  rw [List.all_eq_true] at h'
  exact h'
theorem rg_small {n : Int} (h2 : 2 ≤ n) (h3 : n ≤ 3) : (rgI 1 n).Pairwise (· < ·) ∧ (∀ o ∈ rgI 1 n, 0 ≤ o ∧ o < n) ∧ (rgI 1 n).length ≤ 60 := by
  have : n = 2 ∨ n = 3 := by omega
  rcases this with rfl | rfl <;> decide +kernel
theorem range_pairwise (m : Nat) : ((List.range m).map fun i : Nat => (i : Int)).Pairwise (· < ·) := by
  rw [List.pairwise_map]
  exact List.pairwise_lt_range.imp fun h => by exact_mod_cast h
theorem li_ok (row : List Int) (a : Nat) {most : Int} (h0 : 0 < most) (h1 : most ≤ 50) : ∃ os, liO row a most = os.map .int ∧ LiOk (liN row a most) os (liR row a most) := by
  by_cases z : liK row a = true
  · obtain ⟨zz, n, rs, es, hmem, hat⟩ := sAt_mem z
    obtain ⟨_, _, hl, hn2, hn3⟩ := samp_at hmem
    have eR0 : liR0 row a = rs ++ COMMON := by unfold liR0; rw [es]
    have eN : liN row a most = n := by unfold liN; rw [if_pos z, es]
    have eO : liO row a most = (rgI 1 n).map .int := by unfold liO; rw [if_pos z, es]
    obtain ⟨p1, p2, p3⟩ := rg_small hn2 hn3
    have hr := samp_rules hmem
    have hlen : (rs ++ COMMON).length ≤ 12 := by rw [List.length_append]; show rs.length + 2 ≤ 12; omega
    refine ⟨rgI 1 n, eO, ?_⟩
    rw [eN]
    refine ⟨by omega, by omega, p1, p2, p3, ?_, ?_⟩
    · unfold liR
      rw [if_pos z, eR0, es]
      split
      · intro r hm
        rcases List.mem_or_eq_of_mem_set hm with hm | rfl
        · exact hr r hm
        · exact ruleD_is row _ (by show 0 < n; omega)
      · exact hr
    · unfold liR
      rw [if_pos z, eR0]
      split
      · rw [List.length_set]; omega
      · omega
  · have d0 := drw_0 row (a + 1) h0
    have d1 := drw_lt row (a + 1) h0
    have eN : liN row a most = 1 + drw row (a + 1) most := by unfold liN; rw [if_neg z]
    have n1 : 1 ≤ liN row a most := by rw [eN]; omega
    have n2 : liN row a most ≤ 50 := by rw [eN]; omega
    have eO : liO row a most = sel row 2 eq0 (a + 2) (rangeD (liN row a most)) := by unfold liO; rw [if_neg z]
    have eR : liR row a most = (List.range (drw row (liE row a most) 8).toNat).map fun i => ruleD row (liE row a most + 1 + 8 * i) (liN row a most) := by unfold liR; rw [if_neg z]
    have k1 := drw_lt row (liE row a most) (many := 8) (by decide)
    generalize liN row a most = n at *
    have eD : rangeD n = ((List.range n.toNat).map fun i : Nat => (i : Int)).map .int := by unfold rangeD; rw [List.map_map]; rfl
    have hs := sel_sub row 2 eq0 ((List.range n.toNat).map fun i : Nat => (i : Int)) (a + 2)
    refine ⟨sel row 2 eq0 (a + 2) ((List.range n.toNat).map fun i : Nat => (i : Int)), by rw [eO, eD, sel_map], n1, by omega, (range_pairwise _).sublist hs, fun o ho => ?_, ?_, ?_, ?_⟩
    · obtain ⟨i, hi, rfl⟩ := List.mem_map.mp (hs.subset ho)
      have := List.mem_range.mp hi
      omega
    · have := hs.length_le
      rw [List.length_map, List.length_range] at this
      omega
    · rw [eR]
      intro r hr
      obtain ⟨i, _, rfl⟩ := List.mem_map.mp hr
      exact ruleD_is row _ (by omega)
    · rw [eR, List.length_map, List.length_range]
      omega
section
variable {n : Int} {os : List Int} {rs : List D}
theorem LiOk.all (h : LiOk n os rs) : rs.all (isRule n) = true := List.all_eq_true.mpr h.r
theorem states_of {os : List Int} (hl : ∀ o ∈ os, 0 ≤ o ∧ o < n) (hn : os.Nodup) : isStates n (.lst (os.map .int)) = true := by
  show ((os.map D.int).all (isBelow n) && decide (((DzS.dd (intsOf (os.map .int))).length : Int) = (os.map D.int).length)) = true
  have e : (os.map D.int).all (isBelow n) = true := by
    rw [List.all_map, List.all_eq_true]
    intro o ho
    show (decide (0 ≤ o) && decide (o < n)) = true
    rw [decide_eq_true (hl o ho).1, decide_eq_true (hl o ho).2]
    rfl
  rw [e, intsOf_map, dd_len.mpr hn, List.length_map, Bool.true_and]
  exact decide_eq_true rfl
theorem LiOk.nd (h : LiOk n os rs) : os.Nodup := h.asc.imp fun hlt => Int.ne_of_lt hlt
theorem LiOk.srt (h : LiOk n os rs) {os' : List Int} (hp : os.Perm os') : onD (.lst (os'.map .int)) = .lst (os.map .int) := by
  show D.lst ((Dz.srt (intsOf (os'.map .int))).map .int) = _
  rw [intsOf_map, ← srt_eq hp (h.asc.imp fun hlt => Int.le_of_lt hlt)]
theorem rules_of (h : ∀ r ∈ rs, isRule n r = true) (hl : rs.length ≤ 1200) : isRules n (.lst rs) = true := by
  show (decide ((rs.length : Int) ≤ 1200) && rs.all (isRule n)) = true
  rw [List.all_eq_true.mpr h, decide_eq_true (by omega)]
  rfl
theorem okSt_of (h1 : 1 ≤ n) (h2 : n ≤ 60) : okSt (.int n) = true := by
  show (decide (0 ≤ n) && (decide (1 ≤ n) && decide (n ≤ 60))) = true
  rw [decide_eq_true (by omega), decide_eq_true h1, decide_eq_true h2]
  rfl
theorem LiOk.ok (h : LiOk n os rs) {os' : List Int} (hp : os.Perm os') : okList (.int n) (.lst (os'.map .int)) (.lst rs) = true := by
  show (okSt (.int n) && (isStates n _ && isRules n _)) = true
  rw [okSt_of h.n1 h.n2, states_of (fun o ho => h.lt o (hp.mem_iff.mpr ho)) (hp.nodup_iff.mp h.nd), rules_of h.r (by have := h.rl; omega)]
  rfl
theorem LiOk.plrs (h : LiOk n os rs) : PlRs (.lst rs) := ⟨by have := h.rl; omega, fun d hd => ⟨(rule_pl (h.r d hd)).1, (rule_pl (h.r d hd)).2.1⟩⟩
theorem pls_ints {os : List Int} (h : os.length ≤ 4000) : PlS (.lst (os.map .int)) := ⟨by rw [List.length_map]; exact h, fun d hd => by
  obtain ⟨o, _, rfl⟩ := List.mem_map.mp hd
  exact .int o⟩
end
end Dg

namespace Dg
open PySem PySem.Spec PyProof.Rows L2 GxR Dz
theorem SuOk.kl {row : List Int} {a : Nat} {p : Str} {ks ss : List Str} (h : SuOk row a p ks ss) : ks.length ≤ 5 := h.k.length_le
theorem SuOk.sl {row : List Int} {a : Nat} {p : Str} {ks ss : List Str} (h : SuOk row a p ks ss) : ss.length ≤ 3 := h.s.length_le
theorem suA_le (row : List Int) (a : Nat) : suA row a ≤ a + 8 := by
  unfold suA
  split <;> omega
theorem liA_le (row : List Int) (a : Nat) {most : Int} (h0 : 0 < most) (h1 : most ≤ 50) : liA row a most ≤ a + 120 := by
  have d0 := drw_0 row (a + 1) h0
  have d1 := drw_lt row (a + 1) h0
  have k1 := drw_lt row (liE row a most) (many := 8) (by decide)
  unfold liA
  split
  · split <;> omega
  · rename_i z
    have eN : liN row a most = 1 + drw row (a + 1) most := by unfold liN; rw [if_neg z]
    have eE : liE row a most = a + 2 + (liN row a most).toNat := rfl
    omega
theorem ok_strsL (ks : List Str) (k : Nat) : D.ok (k + 1) (.lst (ks.map .str)) = true := ok_lst fun d hd => by
  obtain ⟨x, _, rfl⟩ := List.mem_map.mp hd
  cases k <;> rfl
theorem ok_strsT (ks : List Str) (k : Nat) : D.ok (k + 1) (.tup (ks.map .str)) = true := ok_tup fun d hd => by
  obtain ⟨x, _, rfl⟩ := List.mem_map.mp hd
  cases k <;> rfl
theorem ok_intsL (ks : List Int) (k : Nat) : D.ok (k + 1) (.lst (ks.map .int)) = true := ok_lst fun d hd => by
  obtain ⟨x, _, rfl⟩ := List.mem_map.mp hd
  cases k <;> rfl
theorem ok_listD {n : Int} {os : List Int} {rs : List D} (h : ∀ r ∈ rs, D.ok 30 r = true) : D.ok 32 (.lst [.int n, .lst (os.map .int), .lst rs]) = true := ok_lst fun d hd => by
  simp only [List.mem_cons, List.not_mem_nil, or_false] at hd
  rcases hd with rfl | rfl | rfl
  · rfl
  · exact ok_intsL os 30
  · exact ok_lst h
theorem rule_ok30 {n : Int} {r : D} (h : isRule n r = true) : D.ok 30 r = true := by
  unfold isRule at h
  split at h
  · rename_i a b c d e f
    simp only [Bool.and_eq_true] at h
    obtain ⟨h1, h2, h3, h4, h5, h6⟩ := h
    have ok1 : ∀ {x : D}, ((x.isNon || isBelow n x) = true ∨ (∃ ws, (x.isNon || isWord ws x) = true) ∨ (x.isNon || isaBool x) = true) → D.ok 29 x = true := by
      intro x hx
      cases x <;> first | rfl | (simp [D.isNon, isBelow, isWord, isaBool] at hx; done)
    refine ok_tup ?_
    intro x hx
    simp only [List.mem_cons, List.not_mem_nil, or_false] at hx
    rcases hx with rfl | rfl | rfl | rfl | rfl | rfl
    · exact ok1 (.inl h1)
    · exact ok1 (.inr (.inl ⟨_, h2⟩))
    · exact ok1 (.inr (.inl ⟨_, h3⟩))
    · exact ok1 (.inr (.inr h4))
    · exact ok1 (.inr (.inl ⟨_, h5⟩))
    · exact ok1 (.inl (by rw [h6, Bool.or_true]))
  · cases h
end Dg

namespace Dg
open PySem PySem.Spec PyProof.Rows L2 GxR Dz
/-- a def that is had by its name -/
def HasF (P : Program) (w : World) (K : PySem.W.Frag) (mg : Str → Option Value) (base : Heap) (CX : CXT) (k : Nat) (n : Str) (ps : List Str) (sp : Sp) : Prop := ∃ f fd, FnOk P w K mg base CX k f fd ps sp ∧ mg n = some (.ref f) ∧ PySem.W.keepIn K (.ref f) = true ∧ Binds K fd ps []
def lO (acc : List D) : OD := .lst (acc.map .dat)
section
variable {T : List Addr} {X : Cx} {CE : Addr} {ρ : List Dz.Slot} {O O1 O2 : OH} {e a b : Expr} {es : List Expr} {rest : List Stmt} {st : Stmt} {pos pos' : Pos} {d : D} {ss : List Dz.Slot} {ds acc : List D} {E : DEn} {q : Bool}
theorem de_callH {k : Nat} {ps : List Str} {P : List Dz.Slot → OH → D → OH → Prop} {n : Str} {p : Pos} (G : HasF X.prog X.w X.K X.mg X.base CX0 k n ps (spF T X.K P)) (hr : Room k X.A) (ha : DA T X (e :: es) ρ O ss O1) (h : P ss O1 d O2) (hg : Gl X n := by rfl) (hdb : (n == ("__debug__" : Str)) = false := by decide)
    (hs : starEach (e :: es) X.env = (false, eval e X.env) :: starEach es X.env := by rfl) (hpl : (backTo pos (starEach es X.env)).any (·.1) = false := by rfl) : DE T X (.Call (.Name n p) (e :: es) [] pos) ρ O d O2 := by
  obtain ⟨f, fd, F, hm, hk, hb⟩ := G
  exact de_call F hr hm hk hb pass0 ha h hg hdb hs hpl
theorem de_callH0 {k : Nat} {ps : List Str} {P : List Dz.Slot → OH → D → OH → Prop} {n : Str} {p : Pos} (G : HasF X.prog X.w X.K X.mg X.base CX0 k n ps (spF T X.K P)) (hr : Room k X.A) (h : P [] O d O2) (hg : Gl X n := by rfl) (hdb : (n == ("__debug__" : Str)) = false := by decide) : DE T X (.Call (.Name n p) [] [] pos) ρ O d O2 := by
  obtain ⟨f, fd, F, hm, hk, hb⟩ := G
  exact de_call0 F hr hm hk hb pass0 h hg hdb
theorem ds_mid (I : List Dz.Slot → OH → Prop) (h : D1 T X CE st ρ O { E with nx := I }) (k : ∀ ρ' O', I ρ' O' → DS T X CE rest ρ' O' E) : DS T X CE (st :: rest) ρ O E :=
  ds_cons (.mk fun σ B H hE hA Dn W tk l => h σ B H hE hA Dn W tk ⟨fun ρ' O' σ' B' H' q => l.nx ρ' O' σ' B' H' (k ρ' O' q), l.rt, l.bk, l.ct, l.ex⟩)
theorem d1_app (i : Nat) {n : Str} {c : Addr} {apos npos : Pos} (hi : ρ[i]? = some (.val (.ref c))) (he : DE T X e ρ (put O c (lO acc)) d (put O c (lO acc))) (hl : acc.length < 100000) (h : E.nx ρ (put O c (lO (acc ++ [d]))))
    (pe : PE X (.Call (.Attribute (.Name n npos) "append" apos) [e] [] pos) (tBM X.K "list" rAppend (tVar i) (tCons (WE X e) tNil)) := by exact pe_bm PySem.F.plainAttrs_list PySem.F.slot_list_append PySem.F.type_list_append mt_append (pv _) (pa_cons pe_we pa_nil)) (hs : swapsWith (.Call (.Attribute (.Name n npos) "append" apos) [e] [] pos) none pos'.line X.env = pure false := by rfl) :
    D1 T X CE (.Expr (.Call (.Attribute (.Name n npos) "append" apos) [e] [] pos) pos') ρ (put O c (lO acc)) E :=
  d1_append i hi put_same he.dv put_same (by rw [List.length_map]; exact hl) (by
    rw [put_put]
    have q : acc.map Dz.Slot.dat ++ [.dat d] = (acc ++ [d]).map .dat := by rw [List.map_append]; rfl
    rw [q]
    exact h) pe hs
theorem d1_ext (i : Nat) {n : Str} {c : Addr} {apos npos : Pos} (hi : ρ[i]? = some (.val (.ref c))) (he : DE T X e ρ (put O c (lO acc)) (.lst ds) (put O c (lO acc))) (hl : acc.length + ds.length ≤ 100000) (h : E.nx ρ (put O c (lO (acc ++ ds))))
    (pe : PE X (.Call (.Attribute (.Name n npos) "extend" apos) [e] [] pos) (tBM X.K "list" rExtend (tVar i) (tCons (WE X e) tNil)) := by exact pe_bm PySem.F.plainAttrs_list PySem.F.slot_list_extend PySem.F.type_list_extend mt_extend (pv _) (pa_cons pe_we pa_nil)) (hs : swapsWith (.Call (.Attribute (.Name n npos) "extend" apos) [e] [] pos) none pos'.line X.env = pure false := by rfl) :
    D1 T X CE (.Expr (.Call (.Attribute (.Name n npos) "extend" apos) [e] [] pos) pos') ρ (put O c (lO acc)) E :=
  d1_extend i hi put_same he put_same (by rw [List.length_map]; exact hl) (by
    rw [put_put, ← List.map_append]
    exact h) pe hs
theorem ds_ice (i : Nat) {c : Addr} (hi : ρ[i]? = some (.val (.ref c))) (hp : O c = none) (h : DS T X CE rest (ρ.set i (.dat (.lst acc))) O E) : DS T X CE rest ρ (put O c (lO acc)) E :=
  ds_freeze i (ds := acc) hi put_same (by rw [cut_put hp]; exact h)
end
theorem in_ints (ns : List Int) (s : Int) : ((ns.map D.int).any fun z => deq z (.int s)) = decide (s ∈ ns) := by
  induction ns with
  | nil => rfl
  | cons n ns ih =>
    rw [List.map_cons, List.any_cons, ih, deq_int]
    by_cases h : n = s
    · subst h; simp
    · have h' : ¬ s = n := fun z => h z.symm
      simp [h, h']
theorem in_strs (ws : List Str) (x : Str) : ((ws.map D.str).any fun z => deq z (.str x)) = decide (x ∈ ws) := by
  induction ws with
  | nil => rfl
  | cons n ws ih =>
    rw [List.map_cons, List.any_cons, ih, deq_str]
    by_cases h : n = x
    · subst h; simp
    · have h' : ¬ x = n := fun z => h z.symm
      simp [h, h']
def hasT (trs : List Str) (x : Str) : Bool := decide (x ∈ trs)
def driftSides (trs : List Str) (s : Int) : List Int := s :: (if s ∈ ([1, 2] : List Int) then (if hasT trs "removals" = true then [0] else []) ++ (if hasT trs "moves" = true then [3 - s] else []) else [])
section
variable {P : Program} {w : World} {K : PySem.W.Frag} {mg : Str → Option Value} {base : Heap} {T : List Addr}
end
end Dg

namespace Dg
open PySem PySem.Spec PyProof.Rows L2 GxR Dz
section
variable {P : Program} {w : World} {K : PySem.W.Frag} {mg : Str → Option Value} {base : Heap} {T : List Addr}
theorem at_map {α β : Type} {xs : List α} {f : α → β} {j : Nat} {d : β} (h : (xs.map f)[j]? = some d) : ∃ x, xs[j]? = some x ∧ d = f x := by
  rw [List.getElem?_map] at h
  cases hx : xs[j]? with
  | none => rw [hx] at h; cases h
  | some x =>
    rw [hx] at h
    cases h
    exact ⟨x, rfl, rfl⟩
def d1 (trs : List Str) (l o' : Int) : List (Int × Int) := if l = 4 then [(o', if 0 < o' then 4 else 0)] else (driftSides trs l).map fun l' => (o', l')
end
end Dg

namespace Dg
open PySem PySem.Spec PyProof.Rows L2 GxR Dz
section
variable {P : Program} {w : World} {K : PySem.W.Frag} {mg : Str → Option Value} {base : Heap} {T : List Addr}
end
end Dg

namespace Dz
open PySem PySem.Spec PyProof.Rows L2 GxR
section
variable {T : List Addr} {X : Cx} {CE : Addr} {ρ : List Slot} {O O1 O2 : OH} {a b elt : Expr} {pos pos' lp : Pos} {E : DEn} {n : Str} {scope : Scope}
theorem lc_pureR {i : Nat} {F : Nat → D} {m : Int} (h : ∀ j : Nat, (j : Int) < m → DEb T X scope elt (ρ.set i (.dat (.int (j : Int)))) O (F j) O) : ∀ (j : Nat) acc O', (j : Int) < m → (acc = (List.range j).map F ∧ O' = O) → LcTurn T X scope [] elt (fun j acc O' => acc = (List.range j).map F ∧ O' = O) j (ρ.set i (.dat (.int (j : Int)))) acc O' := by
  rintro j acc O' hj ⟨rfl, rfl⟩
  exact ⟨true, O', difs_nil, fun _ => ⟨F j, O', h j hj, by rw [List.range_succ, List.map_append]; rfl, rfl⟩, fun z => by cases z⟩
end
end Dz
namespace Dg
open PySem PySem.Spec PyProof.Rows L2 GxR Dz
end Dg

namespace Dg
open PySem PySem.Spec PyProof.Rows L2 GxR Dz
section
variable {P : Program} {w : World} {K : PySem.W.Frag} {mg : Str → Option Value} {base : Heap} {T : List Addr}
end
end Dg

namespace Dg
open PySem PySem.Spec PyProof.Rows L2 GxR Dz
section
variable {P : Program} {w : World} {K : PySem.W.Frag} {mg : Str → Option Value} {base : Heap} {T : List Addr} {CE : Addr}
end
end Dg

namespace Dg
open PySem PySem.Spec PyProof.Rows L2 GxR Dz
def suI (CS : Addr) (p : Str) (ks sg : List Str) : D := insSetup CS (.str p) (.tup (ks.map .str)) (.tup (sg.map .str))
structure SuG (p : Str) (ks sg : List Str) : Prop where
  p : p ∈ PLACES
  k : ks.Sublist KINDS
  s : sg.Sublist SIGHTS
theorem pls_tup {ws : List Str} (h : ws.length ≤ 4000) : PlS (.tup (ws.map .str)) := ⟨by rw [List.length_map]; exact h, fun d hd => by
  obtain ⟨t, _, rfl⟩ := List.mem_map.mp hd
  exact .str t⟩
def oD : Option Int → D
  | none => .non
  | some i => .int i
def woz (z : Str) : Str := if z = "zone" then "inside" else z
def stepL (k : Int) (e : D) (s : Int) : List D := if k = 0 then [.str "point", e, .int s] else if k = 1 then [.str "slip", e, .int s] else if k = 2 then [.str "out", .int s] else if k = 3 then [.str "drop", .bl true, .int s] else if k = 4 then [.str "drop", .bl false, .int s] else if k = 5 then [.str "cancel", .bl true, .int s] else [.str "cancel", .bl false, .int s]
theorem k7 {k : Int} (h : 0 ≤ k ∧ k ≤ 6) : k = 0 ∨ k = 1 ∨ k = 2 ∨ k = 3 ∨ k = 4 ∨ k = 5 ∨ k = 6 := by omega
theorem k4 {k : Int} (h : 0 ≤ k ∧ k ≤ 3) : k = 0 ∨ k = 1 ∨ k = 2 ∨ k = 3 := by omega
section
variable {P : Program} {w : World} {K : PySem.W.Frag} {mg : Str → Option Value} {base : Heap} {T : List Addr} {CE : Addr}
theorem scLMade : FnScope ["told"] ["told"] (defScope s_law_made) := ⟨rfl, rfl, rfl, by decide +kernel, rfl, by decide +kernel, by decide +kernel⟩
def pLMade (CS : Addr) : PR := fun ss O Rn Rx => ∃ p ks sg, ss = [.dat (.lst [.str p, .lst (ks.map .str), .lst (sg.map .str)])] ∧ SuG p ks sg ∧ Rn = (fun v O' => v = .dat (suI CS p ks sg) ∧ O' = O) ∧ Rx = fun _ _ => False
theorem ok_lmade {f g CS : Addr} {fd gd : FuncData} {cdv : Value} (F : FunC K "_law_made" "_law_made" s_law_made f fd cdv) (L : Blt mg) (M : Mk K CS g) (gS : mg "Setup" = some (.ref CS))
    (G : FnOk P w K mg base (L2.CX P w) 4 g gd ["self", "place", "kinds", "sights"] (spX T K CE (pSetup CS))) (bg : Binds K gd ["self", "place", "kinds", "sights"] []) :
    FnOk P w K mg base (L2.CX P w) 6 f fd ["told"] (spX T K CE (pLMade CS)) := by
  refine fn_okX (R := pLMade CS) F scLMade (fun ss O Rn Rx ⟨p, k, s, h, _⟩ => by rw [h]; rfl) fun A outer s H E ss O Rn Rx hr h => ?_
  obtain ⟨p, ks, sg, e1, hG, eN, eX⟩ := h
  subst e1 eN eX
  have kl : ks.length ≤ 5 := hG.k.length_le
  have sl : sg.length ≤ 3 := hG.s.length_le
  have kn : ks.Nodup := KINDS_nd.sublist hG.k
  have sn : sg.Nodup := SIGHTS_nd.sublist hG.s
  have ok : okSetup (.str p) (.tup (ks.map .str)) (.tup (sg.map .str)) = true := by
    unfold okSetup
    rw [isWord_mem, decide_eq_true hG.p, choice_T (fun k h => hG.k.subset h) kn, choice_T (fun k h => hG.s.subset h) sn]
    rfl
  refine ds_one (d1_retX (R := fun s' O' => s' = .dat (suI CS p ks sg) ∧ O' = O) (dvx_makeF (O1 := O) M G hr gS bg
    (da_d (d := .str p) (de_ixL (ds := [.str p, .lst (ks.map .str), .lst (sg.map .str)]) (de_var 0) de_int rfl) (da_d (d := .tup (ks.map .str)) (de_tupleL L.tuple (de_ixL (ds := [.str p, .lst (ks.map .str), .lst (sg.map .str)]) (de_var 0) de_int rfl)) (da_d (d := .tup (sg.map .str)) (de_tupleL L.tuple (de_ixL (ds := [.str p, .lst (ks.map .str), .lst (sg.map .str)]) (de_var 0) de_int rfl)) da_nil))) fun x hx => ?_) fun s' O' q => q)
  refine ⟨_, _, ⟨x, .str p, .tup (ks.map .str), .tup (sg.map .str), rfl, put_same, .str p, .tup _, pls_tup (by omega), .tup _, pls_tup (by omega), .inl ⟨ok, rfl, rfl⟩⟩, fun s' O' h => ?_, fun r O' h => h.elim⟩
  obtain ⟨q1, q2⟩ := h
  subst q1 q2
  refine ⟨rfl, [("place", .str p), ("kinds", .tup (ks.map .str)), ("sights", .tup (sg.map .str))], ?_, rfl, ?_⟩
  · rw [put_same]
    show some (OD.ins CS [("place", .dat (.str p)), ("kinds", .dat (.tup (orderD (ks.map .str) KINDS))), ("sights", .dat (.tup (orderD (sg.map .str) SIGHTS)))]) = _
    rw [order_sub hG.k KINDS_nd, order_sub hG.s SIGHTS_nd]
    rfl
  · rw [put_put, cut_put hx]

def pTgB (ss : List Dz.Slot) (O : OH) (d : D) (O' : OH) : Prop := ∃ k e s, ss = [.dat (.tup (stepL k e s))] ∧ (0 ≤ k ∧ k ≤ 6) ∧ d = (if k < 2 then e else .non) ∧ O' = O
theorem scTgB : FnScope ["tick"] ["tick"] (defScope s_target_behind) := ⟨rfl, rfl, rfl, by decide +kernel, rfl, by decide +kernel, by decide +kernel⟩
def PS2 : List Str := ["point", "slip"]
theorem ok_tgb {f : Addr} {fd : FuncData} {cdv : Value} (F : FunC K "target_behind" "target_behind" s_target_behind f fd cdv) : FnOk P w K mg base CX0 1 f fd ["tick"] (spF T K pTgB) := by
  refine fn_ok (CE := (0 : Addr)) (R := pTgB) F scTgB (fun ss O d O' ⟨x, n, y, h, _⟩ => by rw [h]; rfl) fun A outer s H E ss O d O' hr h => ?_
  obtain ⟨k, e, st, h1, hk, h2, h3⟩ := h
  subst h1 h2 h3
  refine ds_one (d1_ret (s := .dat (if k < 2 then e else .non)) (DE.dv ?_) ⟨rfl, rfl⟩)
  rcases k7 hk with rfl | rfl | rfl | rfl | rfl | rfl | rfl
  · exact de_if (p := true) (DT.cast (dt_inT (x := .str "point") (ds := PS2.map .str) hr (by rfl) (by rfl) (de_ixT (ds := stepL 0 e st) (de_var 0) de_int rfl) (de_tup (ds := PS2.map .str) (da_d de_str (da_d de_str da_nil)))) (by decide +kernel)) (fun _ => de_ixT (ds := stepL 0 e st) (de_var 0) de_int rfl) fun z => by cases z
  · exact de_if (p := true) (DT.cast (dt_inT (x := .str "slip") (ds := PS2.map .str) hr (by rfl) (by rfl) (de_ixT (ds := stepL 1 e st) (de_var 0) de_int rfl) (de_tup (ds := PS2.map .str) (da_d de_str (da_d de_str da_nil)))) (by decide +kernel)) (fun _ => de_ixT (ds := stepL 1 e st) (de_var 0) de_int rfl) fun z => by cases z
  · exact de_if (p := false) (DT.cast (dt_inT (x := .str "out") (ds := PS2.map .str) hr (by rfl) (by rfl) (de_ixT (ds := stepL 2 e st) (de_var 0) de_int rfl) (de_tup (ds := PS2.map .str) (da_d de_str (da_d de_str da_nil)))) (by decide +kernel)) (fun z => by cases z) fun _ => de_non
  · exact de_if (p := false) (DT.cast (dt_inT (x := .str "drop") (ds := PS2.map .str) hr (by rfl) (by rfl) (de_ixT (ds := stepL 3 e st) (de_var 0) de_int rfl) (de_tup (ds := PS2.map .str) (da_d de_str (da_d de_str da_nil)))) (by decide +kernel)) (fun z => by cases z) fun _ => de_non
  · exact de_if (p := false) (DT.cast (dt_inT (x := .str "drop") (ds := PS2.map .str) hr (by rfl) (by rfl) (de_ixT (ds := stepL 4 e st) (de_var 0) de_int rfl) (de_tup (ds := PS2.map .str) (da_d de_str (da_d de_str da_nil)))) (by decide +kernel)) (fun z => by cases z) fun _ => de_non
  · exact de_if (p := false) (DT.cast (dt_inT (x := .str "cancel") (ds := PS2.map .str) hr (by rfl) (by rfl) (de_ixT (ds := stepL 5 e st) (de_var 0) de_int rfl) (de_tup (ds := PS2.map .str) (da_d de_str (da_d de_str da_nil)))) (by decide +kernel)) (fun z => by cases z) fun _ => de_non
  · exact de_if (p := false) (DT.cast (dt_inT (x := .str "cancel") (ds := PS2.map .str) hr (by rfl) (by rfl) (de_ixT (ds := stepL 6 e st) (de_var 0) de_int rfl) (de_tup (ds := PS2.map .str) (da_d de_str (da_d de_str da_nil)))) (by decide +kernel)) (fun z => by cases z) fun _ => de_non

def pWoz (ss : List Dz.Slot) (O : OH) (d : D) (O' : OH) : Prop := ∃ z, ss = [.dat (.str z)] ∧ d = .str (woz z) ∧ O' = O
theorem scWoz : FnScope ["side"] ["side"] (defScope s_without_zone) := ⟨rfl, rfl, rfl, by decide +kernel, rfl, by decide +kernel, by decide +kernel⟩
theorem ok_woz {f : Addr} {fd : FuncData} {cdv : Value} (F : FunC K "without_zone" "without_zone" s_without_zone f fd cdv) : FnOk P w K mg base CX0 1 f fd ["side"] (spF T K pWoz) := by
  refine fn_ok (CE := (0 : Addr)) (R := pWoz) F scWoz (fun ss O d O' ⟨x, h, _⟩ => by rw [h]; rfl) fun A outer s H E ss O d O' hr h => ?_
  obtain ⟨z, h1, h2, h3⟩ := h
  subst h1 h2 h3
  refine ds_one (d1_ret (s := .dat (.str (woz z))) (DE.dv (de_if (p := decide (z = "zone")) (DT.cast (dt_eq (x := .str z) (y := .str "zone") hr (by rfl) (by rfl) (de_var 0) de_str) (deq_str _ _)) (fun q => ?_) fun q => ?_)) ⟨rfl, rfl⟩)
  · unfold woz
    rw [if_pos (of_decide_eq_true q)]
    exact de_str
  · unfold woz
    rw [if_neg (of_decide_eq_false q)]
    exact de_var 0

end
end Dg

namespace Dg
open PySem PySem.Spec PyProof.Rows L2 GxR Dz
abbrev Ev := Str × Int × Option Int
def evD (e : Ev) : D := .tup [.str e.1, .int e.2.1, oD e.2.2]
def ptE (x : Int) (c : Option Int) : List Ev := if some x = c then [("over", x, none)] else match c with
  | none => [("enter", x, none), ("over", x, none)]
  | some y => [("enter", x, some y), ("leave", y, some x), ("over", x, none)]
def evA (z : Str) (c : Option Int) : List Ev := match c with
  | none => []
  | some y => [(if z = "drop" then "drop" else "leave", y, none)]
def evB (b : Bool) : List Ev := if b = true then [("end", 0, none)] else []
def evT (z : Str) (b : Bool) (c : Option Int) : List Ev := evA z c ++ evB b
def evP (k x : Int) (c : Option Int) : List Ev := if k = 0 then ptE x c else if k = 1 then [("enter", x, c), ("over", x, none)] else if k = 2 then evT "out" false c else if k = 3 then evT "drop" true c else if k = 4 then evT "drop" false c else if k = 5 then evT "cancel" true c else evT "cancel" false c
def dl (kd : List (Key × D)) (i : Int) : Option D := (kd.find? fun kv => decide (kv.1 = (.inl i : Key))).map (·.2)
def reachP (p : Str) (t : Int) (sd : Str) (st : Bool) : Bool := if p = "capture" then true else if p = "root" then decide (t = 0) || !st else decide (t = 1) || (decide (sd = "inside") && !st)
def ENDS : D := .tup [.str "end", .str "outside", .bl false, .str "none"]
def relS (sg : List Str) (sd : Int → Str) : Option Int → Str
  | none => "none"
  | some r => if ("related" : Str) ∈ sg then woz (sd r) else "none"
def sigP (sg : List Str) (sd : Int → Str) (ev : Ev) (ent : Option Int) : D := if ev.1 = "end" then ENDS else
  .tup [.str ev.1, .str (if ("own" : Str) ∈ sg then sd ev.2.1 else woz (sd ev.2.1)), .bl (decide (("same" : Str) ∈ sg) && decide (some ev.2.1 = ent)), .str (relS sg sd ev.2.2)]
def stB (s : Int) (j : Nat) : Bool := decide (s / 2 ^ j % 2 = 1)
def heardP (p : Str) (ks : List Str) (sd : Int → Str) (s : Int) (j : Nat) (ev : Ev) : Bool := decide (ev.1 ∈ ks) && reachP p ev.2.1 (sd ev.2.1) (stB s j)
def hearStep (p : Str) (ks sg : List Str) (sd : Int → Str) (s : Int) (j : Nat) (ev : Ev) (q : List D × Option Int) : List D × Option Int :=
  if heardP p ks sd s j ev = true then (q.1 ++ [sigP sg sd ev q.2], if ev.1 = "enter" then some ev.2.1 else q.2) else q
def hearP (p : Str) (ks sg : List Str) (sd : Int → Str) (s : Int) (evs : List Ev) (ent : Option Int) : Nat → List D × Option Int
  | 0 => ([], ent)
  | j + 1 => match evs[j]? with
    | some ev => hearStep p ks sg sd s j ev (hearP p ks sg sd s evs ent j)
    | none => hearP p ks sg sd s evs ent j
theorem hearP_len {p : Str} {ks sg : List Str} {sd : Int → Str} {s : Int} {evs : List Ev} {ent : Option Int} : ∀ j, (hearP p ks sg sd s evs ent j).1.length ≤ j
  | 0 => Nat.le_refl _
  | j + 1 => by
    have h := hearP_len (p := p) (ks := ks) (sg := sg) (sd := sd) (s := s) (evs := evs) (ent := ent) j
    unfold hearP
    split
    · unfold hearStep
      split
      · rw [List.length_append, List.length_singleton]; omega
      · omega
    · omega
theorem hearP_at {p : Str} {ks sg : List Str} {sd : Int → Str} {s : Int} {evs : List Ev} {ent : Option Int} {j : Nat} {ev : Ev} (h : evs[j]? = some ev) : hearP p ks sg sd s evs ent (j + 1) = hearStep p ks sg sd s j ev (hearP p ks sg sd s evs ent j) := by
  rw [hearP, h]
theorem deq_oD (x : Int) (c : Option Int) : deq (.int x) (oD c) = decide (some x = c) := by
  cases c with
  | none => rfl
  | some y =>
    show deq (.int x) (.int y) = _
    rw [deq_int]
    by_cases h : x = y
    · subst h; simp
    · have h' : ¬ (some x = some y) := fun z => h (Option.some.inj z)
      rw [decide_eq_false h, decide_eq_false h']
theorem ok_oD (c : Option Int) : D.ok 32 (oD c) = true := by cases c <;> rfl
section
variable {P : Program} {w : World} {K : PySem.W.Frag} {mg : Str → Option Value} {base : Heap} {T : List Addr} {CE : Addr}
def pPtE (ss : List Dz.Slot) (O : OH) (d : D) (O' : OH) : Prop := ∃ x c, ss = [.dat (.int x), .dat (oD c)] ∧ d = .lst ((ptE x c).map evD) ∧ O' = O
theorem scPtE : FnScope ["element", "current"] ["element", "current"] (defScope s_point_events) := ⟨rfl, rfl, rfl, by decide +kernel, rfl, by decide +kernel, by decide +kernel⟩
theorem ok_pte {f : Addr} {fd : FuncData} {cdv : Value} (F : FunC K "point_events" "point_events" s_point_events f fd cdv) : FnOk P w K mg base CX0 1 f fd ["element", "current"] (spF T K pPtE) := by
  refine fn_ok (CE := (0 : Addr)) (R := pPtE) F scPtE (fun ss O d O' ⟨_, _, h, _⟩ => by rw [h]; rfl) fun A outer s H E ss O d O' hr h => ?_
  obtain ⟨x, c, h1, h2, h3⟩ := h
  subst h1 h2 h3
  refine ds_cons (d1_if (p := decide (some x = c)) (DT.cast (dt_eq (x := .int x) (y := oD c) hr (by rfl) (ok_oD c) (de_var 0) (de_var 1)) (deq_oD x c)) (fun z => ?_) fun z => ds_nil ?_)
  · refine ds_one (d1_ret (s := .dat (.lst ((ptE x c).map evD))) (DE.dv ?_) ⟨rfl, rfl⟩)
    have e : ptE x c = [(("over" : Str), x, none)] := by unfold ptE; rw [if_pos (of_decide_eq_true z)]
    rw [e]
    exact de_lst (ds := [evD ("over", x, none)]) (da_d (de_tup (ds := [.str "over", .int x, .non]) (da_d de_str (da_d (de_var 0) (da_d de_non da_nil))) (by show 3 ≤ 10000; decide)) da_nil) (by show 1 ≤ 10000; decide)
  · cases c with
    | none =>
      refine ds_cons (d1_if (p := true) (DT.cast (dt_isN (x := .non) (de_var 1) de_non) rfl) (fun _ => ds_one (d1_ret (s := .dat (.lst ((ptE x none).map evD))) (DE.dv ?_) ⟨rfl, rfl⟩)) fun z => by cases z)
      exact de_lst (ds := [evD ("enter", x, none), evD ("over", x, none)]) (da_d (de_tup (ds := [.str "enter", .int x, .non]) (da_d de_str (da_d (de_var 0) (da_d de_non da_nil))) (by show 3 ≤ 10000; decide)) (da_d (de_tup (ds := [.str "over", .int x, .non]) (da_d de_str (da_d (de_var 0) (da_d de_non da_nil))) (by show 3 ≤ 10000; decide)) da_nil)) (by show 2 ≤ 10000; decide)
    | some y =>
      have e : ptE x (some y) = [(("enter" : Str), x, some y), (("leave" : Str), y, some x), (("over" : Str), x, none)] := by unfold ptE; rw [if_neg (of_decide_eq_false z)]
      rw [e]
      refine ds_cons (d1_if (p := false) (DT.cast (dt_isN (x := .int y) (de_var 1) de_non) rfl) (fun z => by cases z) fun _ => ds_nil (ds_one (d1_ret (s := .dat (.lst [evD ("enter", x, some y), evD ("leave", y, some x), evD ("over", x, none)])) (DE.dv ?_) ⟨rfl, rfl⟩)))
      exact de_lst (ds := [evD ("enter", x, some y), evD ("leave", y, some x), evD ("over", x, none)]) (da_d (de_tup (ds := [.str "enter", .int x, .int y]) (da_d de_str (da_d (de_var 0) (da_d (de_var 1) da_nil))) (by show 3 ≤ 10000; decide)) (da_d (de_tup (ds := [.str "leave", .int y, .int x]) (da_d de_str (da_d (de_var 1) (da_d (de_var 0) da_nil))) (by show 3 ≤ 10000; decide)) (da_d (de_tup (ds := [.str "over", .int x, .non]) (da_d de_str (da_d (de_var 0) (da_d de_non da_nil))) (by show 3 ≤ 10000; decide)) da_nil))) (by show 3 ≤ 10000; decide)

def pEvOf (ss : List Dz.Slot) (O : OH) (d : D) (O' : OH) : Prop := ∃ k e s x c, ss = [.dat (.tup (stepL k e s)), .dat (oD c)] ∧ (0 ≤ k ∧ k ≤ 6) ∧ (k < 2 → e = .int x) ∧ d = .lst ((evP k x c).map evD) ∧ O' = O
theorem scEvOf : FnScope ["tick", "current", "name", "events"] ["tick", "current"] (defScope s_events_of) := ⟨rfl, rfl, rfl, by decide +kernel, rfl, by decide +kernel, by decide +kernel⟩
theorem ok_evof {f : Addr} {fd : FuncData} {cdv uR : Value} (F : FunC K "events_of" "events_of" s_events_of f fd cdv) (hR : mg "ROOT" = some uR) (kR : kdB K 0 uR (.int 0) = true) (G : HasF P w K mg base CX0 1 "point_events" ["element", "current"] (spF T K pPtE)) : FnOk P w K mg base CX0 2 f fd ["tick", "current"] (spF T K pEvOf) := by
  refine fn_ok (CE := (0 : Addr)) (R := pEvOf) F scEvOf (fun ss O d O' ⟨_, _, _, _, _, h, _⟩ => by rw [h]; rfl) fun A outer s H E ss O d O' hr h => ?_
  obtain ⟨k, e, st, x, c, h1, hk, hx, h2, h3⟩ := h
  subst h1 h2 h3
  have tail : ∀ (L : List D) (z : Str) (b : Bool), atI L 0 = some (.str z) → (z = "out" ∧ b = false ∨ z ≠ "out" ∧ atI L 1 = some (.bl b)) → z ≠ "point" → z ≠ "slip" →
      DS T (bx P w K mg base ["tick", "current", "name", "events"] "events_of" s_events_of f cdv A outer s H E) 0 (defBody s_events_of) [.dat (.tup L), .dat (oD c), .no, .no] O' { nx := fun _ o => D.lst ((evT z b c).map evD) = .non ∧ o = O', rt := fun s o => s = .dat (.lst ((evT z b c).map evD)) ∧ o = O' } := by
    intro L z b h0 h1 n1 n2
    refine ds_cons (d1_set 2 (s := .dat (.str z)) (DE.dv (de_ixT (ds := L) (de_var 0) de_int h0)) ?_ scEvOf.nd)
    refine ds_cons (d1_if (p := false) (DT.cast (dt_eq (x := .str z) (y := .str "point") hr (by rfl) (by rfl) (de_var 2) de_str) (by rw [deq_str, decide_eq_false n1])) (fun z => by cases z) fun _ => ds_nil ?_)
    refine ds_cons (d1_if (p := false) (DT.cast (dt_eq (x := .str z) (y := .str "slip") hr (by rfl) (by rfl) (de_var 2) de_str) (by rw [deq_str, decide_eq_false n2])) (fun z => by cases z) fun _ => ds_nil ?_)
    refine ds_cons (d1_own 3 (ss := []) da_nil (fun p hp => ?_) scEvOf.nd)
    have l1 : (evA z c).length ≤ 1 := by cases c <;> simp [evA]
    have eT : evT z b c = evA z c ++ (if b = true then [(("end" : Str), (0 : Int), (none : Option Int))] else []) := rfl
    refine ds_mid (fun ρ' O2 => ρ' = [.dat (.tup L), .dat (oD c), .dat (.str z), .val (.ref p)] ∧ O2 = put O' p (lO ((evA z c).map evD))) ?_ ?_
    · cases c with
      | none => exact d1_if (p := false) (DT.cast (dt_notN (x := .non) (de_var 1) de_non) rfl) (fun z => by cases z) fun _ => ds_nil ⟨rfl, rfl⟩
      | some y => exact d1_if (p := true) (DT.cast (dt_notN (x := .int y) (de_var 1) de_non) rfl) (fun _ => ds_one (d1_app (acc := []) 3 rfl (de_tup (ds := [.str (if z = "drop" then "drop" else "leave"), .int y, .non]) (da_d (de_if (p := decide (z = "drop")) (DT.cast (dt_eq (x := .str z) (y := .str "drop") hr (by rfl) (by rfl) (de_var 2) de_str) (deq_str _ _)) (fun q => by rw [if_pos (of_decide_eq_true q)]; exact de_str) fun q => by rw [if_neg (of_decide_eq_false q)]; exact de_str) (da_d (de_var 1) (da_d de_non da_nil))) (by show 3 ≤ 10000; decide)) (by show 0 < 100000; decide) ⟨rfl, rfl⟩)) fun z => by cases z
    rintro ρ' O2 ⟨rfl, rfl⟩
    refine ds_mid (fun ρ' O2 => ρ' = [.dat (.tup L), .dat (oD c), .dat (.str z), .val (.ref p)] ∧ O2 = put O' p (lO ((evT z b c).map evD))) (d1_if (p := b) (DT.cast (DW.dt (dw_and (p := !decide (z = "out")) (q := b) (DT.cast (dt_ne (x := .str z) (y := .str "out") hr (by rfl) (by rfl) (de_var 2) de_str) (by rw [deq_str])) fun q => dw_and1 (dt_val (de_ixT (ds := L) (de_var 0) de_int ?_)))) ?_) (fun q => ds_one (d1_app 3 rfl (de_tup (ds := [.str "end", .int 0, .non]) (da_d de_str (da_d (de_gk hR kR) (da_d de_non da_nil))) (by show 3 ≤ 10000; decide)) (by rw [List.length_map]; omega) ⟨rfl, ?_⟩)) fun q => ds_nil ⟨rfl, ?_⟩) ?_
    · rcases h1 with ⟨e1, _⟩ | ⟨_, e2⟩
      · rw [e1] at q
        exact absurd q (by decide)
      · exact e2
    · rcases h1 with ⟨e1, e2⟩ | ⟨e1, _⟩
      · rw [e2, Bool.and_false]
      · rw [decide_eq_false e1]; rfl
    · rw [eT, if_pos q, List.map_append]
      rfl
    · rw [eT, if_neg (by rw [q]; decide), List.append_nil]
    rintro ρ' O2 ⟨rfl, rfl⟩
    exact ds_ice 3 rfl hp (ds_one (d1_ret (s := .dat (.lst ((evT z b c).map evD))) (DE.dv (de_var 3)) ⟨rfl, rfl⟩))
  rcases k7 hk with rfl | rfl | rfl | rfl | rfl | rfl | rfl
  · have ex := hx (by decide)
    subst ex
    refine ds_cons (d1_set 2 (s := .dat (.str "point")) (DE.dv (de_ixT (ds := stepL 0 (.int x) st) (de_var 0) de_int rfl)) ?_ scEvOf.nd)
    exact ds_cons (d1_if (p := true) (DT.cast (dt_eq (x := .str "point") (y := .str "point") hr (by rfl) (by rfl) (de_var 2) de_str) (by rw [deq_str]; rfl)) (fun _ => ds_one (d1_ret (s := .dat (.lst ((evP 0 x c).map evD))) (DE.dv (de_callH G hr (da_d (de_ixT (ds := stepL 0 (.int x) st) (de_var 0) de_int rfl) (da_d (de_var 1) da_nil)) ⟨x, c, rfl, rfl, rfl⟩)) ⟨rfl, rfl⟩)) fun z => by cases z)
  · have ex := hx (by decide)
    subst ex
    refine ds_cons (d1_set 2 (s := .dat (.str "slip")) (DE.dv (de_ixT (ds := stepL 1 (.int x) st) (de_var 0) de_int rfl)) ?_ scEvOf.nd)
    refine ds_cons (d1_if (p := false) (DT.cast (dt_eq (x := .str "slip") (y := .str "point") hr (by rfl) (by rfl) (de_var 2) de_str) (by rw [deq_str]; decide)) (fun z => by cases z) fun _ => ds_nil ?_)
    exact ds_cons (d1_if (p := true) (DT.cast (dt_eq (x := .str "slip") (y := .str "slip") hr (by rfl) (by rfl) (de_var 2) de_str) (by rw [deq_str]; rfl)) (fun _ => ds_one (d1_ret (s := .dat (.lst ((evP 1 x c).map evD))) (DE.dv (de_lst (ds := [evD ("enter", x, c), evD ("over", x, none)]) (da_d (de_tup (ds := [.str "enter", .int x, oD c]) (da_d de_str (da_d (de_ixT (ds := stepL 1 (.int x) st) (de_var 0) de_int rfl) (da_d (de_var 1) da_nil))) (by show 3 ≤ 10000; decide)) (da_d (de_tup (ds := [.str "over", .int x, .non]) (da_d de_str (da_d (de_ixT (ds := stepL 1 (.int x) st) (de_var 0) de_int rfl) (da_d de_non da_nil))) (by show 3 ≤ 10000; decide)) da_nil)) (by show 2 ≤ 10000; decide))) ⟨rfl, rfl⟩)) fun z => by cases z)
  · exact tail (stepL 2 e st) "out" false rfl (.inl ⟨rfl, rfl⟩) (by decide) (by decide)
  · exact tail (stepL 3 e st) "drop" true rfl (.inr ⟨by decide, rfl⟩) (by decide) (by decide)
  · exact tail (stepL 4 e st) "drop" false rfl (.inr ⟨by decide, rfl⟩) (by decide) (by decide)
  · exact tail (stepL 5 e st) "cancel" true rfl (.inr ⟨by decide, rfl⟩) (by decide) (by decide)
  · exact tail (stepL 6 e st) "cancel" false rfl (.inr ⟨by decide, rfl⟩) (by decide) (by decide)
end
end Dg

namespace Dg
open PySem PySem.Spec PyProof.Rows L2 GxR Dz
section
variable {P : Program} {w : World} {K : PySem.W.Frag} {mg : Str → Option Value} {base : Heap} {T : List Addr} {CE : Addr}
def pReach (ss : List Dz.Slot) (O : OH) (d : D) (O' : OH) : Prop := ∃ p t sd st, ss = [.dat (.str p), .dat (.int t), .dat (.str sd), .dat (.bl st)] ∧ d = .bl (reachP p t sd st) ∧ O' = O
theorem scReach : FnScope ["place", "target", "side", "stopped"] ["place", "target", "side", "stopped"] (defScope s_reaches) := ⟨rfl, rfl, rfl, by decide +kernel, rfl, by decide +kernel, by decide +kernel⟩
theorem ok_reach {f : Addr} {fd : FuncData} {cdv uR uZ : Value} (F : FunC K "reaches" "reaches" s_reaches f fd cdv) (hR : mg "ROOT" = some uR) (kR : kdB K 0 uR (.int 0) = true) (hZ : mg "ZONE" = some uZ) (kZ : kdB K 0 uZ (.int 1) = true) : FnOk P w K mg base CX0 1 f fd ["place", "target", "side", "stopped"] (spF T K pReach) := by
  refine fn_ok (CE := (0 : Addr)) (R := pReach) F scReach (fun ss O d O' ⟨_, _, _, _, h, _⟩ => by rw [h]; rfl) fun A outer s H E ss O d O' hr h => ?_
  obtain ⟨p, t, sd, st, h1, h2, h3⟩ := h
  subst h1 h2 h3
  refine ds_cons (d1_if (p := decide (p = "capture")) (DT.cast (dt_eq (x := .str p) (y := .str "capture") hr (by rfl) (by rfl) (de_var 0) de_str) (deq_str _ _)) (fun z => ds_one (d1_ret (s := .dat (.bl true)) (DE.dv de_bl) ⟨by unfold reachP; rw [if_pos (of_decide_eq_true z)], rfl⟩)) fun z => ds_nil ?_)
  have z' := of_decide_eq_false z
  refine ds_cons (d1_if (p := decide (p = "root")) (DT.cast (dt_eq (x := .str p) (y := .str "root") hr (by rfl) (by rfl) (de_var 0) de_str) (deq_str _ _)) (fun z => ds_one (d1_ret (s := .dat (.bl (decide (t = 0) || !st))) (DE.dv (de_or (DE.cast (de_eq (x := .int t) (y := .int 0) hr (by rfl) (by rfl) (de_var 1) (de_gk hR kR)) (by rw [deq_int])) fun _ => de_one (de_not (de_var 3)))) ⟨by unfold reachP; rw [if_neg z', if_pos (of_decide_eq_true z)], rfl⟩)) fun z => ds_nil ?_)
  exact ds_one (d1_ret (s := .dat (.bl (decide (t = 1) || (decide (sd = "inside") && !st)))) (DE.dv (de_or (DE.cast (de_eq (x := .int t) (y := .int 1) hr (by rfl) (by rfl) (de_var 1) (de_gk hZ kZ)) (by rw [deq_int])) fun _ => de_one (de_and (DE.cast (de_eq (x := .str sd) (y := .str "inside") hr (by rfl) (by rfl) (de_var 2) de_str) (by rw [deq_str])) fun _ => de_one (de_not (de_var 3))))) ⟨by unfold reachP; rw [if_neg z', if_neg (of_decide_eq_false z)], rfl⟩)

def EvIn (kd : List (Key × D)) (sd : Int → Str) (ev : Ev) : Prop := dl kd ev.2.1 = some (.str (sd ev.2.1)) ∧ ∀ r, ev.2.2 = some r → dl kd r = some (.str (sd r))
def pSig (CS : Addr) (ss : List Dz.Slot) (O : OH) (d : D) (O' : OH) : Prop := ∃ p ks sg kd sd ev ent, ss = [.dat (suI CS p ks sg), .dat (.dic kd), .dat (evD ev), .dat (oD ent)] ∧ EvIn kd sd ev ∧ d = sigP sg sd ev ent ∧ O' = O
theorem scSig : FnScope ["setup", "sides", "event", "entered", "kind", "target", "related", "side", "same"] ["setup", "sides", "event", "entered"] (defScope s_signal_of) := ⟨rfl, rfl, rfl, by decide +kernel, rfl, by decide +kernel, by decide +kernel⟩
theorem ok_sig {f CS : Addr} {fd : FuncData} {cdv uE : Value} (F : FunC K "signal_of" "signal_of" s_signal_of f fd cdv) (A3 : Fld3 K CS "place" "kinds" "sights") (hE : mg "END_SIGNAL" = some uE) (kE : kdB K 1 uE ENDS = true) (G : HasF P w K mg base CX0 1 "without_zone" ["side"] (spF T K pWoz)) : FnOk P w K mg base CX0 2 f fd ["setup", "sides", "event", "entered"] (spF T K (pSig CS)) := by
  refine fn_ok (CE := (0 : Addr)) (R := pSig CS) F scSig (fun ss O d O' ⟨_, _, _, _, _, _, _, h, _⟩ => by rw [h]; rfl) fun A outer s H E ss O d O' hr h => ?_
  obtain ⟨p, ks, sg, kd, sd, ⟨kind, t, rel⟩, ent, h1, ⟨e1, e2⟩, h2, h3⟩ := h
  subst h1 h2 h3
  have e1 : dl kd t = some (.str (sd t)) := e1
  refine ds_cons (d1_unpack (ds := [.str kind, .int t, oD rel]) (is := [4, 5, 6]) (de_var 2) rfl (by repeat' (first | exact Dz.Names.nil | refine Dz.Names.cons rfl (by first | exact Or.inl rfl | exact Or.inr rfl) (by first | exact .inl rfl | exact .inr rfl) rfl ?_)) ?_ scSig.nd)
  refine ds_cons (d1_if (p := decide (kind = "end")) (DT.cast (dt_eq (x := .str kind) (y := .str "end") hr (by rfl) (by rfl) (de_var 4) de_str) (deq_str _ _)) (fun z => ds_one (d1_ret (s := .dat ENDS) (DE.dv (de_gk hE kE)) ⟨by unfold sigP; rw [if_pos (of_decide_eq_true z)], rfl⟩)) fun z => ds_nil ?_)
  have z' := of_decide_eq_false z
  refine ds_cons (d1_set 7 (s := .dat (.str (sd t))) (DE.dv (de_dgetI hr (de_var 1) (de_var 5) e1)) ?_ scSig.nd)
  have fs : ∀ {ρ : List Dz.Slot} {e : Expr} {pos : Pos}, True := fun {_ _ _} => True.intro
  let r7 : Str := if ("own" : Str) ∈ sg then sd t else woz (sd t)
  refine ds_mid (fun ρ' O2 => ρ' = [.dat (suI CS p ks sg), .dat (.dic kd), .dat (evD (kind, t, rel)), .dat (oD ent), .dat (.str kind), .dat (.int t), .dat (oD rel), .dat (.str r7), .no] ∧ O' = O2) (d1_if (p := !decide (("own" : Str) ∈ sg)) (DT.cast (dt_ninT (x := .str "own") (ds := sg.map .str) hr (by rfl) (oks_strs sg 32) de_str (de_fld (fd := [("place", .str p), ("kinds", .tup (ks.map .str)), ("sights", .tup (sg.map .str))]) A3.cl A3.c (de_var 0) rfl)) (by rw [in_strs])) (fun q => ds_one (d1_set 7 (s := .dat (.str (woz (sd t)))) (DE.dv (de_callH G (hr.mono (by decide)) (da_d (de_var 7) da_nil) ⟨sd t, rfl, rfl, rfl⟩)) ⟨?_, rfl⟩ scSig.nd)) fun q => ds_nil ⟨?_, rfl⟩) ?_
  · have q' : ¬ ("own" : Str) ∈ sg := by simpa using q
    have e : r7 = woz (sd t) := if_neg q'
    rw [e]
    rfl
  · have q' : ("own" : Str) ∈ sg := by simpa using q
    have e : r7 = sd t := if_pos q'
    rw [e]
    rfl
  rintro ρ' O2 ⟨rfl, rfl⟩
  refine ds_cons (d1_set 8 (s := .dat (.bl (decide (("same" : Str) ∈ sg) && decide (some t = ent)))) (DE.dv (de_and (DE.cast (de_inT (x := .str "same") (ds := sg.map .str) hr (by rfl) (oks_strs sg 32) de_str (de_fld (fd := [("place", .str p), ("kinds", .tup (ks.map .str)), ("sights", .tup (sg.map .str))]) A3.cl A3.c (de_var 0) rfl)) (by rw [in_strs])) fun _ => de_one (DE.cast (de_eq (x := .int t) (y := oD ent) hr (by rfl) (ok_oD ent) (de_var 5) (de_var 3)) (by rw [deq_oD])))) ?_ scSig.nd)
  generalize hsm : (decide (("same" : Str) ∈ sg) && decide (some t = ent)) = sm
  have hs : sigP sg sd (kind, t, rel) ent = .tup [.str kind, .str r7, .bl sm, .str (relS sg sd rel)] := by
    unfold sigP
    rw [if_neg z']
    rw [← hsm]
  rw [hs]
  cases rel with
  | none =>
    refine ds_cons (d1_if (p := true) (DT.cast (DW.dt (dw_or (p := !decide (("related" : Str) ∈ sg)) (q := true) (DT.cast (dt_ninT (x := .str "related") (ds := sg.map .str) hr (by rfl) (oks_strs sg 32) de_str (de_fld (fd := [("place", .str p), ("kinds", .tup (ks.map .str)), ("sights", .tup (sg.map .str))]) A3.cl A3.c (de_var 0) rfl)) (by rw [in_strs])) fun _ => dw_or1 (DT.cast (dt_isN (x := .non) (de_var 6) de_non) rfl))) (by rw [Bool.or_true])) (fun _ => ds_one (d1_ret (s := .dat (.tup [.str kind, .str r7, .bl sm, .str "none"])) (DE.dv (de_tup (ds := [.str kind, .str r7, .bl sm, .str "none"]) (da_d (de_var 4) (da_d (de_var 7) (da_d (de_var 8) (da_d de_str da_nil)))) (by show 4 ≤ 10000; decide))) ⟨rfl, rfl⟩)) fun q => by cases q)
  | some r =>
    have e2 : dl kd r = some (.str (sd r)) := e2 r rfl
    refine ds_cons (d1_if (p := !decide (("related" : Str) ∈ sg)) (DT.cast (DW.dt (dw_or (p := !decide (("related" : Str) ∈ sg)) (q := false) (DT.cast (dt_ninT (x := .str "related") (ds := sg.map .str) hr (by rfl) (oks_strs sg 32) de_str (de_fld (fd := [("place", .str p), ("kinds", .tup (ks.map .str)), ("sights", .tup (sg.map .str))]) A3.cl A3.c (de_var 0) rfl)) (by rw [in_strs])) fun _ => dw_or1 (DT.cast (dt_isN (x := .int r) (de_var 6) de_non) rfl))) (by rw [Bool.or_false])) (fun q => ds_one (d1_ret (s := .dat (.tup [.str kind, .str r7, .bl sm, .str "none"])) (DE.dv (de_tup (ds := [.str kind, .str r7, .bl sm, .str "none"]) (da_d (de_var 4) (da_d (de_var 7) (da_d (de_var 8) (da_d de_str da_nil)))) (by show 4 ≤ 10000; decide))) ⟨?_, rfl⟩)) fun q => ds_nil (ds_one (d1_ret (s := .dat (.tup [.str kind, .str r7, .bl sm, .str (woz (sd r))])) (DE.dv (de_tup (ds := [.str kind, .str r7, .bl sm, .str (woz (sd r))]) (da_d (de_var 4) (da_d (de_var 7) (da_d (de_var 8) (da_d (de_callH G (hr.mono (by decide)) (da_d (de_dgetI hr (de_var 1) (de_var 6) e2) da_nil) ⟨sd r, rfl, rfl, rfl⟩) da_nil)))) (by show 4 ≤ 10000; decide))) ⟨?_, rfl⟩)))
    · have q' : ¬ ("related" : Str) ∈ sg := by simpa using q
      show _ = Dz.Slot.dat (.tup [.str kind, .str r7, .bl sm, .str (if ("related" : Str) ∈ sg then woz (sd r) else "none")])
      rw [if_neg q']
    · have q' : ("related" : Str) ∈ sg := by simpa using q
      show _ = Dz.Slot.dat (.tup [.str kind, .str r7, .bl sm, .str (if ("related" : Str) ∈ sg then woz (sd r) else "none")])
      rw [if_pos q']

def pHeard (CS : Addr) (ss : List Dz.Slot) (O : OH) (d : D) (O' : OH) : Prop := ∃ p ks sg kd sd evs s ent, ss = [.dat (suI CS p ks sg), .dat (.dic kd), .dat (.lst (evs.map evD)), .dat (.int s), .dat (oD ent)] ∧ (∀ ev ∈ evs, EvIn kd sd ev) ∧ evs.length ≤ 10 ∧
  d = .tup [.lst (hearP p ks sg sd s evs ent evs.length).1, oD (hearP p ks sg sd s evs ent evs.length).2] ∧ O' = O
theorem scHeard : FnScope ["setup", "sides", "events", "stops", "entered", "signals", "at", "event", "kind", "target", "_", "stopped"] ["setup", "sides", "events", "stops", "entered"] (defScope s_heard) := ⟨rfl, rfl, rfl, by decide +kernel, rfl, by decide +kernel, by decide +kernel⟩
theorem ok_heard {f CS : Addr} {fd : FuncData} {cdv : Value} (F : FunC K "heard" "heard" s_heard f fd cdv) (L : Blt mg) (hen : mg "enumerate" = none) (A3 : Fld3 K CS "place" "kinds" "sights") (G1 : HasF P w K mg base CX0 1 "reaches" ["place", "target", "side", "stopped"] (spF T K pReach)) (G2 : HasF P w K mg base CX0 2 "signal_of" ["setup", "sides", "event", "entered"] (spF T K (pSig CS))) :
    FnOk P w K mg base CX0 3 f fd ["setup", "sides", "events", "stops", "entered"] (spF T K (pHeard CS)) := by
  refine fn_ok (CE := (0 : Addr)) (R := pHeard CS) F scHeard (fun ss O d O' ⟨_, _, _, _, _, _, _, _, h, _⟩ => by rw [h]; rfl) fun A outer s H E ss O d O' hr h => ?_
  obtain ⟨p, ks, sg, kd, sd, evs, st, ent, h1, hin, hl, h2, h3⟩ := h
  subst h1 h2 h3
  have hr1 := hr.mono (show 1 ≤ 2 by decide)
  refine ds_cons (d1_own 5 (ss := []) da_nil (fun c hc => ?_) scHeard.nd)
  refine ds_mid (fun ρ' O2 => (∃ s6 s7 s8 s9 s10 s11, ρ' = [.dat (suI CS p ks sg), .dat (.dic kd), .dat (.lst (evs.map evD)), .dat (.int st), .dat (oD (hearP p ks sg sd st evs ent evs.length).2), .val (.ref c), s6, s7, s8, s9, s10, s11]) ∧ O2 = put O' c (lO (hearP p ks sg sd st evs ent evs.length).1))
    (d1_forEL (ds := evs.map evD) (i1 := 6) (i2 := 7) (fun j ρ' O2 => (∃ s6 s7 s8 s9 s10 s11, ρ' = [.dat (suI CS p ks sg), .dat (.dic kd), .dat (.lst (evs.map evD)), .dat (.int st), .dat (oD (hearP p ks sg sd st evs ent j).2), .val (.ref c), s6, s7, s8, s9, s10, s11]) ∧ O2 = put O' c (lO (hearP p ks sg sd st evs ent j).1))
      (de_var 2) ⟨⟨_, _, _, _, _, _, rfl⟩, rfl⟩ scHeard.nd (by repeat' (first | exact Dz.Names.nil | refine Dz.Names.cons rfl (by first | exact Or.inl rfl | exact Or.inr rfl) (by first | exact .inl rfl | exact .inr rfl) rfl ?_)) ?_ ?_ hen PassesOwn.never) ?_
  · rintro j d ρ' O2 hj ⟨⟨s6, s7, s8, s9, s10, s11, rfl⟩, rfl⟩
    obtain ⟨⟨kind, t, rel⟩, hev, rfl⟩ := at_map hj
    have hi := hin _ (List.mem_of_getElem? hev)
    have hjl := (List.getElem?_eq_some_iff.mp hev).1
    have en := hearP_at (p := p) (ks := ks) (sg := sg) (sd := sd) (s := st) (ent := ent) hev
    have lq := hearP_len (p := p) (ks := ks) (sg := sg) (sd := sd) (s := st) (evs := evs) (ent := ent) j
    generalize hearP p ks sg sd st evs ent j = q at en lq
    obtain ⟨q1, q2⟩ := q
    rw [en]
    have lq : q1.length ≤ j := lq
    refine ds_cons (d1_unpack (ds := [.str kind, .int t, oD rel]) (is := [8, 9, 10]) (de_var 7) rfl (by repeat' (first | exact Dz.Names.nil | refine Dz.Names.cons rfl (by first | exact Or.inl rfl | exact Or.inr rfl) (by first | exact .inl rfl | exact .inr rfl) rfl ?_)) ?_ scHeard.nd)
    refine ds_cons (d1_set 11 (s := .dat (.bl (stB st j))) (DE.dv (DE.cast (de_eq (x := .int (st / 2 ^ j % 2)) (y := .int 1) hr (by rfl) (by rfl) (DE.cast (de_mod (by decide) (de_shr (i := st) (j := (j : Int)) (by omega) (de_var 3) (de_var 6)) de_int) (by rw [Int.toNat_natCast])) de_int) (by rw [deq_int]; rfl))) ?_ scHeard.nd)
    show DS T _ _ _ [.dat (suI CS p ks sg), .dat (.dic kd), .dat (.lst (evs.map evD)), .dat (.int st), .dat (oD q2), .val (.ref c), .dat (.int (j : Int)), .dat (evD (kind, t, rel)), .dat (.str kind), .dat (.int t), .dat (oD rel), .dat (.bl (stB st j))] (put O' c (lO q1)) _
    refine ds_one (d1_if (p := heardP p ks sd st j (kind, t, rel)) (DW.dt (dw_and (p := decide (kind ∈ ks)) (q := reachP p t (sd t) (stB st j)) (DT.cast (dt_inT (x := .str kind) (ds := ks.map .str) hr (by rfl) (oks_strs ks 32) (de_var 8) (de_fld (fd := [("place", .str p), ("kinds", .tup (ks.map .str)), ("sights", .tup (sg.map .str))]) A3.cl A3.b (de_var 0) rfl)) (by rw [in_strs])) fun _ => dw_and1 (dt_val (de_callH G1 hr1 (da_d (de_fld (fd := [("place", .str p), ("kinds", .tup (ks.map .str)), ("sights", .tup (sg.map .str))]) A3.cl A3.a (de_var 0) rfl) (da_d (de_var 9) (da_d (de_dgetI hr (de_var 1) (de_var 9) hi.1) (da_d (de_var 11) da_nil)))) ⟨p, t, sd t, stB st j, rfl, rfl, rfl⟩)))) (fun z => ?_) fun z => ds_nil ?_)
    · have eh : hearStep p ks sg sd st j (kind, t, rel) (q1, q2) = (q1 ++ [sigP sg sd (kind, t, rel) q2], if kind = "enter" then some t else q2) := by unfold hearStep; rw [if_pos z]
      rw [eh]
      refine ds_cons (d1_app 5 rfl (de_callH G2 hr (da_d (de_var 0) (da_d (de_var 1) (da_d (de_var 7) (da_d (de_var 4) da_nil)))) ⟨p, ks, sg, kd, sd, (kind, t, rel), q2, rfl, hi, rfl, rfl⟩) (by omega) ?_)
      refine ds_one (d1_if (p := decide (kind = "enter")) (DT.cast (dt_eq (x := .str kind) (y := .str "enter") hr (by rfl) (by rfl) (de_var 8) de_str) (deq_str _ _)) (fun y => ds_one (d1_set 4 (s := .dat (.int t)) (DE.dv (de_var 9)) ?_ scHeard.nd)) fun y => ds_nil ?_)
      · have e : (if kind = "enter" then some t else q2) = some t := if_pos (of_decide_eq_true y)
        rw [e]
        exact ⟨⟨_, _, _, _, _, _, rfl⟩, rfl⟩
      · have e : (if kind = "enter" then some t else q2) = q2 := if_neg (of_decide_eq_false y)
        rw [e]
        exact ⟨⟨_, _, _, _, _, _, rfl⟩, rfl⟩
    · have eh : hearStep p ks sg sd st j (kind, t, rel) (q1, q2) = (q1, q2) := by unfold hearStep; rw [if_neg (by rw [z]; decide)]
      rw [eh]
      exact ⟨⟨_, _, _, _, _, _, rfl⟩, rfl⟩
  · rintro ρ' O2 ⟨⟨s6, s7, s8, s9, s10, s11, rfl⟩, rfl⟩
    rw [List.length_map]
    exact ⟨⟨_, _, _, _, _, _, rfl⟩, rfl⟩
  rintro ρ' O2 ⟨⟨s6, s7, s8, s9, s10, s11, rfl⟩, rfl⟩
  generalize hearP p ks sg sd st evs ent evs.length = q
  exact ds_ice 5 rfl hc (ds_one (d1_ret (s := .dat (.tup [.lst q.1, oD q.2])) (DE.dv (de_tup (ds := [.lst q.1, oD q.2]) (da_d (de_var 5) (da_d (de_var 4) da_nil)) (by show 2 ≤ 10000; decide))) ⟨rfl, rfl⟩))
end
end Dg

namespace Dg
open PySem PySem.Spec PyProof.Rows L2 GxR Dz
section
variable {P : Program} {w : World} {K : PySem.W.Frag} {mg : Str → Option Value} {base : Heap} {T : List Addr} {CE : Addr}
end
end Dg

namespace Dg
open PySem PySem.Spec PyProof.Rows L2 GxR Dz
def suD (p : Str) (ks sg : List Str) : D := .lst [.str p, .lst (ks.map .str), .lst (sg.map .str)]
def lreach (p : Str) (ks : List Str) (kind : Str) (n : Int) (ir st : Bool) : Bool := if kind ∈ ks then (if kind = "end" then !decide (p = "zone") else if p = "zone" then decide (n = 3) || (decide (n = 2) && !st) else decide (p = "capture") || (ir || !st)) else false
def sdL (n : Int) : Str := if n = 0 then "" else if n = 1 then "outside" else "inside"
def rlL (n : Int) : Str := if n = 0 then "none" else if n = 1 then "outside" else "inside"
def lsig (sg : List Str) (kind : Str) (n : Int) (same : Bool) (rel : Int) : D := if kind = "end" then ENDS else .tup [.str kind, .str (if n = 3 ∧ ("own" : Str) ∈ sg then "zone" else sdL n), .bl (same && decide (("same" : Str) ∈ sg)), .str (if ("related" : Str) ∈ sg then rlL rel else "none")]
section
variable {P : Program} {w : World} {K : PySem.W.Frag} {mg : Str → Option Value} {base : Heap} {T : List Addr} {CE : Addr}
def pLReach (ss : List Dz.Slot) (O : OH) (d : D) (O' : OH) : Prop := ∃ p ks sg kind n ir st, ss = [.dat (suD p ks sg), .dat (.str kind), .dat (.int n), .dat (.bl ir), .dat (.bl st)] ∧ d = .bl (lreach p ks kind n ir st) ∧ O' = O
theorem scLReach : FnScope ["setup", "kind", "number", "is_root", "stopped"] ["setup", "kind", "number", "is_root", "stopped"] (defScope s_law_reaches) := ⟨rfl, rfl, rfl, by decide +kernel, rfl, by decide +kernel, by decide +kernel⟩
theorem ok_lreach {f : Addr} {fd : FuncData} {cdv : Value} (F : FunC K "_law_reaches" "_law_reaches" s_law_reaches f fd cdv) : FnOk P w K mg base CX0 1 f fd ["setup", "kind", "number", "is_root", "stopped"] (spF T K pLReach) := by
  refine fn_ok (CE := (0 : Addr)) (R := pLReach) F scLReach (fun ss O d O' ⟨_, _, _, _, _, _, _, h, _⟩ => by rw [h]; rfl) fun A outer s H E ss O d O' hr h => ?_
  obtain ⟨p, ks, sg, kind, n, ir, st, h1, h2, h3⟩ := h
  subst h1 h2 h3
  refine ds_cons (d1_if (p := !decide (kind ∈ ks)) (DT.cast (dt_ninL (x := .str kind) (ds := ks.map .str) hr (by rfl) (oks_strs ks 32) (de_var 1) (de_ixL (ds := [.str p, .lst (ks.map .str), .lst (sg.map .str)]) (de_var 0) de_int rfl)) (by rw [in_strs])) (fun z => ds_one (d1_ret (s := .dat (.bl false)) (DE.dv de_bl) ⟨by unfold lreach; rw [if_neg (by simpa using z)], rfl⟩)) fun z => ds_nil ?_)
  have z1 : kind ∈ ks := by simpa using z
  refine ds_cons (d1_if (p := decide (kind = "end")) (DT.cast (dt_eq (x := .str kind) (y := .str "end") hr (by rfl) (by rfl) (de_var 1) de_str) (deq_str _ _)) (fun z => ds_one (d1_ret (s := .dat (.bl (!decide (p = "zone")))) (DE.dv (DE.cast (de_ne (x := .str p) (y := .str "zone") hr (by rfl) (by rfl) (de_ixL (ds := [.str p, .lst (ks.map .str), .lst (sg.map .str)]) (de_var 0) de_int rfl) de_str) (by rw [deq_str]))) ⟨by unfold lreach; rw [if_pos z1, if_pos (of_decide_eq_true z)], rfl⟩)) fun z => ds_nil ?_)
  have z2 := of_decide_eq_false z
  refine ds_cons (d1_if (p := decide (p = "zone")) (DT.cast (dt_eq (x := .str p) (y := .str "zone") hr (by rfl) (by rfl) (de_ixL (ds := [.str p, .lst (ks.map .str), .lst (sg.map .str)]) (de_var 0) de_int rfl) de_str) (deq_str _ _)) (fun z => ds_one (d1_ret (s := .dat (.bl (decide (n = 3) || (decide (n = 2) && !st)))) (DE.dv (de_or (DE.cast (de_eq (x := .int n) (y := .int 3) hr (by rfl) (by rfl) (de_var 2) de_int) (by rw [deq_int])) fun _ => de_one (de_and (DE.cast (de_eq (x := .int n) (y := .int 2) hr (by rfl) (by rfl) (de_var 2) de_int) (by rw [deq_int])) fun _ => de_one (de_not (de_var 4))))) ⟨by unfold lreach; rw [if_pos z1, if_neg z2, if_pos (of_decide_eq_true z)], rfl⟩)) fun z => ds_nil ?_)
  exact ds_one (d1_ret (s := .dat (.bl (decide (p = "capture") || (ir || !st)))) (DE.dv (de_or (DE.cast (de_eq (x := .str p) (y := .str "capture") hr (by rfl) (by rfl) (de_ixL (ds := [.str p, .lst (ks.map .str), .lst (sg.map .str)]) (de_var 0) de_int rfl) de_str) (by rw [deq_str])) fun _ => de_or (de_var 3) fun _ => de_one (de_not (de_var 4)))) ⟨by unfold lreach; rw [if_pos z1, if_neg z2, if_neg (of_decide_eq_false z)], rfl⟩)

def pLSig (ss : List Dz.Slot) (O : OH) (d : D) (O' : OH) : Prop := ∃ p ks sg kind n same rel, ss = [.dat (suD p ks sg), .dat (.str kind), .dat (.int n), .dat (.bl same), .dat (.int rel)] ∧ (0 ≤ n ∧ n ≤ 3) ∧ (0 ≤ rel ∧ rel ≤ 3) ∧ d = lsig sg kind n same rel ∧ O' = O
theorem scLSig : FnScope ["setup", "kind", "number", "same", "related", "side", "told"] ["setup", "kind", "number", "same", "related"] (defScope s_law_signal) := ⟨rfl, rfl, rfl, by decide +kernel, rfl, by decide +kernel, by decide +kernel⟩
theorem sdL_at {n : Int} (h : 0 ≤ n ∧ n ≤ 3) : atI [D.str "", .str "outside", .str "inside", .str "inside"] n = some (.str (sdL n)) := by
  rcases k4 h with rfl | rfl | rfl | rfl <;> rfl
theorem rlL_at {n : Int} (h : 0 ≤ n ∧ n ≤ 3) : atI [D.str "none", .str "outside", .str "inside", .str "inside"] n = some (.str (rlL n)) := by
  rcases k4 h with rfl | rfl | rfl | rfl <;> rfl
theorem ok_lsig {f : Addr} {fd : FuncData} {cdv : Value} (F : FunC K "_law_signal" "_law_signal" s_law_signal f fd cdv) : FnOk P w K mg base CX0 1 f fd ["setup", "kind", "number", "same", "related"] (spF T K pLSig) := by
  refine fn_ok (CE := (0 : Addr)) (R := pLSig) F scLSig (fun ss O d O' ⟨_, _, _, _, _, _, _, h, _⟩ => by rw [h]; rfl) fun A outer s H E ss O d O' hr h => ?_
  obtain ⟨p, ks, sg, kind, n, same, rel, h1, hn, hrl, h2, h3⟩ := h
  subst h1 h2 h3
  refine ds_cons (d1_if (p := decide (kind = "end")) (DT.cast (dt_eq (x := .str kind) (y := .str "end") hr (by rfl) (by rfl) (de_var 1) de_str) (deq_str _ _)) (fun z => ds_one (d1_ret (s := .dat ENDS) (DE.dv (de_tup (ds := [.str "end", .str "outside", .bl false, .str "none"]) (da_d de_str (da_d de_str (da_d de_bl (da_d de_str da_nil)))))) ⟨by unfold lsig; rw [if_pos (of_decide_eq_true z)], rfl⟩)) fun z => ds_nil ?_)
  have z1 := of_decide_eq_false z
  refine ds_cons (d1_set 5 (s := .dat (.str (sdL n))) (DE.dv (de_ixL (ds := [D.str "", .str "outside", .str "inside", .str "inside"]) (de_lst (ds := [D.str "", .str "outside", .str "inside", .str "inside"]) (da_d de_str (da_d de_str (da_d de_str (da_d de_str da_nil))))) (de_var 2) (sdL_at hn))) ?_ scLSig.nd)
  refine ds_mid (fun ρ' O2 => ρ' = [.dat (suD p ks sg), .dat (.str kind), .dat (.int n), .dat (.bl same), .dat (.int rel), .dat (.str (if n = 3 ∧ ("own" : Str) ∈ sg then "zone" else sdL n)), .no] ∧ O' = O2) (d1_if (p := decide (n = 3) && decide (("own" : Str) ∈ sg)) (DW.dt (dw_and (DT.cast (dt_eq (x := .int n) (y := .int 3) hr (by rfl) (by rfl) (de_var 2) de_int) (deq_int _ _)) fun _ => dw_and1 (DT.cast (dt_inL (x := .str "own") (ds := sg.map .str) hr (by rfl) (oks_strs sg 32) de_str (de_ixL (ds := [.str p, .lst (ks.map .str), .lst (sg.map .str)]) (de_var 0) de_int rfl)) (in_strs sg _)))) (fun q => ds_one (d1_set 5 (s := .dat (.str "zone")) (DE.dv de_str) ⟨?_, rfl⟩ scLSig.nd)) fun q => ds_nil ⟨?_, rfl⟩) ?_
  · have q' : n = 3 ∧ ("own" : Str) ∈ sg := by simpa using q
    rw [if_pos q']
    rfl
  · have q' : ¬ (n = 3 ∧ ("own" : Str) ∈ sg) := by
      rintro ⟨y1, y2⟩
      rw [decide_eq_true y1, decide_eq_true y2] at q
      cases q
    rw [if_neg q']
    rfl
  rintro ρ' O2 ⟨rfl, rfl⟩
  generalize hsd : (if n = 3 ∧ ("own" : Str) ∈ sg then ("zone" : Str) else sdL n) = s5
  refine ds_cons (d1_set 6 (s := .dat (.str "none")) (DE.dv de_str) ?_ scLSig.nd)
  refine ds_mid (fun ρ' O2 => ρ' = [.dat (suD p ks sg), .dat (.str kind), .dat (.int n), .dat (.bl same), .dat (.int rel), .dat (.str s5), .dat (.str (if ("related" : Str) ∈ sg then rlL rel else "none"))] ∧ O' = O2) (d1_if (p := decide (("related" : Str) ∈ sg)) (DT.cast (dt_inL (x := .str "related") (ds := sg.map .str) hr (by rfl) (oks_strs sg 32) de_str (de_ixL (ds := [.str p, .lst (ks.map .str), .lst (sg.map .str)]) (de_var 0) de_int rfl)) (in_strs sg _)) (fun q => ds_one (d1_set 6 (s := .dat (.str (rlL rel))) (DE.dv (de_ixL (ds := [D.str "none", .str "outside", .str "inside", .str "inside"]) (de_lst (ds := [D.str "none", .str "outside", .str "inside", .str "inside"]) (da_d de_str (da_d de_str (da_d de_str (da_d de_str da_nil))))) (de_var 4) (rlL_at hrl))) ⟨?_, rfl⟩ scLSig.nd)) fun q => ds_nil ⟨?_, rfl⟩) ?_
  · rw [if_pos (of_decide_eq_true q)]
    rfl
  · rw [if_neg (of_decide_eq_false q)]
    rfl
  rintro ρ' O2 ⟨rfl, rfl⟩
  generalize htd : (if ("related" : Str) ∈ sg then rlL rel else ("none" : Str)) = s6
  have e : lsig sg kind n same rel = .tup [.str kind, .str s5, .bl (same && decide (("same" : Str) ∈ sg)), .str s6] := by
    unfold lsig
    rw [if_neg z1, hsd, htd]
  rw [e]
  exact ds_one (d1_ret (s := .dat (.tup [.str kind, .str s5, .bl (same && decide (("same" : Str) ∈ sg)), .str s6])) (DE.dv (de_tup (ds := [.str kind, .str s5, .bl (same && decide (("same" : Str) ∈ sg)), .str s6]) (da_d (de_var 1) (da_d (de_var 5) (da_d (de_and (de_var 3) fun _ => de_one (DE.cast (de_inL (x := .str "same") (ds := sg.map .str) hr (by rfl) (oks_strs sg 32) de_str (de_ixL (ds := [.str p, .lst (ks.map .str), .lst (sg.map .str)]) (de_var 0) de_int rfl)) (by rw [in_strs]))) (da_d (de_var 6) da_nil)))) (by show 4 ≤ 10000; decide))) ⟨rfl, rfl⟩)

end
end Dg

namespace Dg
open PySem PySem.Spec PyProof.Rows L2 GxR Dz
def oI : Option Int → D
  | none => .non
  | some i => .int i
structure Pg where
  up : List (Option Int)
  gone : List Bool
  tg : Option Int
  en : Option Int
def kyU : Key := .inr "up"
def kyG : Key := .inr "gone"
def kyT : Key := .inr "target"
def kyE : Key := .inr "entered"
theorem ne_UG : kyU ≠ kyG := by decide +kernel
theorem ne_UT : kyU ≠ kyT := by decide +kernel
theorem ne_UE : kyU ≠ kyE := by decide +kernel
theorem ne_GT : kyG ≠ kyT := by decide +kernel
theorem ne_GE : kyG ≠ kyE := by decide +kernel
theorem ne_TE : kyT ≠ kyE := by decide +kernel
section
variable {s1 s2 s3 s4 : Dz.Slot}
theorem fd_U : (([(kyU, s1), (kyG, s2), (kyT, s3), (kyE, s4)] : List (Key × Dz.Slot)).find? fun kv => decide (kv.1 = kyU)).map (·.2) = some s1 := by
  rw [List.find?_cons_of_pos (by simp)]
  rfl
theorem fd_G : (([(kyU, s1), (kyG, s2), (kyT, s3), (kyE, s4)] : List (Key × Dz.Slot)).find? fun kv => decide (kv.1 = kyG)).map (·.2) = some s2 := by
  rw [List.find?_cons_of_neg (by simp [ne_UG]), List.find?_cons_of_pos (by simp)]
  rfl
theorem fd_T : (([(kyU, s1), (kyG, s2), (kyT, s3), (kyE, s4)] : List (Key × Dz.Slot)).find? fun kv => decide (kv.1 = kyT)).map (·.2) = some s3 := by
  rw [List.find?_cons_of_neg (by simp [ne_UT]), List.find?_cons_of_neg (by simp [ne_GT]), List.find?_cons_of_pos (by simp)]
  rfl
theorem fd_E : (([(kyU, s1), (kyG, s2), (kyT, s3), (kyE, s4)] : List (Key × Dz.Slot)).find? fun kv => decide (kv.1 = kyE)).map (·.2) = some s4 := by
  rw [List.find?_cons_of_neg (by simp [ne_UE]), List.find?_cons_of_neg (by simp [ne_GE]), List.find?_cons_of_neg (by simp [ne_TE]), List.find?_cons_of_pos (by simp)]
  rfl
end
def pgF (u g : Addr) (pg : Pg) : OD := .dic [(kyU, .val (.ref u)), (kyG, .val (.ref g)), (kyT, .dat (oI pg.tg)), (kyE, .dat (oI pg.en))]
/-- the page stands owned: its dict at a, its two lists at u and g -/
structure PgO (O : OH) (a u g : Addr) (pg : Pg) : Prop where
  ha : O a = some (pgF u g pg)
  hu : O u = some (lO (pg.up.map oI))
  hg : O g = some (lO (pg.gone.map .bl))
  au : a ≠ u
  ag : a ≠ g
  ug : u ≠ g
def upI (pg : Pg) (x : Int) : Int := (pg.up.getD x.toNat none).getD 0
structure WF (pg : Pg) : Prop where
  len : pg.gone.length = pg.up.length
  up : ∀ i : Nat, 1 ≤ i → i < pg.up.length → ∃ y, pg.up[i]? = some (some y) ∧ 0 ≤ y ∧ y < pg.up.length
  sz : pg.up.length ≤ 100
def there (pg : Pg) (x : Int) : Bool := (decide (0 ≤ x) && decide (x < pg.up.length)) && !(pg.gone.getD x.toNat false)
def goW (pg : Pg) (y : Int) : Nat → Int → Bool
  | 0, _ => false
  | n + 1, x => if x = y then true else if x = 0 then false else goW pg y n (upI pg x)
def within (pg : Pg) (x y : Int) : Bool := goW pg y (pg.up.length + 1) x
def numP (pg : Pg) (x : Int) : Int := if there pg x = true then (if x = 1 then 3 else 1 + (if within pg x 1 = true then 1 else 0)) else 0
def curP (pg : Pg) : Option Int := match pg.tg with
  | some t => if there pg t = true then some t else none
  | none => none
theorem ixU {n : Nat} {i : Int} (h0 : 0 ≤ i) (h1 : i < n) : ixN n i = some i.toNat := by
  unfold ixN
  simp only [h0, h1]
  first | rfl | simp [h0, h1] | (split <;> first | rfl | omega)
theorem atO {α : Type} {f : α → D} {xs : List α} {i : Int} {x : α} (h0 : 0 ≤ i) (h : xs[i.toNat]? = some x) : atI ((xs.map f).map Dz.Slot.dat) i = some (.dat (f x)) := by
  have hl := (List.getElem?_eq_some_iff.mp h).1
  unfold atI
  rw [ixU h0 (by rw [List.length_map, List.length_map]; omega)]
  show ((xs.map f).map Dz.Slot.dat)[i.toNat]? = _
  rw [List.getElem?_map, List.getElem?_map, h]
  rfl
theorem WF.g {pg : Pg} (h : WF pg) {x : Int} (h0 : 0 ≤ x) (h1 : x < pg.up.length) : pg.gone[x.toNat]? = some (pg.gone.getD x.toNat false) := by
  have hl : x.toNat < pg.gone.length := by rw [h.len]; omega
  rw [List.getElem?_eq_getElem hl, List.getD_eq_getElem?_getD, List.getElem?_eq_getElem hl]
  rfl
theorem WF.u {pg : Pg} (h : WF pg) {x : Int} (h0 : x ≠ 0) (h1 : 0 ≤ x) (h2 : x < pg.up.length) : pg.up[x.toNat]? = some (some (upI pg x)) ∧ 0 ≤ upI pg x ∧ upI pg x < pg.up.length := by
  obtain ⟨y, e, y0, y1⟩ := h.up x.toNat (by omega) (by omega)
  have q : upI pg x = y := by
    unfold upI
    rw [List.getD_eq_getElem?_getD, e]
    rfl
  rw [q]
  exact ⟨e, y0, y1⟩
section
variable {P : Program} {w : World} {K : PySem.W.Frag} {mg : Str → Option Value} {base : Heap} {T : List Addr} {X : Cx} {ρ : List Dz.Slot} {O O1 : OH} {e : Expr} {pos kp : Pos} {a u g : Addr} {pg : Pg} {k j : Nat}
theorem dv_up (hr : Room k X.A) (H : PgO O1 a u g pg) (ha : DV T X e ρ O (.val (.ref a)) O1) (hs : NoSl (.Constant (.str "up") j kp) := by intro _ _; rfl) : DV T X (.Subscript e (.Constant (.str "up") j kp) pos) ρ O (.val (.ref u)) O1 :=
  dv_dgetO hr (key := kyU) ha de_str keyS H.ha fd_U hs
theorem dv_gone (hr : Room k X.A) (H : PgO O1 a u g pg) (ha : DV T X e ρ O (.val (.ref a)) O1) (hs : NoSl (.Constant (.str "gone") j kp) := by intro _ _; rfl) : DV T X (.Subscript e (.Constant (.str "gone") j kp) pos) ρ O (.val (.ref g)) O1 :=
  dv_dgetO hr (key := kyG) ha de_str keyS H.ha fd_G hs
theorem de_tg (hr : Room k X.A) (H : PgO O1 a u g pg) (ha : DV T X e ρ O (.val (.ref a)) O1) (hs : NoSl (.Constant (.str "target") j kp) := by intro _ _; rfl) : DE T X (.Subscript e (.Constant (.str "target") j kp) pos) ρ O (oI pg.tg) O1 :=
  DV.de (dv_dgetO hr (key := kyT) ha de_str keyS H.ha fd_T hs)
theorem de_en (hr : Room k X.A) (H : PgO O1 a u g pg) (ha : DV T X e ρ O (.val (.ref a)) O1) (hs : NoSl (.Constant (.str "entered") j kp) := by intro _ _; rfl) : DE T X (.Subscript e (.Constant (.str "entered") j kp) pos) ρ O (oI pg.en) O1 :=
  DV.de (dv_dgetO hr (key := kyE) ha de_str keyS H.ha fd_E hs)
def pThere (ss : List Dz.Slot) (O : OH) (d : D) (O' : OH) : Prop := ∃ a u g pg x, ss = [.val (.ref a), .dat (.int x)] ∧ PgO O a u g pg ∧ WF pg ∧ d = .bl (there pg x) ∧ O' = O
theorem scThere : FnScope ["p", "x"] ["p", "x"] (defScope s_law_is_there) := ⟨rfl, rfl, rfl, by decide +kernel, rfl, by decide +kernel, by decide +kernel⟩
theorem ok_pthere {f : Addr} {fd : FuncData} {cdv : Value} (F : FunC K "_law_is_there" "_law_is_there" s_law_is_there f fd cdv) (L : Blt mg) : FnOk P w K mg base CX0 1 f fd ["p", "x"] (spF T K pThere) := by
  refine fn_ok (CE := (0 : Addr)) (R := pThere) F scThere (fun ss O d O' ⟨_, _, _, _, _, h, _⟩ => by rw [h]; rfl) fun A outer s H E ss O d O' hr h => ?_
  obtain ⟨a, u, g, pg, x, h1, hP, hW, h2, h3⟩ := h
  subst h1 h2 h3
  have el : ((pg.up.map oI).map Dz.Slot.dat).length = pg.up.length := by rw [List.length_map, List.length_map]
  refine ds_one (d1_ret (s := .dat (.bl (there pg x))) (DE.dv (de_and (p := decide (0 ≤ x) && decide (x < pg.up.length)) (q := !(pg.gone.getD x.toNat false)) (de_chain op_le op_lt de_int (de_var 1) (rop_I0 fun _ => .bl _) (DE.cast (de_lenO L.len (dv_up hr hP (dv_var 0 rfl)) hP.hu) (by rw [el])) (rop_I0 fun _ => .bl _)) fun z => ?_)) ⟨rfl, rfl⟩)
  have z1 := (Bool.and_eq_true _ _).mp z
  have x0 := of_decide_eq_true z1.1
  have x1 := of_decide_eq_true z1.2
  exact de_one (de_not (DV.de (dv_ixOG (dv_gone hr hP (dv_var 0 rfl)) (de_var 1) hP.hg (atO (f := D.bl) x0 (hW.g x0 x1)))))
def pWithin (ss : List Dz.Slot) (O : OH) (d : D) (O' : OH) : Prop := ∃ a u g pg x y, ss = [.val (.ref a), .dat (.int x), .dat (.int y)] ∧ PgO O a u g pg ∧ WF pg ∧ (0 ≤ x ∧ x < pg.up.length) ∧ d = .bl (within pg x y) ∧ O' = O
theorem scWithin : FnScope ["p", "x", "y", "turn"] ["p", "x", "y"] (defScope s_law_is_within) := ⟨rfl, rfl, rfl, by decide +kernel, rfl, by decide +kernel, by decide +kernel⟩
theorem ok_pwithin {f : Addr} {fd : FuncData} {cdv : Value} (F : FunC K "_law_is_within" "_law_is_within" s_law_is_within f fd cdv) (L : Blt mg) : FnOk P w K mg base CX0 1 f fd ["p", "x", "y"] (spF T K pWithin) := by
  refine fn_ok (CE := (0 : Addr)) (R := pWithin) F scWithin (fun ss O d O' ⟨_, _, _, _, _, _, h, _⟩ => by rw [h]; rfl) fun A outer s H E ss O d O' hr h => ?_
  obtain ⟨a, u, g, pg, x, y, h1, hP, hW, hx, h2, h3⟩ := h
  subst h1 h2 h3
  have el : ((pg.up.map oI).map Dz.Slot.dat).length = pg.up.length := by rw [List.length_map, List.length_map]
  have hsz := hW.sz
  refine ds_cons (d1_forR 3 (m := (pg.up.length : Int) + 1) (O1 := O') (fun j ρ' O2 => ∃ x', (∃ s3, ρ' = [.val (.ref a), .dat (.int x'), .dat (.int y), s3]) ∧ O2 = O' ∧ (0 ≤ x' ∧ x' < pg.up.length) ∧ goW pg y (pg.up.length + 1 - j) x' = within pg x y)
    (de_add (DE.cast (de_lenO L.len (dv_up hr hP (dv_var 0 rfl)) hP.hu) (by rw [el])) de_int) (by omega) ⟨x, ⟨_, rfl⟩, rfl, hx, rfl⟩ scWithin.nd ?_ ?_ L.range PassesOwn.never)
  · rintro j ρ' O2 hj ⟨x', ⟨s3, rfl⟩, rfl, hx', hg⟩
    have hn : pg.up.length + 1 - j = (pg.up.length + 1 - (j + 1)) + 1 := by omega
    rw [hn, goW] at hg
    refine ds_cons (d1_if (p := decide (x' = y)) (DT.cast (dt_eq (x := .int x') (y := .int y) hr (by rfl) (by rfl) (de_var 1) (de_var 2)) (deq_int _ _)) (fun z => ds_one (d1_ret (s := .dat (.bl true)) (DE.dv de_bl) ⟨by rw [← hg, if_pos (of_decide_eq_true z)], rfl⟩)) fun z => ds_nil ?_)
    rw [if_neg (of_decide_eq_false z)] at hg
    refine ds_cons (d1_if (p := decide (x' = 0)) (DT.cast (dt_eq (x := .int x') (y := .int 0) hr (by rfl) (by rfl) (de_var 1) de_int) (deq_int _ _)) (fun z => ds_one (d1_ret (s := .dat (.bl false)) (DE.dv de_bl) ⟨by rw [← hg, if_pos (of_decide_eq_true z)], rfl⟩)) fun z => ds_nil ?_)
    rw [if_neg (of_decide_eq_false z)] at hg
    obtain ⟨q1, q2, q3⟩ := hW.u (of_decide_eq_false z) hx'.1 hx'.2
    exact ds_one (d1_set 1 (s := .dat (.int (upI pg x'))) (dv_ixOG (dv_up hr hP (dv_var 0 rfl)) (de_var 1) hP.hu (atO (f := oI) hx'.1 q1)) ⟨upI pg x', ⟨_, rfl⟩, rfl, ⟨q2, q3⟩, hg⟩ scWithin.nd)
  · rintro ρ' O2 ⟨x', ⟨s3, rfl⟩, rfl, hx', hg⟩
    have e0 : pg.up.length + 1 - ((pg.up.length : Int) + 1).toNat = 0 := by omega
    rw [e0, goW] at hg
    exact ds_one (d1_ret (s := .dat (.bl false)) (DE.dv de_bl) ⟨by rw [← hg], rfl⟩)
def pNumber (ss : List Dz.Slot) (O : OH) (d : D) (O' : OH) : Prop := ∃ a u g pg x, ss = [.val (.ref a), .dat (.int x)] ∧ PgO O a u g pg ∧ WF pg ∧ d = .int (numP pg x) ∧ O' = O
theorem scNumber : FnScope ["p", "x"] ["p", "x"] (defScope s_law_number) := ⟨rfl, rfl, rfl, by decide +kernel, rfl, by decide +kernel, by decide +kernel⟩
theorem there_bd {pg : Pg} {x : Int} (h : there pg x = true) : 0 ≤ x ∧ x < pg.up.length := by
  unfold there at h
  simp only [Bool.and_eq_true, decide_eq_true_eq] at h
  exact h.1
theorem ok_pnumber {f : Addr} {fd : FuncData} {cdv : Value} (F : FunC K "_law_number" "_law_number" s_law_number f fd cdv) (L : Blt mg) (G1 : HasF P w K mg base CX0 1 "_law_is_there" ["p", "x"] (spF T K pThere)) (G2 : HasF P w K mg base CX0 1 "_law_is_within" ["p", "x", "y"] (spF T K pWithin)) : FnOk P w K mg base CX0 2 f fd ["p", "x"] (spF T K pNumber) := by
  refine fn_ok (CE := (0 : Addr)) (R := pNumber) F scNumber (fun ss O d O' ⟨_, _, _, _, _, h, _⟩ => by rw [h]; rfl) fun A outer s H E ss O d O' hr h => ?_
  obtain ⟨a, u, g, pg, x, h1, hP, hW, h2, h3⟩ := h
  subst h1 h2 h3
  refine ds_cons (d1_if (p := !there pg x) (dt_not (dt_val (de_callH G1 hr (da_v (dv_var 0 rfl) (da_d (de_var 1) da_nil)) ⟨a, u, g, pg, x, rfl, hP, hW, rfl, rfl⟩))) (fun z => ds_one (d1_ret (s := .dat (.int 0)) (DE.dv de_int) ⟨by unfold numP; rw [if_neg (by simpa using z)], rfl⟩)) fun z => ds_nil ?_)
  have zt : there pg x = true := by simpa using z
  refine ds_cons (d1_if (p := decide (x = 1)) (DT.cast (dt_eq (x := .int x) (y := .int 1) hr (by rfl) (by rfl) (de_var 1) de_int) (deq_int _ _)) (fun z => ds_one (d1_ret (s := .dat (.int 3)) (DE.dv de_int) ⟨by unfold numP; rw [if_pos zt, if_pos (of_decide_eq_true z)], rfl⟩)) fun z => ds_nil ?_)
  exact ds_one (d1_ret (s := .dat (.int (1 + (if within pg x 1 = true then 1 else 0)))) (DE.dv (de_add de_int (de_intB L.int (de_callH G2 hr (da_v (dv_var 0 rfl) (da_d (de_var 1) (da_d de_int da_nil))) ⟨a, u, g, pg, x, 1, rfl, hP, hW, there_bd zt, rfl, rfl⟩)))) ⟨by unfold numP; rw [if_pos zt, if_neg (of_decide_eq_false z)], rfl⟩)
def pCurrent (ss : List Dz.Slot) (O : OH) (d : D) (O' : OH) : Prop := ∃ a u g pg, ss = [.val (.ref a)] ∧ PgO O a u g pg ∧ WF pg ∧ d = oI (curP pg) ∧ O' = O
theorem scCurrent : FnScope ["p"] ["p"] (defScope s_law_current) := ⟨rfl, rfl, rfl, by decide +kernel, rfl, by decide +kernel, by decide +kernel⟩
theorem ok_pcurrent {f : Addr} {fd : FuncData} {cdv : Value} (F : FunC K "_law_current" "_law_current" s_law_current f fd cdv) (G1 : HasF P w K mg base CX0 1 "_law_is_there" ["p", "x"] (spF T K pThere)) : FnOk P w K mg base CX0 2 f fd ["p"] (spF T K pCurrent) := by
  refine fn_ok (CE := (0 : Addr)) (R := pCurrent) F scCurrent (fun ss O d O' ⟨_, _, _, _, h, _⟩ => by rw [h]; rfl) fun A outer s H E ss O d O' hr h => ?_
  obtain ⟨a, u, g, pg, h1, hP, hW, h2, h3⟩ := h
  subst h1 h2 h3
  cases ht : pg.tg with
  | none =>
    refine ds_cons (d1_if (p := false) (DW.dt (dw_and (p := false) (q := false) (DT.cast (dt_notN (x := .non) (DE.cast (de_tg hr hP (dv_var 0 rfl)) (by rw [ht]; rfl)) de_non) rfl) fun z => by cases z)) (fun z => by cases z) fun _ => ds_nil ?_)
    exact ds_one (d1_ret (s := .dat .non) (DE.dv de_non) ⟨by unfold curP; rw [ht]; rfl, rfl⟩)
  | some t =>
    refine ds_cons (d1_if (p := there pg t) (DT.cast (DW.dt (dw_and (p := true) (q := there pg t) (DT.cast (dt_notN (x := .int t) (DE.cast (de_tg hr hP (dv_var 0 rfl)) (by rw [ht]; rfl)) de_non) rfl) fun _ => dw_and1 (dt_val (de_callH G1 hr (da_v (dv_var 0 rfl) (da_d (DE.cast (de_tg hr hP (dv_var 0 rfl)) (by rw [ht]; rfl)) da_nil)) ⟨a, u, g, pg, t, rfl, hP, hW, rfl, rfl⟩)))) (Bool.true_and _)) (fun z => ?_) fun z => ds_nil ?_)
    · exact ds_one (d1_ret (s := .dat (.int t)) (DE.dv (DE.cast (de_tg hr hP (dv_var 0 rfl)) (by rw [ht]; rfl))) ⟨by unfold curP; rw [ht]; show Dz.Slot.dat (D.int t) = Dz.Slot.dat (oI (if there pg t = true then some t else none)); rw [if_pos z]; rfl, rfl⟩)
    · exact ds_one (d1_ret (s := .dat .non) (DE.dv de_non) ⟨by unfold curP; rw [ht]; show Dz.Slot.dat D.non = Dz.Slot.dat (oI (if there pg t = true then some t else none)); rw [if_neg (by simpa using z)]; rfl, rfl⟩)
end
end Dg

namespace Dg
open PySem PySem.Spec PyProof.Rows L2 GxR Dz
def pgPut (O : OH) (a u g : Addr) (pg : Pg) : OH := put (put (put O u (lO (pg.up.map oI))) g (lO (pg.gone.map .bl))) a (pgF u g pg)
theorem pgput_ok {O : OH} {a u g : Addr} {pg : Pg} (h1 : a ≠ u) (h2 : a ≠ g) (h3 : u ≠ g) : PgO (pgPut O a u g pg) a u g pg where
  ha := put_same
  hu := by unfold pgPut; rw [put_ne (Ne.symm h1), put_ne h3, put_same]
  hg := by unfold pgPut; rw [put_ne (Ne.symm h2), put_same]
  au := h1
  ag := h2
  ug := h3
theorem pgput_ne {O : OH} {a u g c : Addr} {pg : Pg} (h1 : c ≠ a) (h2 : c ≠ u) (h3 : c ≠ g) : pgPut O a u g pg c = O c := by
  unfold pgPut
  rw [put_ne h1, put_ne h3, put_ne h2]
theorem pgput_put {O : OH} {a u g : Addr} {pg0 pg pg' : Pg} (h : PgO O a u g pg0) : pgPut (pgPut O a u g pg) a u g pg' = pgPut O a u g pg' := by
  funext c
  have n1 := h.au
  have n2 := h.ag
  have n3 := h.ug
  by_cases c1 : c = a
  · subst c1
    rw [show pgPut (pgPut O c u g pg) c u g pg' c = some (pgF u g pg') from put_same, show pgPut O c u g pg' c = some (pgF u g pg') from put_same]
  · by_cases c2 : c = u
    · subst c2
      rw [(pgput_ok (O := pgPut O a c g pg) (pg := pg') n1 n2 n3).hu, (pgput_ok (O := O) (pg := pg') n1 n2 n3).hu]
    · by_cases c3 : c = g
      · subst c3
        rw [(pgput_ok (O := pgPut O a u c pg) (pg := pg') n1 n2 n3).hg, (pgput_ok (O := O) (pg := pg') n1 n2 n3).hg]
      · rw [pgput_ne c1 c2 c3, pgput_ne c1 c2 c3, pgput_ne c1 c2 c3]
theorem PgO.self {O : OH} {a u g : Addr} {pg : Pg} (h : PgO O a u g pg) : pgPut O a u g pg = O := by
  unfold pgPut
  rw [put_self h.hu, put_self h.hg, put_self h.ha]
theorem PgO.setU {O : OH} {a u g : Addr} {pg : Pg} (h : PgO O a u g pg) (us : List (Option Int)) : put O u (lO (us.map oI)) = pgPut O a u g { pg with up := us } := by
  unfold pgPut
  have e1 : put O u (lO (us.map oI)) g = some (lO (pg.gone.map .bl)) := by rw [put_ne (Ne.symm h.ug)]; exact h.hg
  have e2 : put O u (lO (us.map oI)) a = some (pgF u g pg) := by rw [put_ne h.au]; exact h.ha
  show _ = put (put (put O u (lO (us.map oI))) g (lO (pg.gone.map .bl))) a (pgF u g pg)
  rw [put_self e1, put_self e2]
theorem PgO.setG {O : OH} {a u g : Addr} {pg : Pg} (h : PgO O a u g pg) (gs : List Bool) : put O g (lO (gs.map .bl)) = pgPut O a u g { pg with gone := gs } := by
  unfold pgPut
  have e2 : put O g (lO (gs.map .bl)) a = some (pgF u g pg) := by rw [put_ne h.ag]; exact h.ha
  show _ = put (put (put O u (lO (pg.up.map oI))) g (lO (gs.map .bl))) a (pgF u g pg)
  rw [put_self h.hu, put_self e2]
theorem PgO.setA {O : OH} {a u g : Addr} {pg : Pg} (h : PgO O a u g pg) (t e : Option Int) : put O a (pgF u g { pg with tg := t, en := e }) = pgPut O a u g { pg with tg := t, en := e } := by
  unfold pgPut
  show _ = put (put (put O u (lO (pg.up.map oI))) g (lO (pg.gone.map .bl))) a (pgF u g { pg with tg := t, en := e })
  rw [put_self h.hu, put_self h.hg]
theorem PgO.put {O : OH} {a u g : Addr} {pg : Pg} (h : PgO O a u g pg) (pg' : Pg) : PgO (pgPut O a u g pg') a u g pg' := pgput_ok h.au h.ag h.ug
/-- gone with x, before j -/
def remG (pg : Pg) (x : Int) (j : Nat) : List Bool := (List.range pg.up.length).map fun i => pg.gone.getD i false || (decide (i < j) && (decide ((i : Int) ≠ x) && within pg (i : Int) x))
def remP (pg : Pg) (x : Int) : Pg := { pg with gone := (remG pg x pg.up.length).set x.toNat true }
theorem remG_len {pg : Pg} {x : Int} {j : Nat} : (remG pg x j).length = pg.up.length := by
  unfold remG
  rw [List.length_map, List.length_range]
theorem remG_at {pg : Pg} {x : Int} {j i : Nat} (h : i < pg.up.length) : (remG pg x j)[i]? = some (pg.gone.getD i false || (decide (i < j) && (decide ((i : Int) ≠ x) && within pg (i : Int) x))) := by
  unfold remG
  rw [List.getElem?_map, List.getElem?_range h]
  rfl
theorem remG_0 {pg : Pg} (h : WF pg) (x : Int) : remG pg x 0 = pg.gone := by
  apply List.ext_getElem?
  intro i
  by_cases hi : i < pg.up.length
  · rw [remG_at hi]
    have hl : i < pg.gone.length := by rw [h.len]; exact hi
    rw [List.getElem?_eq_getElem hl, List.getD_eq_getElem?_getD, List.getElem?_eq_getElem hl]
    simp
  · rw [List.getElem?_eq_none (by rw [remG_len]; omega), List.getElem?_eq_none (by rw [h.len]; omega)]
theorem remG_t {pg : Pg} {x : Int} {j : Nat} (h : j < pg.up.length) (q : (!(remG pg x j).getD j false && (decide ((j : Int) ≠ x) && within pg (j : Int) x)) = true) : remG pg x (j + 1) = (remG pg x j).set j true := by
  have q' := (Bool.and_eq_true _ _).mp q
  apply List.ext_getElem?
  intro i
  by_cases hi : i < pg.up.length
  · rw [remG_at hi, List.getElem?_set]
    by_cases e : j = i
    · subst e
      rw [if_pos rfl, if_pos (by rw [remG_len]; exact h), q'.2]
      simp
    · rw [if_neg e, remG_at hi]
      have e2 : decide (i < j + 1) = decide (i < j) := decide_eq_decide.mpr ⟨fun z => by omega, fun z => by omega⟩
      rw [e2]
  · rw [List.getElem?_eq_none (by rw [remG_len]; omega), List.getElem?_eq_none (by rw [List.length_set, remG_len]; omega)]
theorem remG_f {pg : Pg} {x : Int} {j : Nat} (h : j < pg.up.length) (q : (!(remG pg x j).getD j false && (decide ((j : Int) ≠ x) && within pg (j : Int) x)) = false) : remG pg x (j + 1) = remG pg x j := by
  have hj := remG_at (pg := pg) (x := x) (j := j) h
  rw [List.getD_eq_getElem?_getD, hj] at q
  apply List.ext_getElem?
  intro i
  by_cases hi : i < pg.up.length
  · rw [remG_at hi, remG_at hi]
    by_cases e : j = i
    · subst e
      have e1 : decide (j < j) = false := decide_eq_false (Nat.lt_irrefl _)
      have e2 : decide (j < j + 1) = true := decide_eq_true (Nat.lt_succ_self _)
      rw [e1, e2]
      rw [e1] at q
      have q' : (!(pg.gone.getD j false || (false && (decide ((j : Int) ≠ x) && within pg (j : Int) x))) && (decide ((j : Int) ≠ x) && within pg (j : Int) x)) = false := q
      revert q'
      generalize pg.gone.getD j false = b1
      generalize (decide ((j : Int) ≠ x) && within pg (j : Int) x) = b2
      revert b1 b2
      decide
    · have e2 : decide (i < j + 1) = decide (i < j) := decide_eq_decide.mpr ⟨fun z => by omega, fun z => by omega⟩
      rw [e2]
  · rw [List.getElem?_eq_none (by rw [remG_len]; omega), List.getElem?_eq_none (by rw [remG_len]; omega)]
end Dg

namespace Dg
open PySem PySem.Spec PyProof.Rows L2 GxR Dz
theorem goW_congr {pg pg' : Pg} (h : pg'.up = pg.up) (y : Int) : ∀ n x, goW pg' y n x = goW pg y n x
  | 0, _ => rfl
  | n + 1, x => by
    rw [goW, goW, goW_congr h y n]
    unfold upI
    rw [h]
theorem within_congr {pg pg' : Pg} (h : pg'.up = pg.up) (x y : Int) : within pg' x y = within pg x y := by
  unfold within
  rw [goW_congr h, h]
theorem WF.gset {pg : Pg} (h : WF pg) {gs : List Bool} (hl : gs.length = pg.up.length) : WF { pg with gone := gs } := ⟨hl, h.up, h.sz⟩
/-- the steps of a history -/
inductive Stp where
  | add (x : Int) | rem (x : Int) | plc (x y : Int) | pnt (x s : Int) | slp (x s : Int) | out (s : Int) | drp (b : Bool) (s : Int) | cnc (b : Bool) (s : Int)
def stD : Stp → D
  | .add x => .tup [.str "add", .int x]
  | .rem x => .tup [.str "remove", .int x]
  | .plc x y => .tup [.str "place", .int x, .int y]
  | .pnt x s => .tup [.str "point", .int x, .int s]
  | .slp x s => .tup [.str "slip", .int x, .int s]
  | .out s => .tup [.str "out", .int s]
  | .drp b s => .tup [.str "drop", .bl b, .int s]
  | .cnc b s => .tup [.str "cancel", .bl b, .int s]
def chP (pg : Pg) : Stp → Pg
  | .add x => { pg with up := pg.up ++ [some x], gone := pg.gone ++ [false] }
  | .rem x => remP pg x
  | .plc x y => { pg with up := pg.up.set x.toNat (some y) }
  | _ => pg
/-- the changes that a page can take -/
def ChOk (pg : Pg) : Stp → Prop
  | .add x => 0 ≤ x ∧ x < pg.up.length
  | .rem x => 0 ≤ x ∧ x < pg.up.length
  | .plc x y => (0 ≤ x ∧ x < pg.up.length) ∧ (0 ≤ y ∧ y < pg.up.length)
  | _ => False
def pg0 : Pg := ⟨[none, some 0], [false, false], none, none⟩
section
variable {P : Program} {w : World} {K : PySem.W.Frag} {mg : Str → Option Value} {base : Heap} {T : List Addr} {CE : Addr}
def pLPage : PR := fun ss O Rn Rx => ss = [] ∧ Rn = (fun v O' => ∃ a u g, O a = none ∧ O u = none ∧ O g = none ∧ a ≠ u ∧ a ≠ g ∧ u ≠ g ∧ v = .val (.ref a) ∧ O' = pgPut O a u g pg0) ∧ Rx = fun _ _ => False
theorem scLPage : FnScope [] [] (defScope s_law_page) := ⟨rfl, rfl, rfl, by decide +kernel, rfl, by decide +kernel, by decide +kernel⟩
def pgR (O : OH) (ss : List (Key × Dz.Slot)) (O1 : OH) : Prop := ∃ u g, O u = none ∧ O g = none ∧ u ≠ g ∧ ss = [(kyU, .val (.ref u)), (kyG, .val (.ref g)), (kyT, .dat .non), (kyE, .dat .non)] ∧ O1 = put (put O u (lO (pg0.up.map oI))) g (lO (pg0.gone.map .bl))
theorem ok_lpage {f : Addr} {fd : FuncData} {cdv : Value} (F : FunC K "_law_page" "_law_page" s_law_page f fd cdv) : FnOk P w K mg base (L2.CX P w) 1 f fd [] (spX T K CE pLPage) := by
  refine fn_okX (R := pLPage) F scLPage (fun ss O Rn Rx ⟨h, _⟩ => by rw [h]; rfl) fun A outer s H E ss O Rn Rx hr h => ?_
  obtain ⟨e1, eN, eX⟩ := h
  subst e1 eN eX
  refine ds_one (d1_retDic (R := pgR O) (kes := [(("up" : Str), _), (("gone" : Str), _), (("target" : Str), _), (("entered" : Str), _)]) (pps_cons pe_str pe_we (pps_cons pe_str pe_we (pps_cons pe_str pe_we (pps_cons pe_str pe_we pps_nil)))) ?_ ?_ ?_)
  · refine dps_cons (CE := CE) (k := "up") (dvx_lst (ss := [.dat .non, .dat (.int 0)]) (da_d de_non (da_d de_int da_nil))) fun s1 O1 ⟨u, hu, es, eO⟩ => ?_
    subst es eO
    refine dps_cons (CE := CE) (k := "gone") (dvx_lst (ss := [.dat (.bl false), .dat (.bl false)]) (da_d de_bl (da_d de_bl da_nil))) fun s2 O2 ⟨g, hg, es, eO⟩ => ?_
    subst es eO
    have ug : u ≠ g := fun z => by rw [← z, put_same] at hg; cases hg
    rw [put_ne (Ne.symm ug)] at hg
    refine dps_cons (CE := CE) (k := "target") (dvx_dv (DE.dv de_non)) fun s3 O3 ⟨es, eO⟩ => ?_
    subst es eO
    refine dps_cons (CE := CE) (k := "entered") (dvx_dv (DE.dv de_non)) fun s4 O4 ⟨es, eO⟩ => ?_
    subst es eO
    exact dps_nil ⟨u, g, hu, hg, ug, rfl, rfl⟩
  · rintro ss O1 a ⟨u, g, hu, hg, ug, rfl, rfl⟩ ha
    have ag : a ≠ g := fun z => by rw [z, put_same] at ha; cases ha
    rw [put_ne ag] at ha
    have au : a ≠ u := fun z => by rw [z, put_same] at ha; cases ha
    rw [put_ne au] at ha
    exact ⟨a, u, g, ha, hu, hg, au, ag, ug, rfl, rfl⟩
  · rintro ss O1 ⟨u, g, hu, hg, ug, rfl, rfl⟩
    refine ⟨?_, by show 4 ≤ 15; decide⟩
    show [kyU, kyG, kyT, kyE].Nodup
    decide +kernel
theorem wf0 : WF pg0 := ⟨rfl, fun i h1 h2 => by
  have e : i = 1 := by
    have : i < 2 := h2
    omega
  subst e
  exact ⟨0, rfl, by decide, by show (0 : Int) < 2; decide⟩, by show 2 ≤ 100; decide⟩
def pRemoved (ss : List Dz.Slot) (O : OH) (d : D) (O' : OH) : Prop := ∃ a u g pg x, ss = [.val (.ref a), .dat (.int x)] ∧ PgO O a u g pg ∧ WF pg ∧ (0 ≤ x ∧ x < pg.up.length) ∧ d = .non ∧ O' = pgPut O a u g (remP pg x)
theorem scRemoved : FnScope ["p", "x", "y"] ["p", "x"] (defScope s_law_removed) := ⟨rfl, rfl, rfl, by decide +kernel, rfl, by decide +kernel, by decide +kernel⟩
theorem ok_removed {f : Addr} {fd : FuncData} {cdv : Value} (F : FunC K "_law_removed" "_law_removed" s_law_removed f fd cdv) (L : Blt mg) (G : HasF P w K mg base CX0 1 "_law_is_within" ["p", "x", "y"] (spF T K pWithin)) : FnOk P w K mg base CX0 2 f fd ["p", "x"] (spF T K pRemoved) := by
  refine fn_ok (CE := (0 : Addr)) (R := pRemoved) F scRemoved (fun ss O d O' ⟨_, _, _, _, _, h, _⟩ => by rw [h]; rfl) fun A outer s H E ss O d O' hr h => ?_
  obtain ⟨a, u, g, pg, x, h1, hP, hW, hx, h2, h3⟩ := h
  subst h1 h2 h3
  have el : ((pg.up.map oI).map Dz.Slot.dat).length = pg.up.length := by rw [List.length_map, List.length_map]
  have hsz := hW.sz
  refine ds_cons (d1_forR 2 (m := (pg.up.length : Int)) (O1 := O) (fun j ρ' O2 => (∃ s2, ρ' = [.val (.ref a), .dat (.int x), s2]) ∧ O2 = pgPut O a u g { pg with gone := remG pg x j })
    (DE.cast (de_lenO L.len (dv_up hr hP (dv_var 0 rfl)) hP.hu) (by rw [el])) (by omega) ⟨⟨_, rfl⟩, by rw [remG_0 hW]; exact hP.self.symm⟩ scRemoved.nd ?_ ?_ L.range PassesOwn.never)
  · rintro j ρ' O2 hj ⟨⟨s2, rfl⟩, rfl⟩
    have hj' : j < pg.up.length := by omega
    have hP' := hP.put { pg with gone := remG pg x j }
    have hW' := hW.gset (gs := remG pg x j) remG_len
    have gj : (remG pg x j)[j]? = some ((remG pg x j).getD j false) := by
      have hl : j < (remG pg x j).length := by rw [remG_len]; exact hj'
      rw [List.getElem?_eq_getElem hl, List.getD_eq_getElem?_getD, List.getElem?_eq_getElem hl]
      rfl
    have g1 : (remG pg x j)[(j : Int).toNat]? = some ((remG pg x j).getD j false) := by rw [Int.toNat_natCast]; exact gj
    refine ds_one (d1_if (p := !(remG pg x j).getD j false && (decide ((j : Int) ≠ x) && within pg (j : Int) x)) (O1 := pgPut O a u g { pg with gone := remG pg x j }) (DW.dt (dw_and (dt_not (dt_val (DV.de (dv_ixOG (dv_gone hr hP' (dv_var 0 rfl)) (de_var 2) hP'.hg (atO (f := D.bl) (by omega) g1))))) fun _ => dw_and (DT.cast (dt_ne (x := .int (j : Int)) (y := .int x) hr (by rfl) (by rfl) (de_var 2) (de_var 1)) (by rw [deq_int]; simp)) fun _ => dw_and1 (dt_val (de_callH G hr (da_v (dv_var 0 rfl) (da_d (de_var 2) (da_d (de_var 1) da_nil))) ⟨a, u, g, _, _, _, rfl, hP', hW', ⟨by omega, hj⟩, congrArg D.bl (within_congr (pg := pg) (pg' := { pg with gone := remG pg x j }) rfl _ _).symm, rfl⟩)))) (fun z => ?_) fun z => ds_nil ⟨⟨_, rfl⟩, by rw [remG_f hj' z]⟩)
    refine ds_one (d1_setitemG (s := .dat (.bl true)) (k := (j : Int)) (j := j) (DE.dv de_bl) (dv_gone hr hP' (dv_var 0 rfl)) (de_var 2) hP'.hg (by rw [List.length_map, List.length_map]; rw [ixU (by omega) (by show (j : Int) < ((remG pg x j).length : Int); rw [remG_len]; exact hj)]; rw [Int.toNat_natCast]) ⟨⟨_, rfl⟩, ?_⟩)
    have es : (((remG pg x j).map D.bl).map Dz.Slot.dat).set j (.dat (.bl true)) = (((remG pg x j).set j true).map D.bl).map .dat := by rw [List.map_set, List.map_set]
    show put _ g (.lst ((((remG pg x j).map D.bl).map Dz.Slot.dat).set j (.dat (.bl true)))) = _
    rw [es, show (OD.lst ((((remG pg x j).set j true).map D.bl).map .dat)) = lO (((remG pg x j).set j true).map .bl) from rfl, hP'.setG, pgput_put hP, remG_t hj' z]
  · rintro ρ' O2 ⟨⟨s2, rfl⟩, rfl⟩
    rw [Int.toNat_natCast]
    have hP' := hP.put { pg with gone := remG pg x pg.up.length }
    refine ds_one (d1_setitemG (s := .dat (.bl true)) (k := x) (j := x.toNat) (DE.dv de_bl) (dv_gone hr hP' (dv_var 0 rfl)) (de_var 1) hP'.hg (by rw [List.length_map, List.length_map]; rw [ixU hx.1 (by show x < ((remG pg x pg.up.length).length : Int); rw [remG_len]; exact hx.2)]) ⟨rfl, ?_⟩)
    have es : (((remG pg x pg.up.length).map D.bl).map Dz.Slot.dat).set x.toNat (.dat (.bl true)) = (((remG pg x pg.up.length).set x.toNat true).map D.bl).map .dat := by rw [List.map_set, List.map_set]
    show put _ g (.lst ((((remG pg x pg.up.length).map D.bl).map Dz.Slot.dat).set x.toNat (.dat (.bl true)))) = _
    rw [es, show (OD.lst ((((remG pg x pg.up.length).set x.toNat true).map D.bl).map .dat)) = lO (((remG pg x pg.up.length).set x.toNat true).map .bl) from rfl, hP'.setG, pgput_put hP]
    rfl
end
end Dg

namespace Dg
open PySem PySem.Spec PyProof.Rows L2 GxR Dz
theorem dq {a b : Str} {p : Bool} (h : decide (a = b) = p) : deq (.str a) (.str b) = p := by rw [deq_str]; exact h
theorem dq3 {a x y z : Str} {p : Bool} (h : (decide (x = a) || (decide (y = a) || decide (z = a))) = p) : ([D.str x, .str y, .str z].any fun q => deq q (.str a)) = p := by
  rw [List.any_cons, List.any_cons, List.any_cons, List.any_nil, deq_str, deq_str, deq_str, Bool.or_false]
  exact h
theorem dq2 {a x y : Str} {p : Bool} (h : (decide (x = a) || decide (y = a)) = p) : ([D.str x, .str y].any fun q => deq q (.str a)) = p := by
  rw [List.any_cons, List.any_cons, List.any_nil, deq_str, deq_str, Bool.or_false]
  exact h
theorem deq_oI (a b : Option Int) : deq (oI a) (oI b) = decide (a = b) := by
  cases a with
  | none =>
    cases b with
    | none => decide +kernel
    | some j => simp [deq, oI, D.py, PyData.eqv]
  | some i =>
    cases b with
    | none => simp [deq, oI, D.py, PyData.eqv]
    | some j =>
      show deq (.int i) (.int j) = _
      rw [deq_int]
      by_cases h : i = j
      · subst h; simp
      · simp [h]
theorem ok_oI (a : Option Int) (n : Nat) : D.ok n (oI a) = true := by cases a <;> cases n <;> rfl
/-- the children that c has on the page -/
def kidF (pg : Pg) (c : Option Int) (j : Nat) : Option D := if (decide (pg.up.getD j none = c) && !pg.gone.getD j false) = true then some (.int (j : Int)) else none
def kids (pg : Pg) (c : Option Int) : List D := (List.range pg.up.length).filterMap (kidF pg c)
theorem kids_ok (pg : Pg) (c : Option Int) : D.ok 32 (.lst (kids pg c)) = true := ok_lst fun d hd => by
  obtain ⟨j, _, hj⟩ := List.mem_filterMap.mp hd
  unfold kidF at hj
  split at hj
  · cases hj
    rfl
  · cases hj
theorem deq_nil (ds : List D) : deq (.lst ds) (.lst []) = ds.isEmpty := by
  cases ds <;> simp [deq, D.py, D.pys, PyData.eqv, PyData.eqvAll]
def slipB (pg : Pg) (x : Int) : Bool := match curP pg with
  | some c => decide (2 ≤ c) && ((kids pg (some c)).isEmpty && !decide (x = c))
  | none => false
def canP (pg : Pg) : Stp → Bool
  | .add x => there pg x
  | .rem x => there pg x && decide (2 ≤ x)
  | .plc x y => there pg x && (if x < 2 then false else there pg y && !within pg y x)
  | .pnt x _ => there pg x
  | .slp x _ => there pg x && slipB pg x
  | _ => true
theorem WF.ga {pg : Pg} (h : WF pg) {j : Nat} (hj : j < pg.up.length) : pg.gone[j]? = some (pg.gone.getD j false) := by
  have hl : j < pg.gone.length := by rw [h.len]; exact hj
  rw [List.getElem?_eq_getElem hl, List.getD_eq_getElem?_getD, List.getElem?_eq_getElem hl]
  rfl
theorem upA {pg : Pg} {j : Nat} (hj : j < pg.up.length) : pg.up[j]? = some (pg.up.getD j none) := by
  rw [List.getElem?_eq_getElem hj, List.getD_eq_getElem?_getD, List.getElem?_eq_getElem hj]
  rfl
section
variable {P : Program} {w : World} {K : PySem.W.Frag} {mg : Str → Option Value} {base : Heap} {T : List Addr} {CE : Addr}
def pChanges (ss : List Dz.Slot) (O : OH) (d : D) (O' : OH) : Prop := ∃ a u g pg st, ss = [.val (.ref a), .dat (stD st)] ∧ PgO O a u g pg ∧ WF pg ∧ ChOk pg st ∧ d = .non ∧ O' = pgPut O a u g (chP pg st)
theorem scChanges : FnScope ["p", "step"] ["p", "step"] (defScope s_law_changes) := ⟨rfl, rfl, rfl, by decide +kernel, rfl, by decide +kernel, by decide +kernel⟩
theorem ok_changes {f : Addr} {fd : FuncData} {cdv : Value} (F : FunC K "_law_changes" "_law_changes" s_law_changes f fd cdv) (L : Blt mg) (G : HasF P w K mg base CX0 2 "_law_removed" ["p", "x"] (spF T K pRemoved)) : FnOk P w K mg base CX0 3 f fd ["p", "step"] (spF T K pChanges) := by
  refine fn_ok (CE := (0 : Addr)) (R := pChanges) F scChanges (fun ss O d O' ⟨_, _, _, _, _, h, _⟩ => by rw [h]; rfl) fun A outer s H E ss O d O' hr h => ?_
  obtain ⟨a, u, g, pg, st, h1, hP, hW, hc, h2, h3⟩ := h
  subst h1 h2 h3
  have hr1 := hr.mono (show 1 ≤ 2 by decide)
  have hsz := hW.sz
  cases st with
  | add x =>
    refine ds_one (d1_if (p := true) (DT.cast (dt_eq (x := .str "add") (y := .str "add") hr1 (by rfl) (by rfl) (de_ixT (ds := [.str "add", .int x]) (de_var 1) de_int rfl) de_str) (dq (by decide +kernel))) (fun _ => ?_) fun z => by cases z)
    refine ds_cons (d1_appG (acc := pg.up.map oI) (d := .int x) (dv_up hr1 hP (dv_var 0 rfl)) hP.hu (de_ixT (ds := [.str "add", .int x]) (de_var 1) de_int rfl) (by rw [List.length_map]; omega) ?_)
    have e1 : put O u (.lst ((pg.up.map oI ++ [D.int x]).map .dat)) = pgPut O a u g { pg with up := pg.up ++ [some x] } := by
      rw [← hP.setU (pg.up ++ [some x])]
      have q : (pg.up.map oI ++ [D.int x]).map Dz.Slot.dat = ((pg.up ++ [some x]).map oI).map .dat := by
        rw [List.map_append (l₁ := pg.up)]
        rfl
      rw [q]
      rfl
    rw [e1]
    have hP' := hP.put { pg with up := pg.up ++ [some x] }
    refine ds_one (d1_appG (acc := pg.gone.map .bl) (d := .bl false) (dv_gone hr1 hP' (dv_var 0 rfl)) hP'.hg de_bl (by rw [List.length_map, hW.len]; omega) ⟨rfl, ?_⟩)
    have e2 : (pg.gone.map D.bl ++ [D.bl false]).map Dz.Slot.dat = ((pg.gone ++ [false]).map D.bl).map .dat := by
      rw [List.map_append (l₁ := pg.gone)]
      rfl
    rw [e2, show (OD.lst (((pg.gone ++ [false]).map D.bl).map .dat)) = lO ((pg.gone ++ [false]).map .bl) from rfl, hP'.setG, pgput_put hP]
    rfl
  | rem x =>
    refine ds_one (d1_if (p := false) (DT.cast (dt_eq (x := .str "remove") (y := .str "add") hr1 (by rfl) (by rfl) (de_ixT (ds := [.str "remove", .int x]) (de_var 1) de_int rfl) de_str) (dq (by decide +kernel))) (fun z => by cases z) fun _ => ?_)
    refine ds_one (d1_if (p := true) (DT.cast (dt_eq (x := .str "remove") (y := .str "remove") hr1 (by rfl) (by rfl) (de_ixT (ds := [.str "remove", .int x]) (de_var 1) de_int rfl) de_str) (dq (by decide +kernel))) (fun _ => ?_) fun z => by cases z)
    exact ds_one (d1_expr (s := .dat .non) (DE.dv (de_callH G hr (da_v (dv_var 0 rfl) (da_d (de_ixT (ds := [.str "remove", .int x]) (de_var 1) de_int rfl) da_nil)) ⟨a, u, g, pg, x, rfl, hP, hW, hc, rfl, rfl⟩)) ⟨rfl, rfl⟩)
  | plc x y =>
    obtain ⟨hx, hy⟩ := hc
    refine ds_one (d1_if (p := false) (DT.cast (dt_eq (x := .str "place") (y := .str "add") hr1 (by rfl) (by rfl) (de_ixT (ds := [.str "place", .int x, .int y]) (de_var 1) de_int rfl) de_str) (dq (by decide +kernel))) (fun z => by cases z) fun _ => ?_)
    refine ds_one (d1_if (p := false) (DT.cast (dt_eq (x := .str "place") (y := .str "remove") hr1 (by rfl) (by rfl) (de_ixT (ds := [.str "place", .int x, .int y]) (de_var 1) de_int rfl) de_str) (dq (by decide +kernel))) (fun z => by cases z) fun _ => ?_)
    refine ds_one (d1_setitemG (s := .dat (.int y)) (k := x) (j := x.toNat) (DE.dv (de_ixT (ds := [.str "place", .int x, .int y]) (de_var 1) de_int rfl)) (dv_up hr1 hP (dv_var 0 rfl)) (de_ixT (ds := [.str "place", .int x, .int y]) (de_var 1) de_int rfl) hP.hu (by rw [List.length_map, List.length_map]; exact ixU hx.1 hx.2) ⟨rfl, ?_⟩)
    have es : ((pg.up.map oI).map Dz.Slot.dat).set x.toNat (.dat (.int y)) = ((pg.up.set x.toNat (some y)).map oI).map .dat := by rw [List.map_set, List.map_set]; rfl
    rw [es, show (OD.lst (((pg.up.set x.toNat (some y)).map oI).map .dat)) = lO ((pg.up.set x.toNat (some y)).map oI) from rfl, hP.setU]
    rfl
  | pnt x s => exact hc.elim
  | slp x s => exact hc.elim
  | out s => exact hc.elim
  | drp b s => exact hc.elim
  | cnc b s => exact hc.elim
def pCan (ss : List Dz.Slot) (O : OH) (d : D) (O' : OH) : Prop := ∃ a u g pg st, ss = [.val (.ref a), .dat (stD st)] ∧ PgO O a u g pg ∧ WF pg ∧ d = .bl (canP pg st) ∧ O' = O
theorem scCan : FnScope ["p", "step", "kind", "current", "inner", "y"] ["p", "step"] (defScope s_law_can) := ⟨rfl, rfl, rfl, by decide +kernel, rfl, by decide +kernel, by decide +kernel⟩
theorem ok_can {f : Addr} {fd : FuncData} {cdv : Value} (F : FunC K "_law_can" "_law_can" s_law_can f fd cdv) (L : Blt mg) (G1 : HasF P w K mg base CX0 1 "_law_is_there" ["p", "x"] (spF T K pThere)) (G2 : HasF P w K mg base CX0 1 "_law_is_within" ["p", "x", "y"] (spF T K pWithin)) (G3 : HasF P w K mg base CX0 2 "_law_current" ["p"] (spF T K pCurrent)) : FnOk P w K mg base CX0 3 f fd ["p", "step"] (spF T K pCan) := by
  refine fn_ok (CE := (0 : Addr)) (R := pCan) F scCan (fun ss O d O' ⟨_, _, _, _, _, h, _⟩ => by rw [h]; rfl) fun A outer s H E ss O d O' hr h => ?_
  obtain ⟨a, u, g, pg, st, h1, hP, hW, h2, h3⟩ := h
  subst h1 h2 h3
  have hr1 := hr.mono (show 1 ≤ 2 by decide)
  have hsz := hW.sz
  have el : ((pg.up.map oI).map Dz.Slot.dat).length = pg.up.length := by rw [List.length_map, List.length_map]
  cases st with
  | out s =>
    refine ds_cons (d1_set 2 (s := .dat (.str "out")) (DE.dv (de_ixT (ds := [.str "out", .int s]) (de_var 1) de_int rfl)) ?_ scCan.nd)
    refine ds_cons (d1_set 3 (s := .dat (oI (curP pg))) (DE.dv (de_callH G3 hr (da_v (dv_var 0 rfl) da_nil) ⟨a, u, g, pg, rfl, hP, hW, rfl, rfl⟩)) ?_ scCan.nd)
    exact ds_cons (d1_if (p := true) (DT.cast (dt_inT (x := .str "out") (ds := [.str "out", .str "drop", .str "cancel"]) hr1 (by rfl) (by rfl) (de_var 2) (de_tup (ds := [.str "out", .str "drop", .str "cancel"]) (da_d de_str (da_d de_str (da_d de_str da_nil))))) (dq3 (by decide +kernel))) (fun _ => ds_one (d1_ret (s := .dat (.bl true)) (DE.dv de_bl) ⟨rfl, rfl⟩)) fun z => by cases z)
  | drp b s =>
    refine ds_cons (d1_set 2 (s := .dat (.str "drop")) (DE.dv (de_ixT (ds := [.str "drop", .bl b, .int s]) (de_var 1) de_int rfl)) ?_ scCan.nd)
    refine ds_cons (d1_set 3 (s := .dat (oI (curP pg))) (DE.dv (de_callH G3 hr (da_v (dv_var 0 rfl) da_nil) ⟨a, u, g, pg, rfl, hP, hW, rfl, rfl⟩)) ?_ scCan.nd)
    exact ds_cons (d1_if (p := true) (DT.cast (dt_inT (x := .str "drop") (ds := [.str "out", .str "drop", .str "cancel"]) hr1 (by rfl) (by rfl) (de_var 2) (de_tup (ds := [.str "out", .str "drop", .str "cancel"]) (da_d de_str (da_d de_str (da_d de_str da_nil))))) (dq3 (by decide +kernel))) (fun _ => ds_one (d1_ret (s := .dat (.bl true)) (DE.dv de_bl) ⟨rfl, rfl⟩)) fun z => by cases z)
  | cnc b s =>
    refine ds_cons (d1_set 2 (s := .dat (.str "cancel")) (DE.dv (de_ixT (ds := [.str "cancel", .bl b, .int s]) (de_var 1) de_int rfl)) ?_ scCan.nd)
    refine ds_cons (d1_set 3 (s := .dat (oI (curP pg))) (DE.dv (de_callH G3 hr (da_v (dv_var 0 rfl) da_nil) ⟨a, u, g, pg, rfl, hP, hW, rfl, rfl⟩)) ?_ scCan.nd)
    exact ds_cons (d1_if (p := true) (DT.cast (dt_inT (x := .str "cancel") (ds := [.str "out", .str "drop", .str "cancel"]) hr1 (by rfl) (by rfl) (de_var 2) (de_tup (ds := [.str "out", .str "drop", .str "cancel"]) (da_d de_str (da_d de_str (da_d de_str da_nil))))) (dq3 (by decide +kernel))) (fun _ => ds_one (d1_ret (s := .dat (.bl true)) (DE.dv de_bl) ⟨rfl, rfl⟩)) fun z => by cases z)
  | add x =>
    refine ds_cons (d1_set 2 (s := .dat (.str "add")) (DE.dv (de_ixT (ds := [.str "add", .int x]) (de_var 1) de_int rfl)) ?_ scCan.nd)
    refine ds_cons (d1_set 3 (s := .dat (oI (curP pg))) (DE.dv (de_callH G3 hr (da_v (dv_var 0 rfl) da_nil) ⟨a, u, g, pg, rfl, hP, hW, rfl, rfl⟩)) ?_ scCan.nd)
    refine ds_cons (d1_if (p := false) (DT.cast (dt_inT (x := .str "add") (ds := [.str "out", .str "drop", .str "cancel"]) hr1 (by rfl) (by rfl) (de_var 2) (de_tup (ds := [.str "out", .str "drop", .str "cancel"]) (da_d de_str (da_d de_str (da_d de_str da_nil))))) (dq3 (by decide +kernel))) (fun z => by cases z) fun _ => ds_nil ?_)
    refine ds_cons (d1_if (p := !there pg x) (dt_not (dt_val (de_callH G1 hr1 (da_v (dv_var 0 rfl) (da_d (de_ixT (ds := [.str "add", .int x]) (de_var 1) de_int rfl) da_nil)) ⟨a, u, g, pg, x, rfl, hP, hW, rfl, rfl⟩))) (fun z => ds_one (d1_ret (s := .dat (.bl false)) (DE.dv de_bl) ⟨by show Dz.Slot.dat (.bl false) = .dat (.bl (there pg x)); rw [show there pg x = false by simpa using z], rfl⟩)) fun z => ds_nil ?_)
    exact ds_cons (d1_if (p := true) (DT.cast (dt_inT (x := .str "add") (ds := [.str "add", .str "point"]) hr1 (by rfl) (by rfl) (de_var 2) (de_tup (ds := [.str "add", .str "point"]) (da_d de_str (da_d de_str da_nil)))) (dq2 (by decide +kernel))) (fun _ => ds_one (d1_ret (s := .dat (.bl true)) (DE.dv de_bl) ⟨by show Dz.Slot.dat (.bl true) = .dat (.bl (there pg x)); rw [show there pg x = true by simpa using z], rfl⟩)) fun z => by cases z)
  | pnt x s =>
    refine ds_cons (d1_set 2 (s := .dat (.str "point")) (DE.dv (de_ixT (ds := [.str "point", .int x, .int s]) (de_var 1) de_int rfl)) ?_ scCan.nd)
    refine ds_cons (d1_set 3 (s := .dat (oI (curP pg))) (DE.dv (de_callH G3 hr (da_v (dv_var 0 rfl) da_nil) ⟨a, u, g, pg, rfl, hP, hW, rfl, rfl⟩)) ?_ scCan.nd)
    refine ds_cons (d1_if (p := false) (DT.cast (dt_inT (x := .str "point") (ds := [.str "out", .str "drop", .str "cancel"]) hr1 (by rfl) (by rfl) (de_var 2) (de_tup (ds := [.str "out", .str "drop", .str "cancel"]) (da_d de_str (da_d de_str (da_d de_str da_nil))))) (dq3 (by decide +kernel))) (fun z => by cases z) fun _ => ds_nil ?_)
    refine ds_cons (d1_if (p := !there pg x) (dt_not (dt_val (de_callH G1 hr1 (da_v (dv_var 0 rfl) (da_d (de_ixT (ds := [.str "point", .int x, .int s]) (de_var 1) de_int rfl) da_nil)) ⟨a, u, g, pg, x, rfl, hP, hW, rfl, rfl⟩))) (fun z => ds_one (d1_ret (s := .dat (.bl false)) (DE.dv de_bl) ⟨by show Dz.Slot.dat (.bl false) = .dat (.bl (there pg x)); rw [show there pg x = false by simpa using z], rfl⟩)) fun z => ds_nil ?_)
    exact ds_cons (d1_if (p := true) (DT.cast (dt_inT (x := .str "point") (ds := [.str "add", .str "point"]) hr1 (by rfl) (by rfl) (de_var 2) (de_tup (ds := [.str "add", .str "point"]) (da_d de_str (da_d de_str da_nil)))) (dq2 (by decide +kernel))) (fun _ => ds_one (d1_ret (s := .dat (.bl true)) (DE.dv de_bl) ⟨by show Dz.Slot.dat (.bl true) = .dat (.bl (there pg x)); rw [show there pg x = true by simpa using z], rfl⟩)) fun z => by cases z)
  | rem x =>
    refine ds_cons (d1_set 2 (s := .dat (.str "remove")) (DE.dv (de_ixT (ds := [.str "remove", .int x]) (de_var 1) de_int rfl)) ?_ scCan.nd)
    refine ds_cons (d1_set 3 (s := .dat (oI (curP pg))) (DE.dv (de_callH G3 hr (da_v (dv_var 0 rfl) da_nil) ⟨a, u, g, pg, rfl, hP, hW, rfl, rfl⟩)) ?_ scCan.nd)
    refine ds_cons (d1_if (p := false) (DT.cast (dt_inT (x := .str "remove") (ds := [.str "out", .str "drop", .str "cancel"]) hr1 (by rfl) (by rfl) (de_var 2) (de_tup (ds := [.str "out", .str "drop", .str "cancel"]) (da_d de_str (da_d de_str (da_d de_str da_nil))))) (dq3 (by decide +kernel))) (fun z => by cases z) fun _ => ds_nil ?_)
    refine ds_cons (d1_if (p := !there pg x) (dt_not (dt_val (de_callH G1 hr1 (da_v (dv_var 0 rfl) (da_d (de_ixT (ds := [.str "remove", .int x]) (de_var 1) de_int rfl) da_nil)) ⟨a, u, g, pg, x, rfl, hP, hW, rfl, rfl⟩))) (fun z => ds_one (d1_ret (s := .dat (.bl false)) (DE.dv de_bl) ⟨by show Dz.Slot.dat (.bl false) = .dat (.bl (there pg x && decide (2 ≤ x))); rw [show there pg x = false by simpa using z]; rfl, rfl⟩)) fun z => ds_nil ?_)
    refine ds_cons (d1_if (p := false) (DT.cast (dt_inT (x := .str "remove") (ds := [.str "add", .str "point"]) hr1 (by rfl) (by rfl) (de_var 2) (de_tup (ds := [.str "add", .str "point"]) (da_d de_str (da_d de_str da_nil)))) (dq2 (by decide +kernel))) (fun z => by cases z) fun _ => ds_nil ?_)
    refine ds_cons (d1_if (p := false) (DT.cast (dt_eq (x := .str "remove") (y := .str "slip") hr1 (by rfl) (by rfl) (de_var 2) de_str) (dq (by decide +kernel))) (fun z => by cases z) fun _ => ds_nil ?_)
    refine ds_cons (d1_if (p := true) (DT.cast (DW.dt (dw_or (p := decide (x < 2)) (q := true) (dt_lt (de_ixT (ds := [.str "remove", .int x]) (de_var 1) de_int rfl) de_int) fun _ => dw_or1 (DT.cast (dt_eq (x := .str "remove") (y := .str "remove") hr1 (by rfl) (by rfl) (de_var 2) de_str) (dq (by decide +kernel))))) (Bool.or_true _)) (fun _ => ?_) fun z => by cases z)
    exact ds_one (d1_ret (s := .dat (.bl (decide (2 ≤ x)))) (DE.dv (de_ge (de_ixT (ds := [.str "remove", .int x]) (de_var 1) de_int rfl) de_int)) ⟨by show _ = Dz.Slot.dat (.bl (there pg x && decide (2 ≤ x))); rw [show there pg x = true by simpa using z, Bool.true_and], rfl⟩)
  | plc x y =>
    refine ds_cons (d1_set 2 (s := .dat (.str "place")) (DE.dv (de_ixT (ds := [.str "place", .int x, .int y]) (de_var 1) de_int rfl)) ?_ scCan.nd)
    refine ds_cons (d1_set 3 (s := .dat (oI (curP pg))) (DE.dv (de_callH G3 hr (da_v (dv_var 0 rfl) da_nil) ⟨a, u, g, pg, rfl, hP, hW, rfl, rfl⟩)) ?_ scCan.nd)
    refine ds_cons (d1_if (p := false) (DT.cast (dt_inT (x := .str "place") (ds := [.str "out", .str "drop", .str "cancel"]) hr1 (by rfl) (by rfl) (de_var 2) (de_tup (ds := [.str "out", .str "drop", .str "cancel"]) (da_d de_str (da_d de_str (da_d de_str da_nil))))) (dq3 (by decide +kernel))) (fun z => by cases z) fun _ => ds_nil ?_)
    have eC : canP pg (.plc x y) = (there pg x && (if x < 2 then false else there pg y && !within pg y x)) := rfl
    refine ds_cons (d1_if (p := !there pg x) (dt_not (dt_val (de_callH G1 hr1 (da_v (dv_var 0 rfl) (da_d (de_ixT (ds := [.str "place", .int x, .int y]) (de_var 1) de_int rfl) da_nil)) ⟨a, u, g, pg, x, rfl, hP, hW, rfl, rfl⟩))) (fun z => ds_one (d1_ret (s := .dat (.bl false)) (DE.dv de_bl) ⟨by rw [eC, show there pg x = false by simpa using z]; rfl, rfl⟩)) fun z => ds_nil ?_)
    rw [show there pg x = true by simpa using z, Bool.true_and] at eC
    refine ds_cons (d1_if (p := false) (DT.cast (dt_inT (x := .str "place") (ds := [.str "add", .str "point"]) hr1 (by rfl) (by rfl) (de_var 2) (de_tup (ds := [.str "add", .str "point"]) (da_d de_str (da_d de_str da_nil)))) (dq2 (by decide +kernel))) (fun z => by cases z) fun _ => ds_nil ?_)
    refine ds_cons (d1_if (p := false) (DT.cast (dt_eq (x := .str "place") (y := .str "slip") hr1 (by rfl) (by rfl) (de_var 2) de_str) (dq (by decide +kernel))) (fun z => by cases z) fun _ => ds_nil ?_)
    refine ds_cons (d1_if (p := decide (x < 2)) (DT.cast (DW.dt (dw_or (p := decide (x < 2)) (q := false) (dt_lt (de_ixT (ds := [.str "place", .int x, .int y]) (de_var 1) de_int rfl) de_int) fun _ => dw_or1 (DT.cast (dt_eq (x := .str "place") (y := .str "remove") hr1 (by rfl) (by rfl) (de_var 2) de_str) (dq (by decide +kernel))))) (Bool.or_false _)) (fun z => ?_) fun z => ds_nil ?_)
    · have z' := of_decide_eq_true z
      exact ds_one (d1_ret (s := .dat (.bl (decide (2 ≤ x)))) (DE.dv (de_ge (de_ixT (ds := [.str "place", .int x, .int y]) (de_var 1) de_int rfl) de_int)) ⟨by rw [eC, if_pos z', decide_eq_false (by omega)], rfl⟩)
    · have z' := of_decide_eq_false z
      refine ds_one (d1_ret (s := .dat (.bl (there pg y && !within pg y x))) (DE.dv (de_and (de_callH G1 hr1 (da_v (dv_var 0 rfl) (da_d (de_ixT (ds := [.str "place", .int x, .int y]) (de_var 1) de_int rfl) da_nil)) ⟨a, u, g, pg, y, rfl, hP, hW, rfl, rfl⟩) fun zz => de_one (de_not (de_callH G2 hr1 (da_v (dv_var 0 rfl) (da_d (de_ixT (ds := [.str "place", .int x, .int y]) (de_var 1) de_int rfl) (da_d (de_ixT (ds := [.str "place", .int x, .int y]) (de_var 1) de_int rfl) da_nil))) ⟨a, u, g, pg, y, x, rfl, hP, hW, there_bd zz, rfl, rfl⟩)))) ⟨by rw [eC, if_neg z'], rfl⟩)
  | slp x s =>
    refine ds_cons (d1_set 2 (s := .dat (.str "slip")) (DE.dv (de_ixT (ds := [.str "slip", .int x, .int s]) (de_var 1) de_int rfl)) ?_ scCan.nd)
    refine ds_cons (d1_set 3 (s := .dat (oI (curP pg))) (DE.dv (de_callH G3 hr (da_v (dv_var 0 rfl) da_nil) ⟨a, u, g, pg, rfl, hP, hW, rfl, rfl⟩)) ?_ scCan.nd)
    refine ds_cons (d1_if (p := false) (DT.cast (dt_inT (x := .str "slip") (ds := [.str "out", .str "drop", .str "cancel"]) hr1 (by rfl) (by rfl) (de_var 2) (de_tup (ds := [.str "out", .str "drop", .str "cancel"]) (da_d de_str (da_d de_str (da_d de_str da_nil))))) (dq3 (by decide +kernel))) (fun z => by cases z) fun _ => ds_nil ?_)
    have eC : canP pg (.slp x s) = (there pg x && slipB pg x) := rfl
    refine ds_cons (d1_if (p := !there pg x) (dt_not (dt_val (de_callH G1 hr1 (da_v (dv_var 0 rfl) (da_d (de_ixT (ds := [.str "slip", .int x, .int s]) (de_var 1) de_int rfl) da_nil)) ⟨a, u, g, pg, x, rfl, hP, hW, rfl, rfl⟩))) (fun z => ds_one (d1_ret (s := .dat (.bl false)) (DE.dv de_bl) ⟨by rw [eC, show there pg x = false by simpa using z]; rfl, rfl⟩)) fun z => ds_nil ?_)
    rw [show there pg x = true by simpa using z, Bool.true_and] at eC
    refine ds_cons (d1_if (p := false) (DT.cast (dt_inT (x := .str "slip") (ds := [.str "add", .str "point"]) hr1 (by rfl) (by rfl) (de_var 2) (de_tup (ds := [.str "add", .str "point"]) (da_d de_str (da_d de_str da_nil)))) (dq2 (by decide +kernel))) (fun z => by cases z) fun _ => ds_nil ?_)
    refine ds_cons (d1_if (p := true) (DT.cast (dt_eq (x := .str "slip") (y := .str "slip") hr1 (by rfl) (by rfl) (de_var 2) de_str) (dq (by decide +kernel))) (fun _ => ?_) fun z => by cases z)
    refine ds_cons (d1_ice 4 (out := kids pg (curP pg)) (O1 := O') (d1_ownLcR 5 4 (m := (pg.up.length : Int)) (O2 := O') (DE.cast (de_lenO L.len (dv_up hr1 hP (dv_var 0 rfl)) hP.hu) (by rw [el])) (fun j acc O2 => acc = (List.range j).filterMap (kidF pg (curP pg)) ∧ O2 = O') ⟨rfl, rfl⟩ (lc_pureRF fun j hj => ?_) (fun acc O2 q => by rw [Int.toNat_natCast] at q; exact q) (fun c hc => ⟨c, hc, rfl, rfl⟩) (by omega) (by omega) L.range scCan.nd (blkOk_by rfl)) ?_)
    · have hj' : j < pg.up.length := by omega
      have u1 : pg.up[(j : Int).toNat]? = some (pg.up.getD j none) := by rw [Int.toNat_natCast]; exact upA hj'
      have g1 : pg.gone[(j : Int).toNat]? = some (pg.gone.getD j false) := by rw [Int.toNat_natCast]; exact hW.ga hj'
      cases hb : (decide (pg.up.getD j none = curP pg) && !pg.gone.getD j false) with
      | true => exact .inl ⟨.int (j : Int), by unfold kidF; rw [if_pos hb], difs_one fun s H C cl fp => DT.cast (DW.dt (dw_and (DT.cast (dt_eq (x := oI (pg.up.getD j none)) (y := oI (curP pg)) hr1 (ok_oI _ _) (ok_oI _ _) (DV.de (dv_ixOG (dv_up hr1 hP (dv_var 0 rfl)) (de_var 5) hP.hu (atO (f := oI) (by omega) u1))) (de_var 3)) (deq_oI _ _)) fun _ => dw_and1 (dt_not (dt_val (DV.de (dv_ixOG (dv_gone hr1 hP (dv_var 0 rfl)) (de_var 5) hP.hg (atO (f := D.bl) (by omega) g1))))))) hb, fun s H C cl fp => de_var 5⟩
      | false => exact .inr ⟨by unfold kidF; rw [if_neg (by rw [hb]; decide)], difs_one fun s H C cl fp => DT.cast (DW.dt (dw_and (DT.cast (dt_eq (x := oI (pg.up.getD j none)) (y := oI (curP pg)) hr1 (ok_oI _ _) (ok_oI _ _) (DV.de (dv_ixOG (dv_up hr1 hP (dv_var 0 rfl)) (de_var 5) hP.hu (atO (f := oI) (by omega) u1))) (de_var 3)) (deq_oI _ _)) fun _ => dw_and1 (dt_not (dt_val (DV.de (dv_ixOG (dv_gone hr1 hP (dv_var 0 rfl)) (de_var 5) hP.hg (atO (f := D.bl) (by omega) g1))))))) hb⟩
    cases hcu : curP pg with
    | none =>
      have e : slipB pg x = false := by unfold slipB; rw [hcu]
      exact ds_one (d1_ret (s := .dat (.bl false)) (DE.dv (de_and (p := false) (q := false) (DE.cast (de_notN (x := .non) (DE.cast (de_var 3) rfl) de_non) rfl) fun z => by cases z)) ⟨by rw [eC, e], rfl⟩)
    | some c =>
      have e : slipB pg x = (decide (2 ≤ c) && ((kids pg (some c)).isEmpty && !decide (x = c))) := by unfold slipB; rw [hcu]
      exact ds_one (d1_ret (s := .dat (.bl (true && (decide (2 ≤ c) && ((kids pg (some c)).isEmpty && !decide (x = c)))))) (DE.dv (de_and (p := true) (DE.cast (de_notN (x := .int c) (DE.cast (de_var 3) rfl) de_non) rfl) fun _ => de_and (de_ge (DE.cast (de_var 3) rfl) de_int) fun _ => de_and (DE.cast (de_eq (x := .lst (kids pg (some c))) (y := .lst []) hr1 (kids_ok _ _) (by rfl) (de_var 4) (de_lst (ds := []) da_nil)) (by rw [deq_nil])) fun _ => de_one (DE.cast (de_ne (x := .int x) (y := .int c) hr1 (by rfl) (by rfl) (de_ixT (ds := [.str "slip", .int x, .int s]) (de_var 1) de_int rfl) (DE.cast (de_var 3) rfl)) (by rw [deq_int])))) ⟨by rw [eC, e, Bool.true_and], rfl⟩)
end
end Dg

namespace Dg
open PySem PySem.Spec PyProof.Rows L2 GxR Dz
theorem at0 (x : D) (xs : List D) : atI (x :: xs) 0 = some x := by
  unfold atI
  rw [ixU (by decide) (by rw [List.length_cons]; omega)]
  rfl
abbrev PEv := Str × Int × Option Int
def pevD (e : PEv) : D := .tup [.str e.1, .int e.2.1, oI e.2.2]
/-- the name of what a tick that goes off the page tells, and whether it ends -/
def offA (nm : Str) (c : Option Int) : List PEv := match c with
  | some c => [(nm, c, none)]
  | none => []
def offB (b : Bool) : List PEv := if b = true then [(("end" : Str), (0 : Int), (none : Option Int))] else []
def offEv (nm : Str) (b : Bool) (c : Option Int) : List PEv := offA nm c ++ offB b
def onA (b : Bool) (x : Int) (c : Option Int) : List PEv := match c with
  | some c => if b = true then [(("leave" : Str), c, some x)] else []
  | none => []
def onEv (b : Bool) (x : Int) (c : Option Int) : List PEv := if some x = c then [(("over" : Str), x, (none : Option Int))] else ([(("enter" : Str), x, c)] ++ onA b x c) ++ [(("over" : Str), x, (none : Option Int))]
def pevs (pg : Pg) : Stp → List PEv
  | .pnt x _ => onEv true x (curP pg)
  | .slp x _ => onEv false x (curP pg)
  | .out _ => offEv "leave" false (curP pg)
  | .drp b _ => offEv "drop" b (curP pg)
  | .cnc b _ => offEv "leave" b (curP pg)
  | _ => []
def isTk : Stp → Bool
  | .add _ => false
  | .rem _ => false
  | .plc _ _ => false
  | _ => true
theorem cur_there {pg : Pg} {c : Int} (h : curP pg = some c) : there pg c = true := by
  unfold curP at h
  split at h
  · split at h
    · rename_i z
      cases h
      exact z
    · cases h
  · cases h
section
variable {P : Program} {w : World} {K : PySem.W.Frag} {mg : Str → Option Value} {base : Heap} {T : List Addr} {CE : Addr}
def pEvents (ss : List Dz.Slot) (O : OH) (d : D) (O' : OH) : Prop := ∃ a u g pg st, ss = [.val (.ref a), .dat (stD st)] ∧ PgO O a u g pg ∧ WF pg ∧ isTk st = true ∧ d = .lst ((pevs pg st).map pevD) ∧ O' = O
theorem scEvents : FnScope ["p", "step", "current", "kind", "x", "out"] ["p", "step"] (defScope s_law_events) := ⟨rfl, rfl, rfl, by decide +kernel, rfl, by decide +kernel, by decide +kernel⟩
theorem ok_events {f : Addr} {fd : FuncData} {cdv : Value} (F : FunC K "_law_events" "_law_events" s_law_events f fd cdv) (L : Blt mg) (G3 : HasF P w K mg base CX0 2 "_law_current" ["p"] (spF T K pCurrent)) : FnOk P w K mg base CX0 3 f fd ["p", "step"] (spF T K pEvents) := by
  refine fn_ok (CE := (0 : Addr)) (R := pEvents) F scEvents (fun ss O d O' ⟨_, _, _, _, _, h, _⟩ => by rw [h]; rfl) fun A outer s H E ss O d O' hr h => ?_
  obtain ⟨a, u, g, pg, st, h1, hP, hW, ht, h2, h3⟩ := h
  subst h1 h2 h3
  have hr1 := hr.mono (show 1 ≤ 2 by decide)
  have key : (∃ nm b x s, stD st = .tup [.str nm, .int x, .int s] ∧ pevs pg st = onEv b x (curP pg) ∧ decide (nm = "point") = b ∧ (decide (("point" : Str) = nm) || decide (("slip" : Str) = nm)) = true) ∨
      (∃ nm tl b, stD st = .tup (.str nm :: tl) ∧ pevs pg st = offEv (if nm = "drop" then "drop" else "leave") b (curP pg) ∧ (decide (("point" : Str) = nm) || decide (("slip" : Str) = nm)) = false ∧ (nm ≠ "out" → ∃ s, tl = [.bl b, .int s]) ∧ (nm = "out" → b = false)) := by
    cases st with
    | pnt x s => exact .inl ⟨"point", true, x, s, rfl, rfl, by decide +kernel, by decide +kernel⟩
    | slp x s => exact .inl ⟨"slip", false, x, s, rfl, rfl, by decide +kernel, by decide +kernel⟩
    | out s => exact .inr ⟨"out", [.int s], false, rfl, by rw [if_neg (by decide +kernel)]; rfl, by decide +kernel, fun z => absurd rfl z, fun _ => rfl⟩
    | drp b s => exact .inr ⟨"drop", [.bl b, .int s], b, rfl, by rw [if_pos rfl]; rfl, by decide +kernel, fun _ => ⟨s, rfl⟩, fun z => absurd z (by decide +kernel)⟩
    | cnc b s => exact .inr ⟨"cancel", [.bl b, .int s], b, rfl, by rw [if_neg (by decide +kernel)]; rfl, by decide +kernel, fun _ => ⟨s, rfl⟩, fun z => absurd z (by decide +kernel)⟩
    | add x => cases ht
    | rem x => cases ht
    | plc x y => cases ht
  generalize stD st = sd at key
  generalize pevs pg st = evs at key
  rcases key with ⟨nm, b, x, s', rfl, rfl, hb, hps⟩ | ⟨nm, tl, b, rfl, rfl, hps, hno, hb⟩
  · refine ds_cons (d1_set 2 (s := .dat (oI (curP pg))) (DE.dv (de_callH G3 hr (da_v (dv_var 0 rfl) da_nil) ⟨a, u, g, pg, rfl, hP, hW, rfl, rfl⟩)) ?_ scEvents.nd)
    refine ds_cons (d1_set 3 (s := .dat (.str nm)) (DE.dv (de_ixT (ds := [.str nm, .int x, .int s']) (de_var 1) de_int rfl)) ?_ scEvents.nd)
    generalize curP pg = cu
    refine ds_cons (d1_if (p := true) (DT.cast (dt_inT (x := .str nm) (ds := [.str "point", .str "slip"]) hr1 (by rfl) (by rfl) (de_var 3) (de_tup (ds := [.str "point", .str "slip"]) (da_d de_str (da_d de_str da_nil)))) (dq2 hps)) (fun _ => ?_) fun z => by cases z)
    refine ds_cons (d1_set 4 (s := .dat (.int x)) (DE.dv (de_ixT (ds := [.str nm, .int x, .int s']) (de_var 1) de_int rfl)) ?_ scEvents.nd)
    refine ds_cons (d1_if (p := decide (some x = cu)) (DT.cast (dt_eq (x := .int x) (y := oI cu) hr1 (by rfl) (ok_oI _ _) (de_var 4) (de_var 2)) (deq_oI (some x) cu)) (fun z => ?_) fun z => ds_nil ?_)
    · have e : onEv b x cu = [(("over" : Str), x, (none : Option Int))] := if_pos (of_decide_eq_true z)
      rw [e]
      exact ds_one (d1_ret (s := .dat (.lst [pevD ("over", x, none)])) (DE.dv (de_lst (ds := [pevD ("over", x, none)]) (da_d (d := pevD ("over", x, none)) (de_tup (ds := [.str "over", .int x, .non]) (da_d de_str (da_d (de_var 4) (da_d de_non da_nil))) (by show 3 ≤ 10000; decide)) da_nil) (by show 1 ≤ 10000; decide))) ⟨rfl, rfl⟩)
    have e : onEv b x cu = ([(("enter" : Str), x, cu)] ++ onA b x cu) ++ [(("over" : Str), x, (none : Option Int))] := if_neg (of_decide_eq_false z)
    rw [e]
    refine ds_cons (d1_own 5 (ss := [.dat (pevD ("enter", x, cu))]) (da_d (d := pevD ("enter", x, cu)) (de_tup (ds := [.str "enter", .int x, oI cu]) (da_d de_str (da_d (de_var 4) (da_d (de_var 2) da_nil))) (by show 3 ≤ 10000; decide)) da_nil) (fun c hc => ?_) scEvents.nd (by show 1 ≤ 10000; decide))
    show DS T _ _ _ [.val (.ref a), .dat (.tup [.str nm, .int x, .int s']), .dat (oI cu), .dat (.str nm), .dat (.int x), .val (.ref c)] (put O' c (lO [pevD ("enter", x, cu)])) _
    refine ds_mid (fun ρ' O2 => ρ' = [.val (.ref a), .dat (.tup [.str nm, .int x, .int s']), .dat (oI cu), .dat (.str nm), .dat (.int x), .val (.ref c)] ∧ O2 = put O' c (lO (([(("enter" : Str), x, cu)] ++ onA b x cu).map pevD)))
      (d1_if (p := b && cu.isSome) (DW.dt (dw_and (DT.cast (dt_eq (x := .str nm) (y := .str "point") hr1 (by rfl) (by rfl) (de_var 3) de_str) (dq hb)) fun _ => dw_and1 (DT.cast (dt_notN (x := oI cu) (de_var 2) de_non) (by cases cu <;> rfl)))) (fun z => ?_) fun z => ds_nil ⟨rfl, ?_⟩) ?_
    · have z' := (Bool.and_eq_true _ _).mp z
      cases cu with
      | none => cases z'.2
      | some c1 =>
        refine ds_one (d1_app 5 rfl (de_tup (ds := [.str "leave", .int c1, .int x]) (da_d de_str (da_d (DE.cast (de_var 2) rfl) (da_d (de_var 4) da_nil))) (by show 3 ≤ 10000; decide)) (by show 1 < 100000; decide) ⟨rfl, ?_⟩)
        have e2 : onA b x (some c1) = [(("leave" : Str), c1, some x)] := if_pos z'.1
        rw [e2]
        rfl
    · have e2 : onA b x cu = [] := by
        cases cu with
        | none => rfl
        | some c1 => exact if_neg (by intro q; rw [q] at z; cases z)
      rw [e2]
      rfl
    rintro ρ' O2 ⟨rfl, rfl⟩
    have l2 : ([(("enter" : Str), x, cu)] ++ onA b x cu).length ≤ 2 := by
      unfold onA
      split
      · split <;> simp
      · simp
    generalize [(("enter" : Str), x, cu)] ++ onA b x cu = ev at l2
    refine ds_ice 5 rfl hc (ds_one (d1_ret (s := .dat (.lst ((ev ++ [(("over" : Str), x, (none : Option Int))]).map pevD))) (DE.dv (DE.cast (de_catL (ds := ev.map pevD) (ds' := [pevD ("over", x, none)]) (de_var 5) (de_lst (ds := [pevD ("over", x, none)]) (da_d (d := pevD ("over", x, none)) (de_tup (ds := [.str "over", .int x, .non]) (da_d de_str (da_d (de_var 4) (da_d de_non da_nil))) (by show 3 ≤ 10000; decide)) da_nil) (by show 1 ≤ 10000; decide)) (by rw [List.length_map]; show ev.length + 1 ≤ 100000; omega)) (by rw [List.map_append]; rfl))) ⟨rfl, rfl⟩))
  · refine ds_cons (d1_set 2 (s := .dat (oI (curP pg))) (DE.dv (de_callH G3 hr (da_v (dv_var 0 rfl) da_nil) ⟨a, u, g, pg, rfl, hP, hW, rfl, rfl⟩)) ?_ scEvents.nd)
    refine ds_cons (d1_set 3 (s := .dat (.str nm)) (DE.dv (de_ixT (ds := .str nm :: tl) (de_var 1) de_int (at0 _ _))) ?_ scEvents.nd)
    generalize curP pg = cu
    refine ds_cons (d1_if (p := false) (DT.cast (dt_inT (x := .str nm) (ds := [.str "point", .str "slip"]) hr1 (by rfl) (by rfl) (de_var 3) (de_tup (ds := [.str "point", .str "slip"]) (da_d de_str (da_d de_str da_nil)))) (dq2 hps)) (fun z => by cases z) fun _ => ds_nil ?_)
    refine ds_cons (d1_own 5 (ss := []) da_nil (fun c hc => ?_) scEvents.nd)
    show DS T _ _ _ [.val (.ref a), .dat (.tup (.str nm :: tl)), .dat (oI cu), .dat (.str nm), .no, .val (.ref c)] (put O' c (lO [])) _
    refine ds_mid (fun ρ' O2 => ρ' = [.val (.ref a), .dat (.tup (.str nm :: tl)), .dat (oI cu), .dat (.str nm), .no, .val (.ref c)] ∧ O2 = put O' c (lO ((offA (if nm = "drop" then "drop" else "leave") cu).map pevD)))
      (d1_if (p := cu.isSome) (DT.cast (dt_notN (x := oI cu) (de_var 2) de_non) (by cases cu <;> rfl)) (fun z => ?_) fun z => ds_nil ⟨rfl, ?_⟩) ?_
    · cases cu with
      | none => cases z
      | some c1 =>
        have hnm : atI [D.str "leave", .str "drop"] (if decide (nm = "drop") = true then 1 else 0) = some (.str (if nm = "drop" then "drop" else "leave")) := by
          by_cases q : nm = "drop"
          · rw [if_pos (decide_eq_true q), if_pos q]; rfl
          · rw [if_neg (by rw [decide_eq_false q]; decide), if_neg q]; rfl
        refine ds_one (d1_app 5 rfl (de_tup (ds := [.str (if nm = "drop" then "drop" else "leave"), .int c1, .non]) (da_d (de_ixL (ds := [D.str "leave", .str "drop"]) (de_lst (ds := [D.str "leave", .str "drop"]) (da_d de_str (da_d de_str da_nil))) (de_intB L.int (DE.cast (de_eq (x := .str nm) (y := .str "drop") hr1 (by rfl) (by rfl) (de_var 3) de_str) (by rw [deq_str]))) hnm) (da_d (DE.cast (de_var 2) rfl) (da_d de_non da_nil))) (by show 3 ≤ 10000; decide)) (by show 0 < 100000; decide) ⟨rfl, rfl⟩)
    · cases cu with
      | none => rfl
      | some c1 => cases z
    rintro ρ' O2 ⟨rfl, rfl⟩
    have l1 : (offA (if nm = "drop" then "drop" else "leave") cu).length ≤ 1 := by
      unfold offA
      split <;> simp
    have eo : offEv (if nm = "drop" then "drop" else "leave") b cu = offA (if nm = "drop" then "drop" else "leave") cu ++ offB b := rfl
    rw [eo]
    generalize offA (if nm = "drop" then "drop" else "leave") cu = ev at l1
    refine ds_mid (fun ρ' O2 => ρ' = [.val (.ref a), .dat (.tup (.str nm :: tl)), .dat (oI cu), .dat (.str nm), .no, .val (.ref c)] ∧ O2 = put O' c (lO ((ev ++ offB b).map pevD)))
      (d1_if (p := b) (DT.cast (DW.dt (dw_and (p := !decide (nm = "out")) (q := b) (DT.cast (dt_ne (x := .str nm) (y := .str "out") hr1 (by rfl) (by rfl) (de_var 3) de_str) (by rw [deq_str])) fun z => dw_and1 (by
        have q : nm ≠ "out" := of_decide_eq_false (by simpa using z)
        obtain ⟨s', rfl⟩ := hno q
        exact dt_val (de_ixT (ds := [.str nm, .bl b, .int s']) (de_var 1) de_int rfl)))) (by
        by_cases q : nm = "out"
        · rw [decide_eq_true q, hb q]; rfl
        · rw [decide_eq_false q]; rfl)) (fun z => ?_) fun z => ds_nil ⟨rfl, ?_⟩) ?_
    · refine ds_one (d1_app 5 rfl (de_tup (ds := [.str "end", .int 0, .non]) (da_d de_str (da_d de_int (da_d de_non da_nil))) (by show 3 ≤ 10000; decide)) (by rw [List.length_map]; omega) ⟨rfl, ?_⟩)
      rw [z]
      show put O' c (lO (ev.map pevD ++ [pevD ("end", 0, none)])) = put O' c (lO ((ev ++ [(("end" : Str), (0 : Int), (none : Option Int))]).map pevD))
      rw [List.map_append]
      rfl
    · rw [z]
      show _ = put O' c (lO ((ev ++ []).map pevD))
      rw [List.append_nil]
    rintro ρ' O2 ⟨rfl, rfl⟩
    exact ds_ice 5 rfl hc (ds_one (d1_ret (s := .dat (.lst ((ev ++ offB b).map pevD))) (DE.dv (de_var 5)) ⟨rfl, rfl⟩))
end
end Dg

namespace Dz
open PySem PySem.Spec PyProof.Rows L2 GxR
end Dz
namespace Dg
open PySem PySem.Spec PyProof.Rows L2 GxR Dz
def stopB (kind : Str) (s : Int) (j : Nat) : Bool := !decide (kind = "end") && stB s j
def numO (pg : Pg) : Option Int → Int
  | some r => numP pg r
  | none => 0
def tstep (pg : Pg) (p : Str) (ks sg : List Str) (s : Int) (j : Nat) (ev : PEv) (q : List D × Option Int) : List D × Option Int :=
  if lreach p ks ev.1 (numP pg ev.2.1) (decide (ev.2.1 = 0)) (stopB ev.1 s j) = true then (q.1 ++ [lsig sg ev.1 (numP pg ev.2.1) (decide (q.2 = some ev.2.1)) (numO pg ev.2.2)], if ev.1 = "enter" then some ev.2.1 else q.2) else q
def thear (pg : Pg) (p : Str) (ks sg : List Str) (s : Int) (evs : List PEv) : Nat → List D × Option Int
  | 0 => ([], pg.en)
  | j + 1 => match evs[j]? with
    | some ev => tstep pg p ks sg s j ev (thear pg p ks sg s evs j)
    | none => thear pg p ks sg s evs j
theorem thear_at {pg : Pg} {p : Str} {ks sg : List Str} {s : Int} {evs : List PEv} {j : Nat} {ev : PEv} (h : evs[j]? = some ev) : thear pg p ks sg s evs (j + 1) = tstep pg p ks sg s j ev (thear pg p ks sg s evs j) := by
  rw [thear, h]
theorem thear_len {pg : Pg} {p : Str} {ks sg : List Str} {s : Int} {evs : List PEv} : ∀ j, (thear pg p ks sg s evs j).1.length ≤ j
  | 0 => Nat.le_refl _
  | j + 1 => by
    have h := thear_len (pg := pg) (p := p) (ks := ks) (sg := sg) (s := s) (evs := evs) j
    unfold thear
    split
    · unfold tstep
      split
      · rw [List.length_append, List.length_singleton]; omega
      · omega
    · omega
def stpS : Stp → Int
  | .pnt _ s => s
  | .slp _ s => s
  | .out s => s
  | .drp _ s => s
  | .cnc _ s => s
  | _ => 0
def stpX : Stp → Option Int
  | .pnt x _ => some x
  | .slp x _ => some x
  | _ => none
def tkH (pg : Pg) (p : Str) (ks sg : List Str) (st : Stp) : List D × Option Int := thear pg p ks sg (stpS st) (pevs pg st) (pevs pg st).length
def slpG (pg : Pg) : Stp → List Bool
  | .slp _ _ => pg.gone.set ((curP pg).getD 0).toNat true
  | _ => pg.gone
def tkP (pg : Pg) (p : Str) (ks sg : List Str) (st : Stp) : Pg := { pg with gone := slpG pg st, tg := stpX st, en := (tkH pg p ks sg st).2 }
def TkOk (pg : Pg) : Stp → Prop
  | .pnt x _ => 0 ≤ x ∧ x < pg.up.length
  | .slp x _ => (0 ≤ x ∧ x < pg.up.length) ∧ ∃ c, curP pg = some c
  | .out _ => True
  | .drp _ _ => True
  | .cnc _ _ => True
  | _ => False
def EvR (pg : Pg) (e : PEv) : Prop := (0 ≤ e.2.1 ∧ e.2.1 < pg.up.length) ∧ ∀ r, e.2.2 = some r → 0 ≤ r ∧ r < pg.up.length
theorem pevs_len (pg : Pg) (st : Stp) : (pevs pg st).length ≤ 3 := by
  have h1 : ∀ b x c, (onEv b x c).length ≤ 3 := fun b x c => by
    unfold onEv onA
    split
    · simp
    · split
      · split <;> simp
      · simp
  have h2 : ∀ nm b c, (offEv nm b c).length ≤ 3 := fun nm b c => by
    unfold offEv offA offB
    split <;> split <;> simp
  cases st <;> first | exact h1 _ _ _ | exact h2 _ _ _ | exact Nat.zero_le _
theorem pevs_ok {pg : Pg} (hW : WF pg) (h1 : 1 ≤ pg.up.length) {st : Stp} (h : TkOk pg st) : ∀ e ∈ pevs pg st, EvR pg e := by
  have hc : ∀ c, curP pg = some c → 0 ≤ c ∧ c < pg.up.length := fun c hc => there_bd (cur_there hc)
  have q1 : ∀ (b : Bool) (x : Int), 0 ≤ x ∧ x < pg.up.length → ∀ e ∈ onEv b x (curP pg), EvR pg e := fun b x hx e he => by
    unfold onEv at he
    split at he
    · have q : e = (("over" : Str), x, (none : Option Int)) := by simpa using he
      rw [q]
      exact ⟨hx, fun r z => by cases z⟩
    · rcases List.mem_append.mp he with he | he
      · rcases List.mem_append.mp he with he | he
        · have q : e = (("enter" : Str), x, curP pg) := by simpa using he
          rw [q]
          exact ⟨hx, fun r z => hc r z⟩
        · unfold onA at he
          split at he
          · rename_i c hcu
            split at he
            · have q : e = (("leave" : Str), c, some x) := by simpa using he
              rw [q]
              exact ⟨hc c hcu, fun r z => by cases z; exact hx⟩
            · cases he
          · cases he
      · have q : e = (("over" : Str), x, (none : Option Int)) := by simpa using he
        rw [q]
        exact ⟨hx, fun r z => by cases z⟩
  have q2 : ∀ (nm : Str) (b : Bool), ∀ e ∈ offEv nm b (curP pg), EvR pg e := fun nm b e he => by
    unfold offEv at he
    rcases List.mem_append.mp he with he | he
    · unfold offA at he
      split at he
      · rename_i c hcu
        have q : e = (nm, c, (none : Option Int)) := by simpa using he
        rw [q]
        exact ⟨hc c hcu, fun r z => by cases z⟩
      · cases he
    · unfold offB at he
      split at he
      · have q : e = (("end" : Str), (0 : Int), (none : Option Int)) := by simpa using he
        rw [q]
        exact ⟨⟨by show (0 : Int) ≤ 0; decide, by show (0 : Int) < _; omega⟩, fun r z => by cases z⟩
      · cases he
  cases st with
  | pnt x s => exact q1 true x h
  | slp x s => exact q1 false x h.1
  | out s => exact q2 _ _
  | drp b s => exact q2 _ _
  | cnc b s => exact q2 _ _
  | add x => exact h.elim
  | rem x => exact h.elim
  | plc x y => exact h.elim
theorem numP_bd (pg : Pg) (x : Int) : 0 ≤ numP pg x ∧ numP pg x ≤ 3 := by
  unfold numP
  split
  · split
    · decide
    · split <;> decide
  · decide
theorem numO_bd (pg : Pg) (r : Option Int) : 0 ≤ numO pg r ∧ numO pg r ≤ 3 := by
  cases r with
  | none => exact ⟨by show (0 : Int) ≤ 0; decide, by show (0 : Int) ≤ 3; decide⟩
  | some r => exact numP_bd pg r
theorem isTk_of {pg : Pg} {st : Stp} (h : TkOk pg st) : isTk st = true := by cases st <;> first | rfl | exact h.elim
theorem PgO.over {O : OH} {a u g c : Addr} {pg : Pg} {x : OD} (h : PgO O a u g pg) (h1 : a ≠ c) (h2 : u ≠ c) (h3 : g ≠ c) : PgO (Dz.put O c x) a u g pg :=
  ⟨by rw [put_ne h1]; exact h.ha, by rw [put_ne h2]; exact h.hu, by rw [put_ne h3]; exact h.hg, h.au, h.ag, h.ug⟩
theorem pgput_over {O : OH} {a u g c : Addr} {pg : Pg} {x : OD} (h1 : a ≠ c) (h2 : u ≠ c) (h3 : g ≠ c) : pgPut (put O c x) a u g pg = put (pgPut O a u g pg) c x := by
  funext q
  unfold pgPut put
  by_cases e1 : q = a
  · simp [e1, h1]
  · by_cases e2 : q = g
    · simp [e2, h3, show ¬ g = a from fun z => e1 (e2.trans z)]
    · by_cases e3 : q = u
      · simp [e3, h2, show ¬ u = a from fun z => e1 (e3.trans z), show ¬ u = g from fun z => e2 (e3.trans z)]
      · simp [e1, e2, e3]
theorem PgO.apart {O : OH} {a u g c : Addr} {pg : Pg} (h : PgO O a u g pg) (hc : O c = Option.none) : a ≠ c ∧ u ≠ c ∧ g ≠ c :=
  ⟨fun z => (by have q := h.ha; rw [z, hc] at q; cases q), fun z => (by have q := h.hu; rw [z, hc] at q; cases q), fun z => (by have q := h.hg; rw [z, hc] at q; cases q)⟩
theorem putKS_E {s1 s2 s3 s4 s : Dz.Slot} : putKS [(kyU, s1), (kyG, s2), (kyT, s3), (kyE, s4)] kyE s = [(kyU, s1), (kyG, s2), (kyT, s3), (kyE, s)] := by
  unfold putKS
  rw [if_pos (by simp)]
  simp [ne_UE, ne_GE, ne_TE]
theorem putKS_T {s1 s2 s3 s4 s : Dz.Slot} : putKS [(kyU, s1), (kyG, s2), (kyT, s3), (kyE, s4)] kyT s = [(kyU, s1), (kyG, s2), (kyT, s), (kyE, s4)] := by
  unfold putKS
  rw [if_pos (by simp)]
  simp [ne_UT, ne_GT, Ne.symm ne_TE]
theorem at_nums {pg : Pg} {x : Int} (h0 : 0 ≤ x) (h1 : x < pg.up.length) : atI ((List.range pg.up.length).map fun i : Nat => D.int (numP pg (i : Int))) x = some (.int (numP pg x)) := by
  have hl : x.toNat < pg.up.length := by omega
  unfold atI
  rw [ixU h0 (by rw [List.length_map, List.length_range]; exact h1)]
  show ((List.range pg.up.length).map fun i : Nat => D.int (numP pg (i : Int)))[x.toNat]? = _
  rw [List.getElem?_map, List.getElem?_range hl]
  show some (D.int (numP pg ((x.toNat : Nat) : Int))) = _
  rw [Int.toNat_of_nonneg h0]
section
variable {P : Program} {w : World} {K : PySem.W.Frag} {mg : Str → Option Value} {base : Heap} {T : List Addr} {CE : Addr}
def numsD (pg : Pg) : D := .lst ((List.range pg.up.length).map fun i : Nat => D.int (numP pg (i : Int)))
def pTick (ss : List Dz.Slot) (O : OH) (d : D) (O' : OH) : Prop := ∃ a u g pg p ks sg st, ss = [.val (.ref a), .dat (suD p ks sg), .dat (stD st)] ∧ PgO O a u g pg ∧ WF pg ∧ 1 ≤ pg.up.length ∧ TkOk pg st ∧ d = .lst (tkH pg p ks sg st).1 ∧ O' = pgPut O a u g (tkP pg p ks sg st)
theorem scTick : FnScope ["p", "setup", "step", "numbers", "x", "current", "signals", "events", "k", "kind", "related", "stopped", "told"] ["p", "setup", "step"] (defScope s_law_tick) := ⟨rfl, rfl, rfl, by decide +kernel, rfl, by decide +kernel, by decide +kernel⟩
theorem ok_tick {f : Addr} {fd : FuncData} {cdv : Value} (F : FunC K "_law_tick" "_law_tick" s_law_tick f fd cdv) (L : Blt mg) (G1 : HasF P w K mg base CX0 2 "_law_number" ["p", "x"] (spF T K pNumber)) (G2 : HasF P w K mg base CX0 2 "_law_current" ["p"] (spF T K pCurrent)) (G3 : HasF P w K mg base CX0 3 "_law_events" ["p", "step"] (spF T K pEvents))
    (G4 : HasF P w K mg base CX0 1 "_law_reaches" ["setup", "kind", "number", "is_root", "stopped"] (spF T K pLReach)) (G5 : HasF P w K mg base CX0 1 "_law_signal" ["setup", "kind", "number", "same", "related"] (spF T K pLSig)) : FnOk P w K mg base CX0 4 f fd ["p", "setup", "step"] (spF T K pTick) := by
  refine fn_ok (CE := (0 : Addr)) (R := pTick) F scTick (fun ss O d O' ⟨_, _, _, _, _, _, _, _, h, _⟩ => by rw [h]; rfl) fun A outer s H E ss O d O' hr h => ?_
  obtain ⟨a, u, g, pg, p, ks, sg, st, h1, hP, hW, hl1, hT, h2, h3⟩ := h
  subst h1 h2 h3
  have hr1 := hr.mono (show 1 ≤ 3 by decide)
  have hr2 := hr.mono (show 2 ≤ 3 by decide)
  have hsz := hW.sz
  have el : ((pg.up.map oI).map Dz.Slot.dat).length = pg.up.length := by rw [List.length_map, List.length_map]
  refine ds_cons (d1_ice 3 (out := (List.range pg.up.length).map fun i : Nat => D.int (numP pg (i : Int))) (O1 := O) (d1_ownLcR 4 3 (m := (pg.up.length : Int)) (O2 := O) (DE.cast (de_lenO L.len (dv_up hr1 hP (dv_var 0 rfl)) hP.hu) (by rw [el])) (fun j acc O2 => acc = (List.range j).map (fun i : Nat => D.int (numP pg (i : Int))) ∧ O2 = O) ⟨rfl, rfl⟩ (lc_pureR (F := fun i : Nat => D.int (numP pg (i : Int))) fun j hj => fun s H C cl fp => de_callH G1 hr2 (da_v (dv_var 0 rfl) (da_d (de_var 4) da_nil)) ⟨a, u, g, pg, (j : Int), rfl, hP, hW, rfl, rfl⟩) (fun acc O2 q => by rw [Int.toNat_natCast] at q; exact q) (fun c hc => ⟨c, hc, rfl, rfl⟩) (by omega) (by omega) L.range scTick.nd (blkOk_by rfl)) ?_)
  refine ds_cons (d1_set 5 (s := .dat (oI (curP pg))) (DE.dv (de_callH G2 hr2 (da_v (dv_var 0 rfl) da_nil) ⟨a, u, g, pg, rfl, hP, hW, rfl, rfl⟩)) ?_ scTick.nd)
  refine ds_cons (d1_own 6 (ss := []) da_nil (fun c hc => ?_) scTick.nd)
  obtain ⟨n1, n2, n3⟩ := hP.apart hc
  refine ds_cons (d1_set 7 (s := .dat (.lst ((pevs pg st).map pevD))) (DE.dv (de_callH G3 hr (da_v (dv_var 0 rfl) (da_d (de_var 2) da_nil)) ⟨a, u, g, pg, st, rfl, hP.over n1 n2 n3, hW, isTk_of hT, rfl, rfl⟩)) ?_ scTick.nd)
  have hok := pevs_ok hW hl1 hT
  have hel := pevs_len pg st
  have ex : ∃ mid, stD st = .tup (mid ++ [.int (stpS st)]) ∧ atI (mid ++ [.int (stpS st)]) (-1) = some (.int (stpS st)) := by
    cases st with
    | pnt x s => exact ⟨[.str "point", .int x], rfl, rfl⟩
    | slp x s => exact ⟨[.str "slip", .int x], rfl, rfl⟩
    | out s => exact ⟨[.str "out"], rfl, rfl⟩
    | drp b s => exact ⟨[.str "drop", .bl b], rfl, rfl⟩
    | cnc b s => exact ⟨[.str "cancel", .bl b], rfl, rfl⟩
    | add x => exact hT.elim
    | rem x => exact hT.elim
    | plc x y => exact hT.elim
  obtain ⟨mid, esd, eat⟩ := ex
  show DS T _ _ _ [.val (.ref a), .dat (suD p ks sg), .dat (stD st), .dat (numsD pg), .no, .dat (oI (curP pg)), .val (.ref c), .dat (.lst ((pevs pg st).map pevD)), .no, .no, .no, .no, .no] (put O c (lO [])) _
  unfold tkP tkH
  generalize hevs : pevs pg st = evs at hok hel
  generalize hss : stpS st = st' at esd eat
  refine ds_mid (fun ρ' O2 => (∃ s4 s8 s9 s10 s11 s12, ρ' = [.val (.ref a), .dat (suD p ks sg), .dat (stD st), .dat (numsD pg), s4, .dat (oI (curP pg)), .val (.ref c), .dat (.lst (evs.map pevD)), s8, s9, s10, s11, s12]) ∧ O2 = put (pgPut O a u g { pg with en := (thear pg p ks sg st' evs evs.length).2 }) c (lO (thear pg p ks sg st' evs evs.length).1))
    (d1_forR (m := (evs.length : Int)) 8 (fun j ρ' O2 => (∃ s4 s8 s9 s10 s11 s12, ρ' = [.val (.ref a), .dat (suD p ks sg), .dat (stD st), .dat (numsD pg), s4, .dat (oI (curP pg)), .val (.ref c), .dat (.lst (evs.map pevD)), s8, s9, s10, s11, s12]) ∧ O2 = put (pgPut O a u g { pg with en := (thear pg p ks sg st' evs j).2 }) c (lO (thear pg p ks sg st' evs j).1))
      (DE.cast (de_lenL (ds := evs.map pevD) L.len (de_var 7)) (by rw [List.length_map])) (by omega) ⟨⟨_, _, _, _, _, _, rfl⟩, by show _ = put (pgPut O a u g pg) c (lO []); rw [hP.self]⟩ scTick.nd ?_ ?_ L.range PassesOwn.never) ?_
  · rintro j ρ' O2 hj ⟨⟨s4, s8, s9, s10, s11, s12, rfl⟩, rfl⟩
    have hjl : j < evs.length := by omega
    obtain ⟨⟨kind, x, rel⟩, hev⟩ : ∃ ev, evs[j]? = some ev := ⟨_, List.getElem?_eq_getElem hjl⟩
    obtain ⟨hx, hrel⟩ : EvR pg (kind, x, rel) := hok _ (List.mem_of_getElem? hev)
    have hx0 : 0 ≤ x := hx.1
    have hx1 : x < pg.up.length := hx.2
    have en := thear_at (pg := pg) (p := p) (ks := ks) (sg := sg) (s := st') hev
    have lq := thear_len (pg := pg) (p := p) (ks := ks) (sg := sg) (s := st') (evs := evs) j
    generalize thear pg p ks sg st' evs j = q at en lq
    obtain ⟨q1, q2⟩ := q
    rw [en]
    have lq : q1.length ≤ j := lq
    have hatj : atI (evs.map pevD) (j : Int) = some (pevD (kind, x, rel)) := by
      rw [atI_D (by omega) (by rw [List.length_map]; omega)]
      rw [List.getD_eq_getElem?_getD, Int.toNat_natCast, List.getElem?_map, hev]
      rfl
    refine ds_cons (d1_unpack (ds := [.str kind, .int x, oI rel]) (is := [9, 4, 10]) (de_ixL (ds := evs.map pevD) (de_var 7) (de_var 8) hatj) rfl (by repeat' (first | exact Dz.Names.nil | refine Dz.Names.cons rfl (by first | exact Or.inl rfl | exact Or.inr rfl) (by first | exact .inl rfl | exact .inr rfl) rfl ?_)) ?_ scTick.nd)
    have hP1 : PgO (put (pgPut O a u g { pg with en := q2 }) c (lO q1)) a u g { pg with en := q2 } := (hP.put _).over n1 n2 n3
    have hj3 : j = 0 ∨ j = 1 ∨ j = 2 := by omega
    have hp2 : atI [D.int 1, .int 2, .int 4] (j : Int) = some (.int ((2 : Int) ^ j)) ∧ CDiv st' ((2 : Int) ^ j) := by
      rcases hj3 with rfl | rfl | rfl
      · exact ⟨rfl, by show 0 < (2 : Int) ^ 0 ∧ _; decide⟩
      · exact ⟨rfl, by show 0 < (2 : Int) ^ 1 ∧ _; decide⟩
      · exact ⟨rfl, by show 0 < (2 : Int) ^ 2 ∧ _; decide⟩
    show DS T _ _ _ [.val (.ref a), .dat (suD p ks sg), .dat (stD st), .dat (numsD pg), .dat (.int x), .dat (oI (curP pg)), .val (.ref c), .dat (.lst (evs.map pevD)), .dat (.int (j : Int)), .dat (.str kind), .dat (oI rel), s11, s12] _ _
    refine ds_cons (d1_set 11 (s := .dat (.bl (stopB kind st' j))) (DE.dv (de_and (p := !decide (kind = "end")) (q := stB st' j) (DE.cast (de_ne (x := .str kind) (y := .str "end") hr1 (by rfl) (by rfl) (de_var 9) de_str) (by rw [deq_str])) fun _ => de_one (DE.cast (de_eq (x := .int (st' / 2 ^ j % 2)) (y := .int 1) hr1 (by rfl) (by rfl) (de_mod (by decide) (de_intI L.int (de_fdiv hp2.2 (de_ixT (ds := mid ++ [.int st']) (DE.cast (de_var 2) esd) (de_neg de_int) eat) (de_ixL (ds := [D.int 1, .int 2, .int 4]) (de_lst (ds := [D.int 1, .int 2, .int 4]) (da_d de_int (da_d de_int (da_d de_int da_nil)))) (de_var 8) hp2.1))) de_int) de_int) (by rw [deq_int]; rfl)))) ?_ scTick.nd)
    refine ds_one (d1_if (p := lreach p ks kind (numP pg x) (decide (x = 0)) (stopB kind st' j)) (O1 := put (pgPut O a u g { pg with en := q2 }) c (lO q1)) (dt_val (de_callH G4 hr1 (da_d (de_var 1) (da_d (de_var 9) (da_d (de_ixL (ds := (List.range pg.up.length).map fun i : Nat => D.int (numP pg (i : Int))) (de_var 3) (de_var 4) (at_nums hx0 hx1)) (da_d (DE.cast (de_eq (x := .int x) (y := .int 0) hr1 (by rfl) (by rfl) (de_var 4) de_int) (by rw [deq_int])) (da_d (de_var 11) da_nil))))) ⟨p, ks, sg, kind, numP pg x, decide (x = 0), stopB kind st' j, rfl, rfl, rfl⟩)) (fun z => ?_) fun z => ds_nil ?_)
    · have eh : tstep pg p ks sg st' j (kind, x, rel) (q1, q2) = (q1 ++ [lsig sg kind (numP pg x) (decide (q2 = some x)) (numO pg rel)], if kind = "enter" then some x else q2) := by unfold tstep; rw [if_pos z]
      rw [eh]
      refine ds_cons (d1_set 12 (s := .dat (.int 0)) (DE.dv de_int) ?_ scTick.nd)
      refine ds_mid (fun ρ' O2 => ρ' = [.val (.ref a), .dat (suD p ks sg), .dat (stD st), .dat (numsD pg), .dat (.int x), .dat (oI (curP pg)), .val (.ref c), .dat (.lst (evs.map pevD)), .dat (.int (j : Int)), .dat (.str kind), .dat (oI rel), .dat (.bl (stopB kind st' j)), .dat (.int (numO pg rel))] ∧ O2 = put (pgPut O a u g { pg with en := q2 }) c (lO q1))
        (d1_if (p := rel.isSome) (DT.cast (dt_notN (x := oI rel) (de_var 10) de_non) (by cases rel <;> rfl)) (fun y => ?_) fun y => ds_nil ⟨?_, rfl⟩) ?_
      · cases rel with
        | none => cases y
        | some r => exact ds_one (d1_set 12 (s := .dat (.int (numP pg r))) (DE.dv (de_ixL (ds := (List.range pg.up.length).map fun i : Nat => D.int (numP pg (i : Int))) (de_var 3) (DE.cast (de_var 10) rfl) (at_nums (hrel r rfl).1 (hrel r rfl).2))) ⟨rfl, rfl⟩ scTick.nd)
      · cases rel with
        | none => rfl
        | some r => cases y
      rintro ρ' O2 ⟨rfl, rfl⟩
      refine ds_cons (d1_app 6 rfl (de_callH G5 hr1 (da_d (de_var 1) (da_d (de_var 9) (da_d (de_ixL (ds := (List.range pg.up.length).map fun i : Nat => D.int (numP pg (i : Int))) (de_var 3) (de_var 4) (at_nums hx0 hx1)) (da_d (DE.cast (de_eq (x := oI q2) (y := .int x) hr1 (ok_oI _ _) (by rfl) (de_en hr1 hP1 (dv_var 0 rfl)) (de_var 4)) (congrArg D.bl (deq_oI q2 (some x)))) (da_d (de_var 12) da_nil))))) ⟨p, ks, sg, kind, numP pg x, decide (q2 = some x), numO pg rel, rfl, numP_bd _ _, numO_bd _ _, rfl, rfl⟩) (by omega) ?_)
      generalize lsig sg kind (numP pg x) (decide (q2 = some x)) (numO pg rel) = sgn
      have hP2 : PgO (put (pgPut O a u g { pg with en := q2 }) c (lO (q1 ++ [sgn]))) a u g { pg with en := q2 } := (hP.put _).over n1 n2 n3
      refine ds_one (d1_if (p := decide (kind = "enter")) (DT.cast (dt_eq (x := .str kind) (y := .str "enter") hr1 (by rfl) (by rfl) (de_var 9) de_str) (deq_str _ _)) (fun y => ?_) fun y => ds_nil ⟨⟨_, _, _, _, _, _, rfl⟩, by rw [if_neg (of_decide_eq_false y)]⟩)
      refine ds_one (d1_dput 0 (k := kyE) (s := .dat (.int x)) hr1 rfl (DE.dv (de_var 4)) de_str keyS hP2.ha (by show 4 < 10000; decide) ⟨⟨_, _, _, _, _, _, rfl⟩, ?_⟩)
      rw [putKS_E, if_pos (of_decide_eq_true y)]
      have e3 := hP2.setA pg.tg (some x)
      rw [pgput_over n1 n2 n3, pgput_put hP] at e3
      exact e3
    · have eh : tstep pg p ks sg st' j (kind, x, rel) (q1, q2) = (q1, q2) := by unfold tstep; rw [if_neg (by rw [z]; decide)]
      rw [eh]
      exact ⟨⟨_, _, _, _, _, _, rfl⟩, rfl⟩
  · rintro ρ' O2 ⟨⟨s4, s8, s9, s10, s11, s12, rfl⟩, rfl⟩
    rw [Int.toNat_natCast]
    exact ⟨⟨_, _, _, _, _, _, rfl⟩, rfl⟩
  rintro ρ' O2 ⟨⟨s4, s8, s9, s10, s11, s12, rfl⟩, rfl⟩
  generalize thear pg p ks sg st' evs evs.length = q
  obtain ⟨q1, q2⟩ := q
  have n1' : pgPut O a u g { pg with en := q2 } c = none := by rw [pgput_ne (Ne.symm n1) (Ne.symm n2) (Ne.symm n3)]; exact hc
  refine ds_ice 6 rfl n1' ?_
  have hP2 : PgO (pgPut O a u g { pg with en := q2 }) a u g { pg with en := q2 } := hP.put _
  clear esd eat hss hevs
  show DS T _ _ _ [.val (.ref a), .dat (suD p ks sg), .dat (stD st), .dat (numsD pg), s4, .dat (oI (curP pg)), .dat (.lst q1), .dat (.lst (evs.map pevD)), s8, s9, s10, s11, s12] _ _
  cases st with
  | out s =>
    refine ds_cons (d1_if (p := false) (DT.cast (dt_eq (x := .str "out") (y := .str "slip") hr1 (by rfl) (by rfl) (de_ixT (ds := [.str "out", .int s]) (de_var 2) de_int rfl) de_str) (dq (by decide +kernel))) (fun z => by cases z) fun _ => ds_nil ?_)
    refine ds_cons (d1_dput 0 (k := kyT) (s := .dat .non) hr1 rfl (DE.dv de_non) de_str keyS hP2.ha (by show 4 < 10000; decide) ?_)
    rw [putKS_T]
    have e3 := hP2.setA none q2
    rw [pgput_put hP] at e3
    have e4 : put (pgPut O a u g { pg with en := q2 }) a (.dic [(kyU, .val (.ref u)), (kyG, .val (.ref g)), (kyT, .dat .non), (kyE, .dat (oI q2))]) = pgPut O a u g { pg with tg := none, en := q2 } := e3
    rw [e4]
    refine ds_cons (d1_if (p := false) (DT.cast (dt_inT (x := .str "out") (ds := [.str "point", .str "slip"]) hr1 (by rfl) (by rfl) (de_ixT (ds := [.str "out", .int s]) (de_var 2) de_int rfl) (de_tup (ds := [.str "point", .str "slip"]) (da_d de_str (da_d de_str da_nil)))) (dq2 (by decide +kernel))) (fun z => by cases z) fun _ => ds_nil ?_)
    exact ds_one (d1_ret (s := .dat (.lst q1)) (DE.dv (de_var 6)) ⟨rfl, rfl⟩)
  | drp b s =>
    refine ds_cons (d1_if (p := false) (DT.cast (dt_eq (x := .str "drop") (y := .str "slip") hr1 (by rfl) (by rfl) (de_ixT (ds := [.str "drop", .bl b, .int s]) (de_var 2) de_int rfl) de_str) (dq (by decide +kernel))) (fun z => by cases z) fun _ => ds_nil ?_)
    refine ds_cons (d1_dput 0 (k := kyT) (s := .dat .non) hr1 rfl (DE.dv de_non) de_str keyS hP2.ha (by show 4 < 10000; decide) ?_)
    rw [putKS_T]
    have e3 := hP2.setA none q2
    rw [pgput_put hP] at e3
    have e4 : put (pgPut O a u g { pg with en := q2 }) a (.dic [(kyU, .val (.ref u)), (kyG, .val (.ref g)), (kyT, .dat .non), (kyE, .dat (oI q2))]) = pgPut O a u g { pg with tg := none, en := q2 } := e3
    rw [e4]
    refine ds_cons (d1_if (p := false) (DT.cast (dt_inT (x := .str "drop") (ds := [.str "point", .str "slip"]) hr1 (by rfl) (by rfl) (de_ixT (ds := [.str "drop", .bl b, .int s]) (de_var 2) de_int rfl) (de_tup (ds := [.str "point", .str "slip"]) (da_d de_str (da_d de_str da_nil)))) (dq2 (by decide +kernel))) (fun z => by cases z) fun _ => ds_nil ?_)
    exact ds_one (d1_ret (s := .dat (.lst q1)) (DE.dv (de_var 6)) ⟨rfl, rfl⟩)
  | cnc b s =>
    refine ds_cons (d1_if (p := false) (DT.cast (dt_eq (x := .str "cancel") (y := .str "slip") hr1 (by rfl) (by rfl) (de_ixT (ds := [.str "cancel", .bl b, .int s]) (de_var 2) de_int rfl) de_str) (dq (by decide +kernel))) (fun z => by cases z) fun _ => ds_nil ?_)
    refine ds_cons (d1_dput 0 (k := kyT) (s := .dat .non) hr1 rfl (DE.dv de_non) de_str keyS hP2.ha (by show 4 < 10000; decide) ?_)
    rw [putKS_T]
    have e3 := hP2.setA none q2
    rw [pgput_put hP] at e3
    have e4 : put (pgPut O a u g { pg with en := q2 }) a (.dic [(kyU, .val (.ref u)), (kyG, .val (.ref g)), (kyT, .dat .non), (kyE, .dat (oI q2))]) = pgPut O a u g { pg with tg := none, en := q2 } := e3
    rw [e4]
    refine ds_cons (d1_if (p := false) (DT.cast (dt_inT (x := .str "cancel") (ds := [.str "point", .str "slip"]) hr1 (by rfl) (by rfl) (de_ixT (ds := [.str "cancel", .bl b, .int s]) (de_var 2) de_int rfl) (de_tup (ds := [.str "point", .str "slip"]) (da_d de_str (da_d de_str da_nil)))) (dq2 (by decide +kernel))) (fun z => by cases z) fun _ => ds_nil ?_)
    exact ds_one (d1_ret (s := .dat (.lst q1)) (DE.dv (de_var 6)) ⟨rfl, rfl⟩)
  | pnt x s =>
    refine ds_cons (d1_if (p := false) (DT.cast (dt_eq (x := .str "point") (y := .str "slip") hr1 (by rfl) (by rfl) (de_ixT (ds := [.str "point", .int x, .int s]) (de_var 2) de_int rfl) de_str) (dq (by decide +kernel))) (fun z => by cases z) fun _ => ds_nil ?_)
    refine ds_cons (d1_dput 0 (k := kyT) (s := .dat .non) hr1 rfl (DE.dv de_non) de_str keyS hP2.ha (by show 4 < 10000; decide) ?_)
    rw [putKS_T]
    have e3 := hP2.setA none q2
    rw [pgput_put hP] at e3
    have e4 : put (pgPut O a u g { pg with en := q2 }) a (.dic [(kyU, .val (.ref u)), (kyG, .val (.ref g)), (kyT, .dat .non), (kyE, .dat (oI q2))]) = pgPut O a u g { pg with tg := none, en := q2 } := e3
    rw [e4]
    have hP3 : PgO (pgPut O a u g { pg with tg := none, en := q2 }) a u g { pg with tg := none, en := q2 } := hP.put _
    refine ds_mid (fun ρ' O2 => ρ' = [.val (.ref a), .dat (suD p ks sg), .dat (stD (.pnt x s)), .dat (numsD pg), s4, .dat (oI (curP pg)), .dat (.lst q1), .dat (.lst (evs.map pevD)), s8, s9, s10, s11, s12] ∧ O2 = pgPut O a u g { pg with tg := some x, en := q2 })
      (d1_if (p := true) (DT.cast (dt_inT (x := .str "point") (ds := [.str "point", .str "slip"]) hr1 (by rfl) (by rfl) (de_ixT (ds := [.str "point", .int x, .int s]) (de_var 2) de_int rfl) (de_tup (ds := [.str "point", .str "slip"]) (da_d de_str (da_d de_str da_nil)))) (dq2 (by decide +kernel))) (fun _ => ds_one (d1_dput 0 (k := kyT) (s := .dat (.int x)) hr1 rfl (DE.dv (de_ixT (ds := [.str "point", .int x, .int s]) (de_var 2) de_int rfl)) de_str keyS hP3.ha (by show 4 < 10000; decide) ⟨rfl, ?_⟩)) fun z => by cases z) ?_
    · rw [putKS_T]
      have e5 := hP3.setA (some x) q2
      rw [pgput_put hP] at e5
      exact e5
    rintro ρ' O2 ⟨rfl, rfl⟩
    exact ds_one (d1_ret (s := .dat (.lst q1)) (DE.dv (de_var 6)) ⟨rfl, rfl⟩)
  | slp x s =>
    obtain ⟨_, c1, hcu⟩ := hT
    obtain ⟨b0, b1⟩ := there_bd (cur_there hcu)
    have eg : slpG pg (.slp x s) = pg.gone.set c1.toNat true := by
      show pg.gone.set ((curP pg).getD 0).toNat true = _
      rw [hcu]
      rfl
    have ecu : oI (curP pg) = .int c1 := by rw [hcu]; rfl
    rw [eg]
    generalize hgs : pg.gone.set c1.toNat true = gs
    refine ds_cons (d1_if (p := true) (DT.cast (dt_eq (x := .str "slip") (y := .str "slip") hr1 (by rfl) (by rfl) (de_ixT (ds := [.str "slip", .int x, .int s]) (de_var 2) de_int rfl) de_str) (dq (by decide +kernel))) (fun _ => ds_one (d1_setitemG (s := .dat (.bl true)) (k := c1) (j := c1.toNat) (DE.dv de_bl) (dv_gone hr1 hP2 (dv_var 0 rfl)) (DE.cast (de_var 5) ecu) hP2.hg (by rw [List.length_map, List.length_map]; exact ixU b0 (by show c1 < (pg.gone.length : Int); rw [hW.len]; exact b1)) ?_)) fun z => by cases z)
    have es : ((pg.gone.map D.bl).map Dz.Slot.dat).set c1.toNat (.dat (.bl true)) = (gs.map D.bl).map .dat := by rw [← hgs, List.map_set, List.map_set]
    have e6 := hP2.setG gs
    rw [pgput_put hP] at e6
    have e7 : put (pgPut O a u g { pg with en := q2 }) g (.lst (((pg.gone.map D.bl).map Dz.Slot.dat).set c1.toNat (.dat (.bl true)))) = pgPut O a u g { pg with gone := gs, en := q2 } := by rw [es]; exact e6
    show DS T _ _ _ [.val (.ref a), .dat (suD p ks sg), .dat (stD (.slp x s)), .dat (numsD pg), s4, .dat (oI (curP pg)), .dat (.lst q1), .dat (.lst (evs.map pevD)), s8, s9, s10, s11, s12] (put (pgPut O a u g { pg with en := q2 }) g (.lst (((pg.gone.map D.bl).map Dz.Slot.dat).set c1.toNat (.dat (.bl true))))) _
    rw [e7]
    have hP4 : PgO (pgPut O a u g { pg with gone := gs, en := q2 }) a u g { pg with gone := gs, en := q2 } := hP.put _
    refine ds_cons (d1_dput 0 (k := kyT) (s := .dat .non) hr1 rfl (DE.dv de_non) de_str keyS hP4.ha (by show 4 < 10000; decide) ?_)
    rw [putKS_T]
    have e3 := hP4.setA none q2
    rw [pgput_put hP] at e3
    have e4 : put (pgPut O a u g { pg with gone := gs, en := q2 }) a (.dic [(kyU, .val (.ref u)), (kyG, .val (.ref g)), (kyT, .dat .non), (kyE, .dat (oI q2))]) = pgPut O a u g { pg with gone := gs, tg := none, en := q2 } := e3
    rw [e4]
    have hP3 : PgO (pgPut O a u g { pg with gone := gs, tg := none, en := q2 }) a u g { pg with gone := gs, tg := none, en := q2 } := hP.put _
    refine ds_mid (fun ρ' O2 => ρ' = [.val (.ref a), .dat (suD p ks sg), .dat (stD (.slp x s)), .dat (numsD pg), s4, .dat (oI (curP pg)), .dat (.lst q1), .dat (.lst (evs.map pevD)), s8, s9, s10, s11, s12] ∧ O2 = pgPut O a u g { pg with gone := gs, tg := some x, en := q2 })
      (d1_if (p := true) (DT.cast (dt_inT (x := .str "slip") (ds := [.str "point", .str "slip"]) hr1 (by rfl) (by rfl) (de_ixT (ds := [.str "slip", .int x, .int s]) (de_var 2) de_int rfl) (de_tup (ds := [.str "point", .str "slip"]) (da_d de_str (da_d de_str da_nil)))) (dq2 (by decide +kernel))) (fun _ => ds_one (d1_dput 0 (k := kyT) (s := .dat (.int x)) hr1 rfl (DE.dv (de_ixT (ds := [.str "slip", .int x, .int s]) (de_var 2) de_int rfl)) de_str keyS hP3.ha (by show 4 < 10000; decide) ⟨rfl, ?_⟩)) fun z => by cases z) ?_
    · rw [putKS_T]
      have e5 := hP3.setA (some x) q2
      rw [pgput_put hP] at e5
      exact e5
    rintro ρ' O2 ⟨rfl, rfl⟩
    exact ds_one (d1_ret (s := .dat (.lst q1)) (DE.dv (de_var 6)) ⟨rfl, rfl⟩)
  | add x => exact hT.elim
  | rem x => exact hT.elim
  | plc x y => exact hT.elim
end
end Dg

namespace Dg
open PySem PySem.Spec PyProof.Rows L2 GxR Dz
section
variable {P : Program} {w : World} {K : PySem.W.Frag} {mg : Str → Option Value} {base : Heap} {T : List Addr} {CE fI : Addr}
end
end Dg


namespace Dg
open PySem PySem.Spec PyProof.Rows L2 GxR Dz
/-! ### the program's page: for each number the one that it is directly in -/
def nxt (pp : List (Option Int)) (x : Int) : Option Int := pp.getD x.toNat none
def goP (pp : List (Option Int)) (y : Int) : Nat → Option Int → Bool
  | 0, _ => false
  | _ + 1, none => false
  | n + 1, some x => if x = y then true else goP pp y n (nxt pp x)
def wiP (pp : List (Option Int)) (x y : Int) : Bool := goP pp y (pp.length + 1) (some x)
/-- each leads to one of smaller rank -/
def Rk (pp : List (Option Int)) (rk : Nat → Nat) : Prop := ∀ (i : Nat) (y : Int), pp[i]? = some (some y) → 0 ≤ y ∧ y < pp.length ∧ rk y.toNat < rk i
theorem nxt_at {pp : List (Option Int)} {x : Int} {o : Option Int} (h : pp[x.toNat]? = some o) : nxt pp x = o := by
  unfold nxt
  rw [List.getD_eq_getElem?_getD, h]
  rfl
theorem at_nxt {pp : List (Option Int)} {x : Int} (h0 : 0 ≤ x) (h1 : x < pp.length) : pp[x.toNat]? = some (nxt pp x) := by
  have hl : x.toNat < pp.length := by omega
  unfold nxt
  rw [List.getD_eq_getElem?_getD, List.getElem?_eq_getElem hl]
  rfl
theorem nxt_in {pp : List (Option Int)} {x y : Int} (h : nxt pp x = some y) : x.toNat < pp.length ∧ pp[x.toNat]? = some (some y) := by
  unfold nxt at h
  rw [List.getD_eq_getElem?_getD] at h
  cases e : pp[x.toNat]? with
  | none => rw [e] at h; cases h
  | some o =>
    rw [e] at h
    have h' : o = some y := h
    subst h'
    exact ⟨(List.getElem?_eq_some_iff.mp e).1, rfl⟩
/-- a rank below the number of elements -/
def cnt (rk : Nat → Nat) (n i : Nat) : Nat := ((List.range n).filter fun j => decide (rk j < rk i)).length
theorem filter_lt {α : Type} {p q : α → Bool} : ∀ {l : List α} {a : α}, (∀ x, p x = true → q x = true) → a ∈ l → p a = false → q a = true → (l.filter p).length < (l.filter q).length
  | [], _, _, h, _, _ => by cases h
  | b :: l, a, hi, h, h1, h2 => by
    have hle : ∀ l : List α, (l.filter p).length ≤ (l.filter q).length := fun l => by
      induction l with
      | nil => exact Nat.le_refl _
      | cons c l ih =>
        rw [List.filter_cons, List.filter_cons]
        cases hp : p c with
        | true =>
          rw [if_pos rfl, if_pos (hi c hp)]
          simpa using ih
        | false =>
          rw [if_neg (by simp)]
          split
          · simp; omega
          · exact ih
    rw [List.filter_cons, List.filter_cons]
    rcases List.mem_cons.mp h with e | e
    · subst e
      rw [h1, h2, if_neg (by simp), if_pos rfl, List.length_cons]
      exact Nat.lt_succ_of_le (hle l)
    · have := filter_lt hi e h1 h2
      cases hp : p b with
      | true =>
        rw [if_pos rfl, if_pos (hi b hp)]
        simpa using this
      | false =>
        rw [if_neg (by simp)]
        split
        · simp; omega
        · exact this
theorem cnt_lt {rk : Nat → Nat} {n i : Nat} (h : i < n) : cnt rk n i < n := by
  unfold cnt
  have := filter_lt (p := fun j => decide (rk j < rk i)) (q := fun _ => true) (l := List.range n) (a := i) (fun _ _ => rfl) (List.mem_range.mpr h) (by simp) rfl
  have e : ((List.range n).filter fun _ => true).length = n := by rw [List.filter_eq_self.mpr (fun _ _ => rfl), List.length_range]
  rw [e] at this
  exact this
theorem cnt_mono {rk : Nat → Nat} {n i j : Nat} (h : i < n) (k : rk i < rk j) : cnt rk n i < cnt rk n j := by
  unfold cnt
  exact filter_lt (a := i) (fun x hx => by simp only [decide_eq_true_eq] at hx ⊢; omega) (List.mem_range.mpr h) (by simp) (by simp [k])
theorem Rk.bound {pp : List (Option Int)} {rk : Nat → Nat} (h : Rk pp rk) : Rk pp (cnt rk pp.length) := fun i y e => by
  obtain ⟨h0, h1, h2⟩ := h i y e
  exact ⟨h0, h1, cnt_mono (by omega) h2⟩
/-- enough turns: the same answer -/
theorem goP_more {pp : List (Option Int)} {rk : Nat → Nat} (h : Rk pp rk) (y : Int) : ∀ (n m : Nat) (x : Int), rk x.toNat < n → rk x.toNat < m → goP pp y n (some x) = goP pp y m (some x)
  | 0, _, _, h1, _ => by omega
  | n + 1, 0, _, _, h2 => by omega
  | n + 1, m + 1, x, h1, h2 => by
    rw [goP, goP]
    split
    · rfl
    · cases e : nxt pp x with
      | none => cases n <;> cases m <;> rfl
      | some z =>
        obtain ⟨_, e1⟩ := nxt_in e
        obtain ⟨_, _, e2⟩ := h _ _ e1
        exact goP_more h y n m z (by omega) (by omega)
theorem wiP_step {pp : List (Option Int)} {rk : Nat → Nat} (h : Rk pp rk) {x y : Int} (h0 : 0 ≤ x) (h1 : x < pp.length) : wiP pp x y = if x = y then true else match nxt pp x with
    | none => false
    | some z => wiP pp z y := by
  unfold wiP
  rw [goP]
  split
  · rfl
  · cases e : nxt pp x with
    | none => cases pp.length <;> rfl
    | some z =>
      obtain ⟨_, e1⟩ := nxt_in e
      have hb := h.bound
      obtain ⟨b0, b1, b2⟩ := hb _ _ e1
      have hz : cnt rk pp.length z.toNat < pp.length := cnt_lt (by omega)
      exact goP_more hb y _ _ z hz (by omega)
theorem wiP_self {pp : List (Option Int)} {x : Int} : wiP pp x x = true := by
  unfold wiP
  rw [goP, if_pos rfl]
/-! ### the law's page and the program's -/
structure Rl (pp : List (Option Int)) (pg : Pg) : Prop where
  wf : WF pg
  len : pp.length = pg.up.length
  two : 2 ≤ pg.up.length
  rk : ∃ rk, Rk pp rk
  p0 : pp[0]? = some none
  u0 : pg.up[0]? = some none
  g0 : pg.gone[0]? = some false
  p1 : pp[1]? = some (some 0)
  g1 : pg.gone[1]? = some false
  th : ∀ i : Nat, 1 ≤ i → pg.gone[i]? = some false → ∃ p : Int, pp[i]? = some (some p) ∧ pg.up[i]? = some (some p) ∧ pg.gone[p.toNat]? = some false
  go : ∀ i : Nat, pg.gone[i]? = some true → pp[i]? = some none ∨ ∃ p : Int, pp[i]? = some (some p) ∧ pg.gone[p.toNat]? = some true
section
variable {pp : List (Option Int)} {pg : Pg}
theorem there_iff (R : Rl pp pg) {x : Int} : there pg x = true ↔ 0 ≤ x ∧ x < pg.up.length ∧ pg.gone[x.toNat]? = some false := by
  unfold there
  constructor
  · intro h
    simp only [Bool.and_eq_true, decide_eq_true_eq, Bool.not_eq_true'] at h
    obtain ⟨⟨h0, h1⟩, h2⟩ := h
    refine ⟨h0, h1, ?_⟩
    rw [R.wf.g h0 h1, h2]
  · rintro ⟨h0, h1, h2⟩
    have := R.wf.g h0 h1
    rw [h2] at this
    have e := (Option.some.inj this).symm
    rw [e]
    simp [h0, h1]
theorem gone_or (R : Rl pp pg) {x : Int} (h0 : 0 ≤ x) (h1 : x < pg.up.length) : pg.gone[x.toNat]? = some false ∨ pg.gone[x.toNat]? = some true := by
  have := R.wf.g h0 h1
  rw [this]
  cases pg.gone.getD x.toNat false <;> simp
theorem th_x (R : Rl pp pg) {x : Int} (h : there pg x = true) (hx : x ≠ 0) : ∃ p : Int, nxt pp x = some p ∧ upI pg x = p ∧ there pg p = true ∧ 0 ≤ p ∧ p < pp.length := by
  obtain ⟨h0, h1, h2⟩ := (there_iff R).mp h
  obtain ⟨p, e1, e2, e3⟩ := R.th x.toNat (by omega) h2
  obtain ⟨rk, hk⟩ := R.rk
  obtain ⟨b0, b1, _⟩ := hk _ _ e1
  refine ⟨p, nxt_at e1, ?_, (there_iff R).mpr ⟨b0, by rw [← R.len]; exact b1, e3⟩, b0, b1⟩
  unfold upI
  rw [List.getD_eq_getElem?_getD, e2]
  rfl
/-- from what is there, both walk alike -/
theorem go_same (R : Rl pp pg) (y : Int) : ∀ (n : Nat) (x : Int), there pg x = true → goW pg y n x = goP pp y n (some x)
  | 0, _, _ => rfl
  | n + 1, x, h => by
    rw [goW, goP]
    split
    · rfl
    · by_cases hx : x = 0
      · subst hx
        rw [if_pos rfl, nxt_at (x := 0) R.p0]
        cases n <;> rfl
      · rw [if_neg hx]
        obtain ⟨p, e1, e2, e3, _, _⟩ := th_x R h hx
        rw [e1, e2]
        exact go_same R y n p e3
theorem within_wi (R : Rl pp pg) {x y : Int} (h : there pg x = true) : within pg x y = wiP pp x y := by
  unfold within wiP
  rw [R.len]
  exact go_same R y _ x h
theorem go_gone (R : Rl pp pg) : ∀ (n : Nat) (x : Int), 0 ≤ x → pg.gone[x.toNat]? = some true → goP pp 0 n (some x) = false
  | 0, _, _, _ => rfl
  | n + 1, x, h0, h => by
    rw [goP]
    have hx : x ≠ 0 := fun z => by
      subst z
      have := R.g0
      rw [show (0 : Int).toNat = 0 from rfl] at h
      rw [h] at this
      cases this
    rw [if_neg hx]
    rcases R.go _ h with e | ⟨p, e1, e2⟩
    · rw [nxt_at e]
      cases n <;> rfl
    · rw [nxt_at e1]
      obtain ⟨rk, hk⟩ := R.rk
      exact go_gone R n p (hk _ _ e1).1 e2
theorem go_root (R : Rl pp pg) {rk : Nat → Nat} (hk : Rk pp rk) : ∀ (n : Nat) (x : Int), there pg x = true → rk x.toNat < n → goP pp 0 n (some x) = true
  | 0, _, _, h => by omega
  | n + 1, x, h, hn => by
    rw [goP]
    by_cases hx : x = 0
    · rw [if_pos hx]
    · rw [if_neg hx]
      obtain ⟨p, e1, _, e3, _, _⟩ := th_x R h hx
      rw [e1]
      obtain ⟨_, q⟩ := nxt_in e1
      exact go_root R hk n p e3 (by have := (hk _ _ q).2.2; omega)
theorem there_wi (R : Rl pp pg) {x : Int} (h0 : 0 ≤ x) (h1 : x < pg.up.length) : wiP pp x 0 = there pg x := by
  rcases gone_or R h0 h1 with e | e
  · have ht := (there_iff R).mpr ⟨h0, h1, e⟩
    obtain ⟨rk, hk⟩ := R.rk
    rw [ht]
    have hz : cnt rk pp.length x.toNat < pp.length := cnt_lt (by rw [R.len]; omega)
    exact go_root R hk.bound _ x ht (by omega)
  · have ht : there pg x = false := by
      cases q : there pg x with
      | false => rfl
      | true =>
        have := ((there_iff R).mp q).2.2
        rw [e] at this
        cases this
    rw [ht]
    exact go_gone R _ x h0 e
theorem zone_there (R : Rl pp pg) : there pg 1 = true := (there_iff R).mpr ⟨by decide, by have := R.two; omega, R.g1⟩
theorem root_there (R : Rl pp pg) : there pg 0 = true := (there_iff R).mpr ⟨by decide, by have := R.two; omega, R.g0⟩
theorem within_step (R : Rl pp pg) {x y p : Int} (h : there pg x = true) (hp : nxt pp x = some p) (hy : x ≠ y) : wiP pp x y = wiP pp p y := by
  obtain ⟨rk, hk⟩ := R.rk
  obtain ⟨h0, h1, _⟩ := (there_iff R).mp h
  rw [wiP_step hk h0 (by rw [R.len]; exact h1), if_neg hy, hp]
end
end Dg

namespace Dg
open PySem PySem.Spec PyProof.Rows L2 GxR Dz
/-! ### changes keep both pages alike -/
section
variable {pp : List (Option Int)} {pg : Pg}
theorem Rk.put {rk : Nat → Nat} (h : Rk pp rk) (x : Nat) : Rk (pp.set x none) rk := fun i y e => by
  rw [List.getElem?_set] at e
  split at e
  · split at e <;> cases e
  · obtain ⟨a, b, c⟩ := h i y e
    exact ⟨a, by rw [List.length_set]; exact b, c⟩
theorem Rl.gl (R : Rl pp pg) : pg.gone.length = pg.up.length := R.wf.len
theorem rl_add (R : Rl pp pg) {p : Int} (h : there pg p = true) (hz : pg.up.length < 100) : Rl (pp ++ [some p]) (chP pg (.add p)) := by
  obtain ⟨h0, h1, h2⟩ := (there_iff R).mp h
  have hl := R.len
  have hg := R.gl
  have ht := R.two
  have apg : ∀ {α : Type} {l : List α} {x : α} {i : Nat}, i < l.length → (l ++ [x])[i]? = l[i]? := fun {α l x i} h => List.getElem?_append_left h
  have app : ∀ {α : Type} {l : List α} {x : α}, (l ++ [x])[l.length]? = some x := fun {α l x} => by rw [List.getElem?_append_right (Nat.le_refl _), Nat.sub_self]; rfl
  have lt_of : ∀ {α : Type} {l : List α} {i : Nat} {y : α}, l[i]? = some y → i < l.length := fun {α l i y} e => (List.getElem?_eq_some_iff.mp e).1
  obtain ⟨rk, hk⟩ := R.rk
  refine ⟨⟨?_, ?_, ?_⟩, ?_, ?_, ?_, ?_, ?_, ?_, ?_, ?_, ?_, ?_⟩
  · show (pg.gone ++ [false]).length = (pg.up ++ [some p]).length
    rw [List.length_append, List.length_append, hg]
    rfl
  · intro i hi hlt
    have hlt' : i < pg.up.length + 1 := by
      have : i < (pg.up ++ [some p]).length := hlt
      rw [List.length_append] at this
      exact this
    have len' : ((chP pg (.add p)).up.length : Int) = pg.up.length + 1 := by
      show ((pg.up ++ [some p]).length : Int) = _
      rw [List.length_append]
      rfl
    by_cases e : i = pg.up.length
    · subst e
      exact ⟨p, app, h0, by rw [len']; omega⟩
    · obtain ⟨y, e1, e2, e3⟩ := R.wf.up i hi (by omega)
      refine ⟨y, ?_, e2, by rw [len']; omega⟩
      show (pg.up ++ [some p])[i]? = _
      rw [apg (by omega)]
      exact e1
  · show (pg.up ++ [some p]).length ≤ 100
    rw [List.length_append]
    show pg.up.length + 1 ≤ 100
    omega
  · show (pp ++ [some p]).length = (pg.up ++ [some p]).length
    rw [List.length_append, List.length_append, hl]
  · show 2 ≤ (pg.up ++ [some p]).length
    rw [List.length_append]
    show 2 ≤ pg.up.length + 1
    omega
  · refine ⟨fun i => if i = pp.length then rk p.toNat + 1 else rk i, fun i y e => ?_⟩
    have hlen : ((pp ++ [some p]).length : Int) = pp.length + 1 := by rw [List.length_append]; rfl
    by_cases ei : i = pp.length
    · subst ei
      rw [app] at e
      cases e
      refine ⟨h0, by rw [hlen]; omega, ?_⟩
      show (if p.toNat = pp.length then _ else _) < if pp.length = pp.length then rk p.toNat + 1 else _
      rw [if_pos rfl, if_neg (by omega)]
      omega
    · have hi : i < pp.length := by
        have := lt_of e
        rw [List.length_append] at this
        have : i < pp.length + 1 := this
        omega
      rw [apg hi] at e
      obtain ⟨a, b, c⟩ := hk i y e
      refine ⟨a, by rw [hlen]; omega, ?_⟩
      show (if y.toNat = pp.length then _ else _) < if i = pp.length then _ else _
      rw [if_neg ei, if_neg (by omega)]
      exact c
  · rw [apg (by omega)]; exact R.p0
  · show (pg.up ++ [some p])[0]? = _
    rw [apg (by omega)]; exact R.u0
  · show (pg.gone ++ [false])[0]? = _
    rw [apg (by omega)]; exact R.g0
  · rw [apg (by omega)]; exact R.p1
  · show (pg.gone ++ [false])[1]? = _
    rw [apg (by omega)]; exact R.g1
  · intro i hi e
    have e : (pg.gone ++ [false])[i]? = some false := e
    show ∃ q : Int, (pp ++ [some p])[i]? = _ ∧ (pg.up ++ [some p])[i]? = _ ∧ (pg.gone ++ [false])[q.toNat]? = _
    by_cases ei : i = pg.up.length
    · subst ei
      refine ⟨p, by rw [← hl]; exact app, app, ?_⟩
      rw [apg (by omega)]
      exact h2
    · have hi2 : i < pg.gone.length := by
        have := lt_of e
        rw [List.length_append] at this
        have : i < pg.gone.length + 1 := this
        omega
      rw [apg hi2] at e
      obtain ⟨q, e1, e2, e3⟩ := R.th i hi e
      exact ⟨q, by rw [apg (by omega)]; exact e1, by rw [apg (by omega)]; exact e2, by rw [apg (lt_of e3)]; exact e3⟩
  · intro i e
    have e : (pg.gone ++ [false])[i]? = some true := e
    show (pp ++ [some p])[i]? = _ ∨ ∃ q : Int, (pp ++ [some p])[i]? = _ ∧ (pg.gone ++ [false])[q.toNat]? = _
    by_cases ei : i = pg.gone.length
    · subst ei
      rw [app] at e
      cases e
    · have hi2 : i < pg.gone.length := by
        have := lt_of e
        rw [List.length_append] at this
        have : i < pg.gone.length + 1 := this
        omega
      rw [apg hi2] at e
      rw [apg (by omega)]
      rcases R.go i e with q | ⟨q, e1, e2⟩
      · exact .inl q
      · exact .inr ⟨q, e1, by rw [apg (lt_of e2)]; exact e2⟩
/-- who is gone behind a removal -/
theorem rem_at (R : Rl pp pg) {x : Int} (hx : 0 ≤ x ∧ x < pg.up.length) {i : Nat} (hi : i < pg.up.length) : (remP pg x).gone[i]? = some (pg.gone.getD i false || decide ((i : Int) = x) || within pg (i : Int) x) := by
  show ((remG pg x pg.up.length).set x.toNat true)[i]? = _
  rw [List.getElem?_set]
  by_cases e : x.toNat = i
  · rw [if_pos e, if_pos (by rw [remG_len]; omega)]
    have : decide ((i : Int) = x) = true := decide_eq_true (by omega)
    rw [this]
    simp
  · rw [if_neg e, remG_at hi]
    have e1 : decide ((i : Int) = x) = false := decide_eq_false (by omega)
    have e2 : decide ((i : Int) ≠ x) = true := decide_eq_true (by omega)
    rw [e1, e2, decide_eq_true hi]
    simp
theorem rl_rem (R : Rl pp pg) {x : Int} (h : there pg x = true) (h2 : 2 ≤ x) : Rl (pp.set x.toNat none) (remP pg x) := by
  obtain ⟨h0, h1, h3⟩ := (there_iff R).mp h
  have hl := R.len
  have hg := R.gl
  have ht := R.two
  have hx : 0 ≤ x ∧ x < pg.up.length := ⟨h0, h1⟩
  have up' : (remP pg x).up = pg.up := rfl
  have gl' : (remP pg x).gone.length = pg.up.length := by
    show ((remG pg x pg.up.length).set x.toNat true).length = _
    rw [List.length_set, remG_len]
  have lt_of : ∀ {α : Type} {l : List α} {i : Nat} {y : α}, l[i]? = some y → i < l.length := fun {α l i y} e => (List.getElem?_eq_some_iff.mp e).1
  have ne : ∀ {i : Nat}, (i : Int) ≠ x → (pp.set x.toNat none)[i]? = pp[i]? := fun {i} e => by
    rw [List.getElem?_set, if_neg (by omega)]
  have gf : ∀ {i : Nat}, i < pg.up.length → pg.gone[i]? = some (pg.gone.getD i false) := fun {i} hi => R.wf.ga hi
  have keep : ∀ {i : Nat}, i < pg.up.length → pg.gone[i]? = some false → (i : Int) ≠ x → within pg (i : Int) x = false → (remP pg x).gone[i]? = some false := fun {i} hi e1 e2 e3 => by
    rw [rem_at R hx hi]
    have := gf hi
    rw [e1] at this
    rw [← Option.some.inj this, decide_eq_false e2, e3]
    rfl
  have noroot : ∀ {i : Nat}, i < 2 → within pg (i : Int) x = false := fun {i} hi => by
    have it : there pg (i : Int) = true := by
      have : i = 0 ∨ i = 1 := by omega
      rcases this with rfl | rfl
      · exact root_there R
      · exact zone_there R
    rw [within_wi R it]
    obtain ⟨rk, hk⟩ := R.rk
    have : i = 0 ∨ i = 1 := by omega
    have w0 : wiP pp 0 x = false := by
      rw [wiP_step hk (by decide) (by omega), if_neg (by omega), nxt_at (x := 0) R.p0]
    rcases this with rfl | rfl
    · exact w0
    · show wiP pp 1 x = false
      rw [wiP_step hk (by decide) (by omega), if_neg (by omega), nxt_at (x := 1) R.p1]
      exact w0
  refine ⟨⟨?_, R.wf.up, R.wf.sz⟩, ?_, R.two, ?_, ?_, R.u0, ?_, ?_, ?_, ?_, ?_⟩
  · rw [gl', up']
  · rw [List.length_set]; exact hl
  · obtain ⟨rk, hk⟩ := R.rk
    exact ⟨rk, hk.put _⟩
  · exact (ne (i := 0) (by omega)).trans R.p0
  · exact keep (i := 0) (by omega) R.g0 (by omega) (noroot (by omega))
  · exact (ne (i := 1) (by omega)).trans R.p1
  · exact keep (i := 1) (by omega) R.g1 (by omega) (noroot (by omega))
  · intro i hi e
    have hil : i < pg.up.length := by rw [← gl']; exact lt_of e
    rw [rem_at R hx hil] at e
    have e' := Option.some.inj e
    simp only [Bool.or_eq_false_iff, decide_eq_false_iff_not] at e'
    obtain ⟨⟨e1, e2⟩, e3⟩ := e'
    have gi : pg.gone[i]? = some false := by rw [gf hil, e1]
    obtain ⟨p, q1, q2, q3⟩ := R.th i hi gi
    refine ⟨p, (ne e2).trans q1, q2, ?_⟩
    have it : there pg (i : Int) = true := (there_iff R).mpr ⟨by omega, by omega, gi⟩
    have n1 : nxt pp (i : Int) = some p := nxt_at q1
    rw [within_wi R it, within_step R it n1 e2] at e3
    obtain ⟨rk, hk⟩ := R.rk
    obtain ⟨p0, p1, _⟩ := hk _ _ q1
    have pt : there pg p = true := (there_iff R).mpr ⟨p0, by omega, q3⟩
    have hp : ((p.toNat : Nat) : Int) = p := by omega
    refine keep (i := p.toNat) (by omega) q3 (fun z => ?_) (by rw [hp, within_wi R pt]; exact e3)
    rw [hp] at z
    rw [z, wiP_self] at e3
    cases e3
  · intro i e
    have hil : i < pg.up.length := by rw [← gl']; exact lt_of e
    rw [rem_at R hx hil] at e
    have e' := Option.some.inj e
    by_cases ei : (i : Int) = x
    · left
      rw [List.getElem?_set, if_pos (by omega), if_pos (by omega)]
    · rw [ne ei]
      have mk : ∀ p : Int, 0 ≤ p → p < pg.up.length → (pg.gone[p.toNat]? = some true ∨ p = x ∨ within pg p x = true) → (remP pg x).gone[p.toNat]? = some true := fun p p0 p1 hp => by
        have hpn : ((p.toNat : Nat) : Int) = p := by omega
        rw [rem_at R hx (by omega), hpn]
        rcases hp with q | q | q
        · have := gf (i := p.toNat) (by omega)
          rw [q] at this
          rw [← Option.some.inj this]
          rfl
        · rw [decide_eq_true q]; simp
        · rw [q]; simp
      obtain ⟨rk, hk⟩ := R.rk
      cases gi : pg.gone.getD i false with
      | true =>
        have gi' : pg.gone[i]? = some true := by rw [gf hil, gi]
        rcases R.go i gi' with q | ⟨p, q1, q2⟩
        · exact .inl q
        · obtain ⟨p0, p1, _⟩ := hk _ _ q1
          exact .inr ⟨p, q1, mk p p0 (by omega) (.inl q2)⟩
      | false =>
        have gi' : pg.gone[i]? = some false := by rw [gf hil, gi]
        rw [gi, decide_eq_false ei] at e'
        have e3 : within pg (i : Int) x = true := by simpa using e'
        have it : there pg (i : Int) = true := (there_iff R).mpr ⟨by omega, by omega, gi'⟩
        have i1 : 1 ≤ i := by
          rcases Nat.lt_or_ge i 1 with q | q
          · rw [noroot (by omega)] at e3
            cases e3
          · exact q
        obtain ⟨p, q1, q2, q3⟩ := R.th i i1 gi'
        have n1 : nxt pp (i : Int) = some p := nxt_at q1
        rw [within_wi R it, within_step R it n1 ei] at e3
        obtain ⟨p0, p1, _⟩ := hk _ _ q1
        have pt : there pg p = true := (there_iff R).mpr ⟨p0, by omega, q3⟩
        exact .inr ⟨p, q1, mk p p0 (by omega) (.inr (.inr (by rw [within_wi R pt]; exact e3)))⟩
theorem rl_plc (R : Rl pp pg) {x p : Int} (h : there pg x = true) (h2 : 2 ≤ x) (hp : there pg p = true) (hn : within pg p x = false) : Rl (pp.set x.toNat (some p)) (chP pg (.plc x p)) := by
  obtain ⟨h0, h1, h3⟩ := (there_iff R).mp h
  obtain ⟨b0, b1, b3⟩ := (there_iff R).mp hp
  have hl := R.len
  have ht := R.two
  rw [within_wi R hp] at hn
  have ne : ∀ {α : Type} {l : List α} {y : α} {i : Nat}, (i : Int) ≠ x → (l.set x.toNat y)[i]? = l[i]? := fun {α l y i} e => by
    rw [List.getElem?_set, if_neg (by omega)]
  have at_ : ∀ {α : Type} {l : List α} {y : α} {i : Nat}, (i : Int) = x → i < l.length → (l.set x.toNat y)[i]? = some y := fun {α l y i} e hi => by
    rw [List.getElem?_set, if_pos (by omega), if_pos (by omega)]
  refine ⟨⟨?_, ?_, ?_⟩, ?_, ?_, ?_, ?_, ?_, R.g0, ?_, R.g1, ?_, ?_⟩
  · show pg.gone.length = (pg.up.set x.toNat (some p)).length
    rw [List.length_set]; exact R.gl
  · intro i hi hlt
    have hlt : i < (pg.up.set x.toNat (some p)).length := hlt
    rw [List.length_set] at hlt
    show ∃ y, (pg.up.set x.toNat (some p))[i]? = some (some y) ∧ 0 ≤ y ∧ y < ((pg.up.set x.toNat (some p)).length : Int)
    rw [List.length_set]
    by_cases e : (i : Int) = x
    · exact ⟨p, at_ e hlt, b0, b1⟩
    · obtain ⟨y, q1, q2, q3⟩ := R.wf.up i hi hlt
      exact ⟨y, (ne e).trans q1, q2, q3⟩
  · show (pg.up.set x.toNat (some p)).length ≤ 100
    rw [List.length_set]; exact R.wf.sz
  · show _ = (pg.up.set x.toNat (some p)).length
    rw [List.length_set, List.length_set]; exact hl
  · show 2 ≤ (pg.up.set x.toNat (some p)).length
    rw [List.length_set]; exact ht
  · obtain ⟨rk, hk⟩ := R.rk
    refine ⟨fun i => if wiP pp (i : Int) x = true then rk i + (rk p.toNat + 1) else rk i, fun i y e => ?_⟩
    rw [List.length_set]
    by_cases ei : (i : Int) = x
    · have hi : i < pp.length := by omega
      rw [at_ ei hi] at e
      cases e
      refine ⟨b0, by omega, ?_⟩
      have hpn : ((p.toNat : Nat) : Int) = p := by omega
      show (if wiP pp ((p.toNat : Nat) : Int) x = true then _ else _) < if wiP pp (i : Int) x = true then _ else _
      rw [hpn, hn, ei, wiP_self, if_neg (by simp), if_pos rfl]
      omega
    · rw [ne ei] at e
      obtain ⟨y0, y1, y2⟩ := hk i y e
      refine ⟨y0, y1, ?_⟩
      have hyn : ((y.toNat : Nat) : Int) = y := by omega
      have n1 : nxt pp (i : Int) = some y := nxt_at e
      have st := wiP_step hk (x := (i : Int)) (y := x) (by omega) (by have := (List.getElem?_eq_some_iff.mp e).1; omega)
      rw [if_neg ei, n1] at st
      have st : wiP pp (i : Int) x = wiP pp y x := st
      show (if wiP pp ((y.toNat : Nat) : Int) x = true then _ else _) < if wiP pp (i : Int) x = true then _ else _
      rw [hyn, st]
      split <;> omega
  · exact (ne (by omega)).trans R.p0
  · exact (ne (l := pg.up) (i := 0) (by omega)).trans R.u0
  · exact (ne (by omega)).trans R.p1
  · intro i hi e
    show ∃ q : Int, (pp.set x.toNat (some p))[i]? = _ ∧ (pg.up.set x.toNat (some p))[i]? = _ ∧ pg.gone[q.toNat]? = _
    by_cases ei : (i : Int) = x
    · exact ⟨p, at_ ei (by omega), at_ ei (by omega), b3⟩
    · obtain ⟨q, q1, q2, q3⟩ := R.th i hi e
      exact ⟨q, (ne ei).trans q1, (ne ei).trans q2, q3⟩
  · intro i e
    have e : pg.gone[i]? = some true := e
    have ei : (i : Int) ≠ x := fun z => by
      have : i = x.toNat := by omega
      rw [this, h3] at e
      cases e
    rw [ne ei]
    exact R.go i e
/-- an element without children slips away -/
theorem rl_slp (R : Rl pp pg) {c : Int} (h : there pg c = true) (h2 : 2 ≤ c) (hk : ∀ i : Nat, pp[i]? ≠ some (some c)) (t e : Option Int) : Rl (pp.set c.toNat none) { pg with gone := pg.gone.set c.toNat true, tg := t, en := e } := by
  obtain ⟨h0, h1, h3⟩ := (there_iff R).mp h
  have hl := R.len
  have hg := R.gl
  have ht := R.two
  have ne : ∀ {α : Type} {l : List α} {y : α} {i : Nat}, (i : Int) ≠ c → (l.set c.toNat y)[i]? = l[i]? := fun {α l y i} e => by
    rw [List.getElem?_set, if_neg (by omega)]
  refine ⟨⟨?_, R.wf.up, R.wf.sz⟩, ?_, R.two, ?_, ?_, R.u0, ?_, ?_, ?_, ?_, ?_⟩
  · show (pg.gone.set c.toNat true).length = _
    rw [List.length_set]; exact hg
  · show (pp.set c.toNat none).length = pg.up.length
    rw [List.length_set]; exact hl
  · obtain ⟨rk, hk⟩ := R.rk
    exact ⟨rk, hk.put _⟩
  · exact (ne (by omega)).trans R.p0
  · exact (ne (l := pg.gone) (i := 0) (by omega)).trans R.g0
  · exact (ne (by omega)).trans R.p1
  · exact (ne (l := pg.gone) (i := 1) (by omega)).trans R.g1
  · intro i hi e
    have e : (pg.gone.set c.toNat true)[i]? = some false := e
    have ei : (i : Int) ≠ c := fun z => by
      rw [List.getElem?_set, if_pos (by omega), if_pos (by omega)] at e
      cases e
    rw [ne ei] at e
    obtain ⟨p, q1, q2, q3⟩ := R.th i hi e
    refine ⟨p, (ne ei).trans q1, q2, ?_⟩
    show (pg.gone.set c.toNat true)[p.toNat]? = _
    obtain ⟨rk, hrk⟩ := R.rk
    have p0 := (hrk _ _ q1).1
    rw [List.getElem?_set, if_neg (fun z => hk i (by rw [q1, show p = c by omega]))]
    exact q3
  · intro i e
    have e : (pg.gone.set c.toNat true)[i]? = some true := e
    by_cases ei : (i : Int) = c
    · left
      rw [List.getElem?_set, if_pos (by omega), if_pos (by omega)]
    · rw [ne ei] at e ⊢
      rcases R.go i e with q | ⟨p, q1, q2⟩
      · exact .inl q
      · refine .inr ⟨p, q1, ?_⟩
        show (pg.gone.set c.toNat true)[p.toNat]? = _
        obtain ⟨rk, hrk⟩ := R.rk
        have p0 := (hrk _ _ q1).1
        rw [List.getElem?_set, if_neg (fun z => hk i (by rw [q1, show p = c by omega]))]
        exact q2
/-- the page alone matters -/
theorem Rl.te (R : Rl pp pg) (t e : Option Int) : Rl pp { pg with tg := t, en := e } := ⟨⟨R.wf.len, R.wf.up, R.wf.sz⟩, R.len, R.two, R.rk, R.p0, R.u0, R.g0, R.p1, R.g1, R.th, R.go⟩
def pp0 : List (Option Int) := [none, some 0]
theorem rl_0 : Rl pp0 pg0 := by
  refine ⟨wf0, rfl, Nat.le_refl _, ⟨fun i => i, fun i y e => ?_⟩, rfl, rfl, rfl, rfl, rfl, fun i hi e => ?_, fun i e => ?_⟩
  · have hi : i < 2 := (List.getElem?_eq_some_iff.mp e).1
    have : i = 0 ∨ i = 1 := by omega
    rcases this with rfl | rfl
    · cases e
    · cases e
      exact ⟨by decide, by decide, by decide⟩
  · have hi2 : i < 2 := (List.getElem?_eq_some_iff.mp e).1
    have : i = 1 := by omega
    subst this
    exact ⟨0, rfl, rfl, rfl⟩
  · have hi : i < 2 := (List.getElem?_eq_some_iff.mp e).1
    have : i = 0 ∨ i = 1 := by omega
    rcases this with rfl | rfl <;> cases e
/-- the children that are there, on both pages -/
theorem kids_iff (R : Rl pp pg) {c : Int} (h : there pg c = true) : (kids pg (some c)).isEmpty = true ↔ ∀ i : Nat, pp[i]? ≠ some (some c) := by
  obtain ⟨h0, h1, h3⟩ := (there_iff R).mp h
  have hl := R.len
  unfold kids
  rw [List.isEmpty_iff, List.filterMap_eq_nil_iff]
  constructor
  · intro hk i e
    have hi : i < pp.length := (List.getElem?_eq_some_iff.mp e).1
    have i1 : 1 ≤ i := by
      rcases Nat.lt_or_ge i 1 with q | q
      · have : i = 0 := by omega
        subst this
        rw [R.p0] at e
        cases e
      · exact q
    rcases gone_or R (x := (i : Int)) (by omega) (by omega) with g | g
    · rw [Int.toNat_natCast] at g
      obtain ⟨p, q1, q2, _⟩ := R.th i i1 g
      rw [e] at q1
      cases q1
      have := hk i (List.mem_range.mpr (by omega))
      unfold kidF at this
      rw [List.getD_eq_getElem?_getD, q2, List.getD_eq_getElem?_getD, g] at this
      simp at this
    · rw [Int.toNat_natCast] at g
      rcases R.go i g with q | ⟨p, q1, q2⟩
      · rw [e] at q; cases q
      · rw [e] at q1
        cases q1
        rw [h3] at q2
        cases q2
  · intro hk i hi
    have hi := List.mem_range.mp hi
    unfold kidF
    rw [if_neg ?_]
    intro z
    rw [Bool.and_eq_true, decide_eq_true_eq, Bool.not_eq_true'] at z
    have u1 : pg.up[i]? = some (some c) := by rw [upA hi, z.1]
    have g1 : pg.gone[i]? = some false := by rw [R.wf.ga hi, z.2]
    have i1 : 1 ≤ i := by
      rcases Nat.lt_or_ge i 1 with q | q
      · have : i = 0 := by omega
        subst this
        rw [R.u0] at u1
        cases u1
      · exact q
    obtain ⟨p, q1, q2, _⟩ := R.th i i1 g1
    rw [u1] at q2
    cases q2
    exact hk i q1
end
end Dg

namespace Dz
open PySem PySem.Spec PyProof.Rows L2 GxR
section
variable {T : List Addr} {X : Cx} {ρ : List Slot} {O O1 O2 : OH} {a b : Expr} {pos : Pos} {x : D}
theorem de_ninT {k : Nat} {ds : List D} (hr : Room k X.A) (hx : D.ok 32 x = true) (hy : D.oks 32 ds = true) (ha : DE T X a ρ O x O1) (hb : DE T X b ρ O1 (.tup ds) O2) (hm : behindInMarks .NotIn b = false := by rfl) : DE T X (.Compare a [.NotIn] [b] pos) ρ O (.bl (!ds.any fun z => deq z x)) O2 :=
  de_cmp (op_notInO hr.units) hm ha hb (rop_inT true hx hy)
end
end Dz
namespace Dg
open PySem PySem.Spec PyProof.Rows L2 GxR Dz
/-! ### the defs of pages -/
def pgeD (pp : List (Option Int)) : D := .tup (pp.map oI)
def wiO (pp : List (Option Int)) (x : Option Int) (y : Int) : Bool := match x with
  | none => false
  | some v => wiP pp v y
def thO (pg : Pg) : Option Int → Bool
  | none => false
  | some v => there pg v
def sdN (n : Int) : Str := if n = 0 then "gone" else if n = 1 then "outside" else if n = 2 then "inside" else "zone"
def InR (pp : List (Option Int)) (x : Option Int) : Prop := ∀ v, x = some v → 0 ≤ v ∧ v < pp.length
theorem pl_oI (x : Option Int) : Pl (oI x) := by cases x <;> constructor
theorem non_oI (x : Option Int) : (oI x).isNon = x.isNone := by cases x <;> rfl
def chPP (pp : List (Option Int)) : Stp → List (Option Int)
  | .add x => pp ++ [some x]
  | .rem x => pp.set x.toNat none
  | .plc x y => pp.set x.toNat (some y)
  | _ => pp
def isCh : Stp → Bool
  | .add _ => true
  | .rem _ => true
  | .plc _ _ => true
  | _ => false
section
variable {P : Program} {w : World} {K : PySem.W.Frag} {mg : Str → Option Value} {base : Heap} {T : List Addr} {CE : Addr}
def pIsWithin (ss : List Dz.Slot) (O : OH) (d : D) (O' : OH) : Prop := ∃ pp x y, ss = [.dat (pgeD pp), .dat (oI x), .dat (.int y)] ∧ (∃ rk, Rk pp rk) ∧ InR pp x ∧ d = .bl (wiO pp x y) ∧ O' = O
theorem scIsWithin : FnScope ["page", "element", "other"] ["page", "element", "other"] (defScope s_is_within) := ⟨rfl, rfl, rfl, by decide +kernel, rfl, by decide +kernel, by decide +kernel⟩
theorem ok_iswithin {f : Addr} {fd : FuncData} {cdv : Value} (F : FunC K "is_within" "is_within" s_is_within f fd cdv) : FnOk P w K mg base CX0 1 f fd ["page", "element", "other"] (spF T K pIsWithin) := by
  refine fn_ok (CE := (0 : Addr)) (R := pIsWithin) F scIsWithin (fun ss O d O' ⟨_, _, _, h, _⟩ => by rw [h]; rfl) fun A outer s H E ss O d O' hr h => ?_
  obtain ⟨pp, x, y, h1, ⟨rk, hk⟩, hx, h2, h3⟩ := h
  subst h1 h2 h3
  let μ : Option Int → Nat := fun x => match x with
    | none => 0
    | some v => rk v.toNat + 1
  refine ds_mid (fun ρ' O2 => wiO pp x y = false ∧ O2 = O') (d1_while (fun m ρ' O2 => ∃ x', ρ' = [.dat (pgeD pp), .dat (oI x'), .dat (.int y)] ∧ O2 = O' ∧ InR pp x' ∧ wiO pp x' y = wiO pp x y ∧ m = μ x') (μ x) ⟨x, rfl, rfl, hx, rfl, rfl⟩ ?_ PassesOwn.never) ?_
  · rintro m ρ' O2 ⟨x', rfl, rfl, hx', hw, rfl⟩
    refine ⟨!x'.isNone, O2, DT.cast (dt_notN (x := oI x') (de_var 1) de_non) (by rw [non_oI]), fun z => ?_, fun z => ?_⟩
    · cases x' with
      | none => cases z
      | some v =>
        obtain ⟨v0, v1⟩ := hx' v rfl
        have hs := wiP_step hk (y := y) v0 v1
        refine ds_cons (d1_if (p := decide (v = y)) (DT.cast (dt_eq (x := .int v) (y := .int y) hr (by rfl) (by rfl) (de_var 1) (de_var 2)) (deq_int _ _)) (fun q => ds_one (d1_ret (s := .dat (.bl true)) (DE.dv de_bl) ⟨?_, rfl⟩)) fun q => ds_nil ?_)
        · show Dz.Slot.dat (.bl true) = .dat (.bl (wiO pp x y))
          rw [← hw]
          show Dz.Slot.dat (.bl true) = .dat (.bl (wiP pp v y))
          rw [hs, if_pos (of_decide_eq_true q)]
        · rw [if_neg (of_decide_eq_false q)] at hs
          refine ds_one (d1_set 1 (s := .dat (oI (nxt pp v))) (DE.dv (de_ixT (ds := pp.map oI) (de_var 0) (de_var 1) ?_)) ⟨μ (nxt pp v), ?_, nxt pp v, rfl, rfl, ?_, ?_, rfl⟩ scIsWithin.nd)
          · rw [atI_D v0 (by rw [List.length_map]; exact v1), List.getD_eq_getElem?_getD, List.getElem?_map, at_nxt v0 v1]
            rfl
          · show μ (nxt pp v) < rk v.toNat + 1
            cases e : nxt pp v with
            | none => exact Nat.succ_pos _
            | some z =>
              obtain ⟨_, e1⟩ := nxt_in e
              have := (hk _ _ e1).2.2
              show rk z.toNat + 1 < rk v.toNat + 1
              omega
          · intro z e
            obtain ⟨_, e1⟩ := nxt_in e
            obtain ⟨a, b, _⟩ := hk _ _ e1
            exact ⟨a, b⟩
          · rw [← hw]
            show wiO pp (nxt pp v) y = wiP pp v y
            rw [hs]
            cases nxt pp v <;> rfl
    · cases x' with
      | none => exact ⟨by rw [← hw]; rfl, rfl⟩
      | some v => cases z
  · rintro ρ' O2 ⟨hw, rfl⟩
    exact ds_one (d1_ret (s := .dat (.bl false)) (DE.dv de_bl) ⟨by rw [hw], rfl⟩)
def pIsThere (ss : List Dz.Slot) (O : OH) (d : D) (O' : OH) : Prop := ∃ pp pg x, ss = [.dat (pgeD pp), .dat (oI x)] ∧ Rl pp pg ∧ d = .bl (thO pg x) ∧ O' = O
theorem scIsThere : FnScope ["page", "element"] ["page", "element"] (defScope s_is_there) := ⟨rfl, rfl, rfl, by decide +kernel, rfl, by decide +kernel, by decide +kernel⟩
theorem ok_isthere {f : Addr} {fd : FuncData} {cdv uR : Value} (F : FunC K "is_there" "is_there" s_is_there f fd cdv) (L : Blt mg) (hR : mg "ROOT" = some uR) (kR : kdB K 0 uR (.int 0) = true) (G1 : HasF P w K mg base CX0 2 "is_number_below" ["value", "bound"] (spF T K pBelow)) (G2 : HasF P w K mg base CX0 1 "is_within" ["page", "element", "other"] (spF T K pIsWithin)) : FnOk P w K mg base CX0 3 f fd ["page", "element"] (spF T K pIsThere) := by
  refine fn_ok (CE := (0 : Addr)) (R := pIsThere) F scIsThere (fun ss O d O' ⟨_, _, _, h, _⟩ => by rw [h]; rfl) fun A outer s H E ss O d O' hr h => ?_
  obtain ⟨pp, pg, x, h1, R, h2, h3⟩ := h
  subst h1 h2 h3
  have e : thO pg x = (isBelow (pp.length : Int) (oI x) && wiO pp x 0) := by
    cases x with
    | none => rfl
    | some v =>
      show there pg v = ((decide (0 ≤ v) && decide (v < (pp.length : Int))) && wiP pp v 0)
      by_cases hb : 0 ≤ v ∧ v < pg.up.length
      · rw [there_wi R hb.1 hb.2, decide_eq_true hb.1, decide_eq_true (by rw [R.len]; exact hb.2)]
        rfl
      · have : there pg v = false := by
          cases q : there pg v with
          | false => rfl
          | true => exact absurd (there_bd q) hb
        rw [this]
        have : (decide (0 ≤ v) && decide (v < (pp.length : Int))) = false := by
          rw [R.len]
          simp only [Bool.and_eq_false_iff, decide_eq_false_iff_not]
          omega
        rw [this]
        rfl
  rw [e]
  refine ds_one (d1_ret (s := .dat (.bl (isBelow (pp.length : Int) (oI x) && wiO pp x 0))) (DE.dv (de_and (p := isBelow (pp.length : Int) (oI x)) (q := wiO pp x 0) (de_callH G1 hr (da_d (de_var 1) (da_d (DE.cast (de_lenT (ds := pp.map oI) L.len (de_var 0)) (by rw [List.length_map])) da_nil)) ⟨oI x, _, rfl, pl_oI x, rfl, rfl⟩) fun z => de_one (de_callH G2 (hr.mono (by decide)) (da_d (de_var 0) (da_d (de_var 1) (da_d (de_gk hR kR) da_nil))) ⟨pp, x, 0, rfl, R.rk, ?_, rfl, rfl⟩))) ⟨rfl, rfl⟩)
  intro v hv
  subst hv
  have z : (decide (0 ≤ v) && decide (v < (pp.length : Int))) = true := z
  simpa using z
def mvO (pg : Pg) : Option Int → Bool
  | none => false
  | some v => there pg v && decide (2 ≤ v)
def pIsMov (ss : List Dz.Slot) (O : OH) (d : D) (O' : OH) : Prop := ∃ pp pg x, ss = [.dat (pgeD pp), .dat (oI x)] ∧ Rl pp pg ∧ d = .bl (mvO pg x) ∧ O' = O
theorem scIsMov : FnScope ["page", "element"] ["page", "element"] (defScope s_is_movable) := ⟨rfl, rfl, rfl, by decide +kernel, rfl, by decide +kernel, by decide +kernel⟩
theorem ok_ismov {f : Addr} {fd : FuncData} {cdv uR uZ : Value} (F : FunC K "is_movable" "is_movable" s_is_movable f fd cdv) (hR : mg "ROOT" = some uR) (kR : kdB K 0 uR (.int 0) = true) (hZ : mg "ZONE" = some uZ) (kZ : kdB K 0 uZ (.int 1) = true) (G : HasF P w K mg base CX0 3 "is_there" ["page", "element"] (spF T K pIsThere)) : FnOk P w K mg base CX0 4 f fd ["page", "element"] (spF T K pIsMov) := by
  refine fn_ok (CE := (0 : Addr)) (R := pIsMov) F scIsMov (fun ss O d O' ⟨_, _, _, h, _⟩ => by rw [h]; rfl) fun A outer s H E ss O d O' hr h => ?_
  obtain ⟨pp, pg, x, h1, R, h2, h3⟩ := h
  subst h1 h2 h3
  refine ds_one (d1_ret (s := .dat (.bl (mvO pg x))) (DE.dv (DE.cast (de_and (p := thO pg x) (q := mvO pg x) (de_callH G hr (da_d (de_var 0) (da_d (de_var 1) da_nil)) ⟨pp, pg, x, rfl, R, rfl, rfl⟩) fun z => de_one ?_) ?_)) ⟨rfl, rfl⟩)
  · cases x with
    | none => cases z
    | some v =>
      have hv := there_bd z
      have zt : there pg v = true := z
      refine DE.cast (de_ninT (x := .int v) (ds := [.int 0, .int 1]) (hr.mono (show 1 ≤ 3 by decide)) (by rfl) (by rfl) (de_var 1) (de_tup (ds := [.int 0, .int 1]) (da_d (de_gk hR kR) (da_d (de_gk hZ kZ) da_nil)))) ?_
      show D.bl (!([D.int 0, .int 1].any fun z => deq z (.int v))) = .bl (there pg v && decide (2 ≤ v))
      rw [zt, List.any_cons, List.any_cons, List.any_nil, deq_int, deq_int, Bool.or_false, Bool.true_and]
      congr 1
      by_cases e0 : (0 : Int) = v
      · subst e0; rfl
      · by_cases e1 : (1 : Int) = v
        · subst e1; rfl
        · rw [decide_eq_false e0, decide_eq_false e1, decide_eq_true (show 2 ≤ v by omega)]
          rfl
  · cases x with
    | none => rfl
    | some v =>
      show D.bl (there pg v && (there pg v && decide (2 ≤ v))) = .bl (there pg v && decide (2 ≤ v))
      cases there pg v <;> rfl
def pSideOf (ss : List Dz.Slot) (O : OH) (d : D) (O' : OH) : Prop := ∃ pp pg x, ss = [.dat (pgeD pp), .dat (.int x)] ∧ Rl pp pg ∧ d = .str (sdN (numP pg x)) ∧ O' = O
theorem scSideOf : FnScope ["page", "element"] ["page", "element"] (defScope s_side_of) := ⟨rfl, rfl, rfl, by decide +kernel, rfl, by decide +kernel, by decide +kernel⟩
theorem ok_sideof {f : Addr} {fd : FuncData} {cdv uZ : Value} (F : FunC K "side_of" "side_of" s_side_of f fd cdv) (hZ : mg "ZONE" = some uZ) (kZ : kdB K 0 uZ (.int 1) = true) (G1 : HasF P w K mg base CX0 3 "is_there" ["page", "element"] (spF T K pIsThere)) (G2 : HasF P w K mg base CX0 1 "is_within" ["page", "element", "other"] (spF T K pIsWithin)) : FnOk P w K mg base CX0 4 f fd ["page", "element"] (spF T K pSideOf) := by
  refine fn_ok (CE := (0 : Addr)) (R := pSideOf) F scSideOf (fun ss O d O' ⟨_, _, _, h, _⟩ => by rw [h]; rfl) fun A outer s H E ss O d O' hr h => ?_
  obtain ⟨pp, pg, x, h1, R, h2, h3⟩ := h
  subst h1 h2 h3
  refine ds_cons (d1_if (p := !there pg x) (dt_not (dt_val (de_callH G1 hr (da_d (de_var 0) (da_d (de_var 1) da_nil)) ⟨pp, pg, some x, rfl, R, rfl, rfl⟩))) (fun z => ds_one (d1_ret (s := .dat (.str "gone")) (DE.dv de_str) ⟨?_, rfl⟩)) fun z => ds_nil ?_)
  · have z' : there pg x = false := by simpa using z
    unfold numP
    rw [z', if_neg (by simp)]
    rfl
  have zt : there pg x = true := by simpa using z
  refine ds_cons (d1_if (p := decide (x = 1)) (DT.cast (dt_eq (x := .int x) (y := .int 1) (hr.mono (show 1 ≤ 3 by decide)) (by rfl) (by rfl) (de_var 1) (de_gk hZ kZ)) (deq_int _ _)) (fun z => ds_one (d1_ret (s := .dat (.str "zone")) (DE.dv de_str) ⟨?_, rfl⟩)) fun z => ds_nil ?_)
  · unfold numP
    rw [if_pos zt, if_pos (of_decide_eq_true z)]
    rfl
  have hb := there_bd zt
  refine ds_cons (d1_if (p := wiP pp x 1) (dt_val (de_callH G2 (hr.mono (by decide)) (da_d (de_var 0) (da_d (de_var 1) (da_d (de_gk hZ kZ) da_nil))) ⟨pp, some x, 1, rfl, R.rk, fun v hv => by cases hv; rw [R.len]; exact hb, rfl, rfl⟩)) (fun q => ds_one (d1_ret (s := .dat (.str "inside")) (DE.dv de_str) ⟨?_, rfl⟩)) fun q => ds_nil (ds_one (d1_ret (s := .dat (.str "outside")) (DE.dv de_str) ⟨?_, rfl⟩)))
  · unfold numP
    rw [if_pos zt, if_neg (of_decide_eq_false z), within_wi R zt, q]
    rfl
  · unfold numP
    rw [if_pos zt, if_neg (of_decide_eq_false z), within_wi R zt, q]
    rfl
def pPossCh (ss : List Dz.Slot) (O : OH) (d : D) (O' : OH) : Prop := ∃ pp pg st, ss = [.dat (pgeD pp), .dat (stD st)] ∧ Rl pp pg ∧ isCh st = true ∧ d = .bl (canP pg st) ∧ O' = O
theorem scPossCh : FnScope ["page", "change", "name", "_", "element", "parent"] ["page", "change"] (defScope s_is_possible_change) := ⟨rfl, rfl, rfl, by decide +kernel, rfl, by decide +kernel, by decide +kernel⟩
theorem ok_possch {f : Addr} {fd : FuncData} {cdv : Value} (F : FunC K "is_possible_change" "is_possible_change" s_is_possible_change f fd cdv) (G1 : HasF P w K mg base CX0 3 "is_there" ["page", "element"] (spF T K pIsThere)) (G2 : HasF P w K mg base CX0 4 "is_movable" ["page", "element"] (spF T K pIsMov)) (G3 : HasF P w K mg base CX0 1 "is_within" ["page", "element", "other"] (spF T K pIsWithin)) : FnOk P w K mg base CX0 5 f fd ["page", "change"] (spF T K pPossCh) := by
  refine fn_ok (CE := (0 : Addr)) (R := pPossCh) F scPossCh (fun ss O d O' ⟨_, _, _, h, _⟩ => by rw [h]; rfl) fun A outer s H E ss O d O' hr h => ?_
  obtain ⟨pp, pg, st, h1, R, hc, h2, h3⟩ := h
  subst h1 h2 h3
  have hr1 := hr.mono (show 1 ≤ 4 by decide)
  have hr3 := hr.mono (show 3 ≤ 4 by decide)
  cases st with
  | add x =>
    refine ds_cons (d1_set 2 (s := .dat (.str "add")) (DE.dv (de_ixT (ds := [.str "add", .int x]) (de_var 1) de_int rfl)) ?_ scPossCh.nd)
    exact ds_cons (d1_if (p := true) (DT.cast (dt_eq (x := .str "add") (y := .str "add") hr1 (by rfl) (by rfl) (de_var 2) de_str) (dq (by decide +kernel))) (fun _ => ds_one (d1_ret (s := .dat (.bl (there pg x))) (DE.dv (de_callH G1 hr3 (da_d (de_var 0) (da_d (de_ixT (ds := [.str "add", .int x]) (de_var 1) de_int rfl) da_nil)) ⟨pp, pg, some x, rfl, R, rfl, rfl⟩)) ⟨rfl, rfl⟩)) fun z => by cases z)
  | rem x =>
    refine ds_cons (d1_set 2 (s := .dat (.str "remove")) (DE.dv (de_ixT (ds := [.str "remove", .int x]) (de_var 1) de_int rfl)) ?_ scPossCh.nd)
    refine ds_cons (d1_if (p := false) (DT.cast (dt_eq (x := .str "remove") (y := .str "add") hr1 (by rfl) (by rfl) (de_var 2) de_str) (dq (by decide +kernel))) (fun z => by cases z) fun _ => ds_nil ?_)
    exact ds_cons (d1_if (p := true) (DT.cast (dt_eq (x := .str "remove") (y := .str "remove") hr1 (by rfl) (by rfl) (de_var 2) de_str) (dq (by decide +kernel))) (fun _ => ds_one (d1_ret (s := .dat (.bl (mvO pg (some x)))) (DE.dv (de_callH G2 hr (da_d (de_var 0) (da_d (de_ixT (ds := [.str "remove", .int x]) (de_var 1) de_int rfl) da_nil)) ⟨pp, pg, some x, rfl, R, rfl, rfl⟩)) ⟨rfl, rfl⟩)) fun z => by cases z)
  | plc x y =>
    refine ds_cons (d1_set 2 (s := .dat (.str "place")) (DE.dv (de_ixT (ds := [.str "place", .int x, .int y]) (de_var 1) de_int rfl)) ?_ scPossCh.nd)
    refine ds_cons (d1_if (p := false) (DT.cast (dt_eq (x := .str "place") (y := .str "add") hr1 (by rfl) (by rfl) (de_var 2) de_str) (dq (by decide +kernel))) (fun z => by cases z) fun _ => ds_nil ?_)
    refine ds_cons (d1_if (p := false) (DT.cast (dt_eq (x := .str "place") (y := .str "remove") hr1 (by rfl) (by rfl) (de_var 2) de_str) (dq (by decide +kernel))) (fun z => by cases z) fun _ => ds_nil ?_)
    refine ds_cons (d1_unpack (ds := [.str "place", .int x, .int y]) (is := [3, 4, 5]) (de_var 1) rfl (by repeat' (first | exact Dz.Names.nil | refine Dz.Names.cons rfl (by first | exact Or.inl rfl | exact Or.inr rfl) (by first | exact .inl rfl | exact .inr rfl) rfl ?_)) ?_ scPossCh.nd)
    have e : canP pg (.plc x y) = (mvO pg (some x) && (there pg y && !wiP pp y x)) := by
      show (there pg x && (if x < 2 then false else there pg y && !within pg y x)) = ((there pg x && decide (2 ≤ x)) && (there pg y && !wiP pp y x))
      cases there pg x with
      | false => rfl
      | true =>
        by_cases hx : x < 2
        · rw [if_pos hx, decide_eq_false (show ¬ 2 ≤ x by omega)]
          rfl
        · rw [if_neg hx, decide_eq_true (show 2 ≤ x by omega)]
          cases hy : there pg y with
          | false => rfl
          | true => rw [within_wi R hy]; rfl
    rw [e]
    refine ds_one (d1_ret (s := .dat (.bl (mvO pg (some x) && (there pg y && !wiP pp y x)))) (DE.dv (de_and (de_callH G2 hr (da_d (de_var 0) (da_d (de_var 4) da_nil)) ⟨pp, pg, some x, rfl, R, rfl, rfl⟩) fun _ => de_and (de_callH G1 hr3 (da_d (de_var 0) (da_d (de_var 5) da_nil)) ⟨pp, pg, some y, rfl, R, rfl, rfl⟩) fun z => de_one (de_not (de_callH G3 hr1 (da_d (de_var 0) (da_d (de_var 5) (da_d (de_var 4) da_nil))) ⟨pp, some y, x, rfl, R.rk, fun v hv => ?_, rfl, rfl⟩)))) ⟨rfl, rfl⟩)
    cases hv
    have := there_bd (pg := pg) (x := y) z
    rw [R.len]
    exact this
  | pnt x s => cases hc
  | slp x s => cases hc
  | out s => cases hc
  | drp b s => cases hc
  | cnc b s => cases hc
def pPutInto (ss : List Dz.Slot) (O : OH) (d : D) (O' : OH) : Prop := ∃ pp x p, ss = [.dat (pgeD pp), .dat (.int x), .dat (oI p)] ∧ (1 ≤ x ∧ x < pp.length ∧ pp.length ≤ 100) ∧ d = pgeD (pp.set x.toNat p) ∧ O' = O
theorem scPutInto : FnScope ["page", "element", "parent"] ["page", "element", "parent"] (defScope s_put_into) := ⟨rfl, rfl, rfl, by decide +kernel, rfl, by decide +kernel, by decide +kernel⟩
theorem ok_putinto {f : Addr} {fd : FuncData} {cdv : Value} (F : FunC K "put_into" "put_into" s_put_into f fd cdv) : FnOk P w K mg base CX0 1 f fd ["page", "element", "parent"] (spF T K pPutInto) := by
  refine fn_ok (CE := (0 : Addr)) (R := pPutInto) F scPutInto (fun ss O d O' ⟨_, _, _, h, _⟩ => by rw [h]; rfl) fun A outer s H E ss O d O' hr h => ?_
  obtain ⟨pp, x, p, h1, ⟨x1, x2, x3⟩, h2, h3⟩ := h
  subst h1 h2 h3
  have ll : (pp.map oI).length = pp.length := List.length_map _
  have e : (pp.set x.toNat p).map oI = ((pp.map oI).take x.toNat ++ [oI p]) ++ (pp.map oI).drop (x + 1).toNat := by
    rw [List.map_set, List.set_eq_take_append_cons_drop, if_pos (by rw [ll]; omega), show (x + 1).toNat = x.toNat + 1 by omega, List.append_assoc]
    rfl
  refine ds_one (d1_ret (s := .dat (pgeD (pp.set x.toNat p))) (DE.dv ?_) ⟨rfl, rfl⟩)
  unfold pgeD
  rw [e]
  refine de_catT (de_catT (de_takeT (ds := pp.map oI) (de_var 0) (de_var 1) (by omega) (by rw [ll]; omega) (by rw [ll]; omega)) (de_tup (ds := [oI p]) (da_d (de_var 2) da_nil) (by show 1 ≤ 10000; decide)) ?_ ?_) (de_dropT (ds := pp.map oI) (de_var 0) (de_add (de_var 1) de_int) (by omega) (by rw [ll]; omega) (by rw [ll]; omega)) (by simp) ?_
  · intro z
    have h0 : ((pp.map oI).take x.toNat).length = 0 := by rw [z]; rfl
    rw [List.length_take, ll] at h0
    omega
  · rw [List.length_take, ll]
    show min x.toNat pp.length + 1 ≤ 100000
    omega
  · rw [List.length_append, List.length_take, List.length_drop, ll]
    show min x.toNat pp.length + 1 + (pp.length - (x + 1).toNat) ≤ 100000
    omega
def pChanged (ss : List Dz.Slot) (O : OH) (d : D) (O' : OH) : Prop := ∃ pp pg st, ss = [.dat (pgeD pp), .dat (stD st)] ∧ Rl pp pg ∧ isCh st = true ∧ canP pg st = true ∧ d = pgeD (chPP pp st) ∧ O' = O
theorem scChanged : FnScope ["page", "change", "name"] ["page", "change"] (defScope s_changed) := ⟨rfl, rfl, rfl, by decide +kernel, rfl, by decide +kernel, by decide +kernel⟩
theorem ok_changed {f : Addr} {fd : FuncData} {cdv : Value} (F : FunC K "changed" "changed" s_changed f fd cdv) (G : HasF P w K mg base CX0 1 "put_into" ["page", "element", "parent"] (spF T K pPutInto)) : FnOk P w K mg base CX0 2 f fd ["page", "change"] (spF T K pChanged) := by
  refine fn_ok (CE := (0 : Addr)) (R := pChanged) F scChanged (fun ss O d O' ⟨_, _, _, h, _⟩ => by rw [h]; rfl) fun A outer s H E ss O d O' hr h => ?_
  obtain ⟨pp, pg, st, h1, R, hc, hk, h2, h3⟩ := h
  subst h1 h2 h3
  have hl := R.len
  have hz := R.wf.sz
  have ll : (pp.map oI).length = pp.length := List.length_map _
  cases st with
  | add x =>
    refine ds_cons (d1_set 2 (s := .dat (.str "add")) (DE.dv (de_ixT (ds := [.str "add", .int x]) (de_var 1) de_int rfl)) ?_ scChanged.nd)
    refine ds_cons (d1_if (p := true) (DT.cast (dt_eq (x := .str "add") (y := .str "add") hr (by rfl) (by rfl) (de_var 2) de_str) (dq (by decide +kernel))) (fun _ => ds_one (d1_ret (s := .dat (pgeD (pp ++ [some x]))) (DE.dv ?_) ⟨rfl, rfl⟩)) fun z => by cases z)
    have e : (pp ++ [some x]).map oI = pp.map oI ++ [.int x] := by rw [List.map_append]; rfl
    unfold pgeD
    rw [e]
    refine de_tup (ds := pp.map oI ++ [.int x]) ?_ ?_
    · rw [List.map_append (l₁ := pp.map oI)]
      exact da_starT (ds := pp.map oI) (de_var 0) (da_d (d := .int x) (de_ixT (ds := [.str "add", .int x]) (de_var 1) de_int rfl) da_nil)
    · rw [List.length_append, ll]
      show pp.length + 1 ≤ 10000
      omega
  | rem x =>
    refine ds_cons (d1_set 2 (s := .dat (.str "remove")) (DE.dv (de_ixT (ds := [.str "remove", .int x]) (de_var 1) de_int rfl)) ?_ scChanged.nd)
    refine ds_cons (d1_if (p := false) (DT.cast (dt_eq (x := .str "remove") (y := .str "add") hr (by rfl) (by rfl) (de_var 2) de_str) (dq (by decide +kernel))) (fun z => by cases z) fun _ => ds_nil ?_)
    have hk' : (there pg x && decide (2 ≤ x)) = true := hk
    simp only [Bool.and_eq_true, decide_eq_true_eq] at hk'
    have hb := there_bd hk'.1
    exact ds_cons (d1_if (p := true) (DT.cast (dt_eq (x := .str "remove") (y := .str "remove") hr (by rfl) (by rfl) (de_var 2) de_str) (dq (by decide +kernel))) (fun _ => ds_one (d1_ret (s := .dat (pgeD (pp.set x.toNat none))) (DE.dv (de_callH G hr (da_d (de_var 0) (da_d (de_ixT (ds := [.str "remove", .int x]) (de_var 1) de_int rfl) (da_d de_non da_nil))) ⟨pp, x, none, rfl, ⟨by omega, by omega, by omega⟩, rfl, rfl⟩)) ⟨rfl, rfl⟩)) fun z => by cases z)
  | plc x y =>
    refine ds_cons (d1_set 2 (s := .dat (.str "place")) (DE.dv (de_ixT (ds := [.str "place", .int x, .int y]) (de_var 1) de_int rfl)) ?_ scChanged.nd)
    refine ds_cons (d1_if (p := false) (DT.cast (dt_eq (x := .str "place") (y := .str "add") hr (by rfl) (by rfl) (de_var 2) de_str) (dq (by decide +kernel))) (fun z => by cases z) fun _ => ds_nil ?_)
    refine ds_cons (d1_if (p := false) (DT.cast (dt_eq (x := .str "place") (y := .str "remove") hr (by rfl) (by rfl) (de_var 2) de_str) (dq (by decide +kernel))) (fun z => by cases z) fun _ => ds_nil ?_)
    have hk' : (there pg x && (if x < 2 then false else there pg y && !within pg y x)) = true := hk
    rw [Bool.and_eq_true] at hk'
    have hx : ¬ x < 2 := fun z => by rw [if_pos z] at hk'; cases hk'.2
    have hb := there_bd hk'.1
    exact ds_one (d1_ret (s := .dat (pgeD (pp.set x.toNat (some y)))) (DE.dv (de_callH G hr (da_d (de_var 0) (da_d (de_ixT (ds := [.str "place", .int x, .int y]) (de_var 1) de_int rfl) (da_d (de_ixT (ds := [.str "place", .int x, .int y]) (de_var 1) de_int rfl) da_nil))) ⟨pp, x, some y, rfl, ⟨by omega, by omega, by omega⟩, rfl, rfl⟩)) ⟨rfl, rfl⟩)
  | pnt x s => cases hc
  | slp x s => cases hc
  | out s => cases hc
  | drp b s => cases hc
  | cnc b s => cases hc
end
end Dg

namespace Dg
open PySem PySem.Spec PyProof.Rows L2 GxR Dz
/-! ### what is heard at a tick: the program's way and the law's -/
theorem oD_oI : ∀ x : Option Int, oD x = oI x
  | none => rfl
  | some _ => rfl
def sdP (pg : Pg) (x : Int) : Str := sdN (numP pg x)
def evGood (pg : Pg) (ev : Ev) : Prop := there pg ev.2.1 = true ∧ (∀ r, ev.2.2 = some r → there pg r = true) ∧ (ev.1 = "end" → ev.2.1 = 0)
theorem num_there {pg : Pg} {x : Int} (h : there pg x = true) : (numP pg x = 3 ∧ x = 1) ∨ (numP pg x = 2 ∧ x ≠ 1) ∨ (numP pg x = 1 ∧ x ≠ 1) := by
  unfold numP
  rw [if_pos h]
  by_cases e : x = 1
  · rw [if_pos e]
    exact .inl ⟨rfl, e⟩
  · rw [if_neg e]
    cases within pg x 1 with
    | true => exact .inr (.inl ⟨rfl, e⟩)
    | false => exact .inr (.inr ⟨rfl, e⟩)
theorem num_root {pp : List (Option Int)} {pg : Pg} (R : Rl pp pg) : numP pg 0 = 1 := by
  unfold numP
  obtain ⟨rk, hk⟩ := R.rk
  have := R.two
  have w0 : wiP pp 0 1 = false := by
    have q := wiP_step hk (x := 0) (y := 1) (by decide) (by rw [R.len]; omega)
    rw [if_neg (by decide), nxt_at (x := 0) R.p0] at q
    exact q
  rw [if_pos (root_there R), if_neg (by decide), within_wi R (root_there R), w0]
  rfl
theorem mem_places {p : Str} (h : p ∈ PLACES) : p = "zone" ∨ p = "root" ∨ p = "capture" := by
  simpa [PLACES] using h
theorem heard_eq {pp : List (Option Int)} {pg : Pg} (R : Rl pp pg) {p : Str} (hp : p ∈ PLACES) (ks : List Str) (s : Int) (j : Nat) (ev : Ev) (hg : evGood pg ev) : heardP p ks (sdP pg) s j ev = lreach p ks ev.1 (numP pg ev.2.1) (decide (ev.2.1 = 0)) (stopB ev.1 s j) := by
  obtain ⟨kind, x, rel⟩ := ev
  obtain ⟨h1, _, h3⟩ := hg
  have h1 : there pg x = true := h1
  have h3 : kind = "end" → x = 0 := h3
  show (decide (kind ∈ ks) && reachP p x (sdP pg x) (stB s j)) = lreach p ks kind (numP pg x) (decide (x = 0)) (stopB kind s j)
  unfold lreach
  by_cases hk : kind ∈ ks
  · rw [if_pos hk, decide_eq_true hk, Bool.true_and]
    unfold reachP stopB sdP
    have q1 : ¬ (("zone" : Str) = "capture") := by decide +kernel
    have q2 : ¬ (("zone" : Str) = "root") := by decide +kernel
    have q3 : ¬ (("root" : Str) = "capture") := by decide +kernel
    have q4 : ¬ (("root" : Str) = "zone") := by decide +kernel
    have q5 : ¬ (("capture" : Str) = "zone") := by decide +kernel
    have q6 : ¬ (("outside" : Str) = "inside") := by decide +kernel
    by_cases he : kind = "end"
    · have hx := h3 he
      subst hx
      rw [if_pos he, num_root R]
      have e1 : sdN 1 = "outside" := rfl
      rw [e1]
      rcases mem_places hp with rfl | rfl | rfl
      · rw [if_neg q1, if_neg q2, decide_eq_false q6]
        rfl
      · rw [if_neg q3, if_pos rfl, decide_eq_false q4]
        rfl
      · rw [if_pos rfl, decide_eq_false q5]
        rfl
    · rw [if_neg he, decide_eq_false he, Bool.not_false, Bool.true_and]
      rcases mem_places hp with rfl | rfl | rfl
      · rw [if_neg q1, if_neg q2, if_pos rfl]
        rcases num_there h1 with ⟨n, e⟩ | ⟨n, e⟩ | ⟨n, e⟩
        · rw [n, decide_eq_true e]
          rfl
        · rw [n, decide_eq_false e]
          show (false || (decide (sdN 2 = "inside") && _)) = (false || (true && _))
          rw [show decide (sdN 2 = "inside") = true by decide +kernel]
        · rw [n, decide_eq_false e]
          show (false || (decide (sdN 1 = "inside") && _)) = (false || (false && _))
          rw [show decide (sdN 1 = "inside") = false by decide +kernel]
      · rw [if_neg q3, if_pos rfl, if_neg q4, decide_eq_false q3, Bool.false_or]
      · rw [if_pos rfl, if_neg q5, decide_eq_true rfl, Bool.true_or]
  · rw [if_neg hk, decide_eq_false hk, Bool.false_and]
theorem sig_eq {pg : Pg} (sg : List Str) (ev : Ev) (hg : evGood pg ev) (ent : Option Int) : sigP sg (sdP pg) ev ent = lsig sg ev.1 (numP pg ev.2.1) (decide (ent = some ev.2.1)) (numO pg ev.2.2) := by
  obtain ⟨kind, x, rel⟩ := ev
  obtain ⟨h1, h2, _⟩ := hg
  have h1 : there pg x = true := h1
  have h2 : ∀ r, rel = some r → there pg r = true := h2
  show sigP sg (sdP pg) (kind, x, rel) ent = lsig sg kind (numP pg x) (decide (ent = some x)) (numO pg rel)
  unfold sigP lsig
  by_cases he : kind = "end"
  · rw [if_pos he, if_pos he]
  · rw [if_neg he, if_neg he]
    have w3 : woz (sdN 3) = "inside" := by decide +kernel
    have w2 : woz (sdN 2) = "inside" := by decide +kernel
    have w1 : woz (sdN 1) = "outside" := by decide +kernel
    have e1 : (if ("own" : Str) ∈ sg then sdP pg x else woz (sdP pg x)) = (if numP pg x = 3 ∧ ("own" : Str) ∈ sg then ("zone" : Str) else sdL (numP pg x)) := by
      unfold sdP
      by_cases ho : ("own" : Str) ∈ sg
      · rw [if_pos ho]
        rcases num_there h1 with ⟨n, _⟩ | ⟨n, _⟩ | ⟨n, _⟩ <;> rw [n]
        · rw [if_pos ⟨rfl, ho⟩]; rfl
        · rw [if_neg (fun z => by have := z.1; omega)]; rfl
        · rw [if_neg (fun z => by have := z.1; omega)]; rfl
      · rw [if_neg ho, if_neg (fun z => ho z.2)]
        rcases num_there h1 with ⟨n, _⟩ | ⟨n, _⟩ | ⟨n, _⟩ <;> rw [n]
        · rw [w3]; rfl
        · rw [w2]; rfl
        · rw [w1]; rfl
    have e2 : (decide (("same" : Str) ∈ sg) && decide (some x = ent)) = (decide (ent = some x) && decide (("same" : Str) ∈ sg)) := by
      rw [Bool.and_comm, show decide (some x = ent) = decide (ent = some x) from decide_eq_decide.mpr ⟨Eq.symm, Eq.symm⟩]
    have e3 : relS sg (sdP pg) rel = (if ("related" : Str) ∈ sg then rlL (numO pg rel) else ("none" : Str)) := by
      cases rel with
      | none =>
        show ("none" : Str) = _
        split
        · rfl
        · rfl
      | some r =>
        show (if ("related" : Str) ∈ sg then woz (sdP pg r) else "none") = _
        split
        · show woz (sdN (numP pg r)) = rlL (numP pg r)
          rcases num_there (h2 r rfl) with ⟨n, _⟩ | ⟨n, _⟩ | ⟨n, _⟩ <;> rw [n]
          · rw [w3]; rfl
          · rw [w2]; rfl
          · rw [w1]; rfl
        · rfl
    show D.tup [.str kind, .str (if ("own" : Str) ∈ sg then sdP pg x else woz (sdP pg x)), .bl (decide (("same" : Str) ∈ sg) && decide (some x = ent)), .str (relS sg (sdP pg) rel)] = _
    rw [e1, e2, e3]
theorem hear_eq {pp : List (Option Int)} {pg : Pg} (R : Rl pp pg) {p : Str} (hp : p ∈ PLACES) (ks sg : List Str) (s : Int) (evs : List Ev) (hg : ∀ ev ∈ evs, evGood pg ev) : ∀ j, hearP p ks sg (sdP pg) s evs pg.en j = thear pg p ks sg s evs j
  | 0 => rfl
  | j + 1 => by
    rw [hearP, thear, hear_eq R hp ks sg s evs hg j]
    cases e : evs[j]? with
    | none => rfl
    | some ev =>
      have g := hg ev (List.mem_of_getElem? e)
      show hearStep p ks sg (sdP pg) s j ev _ = tstep pg p ks sg s j ev _
      unfold hearStep tstep
      rw [heard_eq R hp ks s j ev g, sig_eq sg ev g]
/-- the events of a tick are of elements that are there -/
theorem evs_good {pp : List (Option Int)} {pg : Pg} (R : Rl pp pg) {st : Stp} (hc : canP pg st = true) : ∀ ev ∈ pevs pg st, evGood pg ev := by
  have ne1 : ¬ (("over" : Str) = "end") := by decide +kernel
  have ne2 : ¬ (("enter" : Str) = "end") := by decide +kernel
  have ne3 : ¬ (("leave" : Str) = "end") := by decide +kernel
  have ne4 : ¬ (("drop" : Str) = "end") := by decide +kernel
  have hcu : ∀ c, curP pg = some c → there pg c = true := fun c h => cur_there h
  have q1 : ∀ (b : Bool) (x : Int), there pg x = true → ∀ e ∈ onEv b x (curP pg), evGood pg e := fun b x hx e he => by
    unfold onEv at he
    split at he
    · have q : e = (("over" : Str), x, (none : Option Int)) := by simpa using he
      rw [q]
      exact ⟨hx, fun r z => (nomatch z), fun z => absurd z ne1⟩
    · rcases List.mem_append.mp he with he | he
      · rcases List.mem_append.mp he with he | he
        · have q : e = (("enter" : Str), x, curP pg) := by simpa using he
          rw [q]
          exact ⟨hx, fun r z => hcu r z, fun z => absurd z ne2⟩
        · unfold onA at he
          split at he
          · rename_i c hcc
            split at he
            · have q : e = (("leave" : Str), c, some x) := by simpa using he
              rw [q]
              exact ⟨hcu c hcc, fun r z => by cases z; exact hx, fun z => absurd z ne3⟩
            · cases he
          · cases he
      · have q : e = (("over" : Str), x, (none : Option Int)) := by simpa using he
        rw [q]
        exact ⟨hx, fun r z => (nomatch z), fun z => absurd z ne1⟩
  have q2 : ∀ (nm : Str) (b : Bool), nm = "leave" ∨ nm = "drop" → ∀ e ∈ offEv nm b (curP pg), evGood pg e := fun nm b hn e he => by
    unfold offEv at he
    rcases List.mem_append.mp he with he | he
    · unfold offA at he
      split at he
      · rename_i c hcc
        have q : e = (nm, c, (none : Option Int)) := by simpa using he
        rw [q]
        refine ⟨hcu c hcc, fun r z => (nomatch z), fun z => ?_⟩
        rcases hn with rfl | rfl
        · exact absurd z ne3
        · exact absurd z ne4
      · cases he
    · unfold offB at he
      split at he
      · have q : e = (("end" : Str), (0 : Int), (none : Option Int)) := by simpa using he
        rw [q]
        exact ⟨root_there R, fun r z => (nomatch z), fun _ => rfl⟩
      · cases he
  cases st with
  | pnt x s => exact q1 true x hc
  | slp x s => exact q1 false x (by
      have hc : (there pg x && slipB pg x) = true := hc
      rw [Bool.and_eq_true] at hc
      exact hc.1)
  | out s => exact q2 _ _ (.inl rfl)
  | drp b s => exact q2 _ _ (.inr rfl)
  | cnc b s => exact q2 _ _ (.inl rfl)
  | add x => intro ev he; cases he
  | rem x => intro ev he; cases he
  | plc x y => intro ev he; cases he
/-- the steps that are drawn -/
def StOk : Stp → Prop
  | .pnt _ s => 0 ≤ s ∧ s < 8
  | .slp _ s => 0 ≤ s ∧ s < 8
  | .out s => 0 ≤ s ∧ s < 8
  | .drp _ s => 0 ≤ s ∧ s < 8
  | .cnc _ s => 0 ≤ s ∧ s < 8
  | _ => True
def kO : Stp → Int
  | .pnt _ _ => 0
  | .slp _ _ => 1
  | .out _ => 2
  | .drp b _ => if b = true then 3 else 4
  | .cnc b _ => if b = true then 5 else 6
  | _ => 0
def xO : Stp → Int
  | .pnt x _ => x
  | .slp x _ => x
  | _ => 0
theorem stepL_of {st : Stp} (h : isCh st = false) : stD st = .tup (stepL (kO st) (.int (xO st)) (stpS st)) := by
  cases st with
  | drp b s => cases b <;> rfl
  | cnc b s => cases b <;> rfl
  | add x => cases h
  | rem x => cases h
  | plc x y => cases h
  | _ => rfl
theorem kO_bd : ∀ st : Stp, 0 ≤ kO st ∧ kO st ≤ 6
  | .pnt _ _ => ⟨by show (0 : Int) ≤ 0; decide, by show (0 : Int) ≤ 6; decide⟩
  | .slp _ _ => ⟨by show (0 : Int) ≤ 1; decide, by show (1 : Int) ≤ 6; decide⟩
  | .out _ => ⟨by show (0 : Int) ≤ 2; decide, by show (2 : Int) ≤ 6; decide⟩
  | .drp true _ => ⟨by show (0 : Int) ≤ 3; decide, by show (3 : Int) ≤ 6; decide⟩
  | .drp false _ => ⟨by show (0 : Int) ≤ 4; decide, by show (4 : Int) ≤ 6; decide⟩
  | .cnc true _ => ⟨by show (0 : Int) ≤ 5; decide, by show (5 : Int) ≤ 6; decide⟩
  | .cnc false _ => ⟨by show (0 : Int) ≤ 6; decide, by show (6 : Int) ≤ 6; decide⟩
  | .add _ => ⟨by show (0 : Int) ≤ 0; decide, by show (0 : Int) ≤ 6; decide⟩
  | .rem _ => ⟨by show (0 : Int) ≤ 0; decide, by show (0 : Int) ≤ 6; decide⟩
  | .plc _ _ => ⟨by show (0 : Int) ≤ 0; decide, by show (0 : Int) ≤ 6; decide⟩
theorem evP_eq {pg : Pg} {st : Stp} (h : isCh st = false) (hc : canP pg st = true) : evP (kO st) (xO st) (curP pg) = pevs pg st := by
  have off : ∀ (z nm : Str) (b : Bool) (c : Option Int), (if z = "drop" then ("drop" : Str) else "leave") = nm → evT z b c = offEv nm b c := fun z nm b c e => by
    unfold evT offEv evA offA
    cases c with
    | none => rfl
    | some y => rw [e]; rfl
  have d1 : (if ("out" : Str) = "drop" then ("drop" : Str) else "leave") = "leave" := by decide +kernel
  have d2 : (if ("cancel" : Str) = "drop" then ("drop" : Str) else "leave") = "leave" := by decide +kernel
  cases st with
  | pnt x s =>
    show ptE x (curP pg) = onEv true x (curP pg)
    unfold ptE onEv
    split
    · rfl
    · cases curP pg <;> rfl
  | slp x s =>
    show [(("enter" : Str), x, curP pg), (("over" : Str), x, (none : Option Int))] = onEv false x (curP pg)
    have hc : (there pg x && slipB pg x) = true := hc
    rw [Bool.and_eq_true] at hc
    have h2 := hc.2
    unfold slipB at h2
    cases e : curP pg with
    | none => rw [e] at h2; cases h2
    | some c =>
      rw [e] at h2
      have h2 : (decide (2 ≤ c) && ((kids pg (some c)).isEmpty && !decide (x = c))) = true := h2
      simp only [Bool.and_eq_true, decide_eq_true_eq, Bool.not_eq_true', decide_eq_false_iff_not] at h2
      unfold onEv
      rw [if_neg (fun z => h2.2.2 (Option.some.inj z))]
      rfl
  | out s => exact off "out" "leave" false _ d1
  | drp b s => cases b <;> exact off "drop" "drop" _ _ (if_pos rfl)
  | cnc b s => cases b <;> exact off "cancel" "leave" _ _ d2
  | add x => cases h
  | rem x => cases h
  | plc x y => cases h
theorem tgB_eq {st : Stp} (h : isCh st = false) : (if kO st < 2 then D.int (xO st) else .non) = oI (stpX st) := by
  cases st with
  | drp b s => cases b <;> rfl
  | cnc b s => cases b <;> rfl
  | add x => cases h
  | rem x => cases h
  | plc x y => cases h
  | _ => rfl
/-! ### a listener's states -/
def intD (i : Int) : D → Int
  | .int k => k
  | _ => i
def nxI (rs : List D) (i : Int) (sig : D) : Int := match sig with
  | .tup [h1, h2, h3, h4] => intD i (nextD (.int i) h1 h2 h3 h4 rs)
  | _ => i
def RGood (r : D) : Prop := RShape r ∧ ∃ i, ruleEnd r = .int i
def SigG (d : D) : Prop := ∃ h1 h2 h3 h4, d = .tup [h1, h2, h3, h4] ∧ (∀ n, D.ok n h1 = true) ∧ (∀ n, D.ok n h2 = true) ∧ (∀ n, D.ok n h3 = true) ∧ (∀ n, D.ok n h4 = true)
theorem next_int {i : Int} {h1 h2 h3 h4 : D} : ∀ {rs : List D}, (∀ r ∈ rs, RGood r) → nextD (.int i) h1 h2 h3 h4 rs = .int (intD i (nextD (.int i) h1 h2 h3 h4 rs))
  | [], _ => rfl
  | r :: rs, hr => by
    rw [nextD_cons]
    split
    · obtain ⟨k, e⟩ := (hr r (List.mem_cons_self ..)).2
      rw [e]
      rfl
    · exact next_int fun r hm => hr r (List.mem_cons_of_mem _ hm)
theorem SigG.ok {d : D} (h : SigG d) (n : Nat) : D.ok (n + 1) d = true := by
  obtain ⟨h1, h2, h3, h4, rfl, a, b, c, e⟩ := h
  refine ok_tup fun d hd => ?_
  simp only [List.mem_cons, List.not_mem_nil, or_false] at hd
  rcases hd with rfl | rfl | rfl | rfl
  · exact a n
  · exact b n
  · exact c n
  · exact e n
theorem ok_s (z : Str) (n : Nat) : D.ok n (.str z) = true := by cases n <;> rfl
theorem ok_b (z : Bool) (n : Nat) : D.ok n (.bl z) = true := by cases n <;> rfl
theorem ok_i (z : Int) (n : Nat) : D.ok n (.int z) = true := by cases n <;> rfl
theorem ok_n (n : Nat) : D.ok n .non = true := by cases n <;> rfl
theorem sigG_of (sg : List Str) (kind : Str) (n : Int) (same : Bool) (rel : Int) : SigG (lsig sg kind n same rel) := by
  unfold lsig
  split
  · exact ⟨_, _, _, _, rfl, ok_s _, ok_s _, ok_b _, ok_s _⟩
  · exact ⟨_, _, _, _, rfl, ok_s _, ok_s _, ok_b _, ok_s _⟩
theorem thear_sig {pg : Pg} {p : Str} {ks sg : List Str} {s : Int} {evs : List PEv} : ∀ j, ∀ d ∈ (thear pg p ks sg s evs j).1, SigG d
  | 0, d, h => by cases h
  | j + 1, d, h => by
    unfold thear at h
    split at h
    · unfold tstep at h
      split at h
      · rcases List.mem_append.mp h with h | h
        · exact thear_sig j d h
        · rw [List.mem_singleton.mp h]
          exact sigG_of _ _ _ _ _
      · exact thear_sig j d h
    · exact thear_sig j d h
/-- is the zone hovered -/
def hovP (pg : Pg) : Bool := match curP pg with
  | some c => within pg c 1
  | none => false
def memI (i : Int) (os : List Int) : Bool := decide (i ∈ os)
/-- the state behind a tick, and what it tells -/
def tkS (pg : Pg) (p : Str) (ks sg : List Str) (rs : List D) (i : Int) (st : Stp) : Int := (tkH pg p ks sg st).1.foldl (nxI rs) i
def tkT (pg : Pg) (p : Str) (ks sg : List Str) (rs : List D) (os : List Int) (i : Int) (st : Stp) : D := .tup [.lst (tkH pg p ks sg st).1, .int (tkS pg p ks sg rs i st), .bl (memI (tkS pg p ks sg rs i st) os), .bl (hovP (tkP pg p ks sg st))]
/-- the pages behind a step that can be taken, the state, and what is told -/
def nxPg (pg : Pg) (p : Str) (ks sg : List Str) (st : Stp) : Pg := if isCh st = true then chP pg st else tkP pg p ks sg st
def nxPP (pp : List (Option Int)) (pg : Pg) : Stp → List (Option Int)
  | .slp _ _ => pp.set ((curP pg).getD 0).toNat none
  | st => chPP pp st
def nxSt (pg : Pg) (p : Str) (ks sg : List Str) (rs : List D) (i : Int) (st : Stp) : Int := if isCh st = true then i else tkS pg p ks sg rs i st
def told (pg : Pg) (p : Str) (ks sg : List Str) (rs : List D) (os : List Int) (i : Int) (st : Stp) : D := if isCh st = true then .non else tkT pg p ks sg rs os i st
theorem slp_can {pg : Pg} {x s : Int} (h : canP pg (.slp x s) = true) : there pg x = true ∧ ∃ c, curP pg = some c ∧ 2 ≤ c ∧ there pg c = true ∧ (kids pg (some c)).isEmpty = true ∧ x ≠ c := by
  have h : (there pg x && slipB pg x) = true := h
  rw [Bool.and_eq_true] at h
  refine ⟨h.1, ?_⟩
  have h2 := h.2
  unfold slipB at h2
  cases e : curP pg with
  | none => rw [e] at h2; cases h2
  | some c =>
    rw [e] at h2
    have h2 : (decide (2 ≤ c) && ((kids pg (some c)).isEmpty && !decide (x = c))) = true := h2
    simp only [Bool.and_eq_true, decide_eq_true_eq, Bool.not_eq_true', decide_eq_false_iff_not] at h2
    exact ⟨c, rfl, h2.1, cur_there e, h2.2.1, h2.2.2⟩
/-- both pages stay alike -/
theorem rl_next {pp : List (Option Int)} {pg : Pg} (R : Rl pp pg) (hz : pg.up.length < 100) {st : Stp} (hc : canP pg st = true) (p : Str) (ks sg : List Str) : Rl (nxPP pp pg st) (nxPg pg p ks sg st) := by
  cases st with
  | add x => exact rl_add R hc hz
  | rem x =>
    have hc : (there pg x && decide (2 ≤ x)) = true := hc
    simp only [Bool.and_eq_true, decide_eq_true_eq] at hc
    exact rl_rem R hc.1 hc.2
  | plc x y =>
    have hc : (there pg x && (if x < 2 then false else there pg y && !within pg y x)) = true := hc
    rw [Bool.and_eq_true] at hc
    have hx : ¬ x < 2 := fun z => by rw [if_pos z] at hc; cases hc.2
    rw [if_neg hx, Bool.and_eq_true, Bool.not_eq_true'] at hc
    exact rl_plc R hc.1 (by omega) hc.2.1 hc.2.2
  | slp x s =>
    obtain ⟨_, c, e, c2, ct, ck, _⟩ := slp_can hc
    show Rl (pp.set ((curP pg).getD 0).toNat none) { pg with gone := pg.gone.set ((curP pg).getD 0).toNat true, tg := _, en := _ }
    rw [e]
    exact rl_slp R ct c2 ((kids_iff R ct).mp ck) _ _
  | pnt x s => exact R.te _ _
  | out s => exact R.te _ _
  | drp b s => exact R.te _ _
  | cnc b s => exact R.te _ _
end Dg

namespace Dg
open PySem PySem.Spec PyProof.Rows L2 GxR Dz
/-! ### the sides of a tick's elements, in a dict -/
def putD (kd : List (Key × D)) (k : Key) (d : D) : List (Key × D) :=
  if (kd.any fun kv => decide (kv.1 = k)) = true then kd.map (fun kv => if kv.1 = k then (kv.1, d) else kv) else kd ++ [(k, d)]
theorem putKS_D (kd : List (Key × D)) (k : Key) (d : D) : putKS (kd.map fun q => (q.1, Dz.Slot.dat q.2)) k (.dat d) = (putD kd k d).map fun q => (q.1, .dat q.2) := by
  unfold putKS putD
  have e : ((kd.map fun q => (q.1, Dz.Slot.dat q.2)).any fun kv => decide (kv.1 = k)) = kd.any fun kv => decide (kv.1 = k) := by
    rw [List.any_map]
    rfl
  rw [e]
  split
  · rw [List.map_map, List.map_map]
    apply List.map_congr_left
    intro q _
    show (if q.1 = k then (q.1, Dz.Slot.dat d) else (q.1, .dat q.2)) = _
    show _ = ((if q.1 = k then (q.1, d) else q).1, Dz.Slot.dat (if q.1 = k then (q.1, d) else q).2)
    split <;> rfl
  · rw [List.map_append]
    rfl
theorem putD_len (kd : List (Key × D)) (k : Key) (d : D) : (putD kd k d).length ≤ kd.length + 1 := by
  unfold putD
  split
  · rw [List.length_map]; omega
  · rw [List.length_append]; exact Nat.le_refl _
theorem dl_put (kd : List (Key × D)) (x y : Int) (d : D) : dl (putD kd (.inl x) d) y = if y = x then some d else dl kd y := by
  unfold putD dl
  split
  · rename_i h
    induction kd with
    | nil => cases h
    | cons q kd ih =>
      rw [List.map_cons]
      by_cases e : q.1 = (.inl x : Key)
      · rw [if_pos e]
        by_cases hy : y = x
        · subst hy
          rw [List.find?_cons_of_pos (by simpa using e), if_pos rfl]
          rfl
        · rw [if_neg hy]
          have n1 : ¬ (q.1 = (.inl y : Key)) := fun z => hy (Sum.inl.inj (z.symm.trans e))
          rw [List.find?_cons_of_neg (by simpa using n1), List.find?_cons_of_neg (by simpa using n1)]
          -- the rest is mapped too, which changes nothing that is asked
          have rest : ∀ l : List (Key × D), ((l.map fun kv => if kv.1 = (.inl x : Key) then (kv.1, d) else kv).find? fun kv => decide (kv.1 = (.inl y : Key))).map (·.2) = (l.find? fun kv => decide (kv.1 = (.inl y : Key))).map (·.2) := fun l => by
            induction l with
            | nil => rfl
            | cons r l ih =>
              rw [List.map_cons]
              by_cases e2 : r.1 = (.inl x : Key)
              · have n2 : ¬ (r.1 = (.inl y : Key)) := fun z => hy (Sum.inl.inj (z.symm.trans e2))
                rw [if_pos e2, List.find?_cons_of_neg (by simpa using n2), List.find?_cons_of_neg (by simpa using n2)]
                exact ih
              · rw [if_neg e2]
                by_cases e3 : r.1 = (.inl y : Key)
                · rw [List.find?_cons_of_pos (by simpa using e3), List.find?_cons_of_pos (by simpa using e3)]
                · rw [List.find?_cons_of_neg (by simpa using e3), List.find?_cons_of_neg (by simpa using e3)]
                  exact ih
          exact rest kd
      · rw [if_neg e]
        have h' : (kd.any fun kv => decide (kv.1 = (.inl x : Key))) = true := by
          rw [List.any_cons, decide_eq_false e, Bool.false_or] at h
          exact h
        by_cases e3 : q.1 = (.inl y : Key)
        · have hy : y ≠ x := fun z => e (by rw [e3, z])
          rw [List.find?_cons_of_pos (by simpa using e3), List.find?_cons_of_pos (by simpa using e3), if_neg hy]
        · rw [List.find?_cons_of_neg (by simpa using e3), List.find?_cons_of_neg (by simpa using e3)]
          exact ih h'
  · rename_i h
    rw [List.find?_append]
    by_cases hy : y = x
    · subst hy
      have e : (kd.find? fun kv => decide (kv.1 = (.inl y : Key))) = none := by
        rw [List.find?_eq_none]
        intro q hq z
        exact h (List.any_eq_true.mpr ⟨q, hq, z⟩)
      rw [e, if_pos rfl, List.find?_cons_of_pos (by simp)]
      rfl
    · rw [if_neg hy]
      have e : ([((.inl x : Key), d)].find? fun kv => decide (kv.1 = (.inl y : Key))) = none := by
        rw [List.find?_cons_of_neg (by simpa using fun z => hy z.symm)]
        rfl
      rw [e, Option.or_none]
theorem evIn_put {kd : List (Key × D)} {sd : Int → Str} {x : Int} {ev : Ev} (h : EvIn kd sd ev) : EvIn (putD kd (.inl x) (.str (sd x))) sd ev := by
  refine ⟨?_, fun r hr => ?_⟩
  · rw [dl_put]
    split
    · rename_i e; rw [e]
    · exact h.1
  · rw [dl_put]
    split
    · rename_i e; rw [e]
    · exact h.2 r hr
section
variable {P : Program} {w : World} {K : PySem.W.Frag} {mg : Str → Option Value} {base : Heap} {T : List Addr} {CE : Addr}
def sgPg (pg : Pg) (p : Str) (ks sg : List Str) (s : Int) (evs : List Ev) : D := .tup [.lst (thear pg p ks sg s evs evs.length).1, oI (thear pg p ks sg s evs evs.length).2]
def pSigPg (CS : Addr) (ss : List Dz.Slot) (O : OH) (d : D) (O' : OH) : Prop := ∃ p ks sg pp pg evs s, ss = [.dat (suI CS p ks sg), .dat (pgeD pp), .dat (.lst (evs.map evD)), .dat (.int s), .dat (oI pg.en)] ∧ Rl pp pg ∧ p ∈ PLACES ∧ (∀ ev ∈ evs, evGood pg ev) ∧ evs.length ≤ 10 ∧ d = sgPg pg p ks sg s evs ∧ O' = O
theorem scSigPg : FnScope ["setup", "page", "events", "stops", "entered", "sides", "_", "target", "related"] ["setup", "page", "events", "stops", "entered"] (defScope s_signals_on_page) := ⟨rfl, rfl, rfl, by decide +kernel, rfl, by decide +kernel, by decide +kernel⟩
theorem ok_sigpg {f CS : Addr} {fd : FuncData} {cdv : Value} (F : FunC K "signals_on_page" "signals_on_page" s_signals_on_page f fd cdv) (G1 : HasF P w K mg base CX0 4 "side_of" ["page", "element"] (spF T K pSideOf)) (G2 : HasF P w K mg base CX0 3 "heard" ["setup", "sides", "events", "stops", "entered"] (spF T K (pHeard CS))) :
    FnOk P w K mg base CX0 5 f fd ["setup", "page", "events", "stops", "entered"] (spF T K (pSigPg CS)) := by
  refine fn_ok (CE := (0 : Addr)) (R := pSigPg CS) F scSigPg (fun ss O d O' ⟨_, _, _, _, _, _, _, h, _⟩ => by rw [h]; rfl) fun A outer s H E ss O d O' hr h => ?_
  obtain ⟨p, ks, sg, pp, pg, evs, st, h1, R, hp, hg, hl, h2, h3⟩ := h
  subst h1 h2 h3
  have hr1 := hr.mono (show 1 ≤ 4 by decide)
  refine ds_cons (d1_ownDic0 5 (fun c hc => ?_) scSigPg.nd)
  let W : Nat → List (Key × D) → Prop := fun j kd => kd.length ≤ 2 * j ∧ ∀ i ev, i < j → evs[i]? = some ev → EvIn kd (sdP pg) ev
  let ρ0 : Dz.Slot → Dz.Slot → Dz.Slot → List Dz.Slot := fun s6 s7 s8 => [.dat (suI CS p ks sg), .dat (pgeD pp), .dat (.lst (evs.map evD)), .dat (.int st), .dat (oI pg.en), .val (.ref c), s6, s7, s8]
  refine ds_mid (fun ρ' O2 => (∃ s6 s7 s8, ρ' = ρ0 s6 s7 s8) ∧ ∃ kd, W evs.length kd ∧ O2 = put O' c (.dic (kd.map fun q => (q.1, .dat q.2))))
    (d1_forLP (ds := evs.map evD) (is := [6, 7, 8]) (fun j ρ' O2 => (∃ s6 s7 s8, ρ' = ρ0 s6 s7 s8) ∧ ∃ kd, W j kd ∧ O2 = put O' c (.dic (kd.map fun q => (q.1, .dat q.2)))) (de_var 2) ⟨⟨_, _, _, rfl⟩, [], ⟨Nat.zero_le _, fun i ev h => absurd h (Nat.not_lt_zero _)⟩, rfl⟩ scSigPg.nd
      (by repeat' (first | exact Dz.Names.nil | refine Dz.Names.cons rfl (by first | exact Or.inl rfl | exact Or.inr rfl) (by first | exact .inl rfl | exact .inr rfl) rfl ?_)) (fun d hd => ?_) ?_ ?_ PassesOwn.never) ?_
  · obtain ⟨ev, _, rfl⟩ := List.mem_map.mp hd
    exact ⟨_, rfl, rfl⟩
  · rintro j cs ρ' O2 hj ⟨⟨s6, s7, s8, rfl⟩, kd, ⟨w1, w2⟩, rfl⟩
    rw [List.getElem?_map] at hj
    obtain ⟨⟨kind, t, rel⟩, hev, ecs⟩ := Option.map_eq_some_iff.mp hj
    have ecs : D.tup [.str kind, .int t, oD rel] = .tup cs := ecs
    cases ecs
    have hjl : j < evs.length := (List.getElem?_eq_some_iff.mp hev).1
    obtain ⟨g1, g2, _⟩ := hg _ (List.mem_of_getElem? hev)
    show DS T _ _ _ [.dat (suI CS p ks sg), .dat (pgeD pp), .dat (.lst (evs.map evD)), .dat (.int st), .dat (oI pg.en), .val (.ref c), .dat (.str kind), .dat (.int t), .dat (oD rel)] _ _
    refine ds_cons (d1_dput (k := .inl t) (kx := .int t) (s := .dat (.str (sdP pg t))) 5 hr rfl (DE.dv (de_callH G1 hr (da_d (de_var 1) (da_d (de_var 7) da_nil)) ⟨pp, pg, t, rfl, R, rfl, rfl⟩)) (de_var 7) keyI put_same (by rw [List.length_map]; omega) ?_)
    rw [put_put, putKS_D]
    have l1 := putD_len kd (.inl t) (.str (sdP pg t))
    have c1 : ∀ i ev, i < j → evs[i]? = some ev → EvIn (putD kd (.inl t) (.str (sdP pg t))) (sdP pg) ev := fun i ev hi he => evIn_put (w2 i ev hi he)
    have c2 : dl (putD kd (.inl t) (.str (sdP pg t))) t = some (.str (sdP pg t)) := by rw [dl_put, if_pos rfl]
    generalize putD kd (.inl t) (.str (sdP pg t)) = kd1 at l1 c1 c2
    cases rel with
    | none =>
      refine ds_one (d1_if (p := false) (DT.cast (dt_notN (x := .non) (de_var 8) de_non) rfl) (fun z => by cases z) fun _ => ds_nil ⟨⟨_, _, _, rfl⟩, kd1, ⟨by omega, fun i ev hi he => ?_⟩, rfl⟩)
      rcases Nat.lt_or_ge i j with q | q
      · exact c1 i ev q he
      · have : i = j := by omega
        subst this
        rw [hev] at he
        cases he
        exact ⟨c2, fun r z => (nomatch z)⟩
    | some r =>
      refine ds_one (d1_if (p := true) (DT.cast (dt_notN (x := .int r) (de_var 8) de_non) rfl) (fun _ => ds_one (d1_dput (k := .inl r) (kx := .int r) (s := .dat (.str (sdP pg r))) 5 hr rfl (DE.dv (de_callH G1 hr (da_d (de_var 1) (da_d (de_var 8) da_nil)) ⟨pp, pg, r, rfl, R, rfl, rfl⟩)) (de_var 8) keyI put_same (by rw [List.length_map]; omega) ⟨⟨_, _, _, rfl⟩, putD kd1 (.inl r) (.str (sdP pg r)), ⟨?_, fun i ev hi he => ?_⟩, ?_⟩)) fun z => by cases z)
      · have := putD_len kd1 (.inl r) (.str (sdP pg r))
        omega
      · rcases Nat.lt_or_ge i j with q | q
        · exact evIn_put (c1 i ev q he)
        · have : i = j := by omega
          subst this
          rw [hev] at he
          cases he
          refine ⟨?_, fun r' z => ?_⟩
          · rw [dl_put]
            split
            · rename_i e; rw [e]
            · exact c2
          · cases z
            rw [dl_put, if_pos rfl]
      · rw [put_put, putKS_D]
  · rintro ρ' O2 ⟨q, kd, hw, e⟩
    rw [List.length_map] at hw
    exact ⟨q, kd, hw, e⟩
  rintro ρ' O2 ⟨⟨s6, s7, s8, rfl⟩, kd, ⟨w1, w2⟩, rfl⟩
  refine ds_freezeDic 5 (kd := kd) rfl put_same ?_
  rw [cut_put hc]
  have hin : ∀ ev ∈ evs, EvIn kd (sdP pg) ev := fun ev he => by
    obtain ⟨i, hi, e⟩ := List.getElem_of_mem he
    exact w2 i ev hi (by rw [List.getElem?_eq_getElem hi, e])
  have er : sgPg pg p ks sg st evs = .tup [.lst (hearP p ks sg (sdP pg) st evs pg.en evs.length).1, oD (hearP p ks sg (sdP pg) st evs pg.en evs.length).2] := by
    rw [hear_eq R hp ks sg st evs hg, oD_oI]
    rfl
  rw [er]
  exact ds_one (d1_ret (s := .dat _) (DE.dv (de_callH G2 (hr.mono (by decide)) (da_d (de_var 0) (da_d (de_var 5) (da_d (de_var 2) (da_d (de_var 3) (da_d (de_var 4) da_nil))))) ⟨p, ks, sg, kd, sdP pg, evs, st, pg.en, by rw [oD_oI], hin, hl, rfl, rfl⟩)) ⟨rfl, rfl⟩)
/-! ### scenes -/
def scD (pp : List (Option Int)) (pg : Pg) (i : Int) : D := .tup [pgeD pp, oI pg.tg, oI pg.en, .int i]
def pCurT (ss : List Dz.Slot) (O : OH) (d : D) (O' : OH) : Prop := ∃ pp pg i, ss = [.dat (scD pp pg i)] ∧ Rl pp pg ∧ d = oI (curP pg) ∧ O' = O
theorem scCurT : FnScope ["scene", "page", "last_target", "_"] ["scene"] (defScope s_current_target) := ⟨rfl, rfl, rfl, by decide +kernel, rfl, by decide +kernel, by decide +kernel⟩
theorem ok_curt {f : Addr} {fd : FuncData} {cdv : Value} (F : FunC K "current_target" "current_target" s_current_target f fd cdv) (G : HasF P w K mg base CX0 3 "is_there" ["page", "element"] (spF T K pIsThere)) : FnOk P w K mg base CX0 4 f fd ["scene"] (spF T K pCurT) := by
  refine fn_ok (CE := (0 : Addr)) (R := pCurT) F scCurT (fun ss O d O' ⟨_, _, _, h, _⟩ => by rw [h]; rfl) fun A outer s H E ss O d O' hr h => ?_
  obtain ⟨pp, pg, i, h1, R, h2, h3⟩ := h
  subst h1 h2 h3
  refine ds_cons (d1_unpack (ds := [pgeD pp, oI pg.tg, oI pg.en, .int i]) (is := [1, 2, 3, 3]) (de_var 0) rfl (by repeat' (first | exact Dz.Names.nil | refine Dz.Names.cons rfl (by first | exact Or.inl rfl | exact Or.inr rfl) (by first | exact .inl rfl | exact .inr rfl) rfl ?_)) ?_ scCurT.nd)
  have e : oI (curP pg) = if thO pg pg.tg = true then oI pg.tg else .non := by
    unfold curP thO
    cases pg.tg with
    | none => rfl
    | some t =>
      show oI (if there pg t = true then some t else none) = if there pg t = true then oI (some t) else .non
      split <;> rfl
  refine ds_one (d1_ret (s := .dat (oI (curP pg))) (DE.dv (de_if (p := thO pg pg.tg) (dt_val (de_callH G hr (da_d (de_var 1) (da_d (de_var 2) da_nil)) ⟨pp, pg, pg.tg, rfl, R, rfl, rfl⟩)) (fun z => ?_) fun z => ?_)) ⟨rfl, rfl⟩)
  · rw [e, if_pos z]
    exact de_var 2
  · rw [e, if_neg (by rw [z]; exact Bool.false_ne_true)]
    exact de_non
def pZHov (ss : List Dz.Slot) (O : OH) (d : D) (O' : OH) : Prop := ∃ pp pg i, ss = [.dat (scD pp pg i)] ∧ Rl pp pg ∧ d = .bl (hovP pg) ∧ O' = O
theorem scZHov : FnScope ["scene", "current"] ["scene"] (defScope s_is_zone_hovered) := ⟨rfl, rfl, rfl, by decide +kernel, rfl, by decide +kernel, by decide +kernel⟩
theorem ok_zhov {f : Addr} {fd : FuncData} {cdv uZ : Value} (F : FunC K "is_zone_hovered" "is_zone_hovered" s_is_zone_hovered f fd cdv) (hZ : mg "ZONE" = some uZ) (kZ : kdB K 0 uZ (.int 1) = true) (G1 : HasF P w K mg base CX0 4 "current_target" ["scene"] (spF T K pCurT)) (G2 : HasF P w K mg base CX0 1 "is_within" ["page", "element", "other"] (spF T K pIsWithin)) : FnOk P w K mg base CX0 5 f fd ["scene"] (spF T K pZHov) := by
  refine fn_ok (CE := (0 : Addr)) (R := pZHov) F scZHov (fun ss O d O' ⟨_, _, _, h, _⟩ => by rw [h]; rfl) fun A outer s H E ss O d O' hr h => ?_
  obtain ⟨pp, pg, i, h1, R, h2, h3⟩ := h
  subst h1 h2 h3
  refine ds_cons (d1_set 1 (s := .dat (oI (curP pg))) (DE.dv (de_callH G1 hr (da_d (de_var 0) da_nil) ⟨pp, pg, i, rfl, R, rfl, rfl⟩)) ?_ scZHov.nd)
  have e : hovP pg = (!(curP pg).isNone && wiO pp (curP pg) 1) := by
    unfold hovP
    cases h : curP pg with
    | none => rfl
    | some c => exact within_wi R (cur_there h)
  rw [e]
  refine ds_one (d1_ret (s := .dat (.bl (!(curP pg).isNone && wiO pp (curP pg) 1))) (DE.dv (de_and (DE.cast (de_notN (x := oI (curP pg)) (de_var 1) de_non) (by rw [non_oI])) fun _ => de_one (de_callH G2 (hr.mono (by decide)) (da_d (de_ixT (ds := [pgeD pp, oI pg.tg, oI pg.en, .int i]) (de_var 0) de_int rfl) (da_d (de_var 1) (da_d (de_gk hZ kZ) da_nil))) ⟨pp, curP pg, 1, rfl, R.rk, fun v hv => ?_, rfl, rfl⟩))) ⟨rfl, rfl⟩)
  rw [R.len]
  exact there_bd (cur_there hv)
theorem inpage (pp : List (Option Int)) (c : Int) : ((pp.map oI).any fun z => deq z (.int c)) = decide (some c ∈ pp) := by
  induction pp with
  | nil => rfl
  | cons x pp ih =>
    rw [List.map_cons, List.any_cons, ih]
    have e : deq (oI x) (.int c) = decide (x = some c) := deq_oI x (some c)
    rw [e]
    by_cases h : x = some c
    · subst h; simp
    · have h' : ¬ some c = x := fun z => h z.symm
      simp [h, h']
def pPossSl (ss : List Dz.Slot) (O : OH) (d : D) (O' : OH) : Prop := ∃ pp pg x s, ss = [.dat (pgeD pp), .dat (oI (curP pg)), .dat (.int x)] ∧ Rl pp pg ∧ d = .bl (canP pg (.slp x s)) ∧ O' = O
theorem scPossSl : FnScope ["page", "current", "element"] ["page", "current", "element"] (defScope s_is_possible_slip) := ⟨rfl, rfl, rfl, by decide +kernel, rfl, by decide +kernel, by decide +kernel⟩
theorem ok_posssl {f : Addr} {fd : FuncData} {cdv : Value} (F : FunC K "is_possible_slip" "is_possible_slip" s_is_possible_slip f fd cdv) (G1 : HasF P w K mg base CX0 4 "is_movable" ["page", "element"] (spF T K pIsMov)) (G2 : HasF P w K mg base CX0 3 "is_there" ["page", "element"] (spF T K pIsThere)) : FnOk P w K mg base CX0 5 f fd ["page", "current", "element"] (spF T K pPossSl) := by
  refine fn_ok (CE := (0 : Addr)) (R := pPossSl) F scPossSl (fun ss O d O' ⟨_, _, _, _, h, _⟩ => by rw [h]; rfl) fun A outer s H E ss O d O' hr h => ?_
  obtain ⟨pp, pg, x, st, h1, R, h2, h3⟩ := h
  subst h1 h2 h3
  have hr1 := hr.mono (show 1 ≤ 4 by decide)
  have okp : D.oks 32 (pp.map oI) = true := by
    rw [oks_all, List.all_eq_true]
    intro d hd
    obtain ⟨o, _, rfl⟩ := List.mem_map.mp hd
    exact ok_oI o 32
  cases hcu : curP pg with
  | none =>
    have e : canP pg (.slp x st) = false := by
      show (there pg x && slipB pg x) = false
      unfold slipB
      rw [hcu, Bool.and_false]
    rw [e]
    exact ds_one (d1_ret (s := .dat (.bl false)) (DE.dv (DE.cast (de_and (p := false) (q := false) (de_callH G1 hr (da_d (de_var 0) (da_d (d := oI none) (de_var 1) da_nil)) ⟨pp, pg, none, rfl, R, rfl, rfl⟩) fun z => by cases z) rfl)) ⟨rfl, rfl⟩)
  | some c =>
    have ct := cur_there hcu
    have e : canP pg (.slp x st) = (mvO pg (some c) && (!decide (some c ∈ pp) && (there pg x && !decide (x = c)))) := by
      show (there pg x && slipB pg x) = ((there pg c && decide (2 ≤ c)) && _)
      have hk : (kids pg (some c)).isEmpty = !decide (some c ∈ pp) := by
        have := kids_iff R ct
        cases q : (kids pg (some c)).isEmpty with
        | true =>
          have h := this.mp q
          have : ¬ some c ∈ pp := fun m => by
            obtain ⟨i, hi, e⟩ := List.getElem_of_mem m
            exact h i (by rw [List.getElem?_eq_getElem hi, e])
          rw [decide_eq_false this]
          rfl
        | false =>
          have : some c ∈ pp := Classical.byContradiction fun m => by
            have h := this.mpr fun i e => m (List.mem_of_getElem? e)
            rw [q] at h
            cases h
          rw [decide_eq_true this]
          rfl
      unfold slipB
      rw [hcu]
      show (there pg x && (decide (2 ≤ c) && ((kids pg (some c)).isEmpty && !decide (x = c)))) = _
      rw [hk, ct]
      generalize decide (2 ≤ c) = b1
      generalize decide (some c ∈ pp) = b2
      generalize decide (x = c) = b3
      generalize there pg x = b4
      revert b1 b2 b3 b4
      decide
    rw [e]
    exact ds_one (d1_ret (s := .dat (.bl _)) (DE.dv (de_and (de_callH G1 hr (da_d (de_var 0) (da_d (d := oI (some c)) (de_var 1) da_nil)) ⟨pp, pg, some c, rfl, R, rfl, rfl⟩) fun _ => de_and (DE.cast (de_ninT (x := .int c) (ds := pp.map oI) hr1 (by rfl) okp (de_var 1) (de_var 0)) (by rw [inpage])) fun _ => de_and (de_callH G2 (hr.mono (by decide)) (da_d (de_var 0) (da_d (de_var 2) da_nil)) ⟨pp, pg, some x, rfl, R, rfl, rfl⟩) fun _ => de_one (DE.cast (de_ne (x := .int x) (y := .int c) hr1 (by rfl) (by rfl) (de_var 2) (de_var 1)) (by rw [deq_int])))) ⟨rfl, rfl⟩)
def pPossTk (ss : List Dz.Slot) (O : OH) (d : D) (O' : OH) : Prop := ∃ pp pg i st, ss = [.dat (scD pp pg i), .dat (stD st)] ∧ Rl pp pg ∧ isCh st = false ∧ d = .bl (canP pg st) ∧ O' = O
theorem scPossTk : FnScope ["scene", "tick", "name"] ["scene", "tick"] (defScope s_is_possible_tick) := ⟨rfl, rfl, rfl, by decide +kernel, rfl, by decide +kernel, by decide +kernel⟩
theorem ok_posstk {f : Addr} {fd : FuncData} {cdv : Value} (F : FunC K "is_possible_tick" "is_possible_tick" s_is_possible_tick f fd cdv) (L : Blt mg) (G1 : HasF P w K mg base CX0 3 "is_there" ["page", "element"] (spF T K pIsThere)) (G2 : HasF P w K mg base CX0 5 "is_possible_slip" ["page", "current", "element"] (spF T K pPossSl)) (G3 : HasF P w K mg base CX0 4 "current_target" ["scene"] (spF T K pCurT)) : FnOk P w K mg base CX0 6 f fd ["scene", "tick"] (spF T K pPossTk) := by
  refine fn_ok (CE := (0 : Addr)) (R := pPossTk) F scPossTk (fun ss O d O' ⟨_, _, _, _, h, _⟩ => by rw [h]; rfl) fun A outer s H E ss O d O' hr h => ?_
  obtain ⟨pp, pg, i, st, h1, R, hc, h2, h3⟩ := h
  subst h1 h2 h3
  have hr1 := hr.mono (show 1 ≤ 5 by decide)
  cases st with
  | pnt x t =>
    refine ds_cons (d1_set 2 (s := .dat (.str "point")) (DE.dv (de_ixT (ds := [.str "point", .int x, .int t]) (de_var 1) de_int rfl)) ?_ scPossTk.nd)
    exact ds_cons (d1_if (p := true) (DT.cast (dt_eq (x := .str "point") (y := .str "point") hr1 (by rfl) (by rfl) (de_var 2) de_str) (dq (by decide +kernel))) (fun _ => ds_one (d1_ret (s := .dat (.bl (there pg x))) (DE.dv (de_callH G1 (hr.mono (by decide)) (da_d (de_ixT (ds := [pgeD pp, oI pg.tg, oI pg.en, .int i]) (de_var 0) de_int rfl) (da_d (de_ixT (ds := [.str "point", .int x, .int t]) (de_var 1) de_int rfl) da_nil)) ⟨pp, pg, some x, rfl, R, rfl, rfl⟩)) ⟨rfl, rfl⟩)) fun z => by cases z)
  | slp x t =>
    refine ds_cons (d1_set 2 (s := .dat (.str "slip")) (DE.dv (de_ixT (ds := [.str "slip", .int x, .int t]) (de_var 1) de_int rfl)) ?_ scPossTk.nd)
    refine ds_cons (d1_if (p := false) (DT.cast (dt_eq (x := .str "slip") (y := .str "point") hr1 (by rfl) (by rfl) (de_var 2) de_str) (dq (by decide +kernel))) (fun z => by cases z) fun _ => ds_nil ?_)
    exact ds_cons (d1_if (p := true) (DT.cast (dt_eq (x := .str "slip") (y := .str "slip") hr1 (by rfl) (by rfl) (de_var 2) de_str) (dq (by decide +kernel))) (fun _ => ds_one (d1_ret (s := .dat (.bl (canP pg (.slp x t)))) (DE.dv (de_callH G2 hr (da_d (de_ixT (ds := [pgeD pp, oI pg.tg, oI pg.en, .int i]) (de_var 0) de_int rfl) (da_d (de_callH G3 (hr.mono (by decide)) (da_d (de_var 0) da_nil) ⟨pp, pg, i, rfl, R, rfl, rfl⟩) (da_d (de_ixT (ds := [.str "slip", .int x, .int t]) (de_var 1) de_int rfl) da_nil))) ⟨pp, pg, x, t, rfl, R, rfl, rfl⟩)) ⟨rfl, rfl⟩)) fun z => by cases z)
  | out t =>
    refine ds_cons (d1_set 2 (s := .dat (.str "out")) (DE.dv (de_ixT (ds := [.str "out", .int t]) (de_var 1) de_int rfl)) ?_ scPossTk.nd)
    refine ds_cons (d1_if (p := false) (DT.cast (dt_eq (x := .str "out") (y := .str "point") hr1 (by rfl) (by rfl) (de_var 2) de_str) (dq (by decide +kernel))) (fun z => by cases z) fun _ => ds_nil ?_)
    refine ds_cons (d1_if (p := false) (DT.cast (dt_eq (x := .str "out") (y := .str "slip") hr1 (by rfl) (by rfl) (de_var 2) de_str) (dq (by decide +kernel))) (fun z => by cases z) fun _ => ds_nil ?_)
    exact ds_one (d1_ret (s := .dat (.bl true)) (DE.dv (DE.cast (de_or (p := true) (q := true) (DE.cast (de_eq (x := .str "out") (y := .str "out") hr1 (by rfl) (by rfl) (de_var 2) de_str) (congrArg D.bl (dq (by decide +kernel)))) fun z => by cases z) rfl)) ⟨rfl, rfl⟩)
  | drp b t =>
    refine ds_cons (d1_set 2 (s := .dat (.str "drop")) (DE.dv (de_ixT (ds := [.str "drop", .bl b, .int t]) (de_var 1) de_int rfl)) ?_ scPossTk.nd)
    refine ds_cons (d1_if (p := false) (DT.cast (dt_eq (x := .str "drop") (y := .str "point") hr1 (by rfl) (by rfl) (de_var 2) de_str) (dq (by decide +kernel))) (fun z => by cases z) fun _ => ds_nil ?_)
    refine ds_cons (d1_if (p := false) (DT.cast (dt_eq (x := .str "drop") (y := .str "slip") hr1 (by rfl) (by rfl) (de_var 2) de_str) (dq (by decide +kernel))) (fun z => by cases z) fun _ => ds_nil ?_)
    exact ds_one (d1_ret (s := .dat (.bl true)) (DE.dv (DE.cast (de_or (p := false) (q := true) (DE.cast (de_eq (x := .str "drop") (y := .str "out") hr1 (by rfl) (by rfl) (de_var 2) de_str) (congrArg D.bl (dq (by decide +kernel)))) fun _ => de_one (de_isBool L (.bl b) (de_ixT (ds := [.str "drop", .bl b, .int t]) (de_var 1) de_int rfl))) rfl)) ⟨rfl, rfl⟩)
  | cnc b t =>
    refine ds_cons (d1_set 2 (s := .dat (.str "cancel")) (DE.dv (de_ixT (ds := [.str "cancel", .bl b, .int t]) (de_var 1) de_int rfl)) ?_ scPossTk.nd)
    refine ds_cons (d1_if (p := false) (DT.cast (dt_eq (x := .str "cancel") (y := .str "point") hr1 (by rfl) (by rfl) (de_var 2) de_str) (dq (by decide +kernel))) (fun z => by cases z) fun _ => ds_nil ?_)
    refine ds_cons (d1_if (p := false) (DT.cast (dt_eq (x := .str "cancel") (y := .str "slip") hr1 (by rfl) (by rfl) (de_var 2) de_str) (dq (by decide +kernel))) (fun z => by cases z) fun _ => ds_nil ?_)
    exact ds_one (d1_ret (s := .dat (.bl true)) (DE.dv (DE.cast (de_or (p := false) (q := true) (DE.cast (de_eq (x := .str "cancel") (y := .str "out") hr1 (by rfl) (by rfl) (de_var 2) de_str) (congrArg D.bl (dq (by decide +kernel)))) fun _ => de_one (de_isBool L (.bl b) (de_ixT (ds := [.str "cancel", .bl b, .int t]) (de_var 1) de_int rfl))) rfl)) ⟨rfl, rfl⟩)
  | add x => cases hc
  | rem x => cases hc
  | plc x y => cases hc
end
end Dg

namespace Dg
open PySem PySem.Spec PyProof.Rows L2 GxR Dz
theorem okI (os : List Int) (n : Nat) : D.oks n (os.map .int) = true := by
  rw [oks_all, List.all_eq_true]
  intro d hd
  obtain ⟨o, _, rfl⟩ := List.mem_map.mp hd
  exact ok_i o n
theorem atH0 (x : D) (l : List D) : atI (x :: l) 0 = some x := by rw [atI_D (by decide) (by rw [List.length_cons]; omega)]; rfl
def nmSt : Stp → Str
  | .add _ => "add"
  | .rem _ => "remove"
  | .plc _ _ => "place"
  | .pnt _ _ => "point"
  | .slp _ _ => "slip"
  | .out _ => "out"
  | .drp _ _ => "drop"
  | .cnc _ _ => "cancel"
def lenSt : Stp → Int
  | .add _ => 2
  | .rem _ => 2
  | .out _ => 2
  | _ => 3
/-- the two dicts of lengths -/
structure Lens (K : PySem.W.Frag) (w : World) (aC aT : Addr) : Prop where
  dC : ∃ es n, KDict K w aC es n
  dT : ∃ es n, KDict K w aT es n
  inC : ∀ st, isCh st = true → ∃ u v, PySem.W.nsIn K aC (nmSt st) = some (some u) ∧ KDct K w aC (nmSt st) v ∧ ∀ B : Hp, Rp K B v (.int (lenSt st))
  noC : ∀ st, isCh st = false → PySem.W.nsIn K aC (nmSt st) = some none
  inT : ∀ st, isCh st = false → ∃ u v, PySem.W.nsIn K aT (nmSt st) = some (some u) ∧ KDct K w aT (nmSt st) v ∧ ∀ B : Hp, Rp K B v (.int (lenSt st))
theorem st_shape (st : Stp) : ∃ rest, stD st = .tup (.str (nmSt st) :: rest) ∧ ((rest.length : Int) + 1 = lenSt st ∧ rest.length ≤ 5) ∧ (isCh st = false → atI (D.str (nmSt st) :: rest) (-1) = some (.int (stpS st))) := by
  cases st with
  | add x => exact ⟨[.int x], rfl, ⟨rfl, by show 1 ≤ 5; decide⟩, fun z => by cases z⟩
  | rem x => exact ⟨[.int x], rfl, ⟨rfl, by show 1 ≤ 5; decide⟩, fun z => by cases z⟩
  | plc x y => exact ⟨[.int x, .int y], rfl, ⟨rfl, by show 2 ≤ 5; decide⟩, fun z => by cases z⟩
  | pnt x s => exact ⟨[.int x, .int s], rfl, ⟨rfl, by show 2 ≤ 5; decide⟩, fun _ => rfl⟩
  | slp x s => exact ⟨[.int x, .int s], rfl, ⟨rfl, by show 2 ≤ 5; decide⟩, fun _ => rfl⟩
  | out s => exact ⟨[.int s], rfl, ⟨rfl, by show 1 ≤ 5; decide⟩, fun _ => rfl⟩
  | drp b s => exact ⟨[.bl b, .int s], rfl, ⟨rfl, by show 2 ≤ 5; decide⟩, fun _ => rfl⟩
  | cnc b s => exact ⟨[.bl b, .int s], rfl, ⟨rfl, by show 2 ≤ 5; decide⟩, fun _ => rfl⟩
theorem nm_slip : ∀ st : Stp, (∀ x t, st ≠ .slp x t) → decide (nmSt st = "slip") = false
  | .add _, _ => by show decide (("add" : Str) = "slip") = false; decide +kernel
  | .rem _, _ => by show decide (("remove" : Str) = "slip") = false; decide +kernel
  | .plc _ _, _ => by show decide (("place" : Str) = "slip") = false; decide +kernel
  | .pnt _ _, _ => by show decide (("point" : Str) = "slip") = false; decide +kernel
  | .slp x t, h => absurd rfl (h x t)
  | .out _, _ => by show decide (("out" : Str) = "slip") = false; decide +kernel
  | .drp _ _, _ => by show decide (("drop" : Str) = "slip") = false; decide +kernel
  | .cnc _ _, _ => by show decide (("cancel" : Str) = "slip") = false; decide +kernel
theorem st_stops {st : Stp} (h : StOk st) (hc : isCh st = false) : 0 ≤ stpS st ∧ stpS st < 8 := by
  cases st with
  | add x => cases hc
  | rem x => cases hc
  | plc x y => cases hc
  | _ => exact h
section
variable {P : Program} {w : World} {K : PySem.W.Frag} {mg : Str → Option Value} {base : Heap} {T : List Addr} {CE : Addr}
def pPoss (ss : List Dz.Slot) (O : OH) (d : D) (O' : OH) : Prop := ∃ pp pg i st, ss = [.dat (scD pp pg i), .dat (stD st)] ∧ Rl pp pg ∧ StOk st ∧ d = .bl (canP pg st) ∧ O' = O
theorem scPoss : FnScope ["scene", "step", "name"] ["scene", "step"] (defScope s_is_possible) := ⟨rfl, rfl, rfl, by decide +kernel, rfl, by decide +kernel, by decide +kernel⟩
theorem ok_poss5 {f aC aT : Addr} {fd : FuncData} {cdv uB : Value} (F : FunC K "is_possible" "is_possible" s_is_possible f fd cdv) (L : Blt mg) (hC : mg "CHANGE_LENGTHS" = some (.ref aC)) (hT : mg "TICK_LENGTHS" = some (.ref aT)) (Ln : Lens K w aC aT) (hB : mg "STOPS_BOUND" = some uB) (kB : kdB K 0 uB (.int 8) = true)
    (G1 : HasF P w K mg base CX0 5 "is_possible_change" ["page", "change"] (spF T K pPossCh)) (G2 : HasF P w K mg base CX0 2 "is_number_below" ["value", "bound"] (spF T K pBelow)) (G3 : HasF P w K mg base CX0 6 "is_possible_tick" ["scene", "tick"] (spF T K pPossTk)) : FnOk P w K mg base CX0 7 f fd ["scene", "step"] (spF T K pPoss) := by
  refine fn_ok (CE := (0 : Addr)) (R := pPoss) F scPoss (fun ss O d O' ⟨_, _, _, _, h, _⟩ => by rw [h]; rfl) fun A outer s H E ss O d O' hr h => ?_
  obtain ⟨pp, pg, i, st, h1, R, hs, h2, h3⟩ := h
  subst h1 h2 h3
  have hr1 := hr.mono (show 1 ≤ 6 by decide)
  obtain ⟨rest, esd, ⟨el, el5⟩, elast⟩ := st_shape st
  have len1 : ((D.str (nmSt st) :: rest).length : Int) = lenSt st := by rw [List.length_cons]; omega
  refine ds_cons (d1_if (p := false) (DT.cast (dt_not (DW.dt (dw_and (p := true) (q := true) (DT.cast (dt_val (de_isTup (x := stD st) L (by rw [esd]; exact .tup _) (de_var 1))) (by rw [esd]; rfl)) fun _ => dw_and (p := true) (q := true) (DT.cast (dt_gt (de_lenT (ds := D.str (nmSt st) :: rest) L.len (DE.cast (de_var 1) esd)) de_int) (by rw [decide_eq_true]; rw [List.length_cons]; omega)) fun _ => dw_and1 (DT.cast (dt_val (de_isStr L (.str (nmSt st)) (de_ixT (ds := D.str (nmSt st) :: rest) (DE.cast (de_var 1) esd) de_int (atH0 _ _)))) rfl)))) rfl) (fun z => by cases z) fun _ => ds_nil ?_)
  refine ds_cons (d1_set 2 (s := .dat (.str (nmSt st))) (DE.dv (de_ixT (ds := D.str (nmSt st) :: rest) (DE.cast (de_var 1) esd) de_int (atH0 _ _))) ?_ scPoss.nd)
  obtain ⟨esC, nC, DC⟩ := Ln.dC
  obtain ⟨esT, nT, DTk⟩ := Ln.dT
  cases hc : isCh st with
  | true =>
    obtain ⟨u, v, k1, k2, k3⟩ := Ln.inC st hc
    refine ds_cons (d1_if (p := true) (DT.cast (de_inKD hC DC k1 (de_var 2)) rfl) (fun _ => ?_) fun z => by cases z)
    have e : canP pg st = (true && canP pg st) := (Bool.true_and _).symm
    rw [e]
    exact ds_one (d1_ret (s := .dat (.bl (true && canP pg st))) (DE.dv (de_and (p := true) (q := canP pg st) (DE.cast (de_eq (x := .int (lenSt st)) (y := .int (lenSt st)) hr1 (by rfl) (by rfl) (DE.cast (de_lenT (ds := D.str (nmSt st) :: rest) L.len (DE.cast (de_var 1) esd)) (by rw [len1])) (de_kget hC k2 k3 (de_var 2))) (by rw [deq_int, decide_eq_true rfl])) fun _ => de_one (de_callH G1 (hr.mono (by decide)) (da_d (de_ixT (ds := [pgeD pp, oI pg.tg, oI pg.en, .int i]) (de_var 0) de_int rfl) (da_d (de_var 1) da_nil)) ⟨pp, pg, st, rfl, R, hc, rfl, rfl⟩))) ⟨rfl, rfl⟩)
  | false =>
    refine ds_cons (d1_if (p := false) (DT.cast (de_inKD hC DC (Ln.noC st hc) (de_var 2)) rfl) (fun z => by cases z) fun _ => ds_nil ?_)
    obtain ⟨u, v, k1, k2, k3⟩ := Ln.inT st hc
    refine ds_cons (d1_if (p := false) (DW.dt (dw_or (p := false) (q := false) (DT.cast (de_ninKD hT DTk k1 (de_var 2)) rfl) fun _ => dw_or1 (DT.cast (dt_ne (x := .int (lenSt st)) (y := .int (lenSt st)) hr1 (by rfl) (by rfl) (DE.cast (de_lenT (ds := D.str (nmSt st) :: rest) L.len (DE.cast (de_var 1) esd)) (by rw [len1])) (de_kget hT k2 k3 (de_var 2))) (by rw [deq_int, decide_eq_true rfl]; rfl)))) (fun z => by cases z) fun _ => ds_nil ?_)
    have e : canP pg st = (true && canP pg st) := (Bool.true_and _).symm
    rw [e]
    obtain ⟨s0, s8⟩ := st_stops hs hc
    exact ds_one (d1_ret (s := .dat (.bl (true && canP pg st))) (DE.dv (de_and (p := true) (q := canP pg st) (DE.cast (de_callH G2 (hr.mono (by decide)) (da_d (de_ixT (ds := D.str (nmSt st) :: rest) (DE.cast (de_var 1) esd) (de_neg de_int) (elast hc)) (da_d (de_gk hB kB) da_nil)) ⟨.int (stpS st), 8, rfl, .int _, rfl, rfl⟩) (by show D.bl (decide (0 ≤ stpS st) && decide (stpS st < 8)) = .bl true; rw [decide_eq_true s0, decide_eq_true s8]; rfl)) fun _ => de_one (de_callH G3 hr (da_d (de_var 0) (da_d (de_var 1) da_nil)) ⟨pp, pg, i, st, rfl, R, hc, rfl, rfl⟩))) ⟨rfl, rfl⟩)
def pFirst (ss : List Dz.Slot) (O : OH) (d : D) (O' : OH) : Prop := ss = [] ∧ d = scD pp0 pg0 0 ∧ O' = O
theorem scFirst : FnScope [] [] (defScope s_first_scene) := ⟨rfl, rfl, rfl, by decide +kernel, rfl, by decide +kernel, by decide +kernel⟩
theorem ok_first {f : Addr} {fd : FuncData} {cdv uF : Value} (F : FunC K "first_scene" "first_scene" s_first_scene f fd cdv) (hF : mg "FIRST_PAGE" = some uF) (kF : kdB K 1 uF (pgeD pp0) = true) : FnOk P w K mg base CX0 1 f fd [] (spF T K pFirst) := by
  refine fn_ok (CE := (0 : Addr)) (R := pFirst) F scFirst (fun ss O d O' ⟨h, _⟩ => by rw [h]; rfl) fun A outer s H E ss O d O' hr h => ?_
  obtain ⟨h1, h2, h3⟩ := h
  subst h1 h2 h3
  exact ds_one (d1_ret (s := .dat (scD pp0 pg0 0)) (DE.dv (de_tup (ds := [pgeD pp0, .non, .non, .int 0]) (da_d (de_gk hF kF) (da_d de_non (da_d de_non (da_d de_int da_nil)))) (by show 4 ≤ 10000; decide))) ⟨rfl, rfl⟩)
/-- a setup and a listener -/
structure Cf where
  p : Str
  ks : List Str
  sg : List Str
  n : Int
  os : List Int
  rs : List D
structure Cf.Ok (c : Cf) : Prop where
  su : SuG c.p c.ks c.sg
  li : LiOk c.n c.os c.rs
def Cf.sI (c : Cf) (CS : Addr) : D := suI CS c.p c.ks c.sg
def Cf.lI (c : Cf) (CL : Addr) : D := insList CL (.int c.n) (.lst (c.os.map .int)) (.lst c.rs)
theorem rule_good {n : Int} {r : D} (h : isRule n r = true) : RGood r := by
  refine ⟨rule_shape h, ?_⟩
  obtain ⟨a, b, c, d, e, f, rfl, _⟩ := rule_parts h
  rw [isRule_tup] at h
  simp only [Bool.and_eq_true] at h
  have hf : isBelow n f = true := h.2.2.2.2.2
  cases f <;> first | exact ⟨_, rfl⟩ | cases hf
theorem Cf.Ok.good {c : Cf} (h : c.Ok) : ∀ r ∈ c.rs, RGood r := fun r hr => rule_good (h.li.r r hr)
def pCarr (CS CL : Addr) (ss : List Dz.Slot) (O : OH) (d : D) (O' : OH) : Prop := ∃ (c : Cf) (pp : List (Option Int)) (pg : Pg) (i : Int) (st : Stp), ss = [.dat (c.sI CS), .dat (c.lI CL), .dat (scD pp pg i), .dat (stD st)] ∧ c.Ok ∧ Rl pp pg ∧ pg.up.length < 100 ∧ StOk st ∧ canP pg st = true ∧
  d = .tup [told pg c.p c.ks c.sg c.rs c.os i st, scD (nxPP pp pg st) (nxPg pg c.p c.ks c.sg st) (nxSt pg c.p c.ks c.sg c.rs i st)] ∧ O' = O
theorem scCarr : FnScope ["setup", "listener", "scene", "step", "page", "last_target", "entered", "state", "current", "signals", "signal"] ["setup", "listener", "scene", "step"] (defScope s_carried_out) := ⟨rfl, rfl, rfl, by decide +kernel, rfl, by decide +kernel, by decide +kernel⟩
theorem ok_carr {f CS CL aC aT : Addr} {fd : FuncData} {cdv : Value} (F : FunC K "carried_out" "carried_out" s_carried_out f fd cdv) (AL : Fld3 K CL "states" "on" "rules") (hC : mg "CHANGE_LENGTHS" = some (.ref aC)) (Ln : Lens K w aC aT)
    (G1 : HasF P w K mg base CX0 2 "changed" ["page", "change"] (spF T K pChanged)) (G2 : HasF P w K mg base CX0 4 "current_target" ["scene"] (spF T K pCurT)) (G3 : HasF P w K mg base CX0 5 "signals_on_page" ["setup", "page", "events", "stops", "entered"] (spF T K (pSigPg CS))) (G4 : HasF P w K mg base CX0 2 "events_of" ["tick", "current"] (spF T K pEvOf))
    (G5 : HasF P w K mg base CX0 3 "next_state" ["listener", "state", "signal"] (spF T K (pNext CL))) (G6 : HasF P w K mg base CX0 1 "target_behind" ["tick"] (spF T K pTgB)) (G7 : HasF P w K mg base CX0 5 "is_zone_hovered" ["scene"] (spF T K pZHov)) :
    FnOk P w K mg base CX0 6 f fd ["setup", "listener", "scene", "step"] (spF T K (pCarr CS CL)) := by
  refine fn_ok (CE := (0 : Addr)) (R := pCarr CS CL) F scCarr (fun ss O d O' ⟨_, _, _, _, _, h, _⟩ => by rw [h]; rfl) fun A outer s H E ss O d O' hr h => ?_
  obtain ⟨c, pp, pg, i, st, h1, hG, R, hz, hs, hk, h2, h3⟩ := h
  subst h1 h2 h3
  have hr1 := hr.mono (show 1 ≤ 5 by decide)
  have hr2 := hr.mono (show 2 ≤ 5 by decide)
  obtain ⟨rest, esd, ⟨el, el5⟩, elast⟩ := st_shape st
  obtain ⟨esC, nC, DC⟩ := Ln.dC
  refine ds_cons (d1_unpack (ds := [pgeD pp, oI pg.tg, oI pg.en, .int i]) (is := [4, 5, 6, 7]) (de_var 2) rfl (by repeat' (first | exact Dz.Names.nil | refine Dz.Names.cons rfl (by first | exact Or.inl rfl | exact Or.inr rfl) (by first | exact .inl rfl | exact .inr rfl) rfl ?_)) ?_ scCarr.nd)
  show DS T _ _ _ [.dat (c.sI CS), .dat (c.lI CL), .dat (scD pp pg i), .dat (stD st), .dat (pgeD pp), .dat (oI pg.tg), .dat (oI pg.en), .dat (.int i), .no, .no, .no] _ _
  cases hc : isCh st with
  | true =>
    obtain ⟨u, v, k1, k2, k3⟩ := Ln.inC st hc
    refine ds_cons (d1_if (p := true) (DT.cast (de_inKD hC DC k1 (de_ixT (ds := D.str (nmSt st) :: rest) (DE.cast (de_var 3) esd) de_int (atH0 _ _))) rfl) (fun _ => ?_) fun z => by cases z)
    have e1 : told pg c.p c.ks c.sg c.rs c.os i st = .non := by unfold told; rw [if_pos hc]
    have e2 : scD (nxPP pp pg st) (nxPg pg c.p c.ks c.sg st) (nxSt pg c.p c.ks c.sg c.rs i st) = .tup [pgeD (chPP pp st), oI pg.tg, oI pg.en, .int i] := by
      unfold scD nxPg nxSt
      rw [if_pos hc, if_pos hc]
      cases st <;> first | rfl | cases hc
    rw [e1, e2]
    exact ds_one (d1_ret (s := .dat (.tup [.non, .tup [pgeD (chPP pp st), oI pg.tg, oI pg.en, .int i]])) (DE.dv (de_tup (ds := [.non, .tup [pgeD (chPP pp st), oI pg.tg, oI pg.en, .int i]]) (da_d de_non (da_d (de_tup (ds := [pgeD (chPP pp st), oI pg.tg, oI pg.en, .int i]) (da_d (de_callH G1 hr2 (da_d (de_var 4) (da_d (de_var 3) da_nil)) ⟨pp, pg, st, rfl, R, hc, hk, rfl, rfl⟩) (da_d (de_var 5) (da_d (de_var 6) (da_d (de_var 7) da_nil)))) (by show 4 ≤ 10000; decide)) da_nil)) (by show 2 ≤ 10000; decide))) ⟨rfl, rfl⟩)
  | false =>
    refine ds_cons (d1_if (p := false) (DT.cast (de_inKD hC DC (Ln.noC st hc) (de_ixT (ds := D.str (nmSt st) :: rest) (DE.cast (de_var 3) esd) de_int (atH0 _ _))) rfl) (fun z => by cases z) fun _ => ds_nil ?_)
    refine ds_cons (d1_set 8 (s := .dat (oI (curP pg))) (DE.dv (de_callH G2 (hr.mono (by decide)) (da_d (de_var 2) da_nil) ⟨pp, pg, i, rfl, R, rfl, rfl⟩)) ?_ scCarr.nd)
    have eEv := evP_eq hc hk
    have gEv := evs_good R hk
    have lEv := pevs_len pg st
    have eP := stepL_of hc
    have hS : tkH pg c.p c.ks c.sg st = thear pg c.p c.ks c.sg (stpS st) (pevs pg st) (pevs pg st).length := rfl
    refine ds_cons (d1_unpack (ds := [.lst (tkH pg c.p c.ks c.sg st).1, oI (tkH pg c.p c.ks c.sg st).2]) (is := [9, 6]) (DE.cast (de_callH G3 hr (da_d (de_var 0) (da_d (de_var 4) (da_d (d := .lst ((pevs pg st).map evD)) (de_callH G4 hr2 (da_d (de_var 3) (da_d (de_var 8) da_nil)) ⟨kO st, .int (xO st), stpS st, xO st, curP pg, by rw [eP, oD_oI], kO_bd st, fun _ => rfl, by rw [eEv], rfl⟩) (da_d (de_ixT (ds := D.str (nmSt st) :: rest) (DE.cast (de_var 3) esd) (de_neg de_int) (elast hc)) (da_d (de_var 6) da_nil))))) ⟨c.p, c.ks, c.sg, pp, pg, pevs pg st, stpS st, rfl, R, hG.su.p, gEv, by omega, rfl, rfl⟩) rfl) rfl (by repeat' (first | exact Dz.Names.nil | refine Dz.Names.cons rfl (by first | exact Or.inl rfl | exact Or.inr rfl) (by first | exact .inl rfl | exact .inr rfl) rfl ?_)) ?_ scCarr.nd)
    have hsig := thear_sig (pg := pg) (p := c.p) (ks := c.ks) (sg := c.sg) (s := stpS st) (evs := pevs pg st) (pevs pg st).length
    rw [← hS] at hsig
    have hln := thear_len (pg := pg) (p := c.p) (ks := c.ks) (sg := c.sg) (s := stpS st) (evs := pevs pg st) (pevs pg st).length
    rw [← hS] at hln
    have eTk : tkP pg c.p c.ks c.sg st = { pg with gone := slpG pg st, tg := stpX st, en := (tkH pg c.p c.ks c.sg st).2 } := rfl
    have eTT : told pg c.p c.ks c.sg c.rs c.os i st = tkT pg c.p c.ks c.sg c.rs c.os i st := by unfold told; rw [if_neg (by rw [hc]; exact Bool.false_ne_true)]
    have eNP : nxPg pg c.p c.ks c.sg st = tkP pg c.p c.ks c.sg st := by unfold nxPg; rw [if_neg (by rw [hc]; exact Bool.false_ne_true)]
    have eNS : nxSt pg c.p c.ks c.sg c.rs i st = tkS pg c.p c.ks c.sg c.rs i st := by unfold nxSt; rw [if_neg (by rw [hc]; exact Bool.false_ne_true)]
    have RN := rl_next R hz hk c.p c.ks c.sg
    rw [eNP] at RN
    rw [eTT, eNP, eNS]
    unfold tkT tkS
    rw [eTk] at RN ⊢
    generalize tkH pg c.p c.ks c.sg st = hh at hsig hln RN
    obtain ⟨sigs, en'⟩ := hh
    show DS T _ _ _ [.dat (c.sI CS), .dat (c.lI CL), .dat (scD pp pg i), .dat (stD st), .dat (pgeD pp), .dat (oI pg.tg), .dat (oI en'), .dat (.int i), .dat (oI (curP pg)), .dat (.lst sigs), .no] _ _
    refine ds_mid (fun ρ' O2 => (∃ s10, ρ' = [.dat (c.sI CS), .dat (c.lI CL), .dat (scD pp pg i), .dat (stD st), .dat (pgeD pp), .dat (oI pg.tg), .dat (oI en'), .dat (.int (sigs.foldl (nxI c.rs) i)), .dat (oI (curP pg)), .dat (.lst sigs), s10]) ∧ O2 = O')
      (d1_forL 10 (fun j ρ' O2 => (∃ s10, ρ' = [.dat (c.sI CS), .dat (c.lI CL), .dat (scD pp pg i), .dat (stD st), .dat (pgeD pp), .dat (oI pg.tg), .dat (oI en'), .dat (.int ((sigs.take j).foldl (nxI c.rs) i)), .dat (oI (curP pg)), .dat (.lst sigs), s10]) ∧ O2 = O') (de_var 9) ⟨⟨_, rfl⟩, rfl⟩ scCarr.nd ?_ ?_ PassesOwn.never) ?_
    · rintro j d ρ' O2 hj ⟨⟨s10, rfl⟩, rfl⟩
      obtain ⟨g1, g2, g3, g4, rfl, o1, o2, o3, o4⟩ := hsig d (List.mem_of_getElem? hj)
      have e : (sigs.take (j + 1)).foldl (nxI c.rs) i = nxI c.rs ((sigs.take j).foldl (nxI c.rs) i) (.tup [g1, g2, g3, g4]) := by
        rw [List.take_add_one, hj]
        simp [List.foldl_append]
      generalize (sigs.take j).foldl (nxI c.rs) i = k at e
      refine ds_one (d1_set 7 (s := .dat (.int (nxI c.rs k (.tup [g1, g2, g3, g4])))) (DE.dv (DE.cast (de_callH G5 (hr.mono (by decide)) (da_d (de_var 1) (da_d (de_var 7) (da_d (de_var 10) da_nil))) ⟨.int c.n, .lst (c.os.map .int), c.rs, .int k, g1, g2, g3, g4, rfl, fun r hr => (hG.good r hr).1, rfl, o1 _, o2 _, o3 _, o4 _, rfl, rfl⟩) (next_int hG.good))) ⟨⟨_, by rw [e]; rfl⟩, rfl⟩ scCarr.nd)
    · rintro ρ' O2 ⟨⟨s10, rfl⟩, rfl⟩
      rw [List.take_length]
      exact ⟨⟨_, rfl⟩, rfl⟩
    rintro ρ' O2 ⟨⟨s10, rfl⟩, rfl⟩
    show DS T _ _ _ [.dat (c.sI CS), .dat (c.lI CL), .dat (scD pp pg i), .dat (stD st), .dat (pgeD pp), .dat (oI pg.tg), .dat (oI en'), .dat (.int (sigs.foldl (nxI c.rs) i)), .dat (oI (curP pg)), .dat (.lst sigs), s10] _ _
    generalize sigs.foldl (nxI c.rs) i = k
    -- the page behind a slip
    refine ds_mid (fun ρ' O3 => ρ' = [.dat (c.sI CS), .dat (c.lI CL), .dat (scD pp pg i), .dat (stD st), .dat (pgeD (nxPP pp pg st)), .dat (oI pg.tg), .dat (oI en'), .dat (.int k), .dat (oI (curP pg)), .dat (.lst sigs), s10] ∧ O3 = O2) ?_ ?_
    · by_cases hsl : ∃ x t, st = .slp x t
      · obtain ⟨x, t, rfl⟩ := hsl
        obtain ⟨_, cc, ecu, c2, ct, _, _⟩ := slp_can hk
        refine d1_if (p := true) (DT.cast (dt_eq (x := .str "slip") (y := .str "slip") hr1 (by rfl) (by rfl) (de_ixT (ds := [.str "slip", .int x, .int t]) (de_var 3) de_int rfl) de_str) (dq (by decide +kernel))) (fun _ => ?_) fun z => by cases z
        have ecan : canP pg (.rem cc) = true := by
          show (there pg cc && decide (2 ≤ cc)) = true
          rw [ct, decide_eq_true c2]
          rfl
        refine ds_one (d1_set 4 (s := .dat (pgeD (pp.set cc.toNat none))) (DE.dv (de_callH G1 hr2 (da_d (de_var 4) (da_d (d := stD (.rem cc)) (de_tup (ds := [.str "remove", .int cc]) (da_d de_str (da_d (d := .int cc) (DE.cast (de_var 8) (by rw [ecu]; rfl)) da_nil)) (by show 2 ≤ 10000; decide)) da_nil)) ⟨pp, pg, .rem cc, rfl, R, rfl, ecan, rfl, rfl⟩)) ⟨?_, rfl⟩ scCarr.nd)
        have : nxPP pp pg (.slp x t) = pp.set cc.toNat none := by
          show pp.set ((curP pg).getD 0).toNat none = _
          rw [ecu]
          rfl
        rw [this]
        rfl
      · have en : nxPP pp pg st = pp := by
          cases st <;> first | rfl | exact (hsl ⟨_, _, rfl⟩).elim | (cases hc; done)
        refine d1_if (p := false) (DT.cast (dt_eq (x := .str (nmSt st)) (y := .str "slip") hr1 (by rfl) (by rfl) (de_ixT (ds := D.str (nmSt st) :: rest) (DE.cast (de_var 3) esd) de_int (atH0 _ _)) de_str) (dq ?_)) (fun z => by cases z) fun _ => ds_nil ⟨by rw [en], rfl⟩
        exact nm_slip st fun x t z => hsl ⟨x, t, z⟩
    rintro ρ' O3 ⟨rfl, rfl⟩
    refine ds_cons (d1_set 2 (s := .dat (scD (nxPP pp pg st) { pg with gone := slpG pg st, tg := stpX st, en := en' } k)) (DE.dv (de_tup (ds := [pgeD (nxPP pp pg st), oI (stpX st), oI en', .int k]) (da_d (de_var 4) (da_d (de_callH G6 hr1 (da_d (de_var 3) da_nil) ⟨kO st, .int (xO st), stpS st, by rw [eP], kO_bd st, (tgB_eq hc).symm, rfl⟩) (da_d (de_var 6) (da_d (de_var 7) da_nil)))) (by show 4 ≤ 10000; decide))) ?_ scCarr.nd)
    have em : memI k c.os = ((c.os.map D.int).any fun z => deq z (.int k)) := by rw [in_ints]; rfl
    refine ds_one (d1_ret (s := .dat (.tup [.tup [.lst sigs, .int k, .bl (memI k c.os), .bl (hovP { pg with gone := slpG pg st, tg := stpX st, en := en' })], scD (nxPP pp pg st) { pg with gone := slpG pg st, tg := stpX st, en := en' } k])) (DE.dv (de_tup (ds := [.tup [.lst sigs, .int k, .bl (memI k c.os), .bl (hovP { pg with gone := slpG pg st, tg := stpX st, en := en' })], scD (nxPP pp pg st) { pg with gone := slpG pg st, tg := stpX st, en := en' } k]) (da_d (de_tup (ds := [.lst sigs, .int k, .bl (memI k c.os), .bl (hovP { pg with gone := slpG pg st, tg := stpX st, en := en' })]) (da_d (de_var 9) (da_d (de_var 7) (da_d (DE.cast (de_inL (x := .int k) (ds := c.os.map .int) hr1 (by rfl) (okI c.os 32) (de_var 7) (de_fld AL.cl AL.b (de_var 1) rfl)) (by rw [em])) (da_d (de_callH G7 hr (da_d (de_var 2) da_nil) ⟨nxPP pp pg st, { pg with gone := slpG pg st, tg := stpX st, en := en' }, k, rfl, RN, rfl, rfl⟩) da_nil)))) (by show 4 ≤ 10000; decide)) (da_d (de_var 2) da_nil)) (by show 2 ≤ 10000; decide))) ⟨rfl, rfl⟩)
end
end Dg

namespace Dz
open PySem PySem.Spec PyProof.Rows L2 GxR
theorem dvx_imp {T : List Addr} {X : Cx} {CE : Addr} {e : Expr} {ρ : List Slot} {O : OH} {R R' : Slot → OH → Prop} {Rx Rx' : D → OH → Prop} (h : DVX T X CE e ρ O R Rx) (h1 : ∀ s O, R s O → R' s O) (h2 : ∀ r O, Rx r O → Rx' r O) : DVX T X CE e ρ O R' Rx' :=
  fun σ B H hE hA Q W tk q qx => h σ B H hE hA Q W tk (fun s O' v B' H' k => q s O' v B' H' (h1 s O' k)) fun r O' v dd σ' B' H' k => qx r O' v dd σ' B' H' (h2 r O' k)
end Dz
namespace Dg
open PySem PySem.Spec PyProof.Rows L2 GxR Dz
/-! ### what some steps lead to -/
structure Sc5 where
  pp : List (Option Int)
  pg : Pg
  i : Int
def sc50 : Sc5 := ⟨pp0, pg0, 0⟩
def adv (c : Cf) (x : Sc5) (st : Stp) : Sc5 := ⟨nxPP x.pp x.pg st, nxPg x.pg c.p c.ks c.sg st, nxSt x.pg c.p c.ks c.sg c.rs x.i st⟩
def runC (c : Cf) (hs : List Stp) : Sc5 := hs.foldl (adv c) sc50
def Sc5.D (x : Sc5) : D := scD x.pp x.pg x.i
def toldC (c : Cf) (x : Sc5) (st : Stp) : D := told x.pg c.p c.ks c.sg c.rs c.os x.i st
structure StepOk (x : Sc5) (st : Stp) : Prop where
  can : canP x.pg st = true
  ok : StOk st
def RunOk (c : Cf) (hs : List Stp) : Prop := ∀ j st, hs[j]? = some st → StepOk (runC c (hs.take j)) st
theorem run_snoc (c : Cf) (hs : List Stp) (st : Stp) : runC c (hs ++ [st]) = adv c (runC c hs) st := by
  unfold runC
  rw [List.foldl_append]
  rfl
theorem run_take {c : Cf} {hs : List Stp} {j : Nat} {st : Stp} (h : hs[j]? = some st) : runC c (hs.take (j + 1)) = adv c (runC c (hs.take j)) st := by
  rw [List.take_add_one, h]
  exact run_snoc c _ st
theorem take_snoc {hs : List Stp} {st : Stp} {j : Nat} (h : j ≤ hs.length) : (hs ++ [st]).take j = hs.take j := List.take_append_of_le_length h
theorem RunOk.snoc {c : Cf} {hs : List Stp} {st : Stp} (h : RunOk c hs) (k : StepOk (runC c hs) st) : RunOk c (hs ++ [st]) := fun j t e => by
  rcases Nat.lt_or_ge j hs.length with q | q
  · rw [take_snoc (by omega)]
    exact h j t (by rw [List.getElem?_append_left q] at e; exact e)
  · have hj : j = hs.length := by
      have := (List.getElem?_eq_some_iff.mp e).1
      rw [List.length_append] at this
      have : j < hs.length + 1 := this
      omega
    subst hj
    rw [List.getElem?_append_right (Nat.le_refl _), Nat.sub_self] at e
    cases e
    rw [take_snoc (Nat.le_refl _), List.take_length]
    exact k
theorem RunOk.init {c : Cf} {hs : List Stp} {st : Stp} (h : RunOk c (hs ++ [st])) : RunOk c hs := fun j t e => by
  have hj := (List.getElem?_eq_some_iff.mp e).1
  have := h j t (by rw [List.getElem?_append_left hj]; exact e)
  rw [take_snoc (by omega)] at this
  exact this
theorem nx_len {pg : Pg} {p : Str} {ks sg : List Str} (st : Stp) : (nxPg pg p ks sg st).up.length ≤ pg.up.length + 1 := by
  unfold nxPg
  split
  · cases st with
    | add x =>
      show (pg.up ++ [some x]).length ≤ _
      rw [List.length_append]
      exact Nat.le_refl _
    | rem x => exact Nat.le_succ _
    | plc x y =>
      show (pg.up.set x.toNat (some y)).length ≤ _
      rw [List.length_set]
      exact Nat.le_succ _
    | _ => exact Nat.le_succ _
  · exact Nat.le_succ _
theorem run_rl {c : Cf} {hs : List Stp} (h : RunOk c hs) (hl : hs.length ≤ 90) : ∀ j, j ≤ hs.length → Rl (runC c (hs.take j)).pp (runC c (hs.take j)).pg ∧ (runC c (hs.take j)).pg.up.length ≤ 2 + j
  | 0, _ => by
    rw [List.take_zero]
    exact ⟨rl_0, Nat.le_refl _⟩
  | j + 1, hj => by
    obtain ⟨R, hz⟩ := run_rl h hl j (by omega)
    obtain ⟨st, e⟩ : ∃ st, hs[j]? = some st := ⟨_, List.getElem?_eq_getElem (by omega)⟩
    rw [run_take e]
    refine ⟨rl_next R (by omega) (h j st e).can _ _ _, ?_⟩
    have := nx_len (pg := (runC c (hs.take j)).pg) (p := c.p) (ks := c.ks) (sg := c.sg) st
    show (nxPg _ _ _ _ _).up.length ≤ _
    omega
theorem run_Rl {c : Cf} {hs : List Stp} (h : RunOk c hs) (hl : hs.length ≤ 90) : Rl (runC c hs).pp (runC c hs).pg ∧ (runC c hs).pg.up.length < 100 := by
  have := run_rl h hl hs.length (Nat.le_refl _)
  rw [List.take_length] at this
  exact ⟨this.1, by omega⟩
/-- what was taken: each step with the scene before it -/
def hisRow (c : Cf) (hs : List Stp) (k : Nat) : D := match hs[k]? with
  | some st => .tup [stD st, (runC c (hs.take k)).D]
  | none => .non
def hisD (c : Cf) (hs : List Stp) : List D := (List.range hs.length).map (hisRow c hs)
theorem takD_len (c : Cf) (hs : List Stp) : (hisD c hs).length = hs.length := by unfold hisD; rw [List.length_map, List.length_range]
theorem takD_snoc (c : Cf) (hs : List Stp) (st : Stp) : hisD c (hs ++ [st]) = hisD c hs ++ [.tup [stD st, (runC c hs).D]] := by
  unfold hisD
  rw [List.length_append, show hs.length + [st].length = hs.length + 1 from rfl, List.range_succ, List.map_append]
  congr 1
  · apply List.map_congr_left
    intro k hk
    have hk := List.mem_range.mp hk
    unfold hisRow
    rw [List.getElem?_append_left hk, take_snoc (by omega)]
  · show [hisRow c (hs ++ [st]) hs.length] = _
    unfold hisRow
    rw [List.getElem?_append_right (Nat.le_refl _), Nat.sub_self, take_snoc (Nat.le_refl _), List.take_length]
    rfl
theorem takD_row {c : Cf} {hs : List Stp} {d : D} (h : d ∈ hisD c hs) : ∃ x y, d = .tup [x, y] := by
  obtain ⟨k, hk, rfl⟩ := List.mem_map.mp h
  unfold hisRow
  have hk := List.mem_range.mp hk
  rw [List.getElem?_eq_getElem hk]
  exact ⟨_, _, rfl⟩
theorem takD_at {c : Cf} {hs : List Stp} {k : Nat} {st : Stp} (h : hs[k]? = some st) : (hisD c hs)[k]? = some (.tup [stD st, (runC c (hs.take k)).D]) := by
  have hk := (List.getElem?_eq_some_iff.mp h).1
  unfold hisD
  rw [List.getElem?_map, List.getElem?_range hk]
  show some (hisRow c hs k) = _
  unfold hisRow
  rw [h]
/-- the stage's fields -/
def stF (c : Cf) (CS CL tk : Addr) (x : Sc5) : List (Str × Dz.Slot) := [("_setup", .dat (c.sI CS)), ("_listener", .dat (c.lI CL)), ("_scene", .dat x.D), ("_taken", .val (.ref tk))]
structure StgO (O : OH) (c : Cf) (CG CS CL s tk : Addr) (hs : List Stp) : Prop where
  hs' : O s = some (.ins CG (stF c CS CL tk (runC c hs)))
  ht : O tk = some (lO (hisD c hs))
  ne : s ≠ tk
def stgPut (O : OH) (c : Cf) (CG CS CL s tk : Addr) (hs : List Stp) : OH := put (put O tk (lO (hisD c hs))) s (.ins CG (stF c CS CL tk (runC c hs)))
theorem stgput_ok {O : OH} {c : Cf} {CG CS CL s tk : Addr} {hs : List Stp} (h : s ≠ tk) : StgO (stgPut O c CG CS CL s tk hs) c CG CS CL s tk hs :=
  ⟨put_same, by unfold stgPut; rw [put_ne (Ne.symm h)]; exact put_same, h⟩
theorem stgput_put {O : OH} {c : Cf} {CG CS CL s tk : Addr} {hs hs' : List Stp} : stgPut (stgPut O c CG CS CL s tk hs) c CG CS CL s tk hs' = stgPut O c CG CS CL s tk hs' := by
  funext q
  unfold stgPut put
  by_cases e1 : q = s
  · simp [e1]
  · by_cases e2 : q = tk
    · simp [e2]
    · simp [e1, e2]
theorem stgput_ne {O : OH} {c : Cf} {CG CS CL s tk q : Addr} {hs : List Stp} (h1 : q ≠ s) (h2 : q ≠ tk) : stgPut O c CG CS CL s tk hs q = O q := by
  unfold stgPut
  rw [put_ne h1, put_ne h2]
structure FldG (K : PySem.W.Frag) (C : Addr) : Prop where
  cl : Cls K C
  a : NoAttr K C "_setup"
  b : NoAttr K C "_listener"
  c : NoAttr K C "_scene"
  d : NoAttr K C "_taken"
section
variable {P : Program} {w : World} {K : PySem.W.Frag} {mg : Str → Option Value} {base : Heap} {T : List Addr} {CE fI : Addr}
def pStgI (CG CS CL : Addr) : PR := fun ss O Rn Rx => ∃ (c : Cf) (s : Addr), ss = [.val (.ref s), .dat (c.sI CS), .dat (c.lI CL)] ∧ c.Ok ∧ O s = some (.ins CG []) ∧ Rn = (fun v O' => v = .dat .non ∧ ∃ tk, O tk = none ∧ s ≠ tk ∧ O' = stgPut O c CG CS CL s tk []) ∧ Rx = fun _ _ => False
theorem scStgI : FnScope ["self", "setup", "listener"] ["self", "setup", "listener"] (defScope s_Stage_init) := ⟨rfl, rfl, rfl, by decide +kernel, rfl, by decide +kernel, by decide +kernel⟩
theorem ok_stgI {f gs gl CG CS CL : Addr} {fd gds gdl : FuncData} {cdv : Value} (F : FunC K "__init__" "Stage.__init__" s_Stage_init f fd cdv) (L : Blt mg) (AG : FldG K CG) (AS : Fld3 K CS "place" "kinds" "sights") (AL : Fld3 K CL "states" "on" "rules") (MS : Mk K CS gs) (gS : mg "Setup" = some (.ref CS)) (ML : Mk K CL gl) (gL : mg "Listener" = some (.ref CL))
    (GS : FnOk P w K mg base (L2.CX P w) 4 gs gds ["self", "place", "kinds", "sights"] (spX T K CE (pSetup CS))) (bS : Binds K gds ["self", "place", "kinds", "sights"] []) (GL : FnOk P w K mg base (L2.CX P w) 6 gl gdl ["self", "states", "on", "rules"] (spX T K CE (pList CL))) (bL : Binds K gdl ["self", "states", "on", "rules"] [])
    (G1 : HasF P w K mg base CX0 1 "first_scene" [] (spF T K pFirst)) : FnOk P w K mg base (L2.CX P w) 8 f fd ["self", "setup", "listener"] (spX T K CE (pStgI CG CS CL)) := by
  refine fn_okX (R := pStgI CG CS CL) F scStgI (fun ss O Rn Rx ⟨c, s, h, _⟩ => by rw [h]; rfl) fun A outer s H E ss O Rn Rx hr h => ?_
  obtain ⟨c, s, e1, hG, hO, eN, eX⟩ := h
  subst e1 eN eX
  obtain ⟨p, ks, sg, n, os, rs⟩ := c
  have hsu : SuG p ks sg := hG.su
  have hli : LiOk n os rs := hG.li
  have kl : ks.length ≤ 5 := hsu.k.length_le
  have sl : sg.length ≤ 3 := hsu.s.length_le
  have kn : ks.Nodup := KINDS_nd.sublist hsu.k
  have sn : sg.Nodup := SIGHTS_nd.sublist hsu.s
  have ok : okSetup (.str p) (.tup (ks.map .str)) (.tup (sg.map .str)) = true := by
    unfold okSetup
    rw [isWord_mem, decide_eq_true hsu.p, choice_T (fun k h => hsu.k.subset h) kn, choice_T (fun k h => hsu.s.subset h) sn]
    rfl
  have hol := hli.ol
  have hrl := hli.rl
  refine ds_cons (d1_fstX (R := fun s' O' => s' = .dat (suI CS p ks sg) ∧ O' = O) 0 AG.cl AG.a rfl (dvx_makeF (O1 := O) MS GS (hr.mono (by decide)) gS bS
    (da_d (d := .str p) (de_fld (fd := [("place", .str p), ("kinds", .tup (ks.map .str)), ("sights", .tup (sg.map .str))]) AS.cl AS.a (de_var 1) rfl) (da_d (d := .tup (ks.map .str)) (de_fld (fd := [("place", .str p), ("kinds", .tup (ks.map .str)), ("sights", .tup (sg.map .str))]) AS.cl AS.b (de_var 1) rfl) (da_d (d := .tup (sg.map .str)) (de_fld (fd := [("place", .str p), ("kinds", .tup (ks.map .str)), ("sights", .tup (sg.map .str))]) AS.cl AS.c (de_var 1) rfl) da_nil))) fun x hx => ?_) fun s' O' q => ?_)
  · refine ⟨_, _, ⟨x, .str p, .tup (ks.map .str), .tup (sg.map .str), rfl, put_same, .str p, .tup _, pls_tup (by omega), .tup _, pls_tup (by omega), .inl ⟨ok, rfl, rfl⟩⟩, fun s' O' h => ?_, fun r O' h => h.elim⟩
    obtain ⟨q1, q2⟩ := h
    subst q1 q2
    refine ⟨rfl, [("place", .str p), ("kinds", .tup (ks.map .str)), ("sights", .tup (sg.map .str))], ?_, rfl, ?_⟩
    · rw [put_same]
      show some (OD.ins CS [("place", .dat (.str p)), ("kinds", .dat (.tup (orderD (ks.map .str) KINDS))), ("sights", .dat (.tup (orderD (sg.map .str) SIGHTS)))]) = _
      rw [order_sub hsu.k KINDS_nd, order_sub hsu.s SIGHTS_nd]
      rfl
    · rw [put_put, cut_put hx]
  obtain ⟨rfl, rfl⟩ := q
  refine ⟨[], hO, by show 0 < 1000; decide, ?_⟩
  let O1 : OH := put O' s (.ins CG [("_setup", .dat (suI CS p ks sg))])
  have hO1 : O1 s = some (.ins CG [("_setup", .dat (suI CS p ks sg))]) := put_same
  refine ds_cons (d1_fstX (O := O1) (R := fun s' O' => s' = .dat (insList CL (.int n) (.lst (os.map .int)) (.lst rs)) ∧ O' = O1) 0 AG.cl AG.b rfl (dvx_makeF (O1 := O1) ML GL (hr.mono (by decide)) gL bL
    (da_d (d := .int n) (de_fld (fd := [("states", .int n), ("on", .lst (os.map .int)), ("rules", .lst rs)]) AL.cl AL.a (de_var 2) rfl) (da_d (d := .lst (os.map .int)) (de_fld (fd := [("states", .int n), ("on", .lst (os.map .int)), ("rules", .lst rs)]) AL.cl AL.b (de_var 2) rfl) (da_d (d := .lst rs) (de_fld (fd := [("states", .int n), ("on", .lst (os.map .int)), ("rules", .lst rs)]) AL.cl AL.c (de_var 2) rfl) da_nil))) fun x hx => ?_) fun s' O2 q => ?_)
  · refine ⟨_, _, ⟨x, .int n, .lst (os.map .int), .lst rs, rfl, put_same, .int n, .lst _, pls_ints (by omega), .lst _, hli.plrs, .inl ⟨hli.ok (List.Perm.refl _), rfl, rfl⟩⟩, fun s' O2 h => ?_, fun r O2 h => h.elim⟩
    obtain ⟨q1, q2⟩ := h
    subst q1 q2
    refine ⟨rfl, [("states", .int n), ("on", .lst (os.map .int)), ("rules", .lst rs)], ?_, rfl, ?_⟩
    · rw [put_same, hli.srt (List.Perm.refl _)]; rfl
    · rw [put_put, cut_put hx]
  obtain ⟨rfl, rfl⟩ := q
  refine ⟨_, hO1, by show 1 < 1000; decide, ?_⟩
  have e2 : put O1 s (.ins CG (putS "_listener" (.dat (insList CL (.int n) (.lst (os.map .int)) (.lst rs))) [("_setup", .dat (suI CS p ks sg))])) = put O' s (.ins CG [("_setup", .dat (suI CS p ks sg)), ("_listener", .dat (insList CL (.int n) (.lst (os.map .int)) (.lst rs)))]) := put_put
  rw [e2]
  refine ds_cons (d1_fst 0 AG.cl AG.c rfl (DE.dv (de_callH0 G1 (hr.mono (by decide)) ⟨rfl, rfl, rfl⟩)) put_same ?_ (by show 2 < 1000; decide))
  rw [put_put]
  let O3 : OH := put O' s (.ins CG [("_setup", .dat (suI CS p ks sg)), ("_listener", .dat (insList CL (.int n) (.lst (os.map .int)) (.lst rs))), ("_scene", .dat sc50.D)])
  show DS T _ _ _ _ O3 _
  refine ds_one (d1_fstX (O := O3) (R := fun s' O4 => ∃ tk, O3 tk = none ∧ s' = .val (.ref tk) ∧ O4 = put O3 tk (.lst [])) 0 AG.cl AG.d rfl (dvx_imp (dvx_lst da_nil (by show 0 ≤ 10000; decide)) (fun _ _ h => h) fun _ _ h => h.elim) fun s' O4 q => ?_)
  obtain ⟨tk, htk, rfl, rfl⟩ := q
  have hst : s ≠ tk := fun z => by
    rw [← z] at htk
    have : O3 s = _ := put_same
    rw [htk] at this
    cases this
  have htk' : O' tk = none := by rw [← put_ne (O := O') (o := .ins CG [("_setup", .dat (suI CS p ks sg)), ("_listener", .dat (insList CL (.int n) (.lst (os.map .int)) (.lst rs))), ("_scene", .dat sc50.D)]) (Ne.symm hst)]; exact htk
  refine ⟨_, by rw [put_ne hst]; exact put_same, by show 3 < 1000; decide, rfl, tk, htk', hst, ?_⟩
  show put (put O3 tk (.lst [])) s _ = _
  have : put (put O3 tk (OD.lst [])) s (.ins CG (stF ⟨p, ks, sg, n, os, rs⟩ CS CL tk sc50)) = put (put O' tk (.lst [])) s (.ins CG (stF ⟨p, ks, sg, n, os, rs⟩ CS CL tk sc50)) := by
    funext q
    unfold put
    by_cases e1 : q = s
    · simp [e1]
    · by_cases e2 : q = tk
      · simp [e2]
      · simp [O3, put, e1, e2]
  exact this
end
end Dg

namespace Dg
open PySem PySem.Spec PyProof.Rows L2 GxR Dz
theorem scene_eq (c : Cf) (x : Sc5) (st : Stp) : scD (nxPP x.pp x.pg st) (nxPg x.pg c.p c.ks c.sg st) (nxSt x.pg c.p c.ks c.sg c.rs x.i st) = (adv c x st).D := rfl
section
variable {P : Program} {w : World} {K : PySem.W.Frag} {mg : Str → Option Value} {base : Heap} {T : List Addr} {CE fI : Addr}
/-- a stage's step -/
def pAct (CG CS CL : Addr) : PR := fun ss O Rn Rx => ∃ (c : Cf) (s tk : Addr) (hs : List Stp) (st : Stp), ss = [.val (.ref s), .dat (stD st)] ∧ c.Ok ∧ StgO O c CG CS CL s tk hs ∧ RunOk c hs ∧ hs.length ≤ 60 ∧ StOk st ∧
  ((canP (runC c hs).pg st = true ∧ Rn = (fun v O' => v = .dat (toldC c (runC c hs) st) ∧ O' = stgPut O c CG CS CL s tk (hs ++ [st])) ∧ Rx = fun _ _ => False) ∨
    (canP (runC c hs).pg st = false ∧ Rn = (fun _ _ => False) ∧ Rx = fun r O' => r = .str "not possible" ∧ O' = O))
theorem scAct : FnScope ["self", "step", "told", "scene"] ["self", "step"] (defScope s_Stage_act) := ⟨rfl, rfl, rfl, by decide +kernel, rfl, by decide +kernel, by decide +kernel⟩
theorem ok_act {f CG CS CL : Addr} {fd fdI : FuncData} {cdv uM : Value} (F : FunC K "act" "Stage.act" s_Stage_act f fd cdv) (L : Blt mg) (V : Err K mg CE fI) (AG : FldG K CG) (EI : FnOk P w K mg base CX0 1 fI fdI ["self", "reason"] (spI CE)) (bI : Binds K fdI ["self", "reason"] [])
    (hM : mg "MOST_STEPS" = some uM) (kM : kdB K 0 uM (.int 200) = true)
    (G1 : HasF P w K mg base CX0 7 "is_possible" ["scene", "step"] (spF T K pPoss)) (G2 : HasF P w K mg base CX0 6 "carried_out" ["setup", "listener", "scene", "step"] (spF T K (pCarr CS CL))) : FnOk P w K mg base (L2.CX P w) 8 f fd ["self", "step"] (spX T K CE (pAct CG CS CL)) := by
  refine fn_okX (R := pAct CG CS CL) F scAct (fun ss O Rn Rx ⟨c, s, tk, hs, st, h, _⟩ => by rw [h]; rfl) fun A outer s0 H E ss O Rn Rx hr h => ?_
  obtain ⟨c, s, tk, hs, st, e1, hG, hS, hR, hl, hst, hc⟩ := h
  subst e1
  obtain ⟨R, hz⟩ := run_Rl hR (by omega)
  have hne := hS.ne
  refine ds_cons (d1_if (p := !canP (runC c hs).pg st) (O1 := O) (dt_not (dt_val (de_callH G1 (hr.mono (by decide)) (da_d (DV.de (dv_fldO AG.cl AG.c (dv_var 0 rfl) hS.hs' rfl)) (da_d (de_var 1) da_nil)) ⟨_, _, _, st, rfl, R, hst, rfl, rfl⟩))) (fun z => ?_) fun z => ds_nil ?_)
  · rcases hc with ⟨ok, eN, eX⟩ | ⟨ok, eN, eX⟩
    · rw [ok] at z; cases z
    · refine ds_one (d1_raise V.o V.iC V.tI EI (hr.mono (by decide)) bI pass0 V.gC de_str ?_)
      show Rx _ _
      rw [eX]
      exact ⟨rfl, rfl⟩
  · rcases hc with ⟨ok, eN, eX⟩ | ⟨ok, eN, eX⟩
    · refine ds_cons (d1_if (p := false) (O1 := O) (DT.cast (dt_ge (i := (hs.length : Int)) (j := 200) (DE.cast (de_lenO L.len (dv_fldO AG.cl AG.d (dv_var 0 rfl) hS.hs' rfl) hS.ht) (by rw [List.length_map, takD_len])) (de_gk hM kM)) (decide_eq_false (by omega))) (fun z => by cases z) fun _ => ds_nil ?_)
      refine ds_cons (d1_unpack (ds := [toldC c (runC c hs) st, (adv c (runC c hs) st).D]) (is := [2, 3]) (de_callH G2 (hr.mono (by decide)) (da_d (DV.de (dv_fldO AG.cl AG.a (dv_var 0 rfl) hS.hs' rfl)) (da_d (DV.de (dv_fldO AG.cl AG.b (dv_var 0 rfl) hS.hs' rfl)) (da_d (DV.de (dv_fldO AG.cl AG.c (dv_var 0 rfl) hS.hs' rfl)) (da_d (de_var 1) da_nil)))) ⟨c, _, _, _, st, rfl, hG, R, hz, hst, ok, rfl, rfl⟩) rfl (by repeat' (first | exact Dz.Names.nil | refine Dz.Names.cons rfl (by first | exact Or.inl rfl | exact Or.inr rfl) (by first | exact .inl rfl | exact .inr rfl) rfl ?_)) ?_ scAct.nd)
      refine ds_cons (d1_appG (acc := hisD c hs) (d := .tup [stD st, (runC c hs).D]) (dv_fldO AG.cl AG.d (dv_var 0 rfl) hS.hs' rfl) hS.ht (de_tup (ds := [stD st, (runC c hs).D]) (da_d (de_var 1) (da_d (DV.de (dv_fldO AG.cl AG.c (dv_var 0 rfl) hS.hs' rfl)) da_nil)) (by show 2 ≤ 10000; decide)) (by rw [takD_len]; omega) ?_)
      rw [← takD_snoc]
      refine ds_cons (d1_fst 0 AG.cl AG.c rfl (dv_var 3 rfl) (by rw [put_ne hne]; exact hS.hs') ?_ (by show 4 < 1000; decide))
      rw [eN]
      refine ds_one (d1_ret (s := .dat (toldC c (runC c hs) st)) (dv_var 2 rfl) ⟨rfl, ?_⟩)
      unfold stgPut
      rw [run_snoc]
      rfl
    · rw [ok] at z; cases z
def pUndo (CG CS CL : Addr) (ss : List Dz.Slot) (O : OH) (d : D) (O' : OH) : Prop := ∃ (c : Cf) (s tk : Addr) (hs : List Stp), ss = [.val (.ref s)] ∧ StgO O c CG CS CL s tk hs ∧ d = .bl (decide (0 < hs.length)) ∧ O' = stgPut O c CG CS CL s tk hs.dropLast
theorem scUndo : FnScope ["self", "_"] ["self"] (defScope s_Stage_undo) := ⟨rfl, rfl, rfl, by decide +kernel, rfl, by decide +kernel, by decide +kernel⟩
theorem StgO.self {O : OH} {c : Cf} {CG CS CL s tk : Addr} {hs : List Stp} (h : StgO O c CG CS CL s tk hs) : stgPut O c CG CS CL s tk hs = O := by
  unfold stgPut
  rw [put_self h.ht, put_self h.hs']
theorem ok_undo {f CG CS CL : Addr} {fd : FuncData} {cdv : Value} (F : FunC K "undo" "Stage.undo" s_Stage_undo f fd cdv) (L : Blt mg) (AG : FldG K CG) : FnOk P w K mg base CX0 2 f fd ["self"] (spF T K (pUndo CG CS CL)) := by
  refine fn_ok (CE := (0 : Addr)) (R := pUndo CG CS CL) F scUndo (fun ss O d O' ⟨_, _, _, _, h, _⟩ => by rw [h]; rfl) fun A outer s0 H E ss O d O' hr h => ?_
  obtain ⟨c, s, tk, hs, e1, hS, e2, e3⟩ := h
  subst e1 e2 e3
  have hne := hS.ne
  have hlen : ((hisD c hs).map Dz.Slot.dat).length = hs.length := by rw [List.length_map, takD_len]
  refine ds_cons (d1_if (p := decide ((hs.length : Int) = 0)) (DT.cast (dt_eq (x := .int (hs.length : Int)) (y := .int 0) hr (by rfl) (by rfl) (DE.cast (de_lenO L.len (dv_fldO AG.cl AG.d (dv_var 0 rfl) hS.hs' rfl) hS.ht) (by rw [hlen])) de_int) (deq_int _ _)) (fun z => ?_) fun z => ds_nil ?_)
  · have h0 : hs.length = 0 := by have := of_decide_eq_true z; omega
    have e : hs = [] := List.length_eq_zero_iff.mp h0
    subst e
    exact ds_one (d1_ret (s := .dat (.bl false)) (DE.dv de_bl) ⟨rfl, hS.self.symm⟩)
  · have h0 : hs ≠ [] := fun e => by subst e; exact absurd rfl (of_decide_eq_false z)
    obtain ⟨h', st, rfl⟩ : ∃ h' st, hs = h' ++ [st] := ⟨hs.dropLast, hs.getLast h0, (List.dropLast_concat_getLast h0).symm⟩
    rw [List.dropLast_concat]
    have hlast : ((hisD c (h' ++ [st])).map Dz.Slot.dat)[((hisD c (h' ++ [st])).map Dz.Slot.dat).length - 1]? = some (.dat (.tup [stD st, (runC c h').D])) := by
      rw [takD_snoc, List.map_append, List.length_append]
      show ((hisD c h').map Dz.Slot.dat ++ [Dz.Slot.dat (.tup [stD st, (runC c h').D])])[((hisD c h').map Dz.Slot.dat).length + 1 - 1]? = _
      rw [Nat.add_sub_cancel, List.getElem?_append_right (Nat.le_refl _), Nat.sub_self]
      rfl
    have hdl : ((hisD c (h' ++ [st])).map Dz.Slot.dat).dropLast = (hisD c h').map Dz.Slot.dat := by
      rw [takD_snoc, List.map_append]
      exact List.dropLast_concat
    refine ds_cons (d1_unpackF 1 0 (x := stD st) (y := (runC c h').D) (fs := stF c CS CL tk (runC c (h' ++ [st]))) AG.cl AG.c (DV.de (dv_pop (dv_fldO AG.cl AG.d (dv_var 0 rfl) hS.hs' rfl) hS.ht hlast)) rfl (by rw [put_ne hne]; exact hS.hs') (by show 4 < 1000; decide) ?_ scUndo.nd)
    refine ds_one (d1_ret (s := .dat (.bl true)) (DE.dv de_bl) ⟨?_, ?_⟩)
    · rw [List.length_append, decide_eq_true (by show 0 < h'.length + 1; omega)]
    · unfold stgPut
      rw [hdl]
      rfl
def pSteps (CG CS CL : Addr) (ss : List Dz.Slot) (O : OH) (d : D) (O' : OH) : Prop := ∃ (c : Cf) (s tk : Addr) (hs : List Stp), ss = [.val (.ref s)] ∧ StgO O c CG CS CL s tk hs ∧ hs.length ≤ 60 ∧ d = .lst (hs.map stD) ∧ O' = O
theorem scSteps : FnScope ["self", "step", "_"] ["self"] (defScope s_Stage_steps) := ⟨rfl, rfl, rfl, by decide +kernel, rfl, by decide +kernel, by decide +kernel⟩
theorem ok_steps {f CG CS CL : Addr} {fd : FuncData} {cdv : Value} (F : FunC K "steps" "Stage.steps" s_Stage_steps f fd cdv) (AG : FldG K CG) : FnOk P w K mg base CX0 1 f fd ["self"] (spF T K (pSteps CG CS CL)) := by
  refine fn_ok (CE := (0 : Addr)) (R := pSteps CG CS CL) F scSteps (fun ss O d O' ⟨_, _, _, _, h, _⟩ => by rw [h]; rfl) fun A outer s0 H E ss O d O' hr h => ?_
  obtain ⟨c, s, tk, hs, e1, hS, hl, e2, e3⟩ := h
  subst e1 e2 e3
  refine ds_one (d1_ret (s := .dat (.lst (hs.map stD))) (DE.dv (de_lcO2 (ds := hisD c hs) (out := hs.map stD) 1 2 (dv_fldO AG.cl AG.d (dv_var 0 rfl) hS.hs' rfl) hS.ht (fun d hd => takD_row hd) (fun j acc => acc = (hs.take j).map stD) rfl (fun j x y acc hj ha => ?_) (fun acc ha => by rw [ha, takD_len, List.take_length]) (by rw [takD_len]; omega) scSteps.nd (blkOk_by (own := [("step", 1), ("_", 2)]) (N := ["self", "step", "_"]) (sc := defScope s_Stage_steps) (by decide +kernel)) (fun _ _ _ _ _ => by repeat' (first | exact Dz.Names.nil | refine Dz.Names.cons rfl (by first | exact Or.inl rfl | exact Or.inr rfl) (by first | exact .inl rfl | exact .inr rfl) rfl ?_)))) ⟨rfl, rfl⟩)
  have hjl : j < hs.length := by
    have := (List.getElem?_eq_some_iff.mp hj).1
    rw [takD_len] at this
    exact this
  have e := takD_at (c := c) (hs := hs) (List.getElem?_eq_getElem hjl)
  rw [hj] at e
  cases e
  refine ⟨true, _, difs_nil, fun _ => ⟨stD hs[j], _, fun _ _ _ _ _ => de_var 1, ?_, rfl⟩, fun z => by cases z⟩
  rw [ha, List.take_add_one, List.getElem?_eq_getElem hjl, List.map_append]
  rfl
def pSide (CG CS CL : Addr) (ss : List Dz.Slot) (O : OH) (d : D) (O' : OH) : Prop := ∃ (c : Cf) (s tk : Addr) (hs : List Stp) (x : Int), ss = [.val (.ref s), .dat (.int x)] ∧ StgO O c CG CS CL s tk hs ∧ RunOk c hs ∧ hs.length ≤ 60 ∧ d = .str (sdN (numP (runC c hs).pg x)) ∧ O' = O
theorem scSide : FnScope ["self", "element"] ["self", "element"] (defScope s_Stage_side) := ⟨rfl, rfl, rfl, by decide +kernel, rfl, by decide +kernel, by decide +kernel⟩
theorem ok_side {f CG CS CL : Addr} {fd : FuncData} {cdv : Value} (F : FunC K "side" "Stage.side" s_Stage_side f fd cdv) (AG : FldG K CG) (G : HasF P w K mg base CX0 4 "side_of" ["page", "element"] (spF T K pSideOf)) : FnOk P w K mg base CX0 5 f fd ["self", "element"] (spF T K (pSide CG CS CL)) := by
  refine fn_ok (CE := (0 : Addr)) (R := pSide CG CS CL) F scSide (fun ss O d O' ⟨_, _, _, _, _, h, _⟩ => by rw [h]; rfl) fun A outer s0 H E ss O d O' hr h => ?_
  obtain ⟨c, s, tk, hs, x, e1, hS, hR, hl, e2, e3⟩ := h
  subst e1 e2 e3
  obtain ⟨R, hz⟩ := run_Rl hR (by omega)
  exact ds_one (d1_ret (s := .dat (.str (sdN (numP (runC c hs).pg x)))) (DE.dv (de_callH G hr (da_d (de_ixT (ds := [pgeD (runC c hs).pp, oI (runC c hs).pg.tg, oI (runC c hs).pg.en, .int (runC c hs).i]) (DV.de (dv_fldO AG.cl AG.c (dv_var 0 rfl) hS.hs' rfl)) de_int rfl) (da_d (de_var 1) da_nil)) ⟨_, _, x, rfl, R, rfl, rfl⟩)) ⟨rfl, rfl⟩)
def pIsHov (CG CS CL : Addr) (ss : List Dz.Slot) (O : OH) (d : D) (O' : OH) : Prop := ∃ (c : Cf) (s tk : Addr) (hs : List Stp), ss = [.val (.ref s)] ∧ StgO O c CG CS CL s tk hs ∧ RunOk c hs ∧ hs.length ≤ 60 ∧ d = .bl (hovP (runC c hs).pg) ∧ O' = O
theorem scIsHov : FnScope ["self"] ["self"] (defScope s_Stage_is_hovered) := ⟨rfl, rfl, rfl, by decide +kernel, rfl, by decide +kernel, by decide +kernel⟩
theorem ok_ishov {f CG CS CL : Addr} {fd : FuncData} {cdv : Value} (F : FunC K "is_hovered" "Stage.is_hovered" s_Stage_is_hovered f fd cdv) (AG : FldG K CG) (G : HasF P w K mg base CX0 5 "is_zone_hovered" ["scene"] (spF T K pZHov)) : FnOk P w K mg base CX0 6 f fd ["self"] (spF T K (pIsHov CG CS CL)) := by
  refine fn_ok (CE := (0 : Addr)) (R := pIsHov CG CS CL) F scIsHov (fun ss O d O' ⟨_, _, _, _, h, _⟩ => by rw [h]; rfl) fun A outer s0 H E ss O d O' hr h => ?_
  obtain ⟨c, s, tk, hs, e1, hS, hR, hl, e2, e3⟩ := h
  subst e1 e2 e3
  obtain ⟨R, hz⟩ := run_Rl hR (by omega)
  exact ds_one (d1_ret (s := .dat (.bl (hovP (runC c hs).pg))) (DE.dv (de_callH G hr (da_d (DV.de (dv_fldO AG.cl AG.c (dv_var 0 rfl) hS.hs' rfl)) da_nil) ⟨_, _, _, rfl, R, rfl, rfl⟩)) ⟨rfl, rfl⟩)
/-! ### play -/
/-- what the ticks tell -/
def tell (c : Cf) (hs : List Stp) : Nat → List D
  | 0 => []
  | j + 1 => match hs[j]? with
    | some st => tell c hs j ++ (if isCh st = true then [] else [toldC c (runC c (hs.take j)) st])
    | none => tell c hs j
theorem tell_len (c : Cf) (hs : List Stp) : ∀ j, (tell c hs j).length ≤ j
  | 0 => Nat.le_refl _
  | j + 1 => by
    have := tell_len c hs j
    unfold tell
    split
    · rw [List.length_append]
      split
      · show _ + 0 ≤ _; omega
      · show _ + 1 ≤ _; omega
    · omega
theorem tell_snoc (c : Cf) (hs : List Stp) (st : Stp) : ∀ j, j ≤ hs.length → tell c (hs ++ [st]) j = tell c hs j
  | 0, _ => rfl
  | j + 1, h => by
    unfold tell
    rw [List.getElem?_append_left (by omega), tell_snoc c hs st j (by omega)]
    cases e : hs[j]? with
    | none => rfl
    | some t => rw [take_snoc (by omega)]
def pPlay (CS CL : Addr) : PR := fun ss O Rn Rx => ∃ (c : Cf) (hs : List Stp), ss = [.dat (c.sI CS), .dat (c.lI CL), .dat (.lst (hs.map stD))] ∧ c.Ok ∧ RunOk c hs ∧ hs.length ≤ 60 ∧ Rn = (fun v O' => v = .dat (.lst (tell c hs hs.length)) ∧ O' = O) ∧ Rx = fun _ _ => False
theorem told_non (c : Cf) (x : Sc5) (st : Stp) : (toldC c x st).isNon = isCh st := by
  unfold toldC told
  cases h : isCh st with
  | true => rw [if_pos rfl]; rfl
  | false => rw [if_neg (by simp)]; rfl
theorem scPlay : FnScope ["setup", "listener", "history", "scene", "answers", "step", "told"] ["setup", "listener", "history"] (defScope s_play) := ⟨rfl, rfl, rfl, by decide +kernel, rfl, by decide +kernel, by decide +kernel⟩
theorem ok_play {f CS CL : Addr} {fd : FuncData} {cdv : Value} (F : FunC K "play" "play" s_play f fd cdv) (G0 : HasF P w K mg base CX0 1 "first_scene" [] (spF T K pFirst))
    (G1 : HasF P w K mg base CX0 7 "is_possible" ["scene", "step"] (spF T K pPoss)) (G2 : HasF P w K mg base CX0 6 "carried_out" ["setup", "listener", "scene", "step"] (spF T K (pCarr CS CL))) : FnOk P w K mg base (L2.CX P w) 8 f fd ["setup", "listener", "history"] (spX T K CE (pPlay CS CL)) := by
  refine fn_okX (R := pPlay CS CL) F scPlay (fun ss O Rn Rx ⟨c, hs, h, _⟩ => by rw [h]; rfl) fun A outer s0 H E ss O Rn Rx hr h => ?_
  obtain ⟨c, hs, e1, hG, hR, hl, eN, eX⟩ := h
  subst e1 eN eX
  refine ds_cons (d1_set 3 (s := .dat sc50.D) (DE.dv (de_callH0 G0 (hr.mono (by decide)) ⟨rfl, rfl, rfl⟩)) ?_ scPlay.nd)
  refine ds_cons (d1_own 4 (ss := []) da_nil (fun a ha => ?_) scPlay.nd)
  refine ds_mid (fun ρ' O2 => (∃ s3 s5 s6, ρ' = [.dat (c.sI CS), .dat (c.lI CL), .dat (.lst (hs.map stD)), s3, .val (.ref a), s5, s6]) ∧ O2 = put O a (lO (tell c hs hs.length)))
    (d1_forL (ds := hs.map stD) 5 (fun j ρ' O2 => (∃ s5 s6, ρ' = [.dat (c.sI CS), .dat (c.lI CL), .dat (.lst (hs.map stD)), .dat (runC c (hs.take j)).D, .val (.ref a), s5, s6]) ∧ O2 = put O a (lO (tell c hs j))) (de_var 2) ⟨⟨_, _, rfl⟩, rfl⟩ scPlay.nd ?_ ?_ (passes_of rfl)) ?_
  · rintro j d ρ' O2 hj ⟨⟨s5, s6, rfl⟩, rfl⟩
    rw [List.getElem?_map] at hj
    obtain ⟨st, hst, rfl⟩ := Option.map_eq_some_iff.mp hj
    have hjl := (List.getElem?_eq_some_iff.mp hst).1
    obtain ⟨ok1, ok2⟩ := hR j st hst
    obtain ⟨R, hz⟩ := run_rl hR (by omega) j (by omega)
    have er := run_take (c := c) hst
    have et : tell c hs (j + 1) = tell c hs j ++ (if isCh st = true then [] else [toldC c (runC c (hs.take j)) st]) := by
      rw [tell, hst]
    have lt := tell_len c hs j
    rw [er, et]
    generalize runC c (hs.take j) = x at R hz ok1
    generalize tell c hs j = acc at lt
    refine ds_cons (d1_if (p := false) (DT.cast (dt_not (dt_val (de_callH G1 hr (da_d (de_var 3) (da_d (de_var 5) da_nil)) ⟨_, _, _, st, rfl, R, ok2, rfl, rfl⟩))) (by rw [ok1]; rfl)) (fun z => by cases z) fun _ => ds_nil ?_)
    refine ds_cons (d1_unpack (ds := [toldC c x st, (adv c x st).D]) (is := [6, 3]) (de_callH G2 (hr.mono (by decide)) (da_d (de_var 0) (da_d (de_var 1) (da_d (de_var 3) (da_d (de_var 5) da_nil)))) ⟨c, _, _, _, st, rfl, hG, R, by omega, ok2, ok1, rfl, rfl⟩) rfl (by repeat' (first | exact Dz.Names.nil | refine Dz.Names.cons rfl (by first | exact Or.inl rfl | exact Or.inr rfl) (by first | exact .inl rfl | exact .inr rfl) rfl ?_)) ?_ scPlay.nd)
    refine ds_one (d1_if (p := !isCh st) (DT.cast (dt_notN (x := toldC c x st) (de_var 6) de_non) (by rw [told_non])) (fun z => ?_) fun z => ds_nil ⟨⟨_, _, rfl⟩, ?_⟩)
    · have z' : isCh st = false := by simpa using z
      rw [z', if_neg (by simp)]
      exact ds_one (d1_app 4 rfl (de_var 6) (by omega) ⟨⟨_, _, rfl⟩, rfl⟩)
    · have z' : isCh st = true := by simpa using z
      rw [z', if_pos rfl, List.append_nil]
  · rintro ρ' O2 ⟨⟨s5, s6, rfl⟩, rfl⟩
    rw [List.length_map]
    exact ⟨⟨_, _, _, rfl⟩, rfl⟩
  rintro ρ' O2 ⟨⟨s3, s5, s6, rfl⟩, rfl⟩
  exact ds_ice 4 rfl ha (ds_one (d1_ret (s := .dat (.lst (tell c hs hs.length))) (dv_var 4 rfl) ⟨rfl, rfl⟩))
end
end Dg

namespace Dg
open PySem PySem.Spec PyProof.Rows L2 GxR Dz
/-! ### the law's own defs -/
def liD (c : Cf) : D := .lst [.int c.n, .lst (c.os.map .int), .lst c.rs]
def Cf.sD (c : Cf) : D := suD c.p c.ks c.sg
theorem atI_nm {n : Int} (h : 0 ≤ n ∧ n ≤ 3) : atI [D.str "gone", .str "outside", .str "inside", .str "zone"] n = some (.str (sdN n)) := by
  have : n = 0 ∨ n = 1 ∨ n = 2 ∨ n = 3 := by omega
  rcases this with rfl | rfl | rfl | rfl <;> rfl
section
variable {P : Program} {w : World} {K : PySem.W.Frag} {mg : Str → Option Value} {base : Heap} {T : List Addr} {CE fI : Addr}
def pLHov (ss : List Dz.Slot) (O : OH) (d : D) (O' : OH) : Prop := ∃ a u g pg, ss = [.val (.ref a)] ∧ PgO O a u g pg ∧ WF pg ∧ d = .bl (hovP pg) ∧ O' = O
theorem scLHov : FnScope ["p", "current"] ["p"] (defScope s_law_is_hovered) := ⟨rfl, rfl, rfl, by decide +kernel, rfl, by decide +kernel, by decide +kernel⟩
theorem ok_lhov {f : Addr} {fd : FuncData} {cdv : Value} (F : FunC K "_law_is_hovered" "_law_is_hovered" s_law_is_hovered f fd cdv) (G1 : HasF P w K mg base CX0 2 "_law_current" ["p"] (spF T K pCurrent)) (G2 : HasF P w K mg base CX0 1 "_law_is_within" ["p", "x", "y"] (spF T K pWithin)) : FnOk P w K mg base CX0 3 f fd ["p"] (spF T K pLHov) := by
  refine fn_ok (CE := (0 : Addr)) (R := pLHov) F scLHov (fun ss O d O' ⟨_, _, _, _, h, _⟩ => by rw [h]; rfl) fun A outer s H E ss O d O' hr h => ?_
  obtain ⟨a, u, g, pg, h1, hP, hW, h2, h3⟩ := h
  subst h1 h2 h3
  refine ds_cons (d1_set 1 (s := .dat (oI (curP pg))) (DE.dv (de_callH G1 hr (da_v (dv_var 0 rfl) da_nil) ⟨a, u, g, pg, rfl, hP, hW, rfl, rfl⟩)) ?_ scLHov.nd)
  cases hc : curP pg with
  | none =>
    have e : hovP pg = false := by unfold hovP; rw [hc]
    rw [e]
    exact ds_one (d1_ret (s := .dat (.bl false)) (DE.dv (DE.cast (de_and (p := false) (q := false) (DE.cast (de_notN (x := .non) (de_var 1) de_non) rfl) fun z => by cases z) rfl)) ⟨rfl, rfl⟩)
  | some c =>
    have e : hovP pg = within pg c 1 := by unfold hovP; rw [hc]
    rw [e]
    exact ds_one (d1_ret (s := .dat (.bl (within pg c 1))) (DE.dv (DE.cast (de_and (p := true) (q := within pg c 1) (DE.cast (de_notN (x := .int c) (de_var 1) de_non) rfl) fun _ => de_one (de_callH G2 (hr.mono (by decide)) (da_v (dv_var 0 rfl) (da_d (d := .int c) (de_var 1) (da_d de_int da_nil))) ⟨a, u, g, pg, c, 1, rfl, hP, hW, there_bd (cur_there hc), rfl, rfl⟩)) (by rw [Bool.true_and]))) ⟨rfl, rfl⟩)
def pCopied : PR := fun ss O Rn Rx => ∃ a u g pg, ss = [.val (.ref a)] ∧ PgO O a u g pg ∧ Rn = (fun v O' => ∃ a' u' g', O a' = none ∧ O u' = none ∧ O g' = none ∧ a' ≠ u' ∧ a' ≠ g' ∧ u' ≠ g' ∧ v = .val (.ref a') ∧ O' = pgPut O a' u' g' pg) ∧ Rx = fun _ _ => False
theorem scCopied : FnScope ["p"] ["p"] (defScope s_law_copied) := ⟨rfl, rfl, rfl, by decide +kernel, rfl, by decide +kernel, by decide +kernel⟩
def cpR (O : OH) (pg : Pg) (ss : List (Key × Dz.Slot)) (O1 : OH) : Prop := ∃ u g, O u = none ∧ O g = none ∧ u ≠ g ∧ ss = [(kyU, .val (.ref u)), (kyG, .val (.ref g)), (kyT, .dat (oI pg.tg)), (kyE, .dat (oI pg.en))] ∧ O1 = put (put O u (lO (pg.up.map oI))) g (lO (pg.gone.map .bl))
theorem ok_copied {f : Addr} {fd : FuncData} {cdv : Value} (F : FunC K "_law_copied" "_law_copied" s_law_copied f fd cdv) (L : Blt mg) : FnOk P w K mg base (L2.CX P w) 2 f fd ["p"] (spX T K CE pCopied) := by
  refine fn_okX (R := pCopied) F scCopied (fun ss O Rn Rx ⟨_, _, _, _, h, _⟩ => by rw [h]; rfl) fun A outer s H E ss O Rn Rx hr h => ?_
  obtain ⟨a, u, g, pg, e1, hP, eN, eX⟩ := h
  subst e1 eN eX
  refine ds_one (d1_retDic (R := cpR O pg) (kes := [(("up" : Str), _), (("gone" : Str), _), (("target" : Str), _), (("entered" : Str), _)]) (pps_cons pe_str pe_we (pps_cons pe_str pe_we (pps_cons pe_str pe_we (pps_cons pe_str pe_we pps_nil)))) ?_ ?_ ?_)
  · refine dps_cons (CE := CE) (k := "up") (dvx_listO L.list (dv_up hr hP (dv_var 0 rfl)) hP.hu) fun s1 O1 ⟨u', hu', es, eO⟩ => ?_
    subst es eO
    obtain ⟨n1, n2, n3⟩ := hP.apart hu'
    have hP1 := hP.over (x := lO (pg.up.map oI)) n1 n2 n3
    refine dps_cons (CE := CE) (k := "gone") (dvx_listO L.list (dv_gone hr hP1 (dv_var 0 rfl)) hP1.hg) fun s2 O2 ⟨g', hg', es, eO⟩ => ?_
    subst es eO
    obtain ⟨m1, m2, m3⟩ := hP1.apart hg'
    have hP2 := hP1.over (x := lO (pg.gone.map .bl)) m1 m2 m3
    have ug : u' ≠ g' := fun z => by rw [← z, put_same] at hg'; cases hg'
    rw [put_ne (Ne.symm ug)] at hg'
    refine dps_cons (CE := CE) (k := "target") (dvx_dv (DE.dv (de_tg hr hP2 (dv_var 0 rfl)))) fun s3 O3 ⟨es, eO⟩ => ?_
    subst es eO
    refine dps_cons (CE := CE) (k := "entered") (dvx_dv (DE.dv (de_en hr hP2 (dv_var 0 rfl)))) fun s4 O4 ⟨es, eO⟩ => ?_
    subst es eO
    exact dps_nil ⟨u', g', hu', hg', ug, rfl, rfl⟩
  · rintro ss O1 a' ⟨u', g', hu, hg, ug, rfl, rfl⟩ ha
    have ag : a' ≠ g' := fun z => by rw [z, put_same] at ha; cases ha
    rw [put_ne ag] at ha
    have au : a' ≠ u' := fun z => by rw [z, put_same] at ha; cases ha
    rw [put_ne au] at ha
    exact ⟨a', u', g', ha, hu, hg, au, ag, ug, rfl, rfl⟩
  · rintro ss O1 ⟨u', g', hu, hg, ug, rfl, rfl⟩
    refine ⟨?_, by show 4 ≤ 15; decide⟩
    show [kyU, kyG, kyT, kyE].Nodup
    decide +kernel
/-! a drawn step -/
def pLStep : PR := fun ss O Rn Rx => ∃ b row at_ a u g pg, ss = [.val (.ref b), .val (.ref a)] ∧ O b = some (Bx row at_) ∧ at_ ≤ 90000 ∧ PgO O a u g pg ∧ b ≠ a ∧ b ≠ u ∧ b ≠ g ∧ 1 ≤ pg.up.length ∧ pg.up.length ≤ 100 ∧ Rn = (fun v O' => ∃ st at', v = .dat (stD st) ∧ StOk st ∧ at_ ≤ at' ∧ at' ≤ at_ + 8 ∧ O' = put O b (Bx row at')) ∧ Rx = fun _ _ => False
theorem scLStep : FnScope ["box", "p", "many", "x", "stops", "kind"] ["box", "p"] (defScope s_law_step) := ⟨rfl, rfl, rfl, by decide +kernel, rfl, by decide +kernel, by decide +kernel⟩
theorem ok_lstep {f : Addr} {fd : FuncData} {cdv : Value} (F : FunC K "_law_step" "_law_step" s_law_step f fd cdv) (L : Blt mg) (G : HasF P w K mg base CX0 1 "_law_draw" ["box", "many"] (spF T K pDraw)) : FnOk P w K mg base (L2.CX P w) 2 f fd ["box", "p"] (spX T K CE pLStep) := by
  refine fn_okX (R := pLStep) F scLStep (fun ss O Rn Rx ⟨_, _, _, _, _, _, _, h, _⟩ => by rw [h]; rfl) fun A outer s H E ss O Rn Rx hr h => ?_
  obtain ⟨b, row, at_, a, u, g, pg, e1, hO, ha, hP, n1, n2, n3, hl1, hl2, eN, eX⟩ := h
  subst e1 eN eX
  have el : ((pg.up.map oI).map Dz.Slot.dat).length = pg.up.length := by rw [List.length_map, List.length_map]
  -- the page stands whatever is drawn
  have hPk : ∀ k, PgO (put O b (Bx row k)) a u g pg := fun k => hP.over (Ne.symm n1) (Ne.symm n2) (Ne.symm n3)
  have hBk : ∀ k, put O b (Bx row k) b = some (Bx row k) := fun k => put_same
  let many : Int := (pg.up.length : Int) + (if decide (drw row at_ 8 = 0) = true then 1 else 0)
  have hm : 0 < many := by show 0 < (pg.up.length : Int) + _; split <;> omega
  refine ds_cons (d1_set 2 (O1 := put O b (Bx row (at_ + 1))) (s := .dat (.int many)) (DE.dv (de_add (O1 := O) (DE.cast (de_lenO L.len (dv_up hr hP (dv_var 1 rfl)) hP.hu) (by rw [el])) (de_intB L.int (DE.cast (de_eq (x := .int (drw row at_ 8)) (y := .int 0) hr (by rfl) (by rfl) (de_callH G hr (da_v (dv_var 0 rfl) (da_d de_int da_nil)) ⟨b, row, at_, 8, rfl, hO, by decide, by omega, rfl, rfl⟩) de_int) (by rw [deq_int]))))) ?_ scLStep.nd)
  generalize hmany : many = mn at hm
  have x0 : 0 ≤ drw row (at_ + 1) 40 % mn := Int.emod_nonneg _ (by omega)
  refine ds_cons (d1_set 3 (O1 := put O b (Bx row (at_ + 2))) (s := .dat (.int (drw row (at_ + 1) 40 % mn))) (DE.dv (de_mod hm (de_intI L.int (de_callH G hr (da_v (dv_var 0 rfl) (da_d de_int da_nil)) ⟨b, row, at_ + 1, 40, rfl, hBk _, by decide, by omega, rfl, by rw [put_put]⟩)) (de_var 2))) ?_ scLStep.nd)
  generalize drw row (at_ + 1) 40 % mn = x at x0
  have d8 : 0 ≤ drw row (at_ + 2) 8 ∧ drw row (at_ + 2) 8 < 8 := ⟨drw_0 row _ (by decide), drw_lt row _ (by decide)⟩
  refine ds_cons (d1_set 4 (O1 := put O b (Bx row (at_ + 4))) (s := .dat (.int (drw row (at_ + 2) 8 * (if decide (drw row (at_ + 3) 3 = 0) = true then 1 else 0)))) (DE.dv (de_mul (.inl ⟨by omega, by omega⟩) (de_callH G hr (da_v (dv_var 0 rfl) (da_d de_int da_nil)) ⟨b, row, at_ + 2, 8, rfl, hBk _, by decide, by omega, rfl, by rw [put_put]⟩) (de_intB L.int (DE.cast (de_eq (x := .int (drw row (at_ + 3) 3)) (y := .int 0) hr (by rfl) (by rfl) (de_callH G hr (da_v (dv_var 0 rfl) (da_d de_int da_nil)) ⟨b, row, at_ + 3, 3, rfl, hBk _, by decide, by omega, rfl, by rw [put_put]⟩) de_int) (by rw [deq_int]))))) ?_ scLStep.nd)
  have st0 : 0 ≤ drw row (at_ + 2) 8 * (if decide (drw row (at_ + 3) 3 = 0) = true then 1 else 0) ∧ drw row (at_ + 2) 8 * (if decide (drw row (at_ + 3) 3 = 0) = true then 1 else 0) < 8 := by
    split <;> omega
  generalize drw row (at_ + 2) 8 * (if decide (drw row (at_ + 3) 3 = 0) = true then 1 else 0) = stp at st0
  refine ds_cons (d1_set 5 (O1 := put O b (Bx row (at_ + 5))) (s := .dat (.int (drw row (at_ + 4) 12))) (DE.dv (de_callH G hr (da_v (dv_var 0 rfl) (da_d de_int da_nil)) ⟨b, row, at_ + 4, 12, rfl, hBk _, by decide, by omega, rfl, by rw [put_put]⟩)) ?_ scLStep.nd)
  generalize drw row (at_ + 4) 12 = kd
  refine ds_cons (d1_if (p := decide (kd < 3) && decide ((pg.up.length : Int) < 12)) (DW.dt (dw_and (dt_lt (de_var 5) de_int) fun _ => dw_and1 (dt_lt (DE.cast (de_lenO L.len (dv_up hr (hPk _) (dv_var 1 rfl)) (hPk _).hu) (by rw [el])) de_int))) (fun _ => ds_one (d1_ret (s := .dat (stD (.add x))) (DE.dv (de_tup (ds := [.str "add", .int x]) (da_d de_str (da_d (de_var 3) da_nil)) (by show 2 ≤ 10000; decide))) ⟨.add x, at_ + 5, rfl, True.intro, by omega, by omega, rfl⟩)) fun _ => ds_nil ?_)
  refine ds_cons (d1_if (p := decide (kd = 3)) (DT.cast (dt_eq (x := .int kd) (y := .int 3) hr (by rfl) (by rfl) (de_var 5) de_int) (deq_int _ _)) (fun _ => ds_one (d1_ret (s := .dat (stD (.rem x))) (DE.dv (de_tup (ds := [.str "remove", .int x]) (da_d de_str (da_d (de_var 3) da_nil)) (by show 2 ≤ 10000; decide))) ⟨.rem x, at_ + 5, rfl, True.intro, by omega, by omega, rfl⟩)) fun _ => ds_nil ?_)
  refine ds_cons (d1_if (p := decide (kd = 4)) (DT.cast (dt_eq (x := .int kd) (y := .int 4) hr (by rfl) (by rfl) (de_var 5) de_int) (deq_int _ _)) (fun _ => ds_one (d1_ret (O1 := put O b (Bx row (at_ + 6))) (s := .dat (stD (.plc x (drw row (at_ + 5) 40 % mn)))) (DE.dv (de_tup (ds := [.str "place", .int x, .int (drw row (at_ + 5) 40 % mn)]) (da_d de_str (da_d (de_var 3) (da_d (de_mod hm (de_intI L.int (de_callH G hr (da_v (dv_var 0 rfl) (da_d de_int da_nil)) ⟨b, row, at_ + 5, 40, rfl, hBk _, by decide, by omega, rfl, by rw [put_put]⟩)) (de_var 2)) da_nil))) (by show 3 ≤ 10000; decide))) ⟨_, at_ + 6, rfl, True.intro, by omega, by omega, rfl⟩)) fun _ => ds_nil ?_)
  refine ds_cons (d1_if (p := decide (kd < 9)) (dt_lt (de_var 5) de_int) (fun _ => ds_one (d1_ret (s := .dat (stD (.pnt x stp))) (DE.dv (de_tup (ds := [.str "point", .int x, .int stp]) (da_d de_str (da_d (de_var 3) (da_d (de_var 4) da_nil))) (by show 3 ≤ 10000; decide))) ⟨.pnt x stp, at_ + 5, rfl, st0, by omega, by omega, rfl⟩)) fun _ => ds_nil ?_)
  refine ds_cons (d1_if (p := decide (kd = 9)) (DT.cast (dt_eq (x := .int kd) (y := .int 9) hr (by rfl) (by rfl) (de_var 5) de_int) (deq_int _ _)) (fun _ => ds_one (d1_ret (s := .dat (stD (.slp x stp))) (DE.dv (de_tup (ds := [.str "slip", .int x, .int stp]) (da_d de_str (da_d (de_var 3) (da_d (de_var 4) da_nil))) (by show 3 ≤ 10000; decide))) ⟨.slp x stp, at_ + 5, rfl, st0, by omega, by omega, rfl⟩)) fun _ => ds_nil ?_)
  refine ds_cons (d1_if (p := decide (kd = 10)) (DT.cast (dt_eq (x := .int kd) (y := .int 10) hr (by rfl) (by rfl) (de_var 5) de_int) (deq_int _ _)) (fun _ => ds_one (d1_ret (s := .dat (stD (.out stp))) (DE.dv (de_tup (ds := [.str "out", .int stp]) (da_d de_str (da_d (de_var 4) da_nil)) (by show 2 ≤ 10000; decide))) ⟨.out stp, at_ + 5, rfl, st0, by omega, by omega, rfl⟩)) fun _ => ds_nil ?_)
  have dr : 0 ≤ drw row (at_ + 5) 2 ∧ drw row (at_ + 5) 2 < 2 := ⟨drw_0 row _ (by decide), drw_lt row _ (by decide)⟩
  generalize hd2 : drw row (at_ + 5) 2 = k2 at dr
  have ek : atI [D.str "drop", .str "cancel"] k2 = some (.str (if k2 = 0 then "drop" else "cancel")) := by
    have : k2 = 0 ∨ k2 = 1 := by omega
    rcases this with rfl | rfl <;> rfl
  refine ds_one (d1_ret (O1 := put O b (Bx row (at_ + 7))) (s := .dat (.tup [.str (if k2 = 0 then "drop" else "cancel"), .bl (decide (drw row (at_ + 6) 2 = 0)), .int stp])) (DE.dv (de_tup (ds := [.str (if k2 = 0 then "drop" else "cancel"), .bl (decide (drw row (at_ + 6) 2 = 0)), .int stp]) (da_d (de_ixL (ds := [.str "drop", .str "cancel"]) (O1 := put O b (Bx row (at_ + 5))) (O2 := put O b (Bx row (at_ + 6))) (de_lst (ds := [.str "drop", .str "cancel"]) (da_d de_str (da_d de_str da_nil))) (DE.cast (de_callH G hr (da_v (dv_var 0 rfl) (da_d de_int da_nil)) ⟨b, row, at_ + 5, 2, rfl, hBk _, by decide, by omega, rfl, by rw [put_put]⟩) (by rw [hd2])) ek) (da_d (DE.cast (de_eq (x := .int (drw row (at_ + 6) 2)) (y := .int 0) hr (by rfl) (by rfl) (de_callH G hr (da_v (dv_var 0 rfl) (da_d de_int da_nil)) ⟨b, row, at_ + 6, 2, rfl, hBk _, by decide, by omega, rfl, by rw [put_put]⟩) de_int) (by rw [deq_int])) (da_d (de_var 4) da_nil))) (by show 3 ≤ 10000; decide))) ?_)
  by_cases h0 : k2 = 0
  · exact ⟨.drp (decide (drw row (at_ + 6) 2 = 0)) stp, at_ + 7, by rw [if_pos h0]; rfl, st0, by omega, by omega, rfl⟩
  · exact ⟨.cnc (decide (drw row (at_ + 6) 2 = 0)) stp, at_ + 7, by rw [if_neg h0]; rfl, st0, by omega, by omega, rfl⟩
end
end Dg

namespace Dg
open PySem PySem.Spec PyProof.Rows L2 GxR Dz
/-- a class's method, by its name -/
def HasM (P : Program) (w : World) (K : PySem.W.Frag) (mg : Str → Option Value) (base : Heap) (CX : CXT) (k : Nat) (C : Addr) (m : Str) (ps : List Str) (sp : Sp) : Prop := ∃ f fd, FnOk P w K mg base CX k f fd ps sp ∧ Meth K C m f ∧ Binds K fd ps []
theorem stF_no {c : Cf} {CS CL tk : Addr} {x : Sc5} {m : Str} (h : (m == ("_setup" : Str)) = false ∧ (m == ("_listener" : Str)) = false ∧ (m == ("_scene" : Str)) = false ∧ (m == ("_taken" : Str)) = false) : (stF c CS CL tk x).lookup m = none := by
  unfold stF
  rw [List.lookup_cons, h.1, List.lookup_cons, h.2.1, List.lookup_cons, h.2.2.1, List.lookup_cons, h.2.2.2]
  rfl
theorem ch_ok {pg : Pg} {st : Stp} (h : canP pg st = true) (hc : isCh st = true) : ChOk pg st := by
  cases st with
  | add x => exact there_bd h
  | rem x =>
    have h : (there pg x && decide (2 ≤ x)) = true := h
    rw [Bool.and_eq_true] at h
    exact there_bd h.1
  | plc x y =>
    have h : (there pg x && (if x < 2 then false else there pg y && !within pg y x)) = true := h
    rw [Bool.and_eq_true] at h
    have hx : ¬ x < 2 := fun z => by rw [if_pos z] at h; cases h.2
    rw [if_neg hx, Bool.and_eq_true] at h
    exact ⟨there_bd h.1, there_bd h.2.1⟩
  | pnt x s => cases hc
  | slp x s => cases hc
  | out s => cases hc
  | drp b s => cases hc
  | cnc b s => cases hc
theorem tk_ok {pg : Pg} {st : Stp} (h : canP pg st = true) (hc : isCh st = false) : TkOk pg st := by
  cases st with
  | pnt x s => exact there_bd h
  | slp x s =>
    obtain ⟨h1, c, h2, _⟩ := slp_can h
    exact ⟨there_bd h1, c, h2⟩
  | out s => exact True.intro
  | drp b s => exact True.intro
  | cnc b s => exact True.intro
  | add x => cases hc
  | rem x => cases hc
  | plc x y => cases hc
theorem ch_name (st : Stp) : (decide (("add" : Str) = nmSt st) || (decide (("remove" : Str) = nmSt st) || decide (("place" : Str) = nmSt st))) = isCh st := by
  cases st with
  | add x => show (decide (("add" : Str) = "add") || _) = true; rfl
  | rem x => show (decide (("add" : Str) = "remove") || (decide (("remove" : Str) = "remove") || decide (("place" : Str) = "remove"))) = true; decide +kernel
  | plc x y => show (decide (("add" : Str) = "place") || (decide (("remove" : Str) = "place") || decide (("place" : Str) = "place"))) = true; decide +kernel
  | pnt x s => show (decide (("add" : Str) = "point") || (decide (("remove" : Str) = "point") || decide (("place" : Str) = "point"))) = false; decide +kernel
  | slp x s => show (decide (("add" : Str) = "slip") || (decide (("remove" : Str) = "slip") || decide (("place" : Str) = "slip"))) = false; decide +kernel
  | out s => show (decide (("add" : Str) = "out") || (decide (("remove" : Str) = "out") || decide (("place" : Str) = "out"))) = false; decide +kernel
  | drp b s => show (decide (("add" : Str) = "drop") || (decide (("remove" : Str) = "drop") || decide (("place" : Str) = "drop"))) = false; decide +kernel
  | cnc b s => show (decide (("add" : Str) = "cancel") || (decide (("remove" : Str) = "cancel") || decide (("place" : Str) = "cancel"))) = false; decide +kernel
section
variable {P : Program} {w : World} {K : PySem.W.Frag} {mg : Str → Option Value} {base : Heap} {T : List Addr} {CE fI : Addr}
/-- what act tells, or why it refuses -/
def tolD (c : Cf) (x : Sc5) (st : Stp) : D := if canP x.pg st = true then .lst [toldC c x st] else .str "not possible"
def nxH (x : Sc5) (hs : List Stp) (st : Stp) : List Stp := if canP x.pg st = true then hs ++ [st] else hs
def pLTold (CG CS CL : Addr) : PR := fun ss O Rn Rx => ∃ (c : Cf) (s tk : Addr) (hs : List Stp) (st : Stp), ss = [.val (.ref s), .dat (stD st)] ∧ c.Ok ∧ StgO O c CG CS CL s tk hs ∧ RunOk c hs ∧ hs.length ≤ 60 ∧ StOk st ∧ Rn = (fun v O' => v = .dat (tolD c (runC c hs) st) ∧ O' = stgPut O c CG CS CL s tk (nxH (runC c hs) hs st)) ∧ Rx = fun _ _ => False
theorem scLTold : FnScope ["stage", "step", "e"] ["stage", "step"] (defScope s_law_told) := ⟨rfl, rfl, rfl, by decide +kernel, rfl, by decide +kernel, by decide +kernel⟩
theorem ok_ltold {f CG CS CL : Addr} {fd : FuncData} {cdv : Value} (F : FunC K "_law_told" "_law_told" s_law_told f fd cdv) (V : Err K mg CE fI) (AG : FldG K CG) (M : HasM P w K mg base (L2.CX P w) 8 CG "act" ["self", "step"] (spX T K CE (pAct CG CS CL))) : FnOk P w K mg base (L2.CX P w) 9 f fd ["stage", "step"] (spX T K CE (pLTold CG CS CL)) := by
  obtain ⟨_, _, Ga, ma, ba⟩ := M
  refine fn_okX (R := pLTold CG CS CL) F scLTold (fun ss O Rn Rx ⟨_, _, _, _, _, h, _⟩ => by rw [h]; rfl) fun A outer s0 H E ss O Rn Rx hr h => ?_
  obtain ⟨c, s, tk, hs, st, e1, hG, hS, hR, hl, hst, eN, eX⟩ := h
  subst e1 eN eX
  refine ds_one (d1_try 2 V.xf V.no V.me V.gC scLTold.nd fun pn xe pa => ds_one (d1_retX (R := fun v O' => v = .dat (tolD c (runC c hs) st) ∧ O' = stgPut O c CG CS CL s tk (nxH (runC c hs) hs st)) ?_ fun v O' q => q))
  unfold tolD nxH
  by_cases hc : canP (runC c hs).pg st = true
  · rw [if_pos hc, if_pos hc]
    refine dvx_imp (dvx_lst1 (R := fun v O' => v = .dat (toldC c (runC c hs) st) ∧ O' = stgPut O c CG CS CL s tk (hs ++ [st])) (Rx := fun _ _ => False) (dvx_meth AG.cl ma Ga hr ba (dv_var 0 rfl) hS.hs' (stF_no (by decide +kernel)) (da_d (de_var 1) da_nil) ⟨c, s, tk, hs, st, rfl, hG, hS, hR, hl, hst, .inl ⟨hc, rfl, rfl⟩⟩) (fun v O' q => ⟨_, q.1⟩)) (fun v O' ⟨d, ⟨q1, q2⟩, q3⟩ => ?_) fun r O' q => q.elim
    cases q1
    exact ⟨q3, q2⟩
  · rw [if_neg hc, if_neg hc]
    refine dvx_imp (dvx_lst1 (R := fun _ _ => False) (Rx := fun r O' => r = .str "not possible" ∧ O' = O) (dvx_meth AG.cl ma Ga hr ba (dv_var 0 rfl) hS.hs' (stF_no (by decide +kernel)) (da_d (de_var 1) da_nil) ⟨c, s, tk, hs, st, rfl, hG, hS, hR, hl, hst, .inr ⟨by simpa using hc, rfl, rfl⟩⟩) (fun v O' q => q.elim)) (fun v O' ⟨d, q1, _⟩ => q1.elim) fun r O' q => ?_
    obtain ⟨q1, q2⟩ := q
    exact ⟨by rw [q1], by rw [q2, hS.self]⟩
/-- what act is to tell -/
def dueD (c : Cf) (x : Sc5) (st : Stp) : D := .lst [tolD c x st, .int (if canP x.pg st = true then (adv c x st).i else x.i)]
def duePg (c : Cf) (x : Sc5) (st : Stp) : Pg := if canP x.pg st = true then (adv c x st).pg else x.pg
def pLDue (ss : List Dz.Slot) (O : OH) (d : D) (O' : OH) : Prop := ∃ (c : Cf) (a u g : Addr) (x : Sc5) (st : Stp), ss = [.val (.ref a), .dat c.sD, .dat (liD c), .dat (.int x.i), .dat (stD st)] ∧ c.Ok ∧ PgO O a u g x.pg ∧ Rl x.pp x.pg ∧ x.pg.up.length < 100 ∧ StOk st ∧ d = dueD c x st ∧ O' = pgPut O a u g (duePg c x st)
theorem scLDue : FnScope ["p", "setup", "listener", "state", "step", "signals", "signal"] ["p", "setup", "listener", "state", "step"] (defScope s_law_due) := ⟨rfl, rfl, rfl, by decide +kernel, rfl, by decide +kernel, by decide +kernel⟩
theorem ok_ldue {f : Addr} {fd : FuncData} {cdv : Value} (F : FunC K "_law_due" "_law_due" s_law_due f fd cdv) (G1 : HasF P w K mg base CX0 3 "_law_can" ["p", "step"] (spF T K pCan)) (G2 : HasF P w K mg base CX0 3 "_law_changes" ["p", "step"] (spF T K pChanges)) (G3 : HasF P w K mg base CX0 4 "_law_tick" ["p", "setup", "step"] (spF T K pTick))
    (G4 : HasF P w K mg base CX0 1 "_law_next" ["listener", "state", "signal"] (spF T K pLNext)) (G5 : HasF P w K mg base CX0 3 "_law_is_hovered" ["p"] (spF T K pLHov)) : FnOk P w K mg base CX0 5 f fd ["p", "setup", "listener", "state", "step"] (spF T K pLDue) := by
  refine fn_ok (CE := (0 : Addr)) (R := pLDue) F scLDue (fun ss O d O' ⟨_, _, _, _, _, _, h, _⟩ => by rw [h]; rfl) fun A outer s H E ss O d O' hr h => ?_
  obtain ⟨c, a, u, g, x, st, h1, hG, hP, R, hz, hst, h2, h3⟩ := h
  subst h1 h2 h3
  have hr1 := hr.mono (show 1 ≤ 4 by decide)
  have hr3 := hr.mono (show 3 ≤ 4 by decide)
  have hW := R.wf
  refine ds_cons (d1_if (p := !canP x.pg st) (O1 := O) (dt_not (dt_val (de_callH G1 hr3 (da_v (dv_var 0 rfl) (da_d (de_var 4) da_nil)) ⟨a, u, g, x.pg, st, rfl, hP, hW, rfl, rfl⟩))) (fun z => ?_) fun z => ds_nil ?_)
  · have z' : ¬ canP x.pg st = true := by simpa using z
    have e1 : dueD c x st = .lst [.str "not possible", .int x.i] := by unfold dueD tolD; rw [if_neg z', if_neg z']
    have e2 : pgPut O a u g (duePg c x st) = O := by unfold duePg; rw [if_neg z']; exact hP.self
    rw [e1, e2]
    exact ds_one (d1_ret (s := .dat (.lst [.str "not possible", .int x.i])) (DE.dv (de_lst (ds := [.str "not possible", .int x.i]) (da_d de_str (da_d (de_var 3) da_nil)) (by show 2 ≤ 10000; decide))) ⟨rfl, rfl⟩)
  have hc : canP x.pg st = true := by simpa using z
  obtain ⟨rest, esd, ⟨el, el5⟩, elast⟩ := st_shape st
  have e1 : dueD c x st = .lst [.lst [toldC c x st], .int (adv c x st).i] := by unfold dueD tolD; rw [if_pos hc, if_pos hc]
  have e2 : duePg c x st = (adv c x st).pg := by unfold duePg; rw [if_pos hc]
  have eI : (adv c x st).i = nxSt x.pg c.p c.ks c.sg c.rs x.i st := rfl
  have eP : (adv c x st).pg = nxPg x.pg c.p c.ks c.sg st := rfl
  rw [e1, e2, eI, eP]
  have eT : toldC c x st = told x.pg c.p c.ks c.sg c.rs c.os x.i st := rfl
  rw [eT]
  refine ds_cons (d1_if (p := isCh st) (DT.cast (dt_inT (x := .str (nmSt st)) (ds := [.str "add", .str "remove", .str "place"]) hr1 (by rfl) (by rfl) (de_ixT (ds := D.str (nmSt st) :: rest) (DE.cast (de_var 4) esd) de_int (atH0 _ _)) (de_tup (ds := [.str "add", .str "remove", .str "place"]) (da_d de_str (da_d de_str (da_d de_str da_nil))))) (dq3 (ch_name st))) (fun hch => ?_) fun hch => ds_nil ?_)
  · have q1 : told x.pg c.p c.ks c.sg c.rs c.os x.i st = .non := by unfold told; rw [if_pos hch]
    have q2 : nxPg x.pg c.p c.ks c.sg st = chP x.pg st := by unfold nxPg; rw [if_pos hch]
    have q3 : nxSt x.pg c.p c.ks c.sg c.rs x.i st = x.i := by unfold nxSt; rw [if_pos hch]
    rw [q1, q2, q3]
    refine ds_cons (d1_expr (s := .dat .non) (DE.dv (de_callH G2 hr3 (da_v (dv_var 0 rfl) (da_d (de_var 4) da_nil)) ⟨a, u, g, x.pg, st, rfl, hP, hW, ch_ok hc hch, rfl, rfl⟩)) ?_)
    exact ds_one (d1_ret (s := .dat (.lst [.lst [.non], .int x.i])) (DE.dv (de_lst (ds := [.lst [.non], .int x.i]) (da_d (de_lst (ds := [.non]) (da_d de_non da_nil)) (da_d (de_var 3) da_nil)) (by show 2 ≤ 10000; decide))) ⟨rfl, rfl⟩)
  · have q1 : told x.pg c.p c.ks c.sg c.rs c.os x.i st = tkT x.pg c.p c.ks c.sg c.rs c.os x.i st := by unfold told; rw [if_neg (by rw [hch]; exact Bool.false_ne_true)]
    have q2 : nxPg x.pg c.p c.ks c.sg st = tkP x.pg c.p c.ks c.sg st := by unfold nxPg; rw [if_neg (by rw [hch]; exact Bool.false_ne_true)]
    have q3 : nxSt x.pg c.p c.ks c.sg c.rs x.i st = tkS x.pg c.p c.ks c.sg c.rs x.i st := by unfold nxSt; rw [if_neg (by rw [hch]; exact Bool.false_ne_true)]
    have RN := rl_next R hz hc c.p c.ks c.sg
    rw [q2] at RN
    rw [q1, q2, q3]
    refine ds_cons (d1_set 5 (s := .dat (.lst (tkH x.pg c.p c.ks c.sg st).1)) (DE.dv (de_callH G3 hr (da_v (dv_var 0 rfl) (da_d (de_var 1) (da_d (de_var 4) da_nil))) ⟨a, u, g, x.pg, c.p, c.ks, c.sg, st, rfl, hP, hW, by have := R.two; omega, tk_ok hc hch, rfl, rfl⟩)) ?_ scLDue.nd)
    have hsig := thear_sig (pg := x.pg) (p := c.p) (ks := c.ks) (sg := c.sg) (s := stpS st) (evs := pevs x.pg st) (pevs x.pg st).length
    have hS : (tkH x.pg c.p c.ks c.sg st).1 = (thear x.pg c.p c.ks c.sg (stpS st) (pevs x.pg st) (pevs x.pg st).length).1 := rfl
    rw [← hS] at hsig
    unfold tkT tkS
    have hP' := hP.put (tkP x.pg c.p c.ks c.sg st)
    generalize tkP x.pg c.p c.ks c.sg st = pg' at RN hP'
    generalize (tkH x.pg c.p c.ks c.sg st).1 = sigs at hsig
    show DS T _ _ _ [.val (.ref a), .dat c.sD, .dat (liD c), .dat (.int x.i), .dat (stD st), .dat (.lst sigs), .no] _ _
    refine ds_mid (fun ρ' O2 => (∃ s6, ρ' = [.val (.ref a), .dat c.sD, .dat (liD c), .dat (.int (sigs.foldl (nxI c.rs) x.i)), .dat (stD st), .dat (.lst sigs), s6]) ∧ O2 = pgPut O a u g pg')
      (d1_forL 6 (fun j ρ' O2 => (∃ s6, ρ' = [.val (.ref a), .dat c.sD, .dat (liD c), .dat (.int ((sigs.take j).foldl (nxI c.rs) x.i)), .dat (stD st), .dat (.lst sigs), s6]) ∧ O2 = pgPut O a u g pg') (de_var 5) ⟨⟨_, rfl⟩, rfl⟩ scLDue.nd ?_ ?_ PassesOwn.never) ?_
    · rintro j d ρ' O2 hj ⟨⟨s6, rfl⟩, rfl⟩
      obtain ⟨g1, g2, g3, g4, rfl, o1, o2, o3, o4⟩ := hsig d (List.mem_of_getElem? hj)
      have e : (sigs.take (j + 1)).foldl (nxI c.rs) x.i = nxI c.rs ((sigs.take j).foldl (nxI c.rs) x.i) (.tup [g1, g2, g3, g4]) := by
        rw [List.take_add_one, hj]
        simp [List.foldl_append]
      generalize (sigs.take j).foldl (nxI c.rs) x.i = k at e
      exact ds_one (d1_set 3 (s := .dat (.int (nxI c.rs k (.tup [g1, g2, g3, g4])))) (DE.dv (DE.cast (de_callH G4 hr1 (da_d (de_var 2) (da_d (de_var 3) (da_d (de_var 6) da_nil))) ⟨.int c.n, .lst (c.os.map .int), c.rs, .int k, g1, g2, g3, g4, rfl, fun r hr => (hG.good r hr).1, rfl, o1 _, o2 _, o3 _, o4 _, rfl, rfl⟩) (next_int hG.good))) ⟨⟨_, by rw [e]; rfl⟩, rfl⟩ scLDue.nd)
    · rintro ρ' O2 ⟨⟨s6, rfl⟩, rfl⟩
      rw [List.take_length]
      exact ⟨⟨_, rfl⟩, rfl⟩
    rintro ρ' O2 ⟨⟨s6, rfl⟩, rfl⟩
    show DS T _ _ _ [.val (.ref a), .dat c.sD, .dat (liD c), .dat (.int (sigs.foldl (nxI c.rs) x.i)), .dat (stD st), .dat (.lst sigs), s6] _ _
    generalize sigs.foldl (nxI c.rs) x.i = k
    have em : memI k c.os = ((c.os.map D.int).any fun z => deq z (.int k)) := by rw [in_ints]; rfl
    refine ds_one (d1_ret (s := .dat (.lst [.lst [.tup [.lst sigs, .int k, .bl (memI k c.os), .bl (hovP pg')]], .int k])) (DE.dv (de_lst (ds := [.lst [.tup [.lst sigs, .int k, .bl (memI k c.os), .bl (hovP pg')]], .int k]) (da_d (de_lst (ds := [.tup [.lst sigs, .int k, .bl (memI k c.os), .bl (hovP pg')]]) (da_d (de_tup (ds := [.lst sigs, .int k, .bl (memI k c.os), .bl (hovP pg')]) (da_d (de_var 5) (da_d (de_var 3) (da_d (DE.cast (de_inL (x := .int k) (ds := c.os.map .int) hr1 (by rfl) (okI c.os 32) (de_var 3) (de_ixL (ds := [.int c.n, .lst (c.os.map .int), .lst c.rs]) (de_var 2) de_int rfl)) (by rw [em])) (da_d (de_callH G5 hr3 (da_v (dv_var 0 rfl) da_nil) ⟨a, u, g, pg', rfl, hP', RN.wf, rfl, rfl⟩) da_nil)))) (by show 4 ≤ 10000; decide)) da_nil) (by show 1 ≤ 10000; decide)) (da_d (de_var 3) da_nil)) (by show 2 ≤ 10000; decide))) ⟨rfl, rfl⟩)
/-- the sides of all elements, and two more -/
def sidesL (pg : Pg) : D := .lst ((List.range (pg.up.length + 2)).map fun i : Nat => D.str (sdN (numP pg (i : Int))))
def pLSides (ss : List Dz.Slot) (O : OH) (d : D) (O' : OH) : Prop := ∃ a u g pg, ss = [.val (.ref a)] ∧ PgO O a u g pg ∧ WF pg ∧ d = sidesL pg ∧ O' = O
theorem scLSides : FnScope ["p", "x"] ["p"] (defScope s_law_sides) := ⟨rfl, rfl, rfl, by decide +kernel, rfl, by decide +kernel, by decide +kernel⟩
theorem lc_fun {T : List Addr} {X : Cx} {scope : Scope} {elt : Expr} {ρ : List Dz.Slot} {O : OH} {i : Nat} {F : Nat → D} {m : Int} (h : ∀ j : Nat, (j : Int) < m → DEb T X scope elt (ρ.set i (.dat (.int (j : Int)))) O (F j) O) :
    ∀ (j : Nat) acc O', (j : Int) < m → (acc = (List.range j).map F ∧ O' = O) → LcTurn T X scope [] elt (fun j acc O' => acc = (List.range j).map F ∧ O' = O) j (ρ.set i (.dat (.int (j : Int)))) acc O' := by
  rintro j acc O' hj ⟨e1, e2⟩
  subst e2
  refine ⟨true, O', difs_nil, fun _ => ⟨F j, O', h j hj, ?_, rfl⟩, fun z => by cases z⟩
  rw [List.range_succ, List.map_append, e1]
  rfl
theorem ok_lsides {f : Addr} {fd : FuncData} {cdv : Value} (F : FunC K "_law_sides" "_law_sides" s_law_sides f fd cdv) (L : Blt mg) (G : HasF P w K mg base CX0 2 "_law_number" ["p", "x"] (spF T K pNumber)) : FnOk P w K mg base CX0 3 f fd ["p"] (spF T K pLSides) := by
  refine fn_ok (CE := (0 : Addr)) (R := pLSides) F scLSides (fun ss O d O' ⟨_, _, _, _, h, _⟩ => by rw [h]; rfl) fun A outer s H E ss O d O' hr h => ?_
  obtain ⟨a, u, g, pg, h1, hP, hW, h2, h3⟩ := h
  subst h1 h2 h3
  have hsz := hW.sz
  have el : ((pg.up.map oI).map Dz.Slot.dat).length = pg.up.length := by rw [List.length_map, List.length_map]
  refine ds_one (d1_ret (s := .dat (sidesL pg)) (DE.dv (de_lcR (m := (pg.up.length : Int) + 2) (O2 := O') 1 (de_add (DE.cast (de_lenO L.len (dv_up (hr.mono (show 1 ≤ 2 by decide)) hP (dv_var 0 rfl)) hP.hu) (by rw [el])) de_int) (fun j acc O2 => acc = (List.range j).map (fun i : Nat => D.str (sdN (numP pg (i : Int)))) ∧ O2 = O') ⟨rfl, rfl⟩ (lc_fun (F := fun i : Nat => D.str (sdN (numP pg (i : Int)))) fun j hj => fun _ _ _ _ _ => de_ixL (ds := [.str "gone", .str "outside", .str "inside", .str "zone"]) (de_lst (ds := [.str "gone", .str "outside", .str "inside", .str "zone"]) (da_d de_str (da_d de_str (da_d de_str (da_d de_str da_nil)))) (by show 4 ≤ 10000; decide)) (de_callH G hr (da_v (dv_var 0 rfl) (da_d (de_var 1) da_nil)) ⟨a, u, g, pg, (j : Int), rfl, hP, hW, rfl, rfl⟩) (atI_nm (numP_bd pg _)))
    (fun acc O2 ⟨q1, q2⟩ => ⟨q1, q2⟩) (by omega) (by omega) L.range scLSides.nd (blkOk_by (own := [("x", 1)]) (N := ["p", "x"]) (sc := defScope s_law_sides) (by decide +kernel)))) ⟨?_, rfl⟩)
  rfl
end
end Dg

namespace Dg
open PySem PySem.Spec PyProof.Rows L2 GxR Dz
/-! ### what is kept: a copied page, the state, the step and the moments before it -/
structure Row where
  r : Addr
  a : Addr
  u : Addr
  g : Addr
def Row.ads (w : Row) : List Addr := [w.r, w.a, w.u, w.g]
def rowOD (c : Cf) (w : Row) (hs : List Stp) (k : Nat) (st : Stp) : OD := .lst [.val (.ref w.a), .dat (.int (runC c (hs.take k)).i), .dat (stD st), .dat (.lst (tell c hs k))]
structure RowO (O : OH) (c : Cf) (hs : List Stp) (k : Nat) (st : Stp) (w : Row) : Prop where
  hr : O w.r = some (rowOD c w hs k st)
  hp : PgO O w.a w.u w.g (runC c (hs.take k)).pg
theorem RowO.same {O O' : OH} {c : Cf} {hs : List Stp} {k : Nat} {st : Stp} {w : Row} (h : RowO O c hs k st w) (e : ∀ q ∈ w.ads, O' q = O q) : RowO O' c hs k st w := by
  refine ⟨by rw [e w.r (by simp [Row.ads])]; exact h.hr, ⟨by rw [e w.a (by simp [Row.ads])]; exact h.hp.ha, by rw [e w.u (by simp [Row.ads])]; exact h.hp.hu, by rw [e w.g (by simp [Row.ads])]; exact h.hp.hg, h.hp.au, h.hp.ag, h.hp.ug⟩⟩
def keptOD (ws : List Row) : OD := .lst (ws.map fun w => .val (.ref w.r))
/-- the steps of the rows, as kept -/
structure KeptO (O : OH) (c : Cf) (hs : List Stp) (kp : Addr) (ws : List Row) : Prop where
  hk : O kp = some (keptOD ws)
  len : ws.length = hs.length
  row : ∀ k st w, hs[k]? = some st → ws[k]? = some w → RowO O c hs k st w
  ne : ∀ w ∈ ws, w.r ≠ kp
section
variable {P : Program} {w : World} {K : PySem.W.Frag} {mg : Str → Option Value} {base : Heap} {T : List Addr} {CE fI : Addr}
theorem ok_stD (st : Stp) (n : Nat) : D.ok (n + 1) (stD st) = true := by
  refine (show ∀ ds, stD st = .tup ds → (∀ d ∈ ds, D.ok n d = true) → D.ok (n + 1) (stD st) = true from fun ds e h => by rw [e]; exact ok_tup h) (match st with
    | .add x => [.str "add", .int x]
    | .rem x => [.str "remove", .int x]
    | .plc x y => [.str "place", .int x, .int y]
    | .pnt x s => [.str "point", .int x, .int s]
    | .slp x s => [.str "slip", .int x, .int s]
    | .out s => [.str "out", .int s]
    | .drp b s => [.str "drop", .bl b, .int s]
    | .cnc b s => [.str "cancel", .bl b, .int s]) (by cases st <;> rfl) fun d hd => ?_
  cases st <;> simp only [List.mem_cons, List.not_mem_nil, or_false] at hd <;> rcases hd with rfl | rfl | rfl <;> first | exact ok_s _ _ | exact ok_i _ _ | exact ok_b _ _
theorem ok_steps_l (hs : List Stp) (n : Nat) : D.ok (n + 2) (.lst (hs.map stD)) = true := ok_lst fun d hd => by
  obtain ⟨st, _, rfl⟩ := List.mem_map.mp hd
  exact ok_stD st n
theorem ok_sides (pg : Pg) (n : Nat) : D.ok (n + 1) (sidesL pg) = true := ok_lst fun d hd => by
  obtain ⟨i, _, rfl⟩ := List.mem_map.mp hd
  exact ok_s _ _
def pLSame (CG CS CL : Addr) (ss : List Dz.Slot) (O : OH) (d : D) (O' : OH) : Prop := ∃ (c : Cf) (s tk kp a u g : Addr) (hs : List Stp) (ws : List Row), ss = [.val (.ref s), .val (.ref kp), .val (.ref a)] ∧ StgO O c CG CS CL s tk hs ∧ RunOk c hs ∧ hs.length ≤ 60 ∧ KeptO O c hs kp ws ∧ PgO O a u g (runC c hs).pg ∧ d = .bl true ∧ O' = O
theorem scLSame : FnScope ["stage", "kept", "p", "told", "row", "x"] ["stage", "kept", "p"] (defScope s_law_same_look) := ⟨rfl, rfl, rfl, by decide +kernel, rfl, by decide +kernel, by decide +kernel⟩
theorem ok_lsame {f CG CS CL : Addr} {fd : FuncData} {cdv : Value} (F : FunC K "_law_same_look" "_law_same_look" s_law_same_look f fd cdv) (L : Blt mg) (AG : FldG K CG) (M1 : HasM P w K mg base CX0 6 CG "is_hovered" ["self"] (spF T K (pIsHov CG CS CL))) (M2 : HasM P w K mg base CX0 1 CG "steps" ["self"] (spF T K (pSteps CG CS CL))) (M3 : HasM P w K mg base CX0 5 CG "side" ["self", "element"] (spF T K (pSide CG CS CL)))
    (G1 : HasF P w K mg base CX0 3 "_law_is_hovered" ["p"] (spF T K pLHov)) (G2 : HasF P w K mg base CX0 3 "_law_sides" ["p"] (spF T K pLSides)) : FnOk P w K mg base CX0 7 f fd ["stage", "kept", "p"] (spF T K (pLSame CG CS CL)) := by
  obtain ⟨_, _, Gh, mh, bh⟩ := M1
  obtain ⟨_, _, Gs, ms, bs⟩ := M2
  obtain ⟨_, _, Gi, mi, bi⟩ := M3
  refine fn_ok (CE := (0 : Addr)) (R := pLSame CG CS CL) F scLSame (fun ss O d O' ⟨_, _, _, _, _, _, _, _, _, h, _⟩ => by rw [h]; rfl) fun A outer s0 H E ss O d O' hr h => ?_
  obtain ⟨c, s, tk, kp, a, u, g, hs, ws, h1, hS, hR, hl, hK, hP, h2, h3⟩ := h
  subst h1 h2 h3
  obtain ⟨R, hz⟩ := run_Rl hR (by omega)
  have hW := R.wf
  have hr1 := hr.mono (show 1 ≤ 6 by decide)
  have hr3 := hr.mono (show 3 ≤ 6 by decide)
  refine ds_cons (d1_set 3 (s := .dat (.bl (hovP (runC c hs).pg))) (DE.dv (de_meth0 AG.cl mh Gh hr bh (dv_var 0 rfl) hS.hs' (stF_no (by decide +kernel)) ⟨c, s, tk, hs, rfl, hS, hR, hl, rfl, rfl⟩)) ?_ scLSame.nd)
  have hkl := hK.len
  refine ds_cons (d1_if (p := false) (DW.dt (dw_or (p := false) (q := false) (DT.cast (dt_ne (x := .lst (hs.map stD)) (y := .lst (hs.map stD)) hr1 (ok_steps_l hs 30) (ok_steps_l hs 30) (de_meth0 AG.cl ms Gs hr1 bs (dv_var 0 rfl) hS.hs' (stF_no (by decide +kernel)) ⟨c, s, tk, hs, rfl, hS, hl, rfl, rfl⟩) (de_lcO (out := hs.map stD) 4 (dv_var 1 rfl) hK.hk (fun j acc => acc = (hs.take j).map stD) rfl (fun j sl acc hj ha => ?_) (fun acc ha => by rw [ha, List.length_map, hkl, List.take_length]) (by rw [List.length_map]; omega) scLSame.nd (blkOk_by (own := [("row", 4)]) (N := ["stage", "kept", "p", "told", "row", "x"]) (sc := defScope s_law_same_look) (by decide +kernel)))) (by rw [deq_refl (ok_steps_l hs 30)]; rfl)) fun _ =>
    dw_or (p := false) (q := false) (DT.cast (dt_not (dt_val (de_isBool (x := .bl (hovP (runC c hs).pg)) L (.bl _) (de_var 3)))) rfl) fun _ => dw_or1 (DT.cast (dt_ne (x := .bl (hovP (runC c hs).pg)) (y := .bl (hovP (runC c hs).pg)) hr1 (by rfl) (by rfl) (de_var 3) (de_callH G1 hr3 (da_v (dv_var 2 rfl) da_nil) ⟨a, u, g, _, rfl, hP, hW, rfl, rfl⟩)) (by rw [deq_refl (n := 32) (by rfl)]; rfl)))) (fun z => by cases z) fun _ => ds_nil ?_)
  · have hjl : j < ws.length := by
      have := (List.getElem?_eq_some_iff.mp hj).1
      rw [List.length_map] at this
      exact this
    rw [List.getElem?_map, List.getElem?_eq_getElem hjl] at hj
    cases hj
    obtain ⟨st, est⟩ : ∃ st, hs[j]? = some st := ⟨_, List.getElem?_eq_getElem (by omega)⟩
    have hrow := hK.row j st ws[j] est (List.getElem?_eq_getElem hjl)
    have hne := hK.ne ws[j] (List.getElem_mem hjl)
    refine ⟨true, _, difs_nil, fun _ => ⟨stD st, _, fun _ _ _ _ _ => DV.de (dv_ixOG (dv_var 4 rfl) de_int (by rw [cut_ne hne]; exact hrow.hr) rfl), ?_, rfl⟩, fun z => by cases z⟩
    rw [ha, List.take_add_one, est, List.map_append]
    rfl
  have hsz := hW.sz
  have el : (((runC c hs).pg.up.map oI).map Dz.Slot.dat).length = (runC c hs).pg.up.length := by rw [List.length_map, List.length_map]
  refine ds_one (d1_ret (s := .dat (.bl true)) (DE.dv (DE.cast (de_eq (x := sidesL (runC c hs).pg) (y := sidesL (runC c hs).pg) hr1 (ok_sides _ 31) (ok_sides _ 31) (de_lcR (m := ((runC c hs).pg.up.length : Int) + 2) (O2 := O') 5 (de_add (DE.cast (de_lenO L.len (dv_up hr1 hP (dv_var 2 rfl)) hP.hu) (by rw [el])) de_int) (fun j acc O2 => acc = (List.range j).map (fun i : Nat => D.str (sdN (numP (runC c hs).pg (i : Int)))) ∧ O2 = O') ⟨rfl, rfl⟩ (lc_fun (F := fun i : Nat => D.str (sdN (numP (runC c hs).pg (i : Int)))) fun j hj => fun _ _ _ _ _ => de_meth AG.cl mi Gi (hr.mono (show 5 ≤ 6 by decide)) bi (dv_var 0 rfl) hS.hs' (stF_no (by decide +kernel)) (da_d (de_var 5) da_nil) ⟨c, s, tk, hs, (j : Int), rfl, hS, hR, hl, rfl, rfl⟩)
    (fun acc O2 ⟨q1, q2⟩ => ⟨q1, q2⟩) (by omega) (by omega) L.range scLSame.nd (blkOk_by (own := [("x", 5)]) (N := ["stage", "kept", "p", "told", "row", "x"]) (sc := defScope s_law_same_look) (by decide +kernel))) (de_callH G2 hr3 (da_v (dv_var 2 rfl) da_nil) ⟨a, u, g, _, rfl, hP, hW, rfl, rfl⟩)) (by rw [deq_refl (ok_sides _ 31)]))) ⟨rfl, rfl⟩)
end
end Dg

namespace Dg
open PySem PySem.Spec PyProof.Rows L2 GxR Dz
/-! ### what stands in the law, between two steps -/
structure LInv (O : OH) (c : Cf) (CG CS CL : Addr) (hs : List Stp) (b : Addr) (row : List Int) (at_ : Nat) (s tk a u g kp : Addr) (ws : List Row) : Prop where
  hb : O b = some (Bx row at_)
  hS : StgO O c CG CS CL s tk hs
  hP : PgO O a u g (runC c hs).pg
  hK : KeptO O c hs kp ws
  run : RunOk c hs
  nd : [b, s, tk, a, u, g, kp].Nodup
  ndR : (ws.flatMap Row.ads).Nodup
  dis : ∀ x ∈ [b, s, tk, a, u, g, kp], x ∉ ws.flatMap Row.ads
theorem mem_ads {ws : List Row} {w : Row} {q : Addr} (h : w ∈ ws) (k : q ∈ w.ads) : q ∈ ws.flatMap Row.ads := List.mem_flatMap.mpr ⟨w, h, k⟩
section
variable {O O' : OH} {c : Cf} {CG CS CL : Addr} {hs : List Stp} {b : Addr} {row : List Int} {at_ at' : Nat} {s tk a u g kp : Addr} {ws : List Row} {st : Stp}
structure N7 (b s tk a u g kp : Addr) : Prop where
  bs : b ≠ s
  bt : b ≠ tk
  ba : b ≠ a
  bu : b ≠ u
  bg : b ≠ g
  bk : b ≠ kp
  st : s ≠ tk
  sa : s ≠ a
  su : s ≠ u
  sg : s ≠ g
  sk : s ≠ kp
  ta : tk ≠ a
  tu : tk ≠ u
  tg : tk ≠ g
  tk' : tk ≠ kp
  au : a ≠ u
  ag : a ≠ g
  ak : a ≠ kp
  ug : u ≠ g
  uk : u ≠ kp
  gk : g ≠ kp
theorem n7_of (h : [b, s, tk, a, u, g, kp].Nodup) : N7 b s tk a u g kp := by
  simp only [List.nodup_cons, List.mem_cons, List.not_mem_nil, or_false, not_or, not_false_eq_true, List.nodup_nil, and_true] at h
  obtain ⟨⟨h1, h2, h3, h4, h5, h6⟩, ⟨h7, h8, h9, h10, h11⟩, ⟨h12, h13, h14, h15⟩, ⟨h16, h17, h18⟩, ⟨h19, h20⟩, h21⟩ := h
  exact ⟨h1, h2, h3, h4, h5, h6, h7, h8, h9, h10, h11, h12, h13, h14, h15, h16, h17, h18, h19, h20, h21⟩
theorem n7_to (h : N7 b s tk a u g kp) : [b, s, tk, a, u, g, kp].Nodup := by
  obtain ⟨h1, h2, h3, h4, h5, h6, h7, h8, h9, h10, h11, h12, h13, h14, h15, h16, h17, h18, h19, h20, h21⟩ := h
  simp only [List.nodup_cons, List.mem_cons, List.not_mem_nil, or_false, not_or, not_false_eq_true, List.nodup_nil, and_true]
  exact ⟨⟨h1, h2, h3, h4, h5, h6⟩, ⟨h7, h8, h9, h10, h11⟩, ⟨h12, h13, h14, h15⟩, ⟨h16, h17, h18⟩, ⟨h19, h20⟩, h21⟩
theorem LInv.n7 (h : LInv O c CG CS CL hs b row at_ s tk a u g kp ws) : N7 b s tk a u g kp := n7_of h.nd
theorem KeptO.same (h : KeptO O c hs kp ws) (e : O' kp = O kp) (k : ∀ q ∈ ws.flatMap Row.ads, O' q = O q) : KeptO O' c hs kp ws :=
  ⟨e.trans h.hk, h.len, fun i st w e1 e2 => (h.row i st w e1 e2).same fun q hq => k q (mem_ads (List.mem_of_getElem? e2) hq), h.ne⟩
/-- nothing that stands has changed -/
theorem LInv.ext (h : LInv O c CG CS CL hs b row at_ s tk a u g kp ws) (e : ∀ q, O q ≠ none → O' q = O q) : LInv O' c CG CS CL hs b row at_ s tk a u g kp ws := by
  have ne : ∀ {q : Addr} {o : OD}, O q = some o → O' q = O q := fun {q o} k => e q (by rw [k]; exact fun z => by cases z)
  refine ⟨(ne h.hb).trans h.hb, ⟨(ne h.hS.hs').trans h.hS.hs', (ne h.hS.ht).trans h.hS.ht, h.hS.ne⟩, ⟨(ne h.hP.ha).trans h.hP.ha, (ne h.hP.hu).trans h.hP.hu, (ne h.hP.hg).trans h.hP.hg, h.hP.au, h.hP.ag, h.hP.ug⟩, h.hK.same (ne h.hK.hk) (fun q hq => ?_), h.run, h.nd, h.ndR, h.dis⟩
  obtain ⟨w, hw, hq⟩ := List.mem_flatMap.mp hq
  obtain ⟨k, hk, rfl⟩ := List.getElem_of_mem hw
  have hkl := h.hK.len
  have hr := h.hK.row k hs[k] ws[k] (List.getElem?_eq_getElem (by omega)) (List.getElem?_eq_getElem hk)
  simp only [Row.ads, List.mem_cons, List.not_mem_nil, or_false] at hq
  rcases hq with rfl | rfl | rfl | rfl
  · exact ne hr.hr
  · exact ne hr.hp.ha
  · exact ne hr.hp.hu
  · exact ne hr.hp.hg
theorem LInv.off (h : LInv O c CG CS CL hs b row at_ s tk a u g kp ws) {x : Addr} (hx : x ∈ [b, s, tk, a, u, g, kp]) : ∀ q ∈ ws.flatMap Row.ads, q ≠ x := fun q hq z => h.dis x hx (by rw [← z]; exact hq)
theorem LInv.draw (h : LInv O c CG CS CL hs b row at_ s tk a u g kp ws) : LInv (put O b (Bx row at')) c CG CS CL hs b row at' s tk a u g kp ws := by
  have n := h.n7
  refine ⟨put_same, ⟨by rw [put_ne (Ne.symm n.bs)]; exact h.hS.hs', by rw [put_ne (Ne.symm n.bt)]; exact h.hS.ht, n.st⟩, h.hP.over (Ne.symm n.ba) (Ne.symm n.bu) (Ne.symm n.bg), h.hK.same (put_ne (Ne.symm n.bk)) (fun q hq => put_ne (h.off (by simp) q hq)), h.run, h.nd, h.ndR, h.dis⟩
/-- undone -/
theorem LInv.undo {ws' : List Row} {w : Row} {hs' : List Stp} (h : LInv O c CG CS CL (hs' ++ [st]) b row at_ s tk a u g kp (ws' ++ [w])) : LInv (put (stgPut O c CG CS CL s tk hs') kp (keptOD ws')) c CG CS CL hs' b row at_ s tk w.a w.u w.g kp ws' := by
  have n := h.n7
  have hkl := h.hK.len
  rw [List.length_append, List.length_append] at hkl
  have hkl : ws'.length = hs'.length := by simpa using hkl
  have fm : (ws' ++ [w]).flatMap Row.ads = ws'.flatMap Row.ads ++ w.ads := by rw [List.flatMap_append]; simp
  have hdis := h.dis
  have hndR := h.ndR
  rw [fm] at hdis hndR
  have nd2 := List.nodup_append.mp hndR
  have wn : w.ads.Nodup := nd2.2.1
  have wn' : (w.r ≠ w.a ∧ w.r ≠ w.u ∧ w.r ≠ w.g) ∧ (w.a ≠ w.u ∧ w.a ≠ w.g) ∧ w.u ≠ w.g := by
    simpa [Row.ads] using wn
  have offw : ∀ x ∈ [b, s, tk, a, u, g, kp], x ≠ w.r ∧ x ≠ w.a ∧ x ≠ w.u ∧ x ≠ w.g := fun x hx => by
    have := hdis x hx
    simp only [List.mem_append, Row.ads, List.mem_cons, List.not_mem_nil, or_false, not_or] at this
    exact this.2
  have offr : ∀ q ∈ ws'.flatMap Row.ads, ∀ x ∈ [b, s, tk, a, u, g, kp], q ≠ x := fun q hq x hx z => hdis x hx (List.mem_append.mpr (.inl (by rw [← z]; exact hq)))
  have keep : ∀ q, q ≠ kp → q ≠ s → q ≠ tk → put (stgPut O c CG CS CL s tk hs') kp (keptOD ws') q = O q := fun q h1 h2 h3 => by rw [put_ne h1, stgput_ne h2 h3]
  have hr := h.hK.row hs'.length st w (by rw [List.getElem?_append_right (Nat.le_refl _), Nat.sub_self]; rfl) (by rw [← hkl, List.getElem?_append_right (Nat.le_refl _), Nat.sub_self]; rfl)
  have hrp := hr.hp
  rw [take_snoc (Nat.le_refl _), List.take_length] at hrp
  obtain ⟨b1, b2, b3, b4⟩ := offw b (by simp)
  obtain ⟨s1, s2, s3, s4⟩ := offw s (by simp)
  obtain ⟨t1, t2, t3, t4⟩ := offw tk (by simp)
  obtain ⟨k1, k2, k3, k4⟩ := offw kp (by simp)
  refine ⟨(keep b n.bk n.bs n.bt).trans h.hb, ⟨?_, ?_, n.st⟩, ⟨(keep _ (Ne.symm k2) (Ne.symm s2) (Ne.symm t2)).trans hrp.ha, (keep _ (Ne.symm k3) (Ne.symm s3) (Ne.symm t3)).trans hrp.hu, (keep _ (Ne.symm k4) (Ne.symm s4) (Ne.symm t4)).trans hrp.hg, hrp.au, hrp.ag, hrp.ug⟩, ⟨put_same, hkl, fun k t v e1 e2 => ?_, fun v hv => h.hK.ne v (List.mem_append.mpr (.inl hv))⟩, h.run.init, n7_to ⟨n.bs, n.bt, b2, b3, b4, n.bk, n.st, s2, s3, s4, n.sk, t2, t3, t4, n.tk', wn'.2.1.1, wn'.2.1.2, Ne.symm k2, wn'.2.2, Ne.symm k3, Ne.symm k4⟩, nd2.1, fun x hx => ?_⟩
  · rw [put_ne n.sk]; exact (stgput_ok (O := O) (c := c) (CG := CG) (CS := CS) (CL := CL) (hs := hs') n.st).hs'
  · rw [put_ne n.tk']; exact (stgput_ok (O := O) (c := c) (CG := CG) (CS := CS) (CL := CL) (hs := hs') n.st).ht
  · have hk : k < hs'.length := (List.getElem?_eq_some_iff.mp e1).1
    have q := h.hK.row k t v (by rw [List.getElem?_append_left hk]; exact e1) (by rw [List.getElem?_append_left (by omega)]; exact e2)
    have q2 : RowO O c hs' k t v := by
      refine ⟨?_, ?_⟩
      · have e := q.hr
        unfold rowOD at e ⊢
        rw [take_snoc (by omega), tell_snoc c hs' st k (by omega)] at e
        exact e
      · have e := q.hp
        rw [take_snoc (by omega)] at e
        exact e
    exact q2.same fun x hx => by
      have hx' : x ∈ ws'.flatMap Row.ads := mem_ads (List.mem_of_getElem? e2) hx
      exact keep x (offr x hx' kp (by simp)) (offr x hx' s (by simp)) (offr x hx' tk (by simp))
  · intro z
    have hx' : x = b ∨ x = s ∨ x = tk ∨ x = kp ∨ x ∈ w.ads := by
      simp only [List.mem_cons, List.not_mem_nil, or_false] at hx
      rcases hx with e | e | e | e | e | e | e
      · exact .inl e
      · exact .inr (.inl e)
      · exact .inr (.inr (.inl e))
      · exact .inr (.inr (.inr (.inr (by rw [e]; simp [Row.ads]))))
      · exact .inr (.inr (.inr (.inr (by rw [e]; simp [Row.ads]))))
      · exact .inr (.inr (.inr (.inr (by rw [e]; simp [Row.ads]))))
      · exact .inr (.inr (.inr (.inl e)))
    rcases hx' with e | e | e | e | e
    · exact offr x z b (by simp) e
    · exact offr x z s (by simp) e
    · exact offr x z tk (by simp) e
    · exact offr x z kp (by simp) e
    · exact nd2.2.2 x z x e rfl
/-- a step taken: O is what stood, with the copied page and the row beside -/
theorem LInv.take {w : Row} (h : LInv O c CG CS CL hs b row at_ s tk a u g kp ws) (hk : StepOk (runC c hs) st) (hw : PgO O w.a w.u w.g (runC c hs).pg) (hr : O w.r = some (rowOD c w hs hs.length st)) (hn : w.ads.Nodup) (hd : ∀ x ∈ [b, s, tk, a, u, g, kp], x ∉ w.ads) (hd2 : ∀ x ∈ ws.flatMap Row.ads, x ∉ w.ads) :
    LInv (put (stgPut (pgPut O a u g (adv c (runC c hs) st).pg) c CG CS CL s tk (hs ++ [st])) kp (keptOD (ws ++ [w]))) c CG CS CL (hs ++ [st]) b row at_ s tk a u g kp (ws ++ [w]) := by
  have n := h.n7
  have fm : (ws ++ [w]).flatMap Row.ads = ws.flatMap Row.ads ++ w.ads := by rw [List.flatMap_append]; simp
  have keep : ∀ q, q ≠ kp → q ≠ s → q ≠ tk → q ≠ a → q ≠ u → q ≠ g → put (stgPut (pgPut O a u g (adv c (runC c hs) st).pg) c CG CS CL s tk (hs ++ [st])) kp (keptOD (ws ++ [w])) q = O q := fun q h1 h2 h3 h4 h5 h6 => by rw [put_ne h1, stgput_ne h2 h3, pgput_ne h4 h5 h6]
  have offr : ∀ q, (q ∈ ws.flatMap Row.ads ∨ q ∈ w.ads) → ∀ x ∈ [b, s, tk, a, u, g, kp], q ≠ x := fun q hq x hx z => by
    rcases hq with hq | hq
    · exact h.dis x hx (by rw [← z]; exact hq)
    · exact hd x hx (by rw [← z]; exact hq)
  have keepR : ∀ q, (q ∈ ws.flatMap Row.ads ∨ q ∈ w.ads) → put (stgPut (pgPut O a u g (adv c (runC c hs) st).pg) c CG CS CL s tk (hs ++ [st])) kp (keptOD (ws ++ [w])) q = O q := fun q hq =>
    keep q (offr q hq kp (by simp)) (offr q hq s (by simp)) (offr q hq tk (by simp)) (offr q hq a (by simp)) (offr q hq u (by simp)) (offr q hq g (by simp))
  have hpp := h.hP.put (adv c (runC c hs) st).pg
  refine ⟨(keep b n.bk n.bs n.bt n.ba n.bu n.bg).trans h.hb, ⟨?_, ?_, n.st⟩, ?_, ⟨put_same, by rw [List.length_append, List.length_append, h.hK.len]; rfl, fun k t v e1 e2 => ?_, fun v hv => ?_⟩, h.run.snoc hk, h.nd, ?_, fun x hx => ?_⟩
  · rw [put_ne n.sk]; exact (stgput_ok (O := pgPut O a u g (adv c (runC c hs) st).pg) (c := c) (CG := CG) (CS := CS) (CL := CL) (hs := hs ++ [st]) n.st).hs'
  · rw [put_ne n.tk']; exact (stgput_ok (O := pgPut O a u g (adv c (runC c hs) st).pg) (c := c) (CG := CG) (CS := CS) (CL := CL) (hs := hs ++ [st]) n.st).ht
  · rw [run_snoc]
    refine ⟨?_, ?_, ?_, n.au, n.ag, n.ug⟩
    · rw [put_ne n.ak, stgput_ne (Ne.symm n.sa) (Ne.symm n.ta)]; exact hpp.ha
    · rw [put_ne n.uk, stgput_ne (Ne.symm n.su) (Ne.symm n.tu)]; exact hpp.hu
    · rw [put_ne n.gk, stgput_ne (Ne.symm n.sg) (Ne.symm n.tg)]; exact hpp.hg
  · rcases Nat.lt_or_ge k hs.length with q | q
    · rw [List.getElem?_append_left q] at e1
      rw [List.getElem?_append_left (by rw [h.hK.len]; exact q)] at e2
      have old := h.hK.row k t v e1 e2
      have old2 : RowO O c (hs ++ [st]) k t v := by
        refine ⟨?_, ?_⟩
        · unfold rowOD
          rw [take_snoc (by omega), tell_snoc c hs st k (by omega)]
          exact old.hr
        · rw [take_snoc (by omega)]
          exact old.hp
      exact old2.same fun x hx => keepR x (.inl (mem_ads (List.mem_of_getElem? e2) hx))
    · have hk' : k = hs.length := by
        have := (List.getElem?_eq_some_iff.mp e1).1
        rw [List.length_append] at this
        have : k < hs.length + 1 := this
        omega
      subst hk'
      rw [List.getElem?_append_right (Nat.le_refl _), Nat.sub_self] at e1
      rw [List.getElem?_append_right (by rw [h.hK.len]; exact Nat.le_refl _), h.hK.len, Nat.sub_self] at e2
      cases e1
      cases e2
      have new : RowO O c (hs ++ [st]) hs.length st w := by
        refine ⟨?_, ?_⟩
        · unfold rowOD
          rw [take_snoc (Nat.le_refl _), tell_snoc c hs st hs.length (Nat.le_refl _)]
          exact hr
        · rw [take_snoc (Nat.le_refl _), List.take_length]
          exact hw
      exact new.same fun x hx => keepR x (.inr hx)
  · rcases List.mem_append.mp hv with q | q
    · exact h.hK.ne v q
    · rw [List.mem_singleton.mp q]
      exact fun z => hd kp (by simp) (by rw [← z]; simp [Row.ads])
  · rw [fm]
    exact List.nodup_append.mpr ⟨h.ndR, hn, fun x hx y hy z => hd2 x hx (by rw [z]; exact hy)⟩
  · rw [fm, List.mem_append]
    rintro (z | z)
    · exact h.dis x hx z
    · exact hd x hx z
end
end Dg

namespace Dz
open PySem PySem.Spec PyProof.Rows L2 GxR
theorem dvn_call0 {T : List Addr} {X : Cx} {CE : Addr} {ρ : List Slot} {O : OH} {pos : Pos} {R : Slot → OH → Prop} {Rx : D → OH → Prop} {P : PR} {k : Nat} {f : Addr} {fd : FuncData} {ps : List Str} {n : Str} {p : Pos} (F : FnOk X.prog X.w X.K X.mg X.base (L2.CX X.prog X.w) k f fd ps (spX T X.K CE P)) (hr : Room k X.A) (hm : X.mg n = some (.ref f)) (hk : PySem.W.keepIn X.K (.ref f) = true) (hb : Binds X.K fd ps [])
    (h : P [] O R (fun _ _ => False)) (hg : Gl X n := by rfl) (hdb : (n == ("__debug__" : Str)) = false := by decide) : DVX T X CE (.Call (.Name n p) [] [] pos) ρ O R Rx := fun σ B H hE hA Q W tk q _ =>
  we_of (pe_call0 (E := fun _ _ _ => False) F hr hg hm hk hb .nil passF hdb) (by
    show spX T X.K CE P ([] ++ []) H Q (fun _ _ _ => False)
    exact ⟨[], B, O, _, _, h, .nil, hA, fun s' O' v B2 H2 h2 p2 r2 => q s' O' v B2 H2 h2 p2 r2, fun r O' v dd B2 H2 h2 _ _ _ => h2.elim⟩)
end Dz
namespace Dg
open PySem PySem.Spec PyProof.Rows L2 GxR Dz
/-! ### the law -/
theorem toldC_ok (c : Cf) (x : Sc5) (st : Stp) (n : Nat) : D.ok (n + 4) (toldC c x st) = true := by
  unfold toldC told
  split
  · exact ok_n _
  · unfold tkT
    have hsig := thear_sig (pg := x.pg) (p := c.p) (ks := c.ks) (sg := c.sg) (s := stpS st) (evs := pevs x.pg st) (pevs x.pg st).length
    refine ok_tup fun d hd => ?_
    simp only [List.mem_cons, List.not_mem_nil, or_false] at hd
    rcases hd with rfl | rfl | rfl | rfl
    · exact ok_lst fun d hd => (hsig d hd).ok n.succ
    · exact ok_i _ _
    · exact ok_b _ _
    · exact ok_b _ _
theorem tolD_ok (c : Cf) (x : Sc5) (st : Stp) : D.ok 32 (tolD c x st) = true := by
  unfold tolD
  split
  · exact ok_lst fun d hd => by rw [List.mem_singleton.mp hd]; exact toldC_ok c x st 27
  · exact ok_s _ _
theorem tell_ok (c : Cf) (hs : List Stp) : ∀ j, ∀ d ∈ tell c hs j, D.ok 31 d = true
  | 0, d, h => by cases h
  | j + 1, d, h => by
    unfold tell at h
    split at h
    · rcases List.mem_append.mp h with h | h
      · exact tell_ok c hs j d h
      · split at h
        · cases h
        · rw [List.mem_singleton.mp h]
          exact toldC_ok _ _ _ 27
    · exact tell_ok c hs j d h
theorem tell_next (c : Cf) (hs : List Stp) (st : Stp) : tell c (hs ++ [st]) (hs ++ [st]).length = tell c hs hs.length ++ (if isCh st = true then [] else [toldC c (runC c hs) st]) := by
  rw [List.length_append, show hs.length + [st].length = hs.length + 1 from rfl, tell, List.getElem?_append_right (Nat.le_refl _), Nat.sub_self]
  show tell c (hs ++ [st]) hs.length ++ (if isCh st = true then [] else [toldC c (runC c ((hs ++ [st]).take hs.length)) st]) = _
  rw [tell_snoc c hs st hs.length (Nat.le_refl _), take_snoc (Nat.le_refl _), List.take_length]
theorem deq_tol_np {c : Cf} {x : Sc5} {st : Stp} : (!deq (tolD c x st) (.str "not possible")) = canP x.pg st := by
  unfold tolD
  cases h : canP x.pg st with
  | true =>
    rw [if_pos rfl]
    simp [deq, D.py, PyData.eqv]
  | false =>
    rw [if_neg (by simp), deq_str]
    simp
theorem deq_told_non {c : Cf} {x : Sc5} {st : Stp} : (!deq (.lst [toldC c x st]) (.lst [.non])) = !isCh st := by
  unfold toldC told tkT
  cases h : isCh st with
  | true =>
    rw [if_pos rfl]
    simp [deq, D.py, D.pys, PyData.eqv, PyData.eqvAll]
  | false =>
    rw [if_neg (by simp)]
    simp [deq, D.py, D.pys, PyData.eqv, PyData.eqvAll]
/-- all that stands is owned -/
theorem LInv.own {O : OH} {c : Cf} {CG CS CL : Addr} {hs : List Stp} {b : Addr} {row : List Int} {at_ : Nat} {s tk a u g kp : Addr} {ws : List Row} (h : LInv O c CG CS CL hs b row at_ s tk a u g kp ws) : (∀ x ∈ [b, s, tk, a, u, g, kp], O x ≠ none) ∧ ∀ x ∈ ws.flatMap Row.ads, O x ≠ none := by
  refine ⟨fun x hx => ?_, fun x hx => ?_⟩
  · simp only [List.mem_cons, List.not_mem_nil, or_false] at hx
    rcases hx with rfl | rfl | rfl | rfl | rfl | rfl | rfl
    · rw [h.hb]; exact fun z => by cases z
    · rw [h.hS.hs']; exact fun z => by cases z
    · rw [h.hS.ht]; exact fun z => by cases z
    · rw [h.hP.ha]; exact fun z => by cases z
    · rw [h.hP.hu]; exact fun z => by cases z
    · rw [h.hP.hg]; exact fun z => by cases z
    · rw [h.hK.hk]; exact fun z => by cases z
  · obtain ⟨w, hw, hq⟩ := List.mem_flatMap.mp hx
    obtain ⟨k, hk, rfl⟩ := List.getElem_of_mem hw
    have hkl := h.hK.len
    have hr := h.hK.row k hs[k] ws[k] (List.getElem?_eq_getElem (by omega)) (List.getElem?_eq_getElem hk)
    simp only [Row.ads, List.mem_cons, List.not_mem_nil, or_false] at hq
    rcases hq with rfl | rfl | rfl | rfl
    · rw [hr.hr]; exact fun z => by cases z
    · rw [hr.hp.ha]; exact fun z => by cases z
    · rw [hr.hp.hu]; exact fun z => by cases z
    · rw [hr.hp.hg]; exact fun z => by cases z
/-- a copied page and a row are laid beside what stands -/
theorem LInv.beside {O : OH} {c : Cf} {CG CS CL : Addr} {hs : List Stp} {b : Addr} {row : List Int} {at_ : Nat} {s tk a u g kp : Addr} {ws : List Row} (h : LInv O c CG CS CL hs b row at_ s tk a u g kp ws) {w : Row} {pg : Pg} {od : OD} (h1 : O w.a = none) (h2 : O w.u = none) (h3 : O w.g = none) (n1 : w.a ≠ w.u) (n2 : w.a ≠ w.g) (n3 : w.u ≠ w.g) (h4 : pgPut O w.a w.u w.g pg w.r = none) :
    LInv (put (pgPut O w.a w.u w.g pg) w.r od) c CG CS CL hs b row at_ s tk a u g kp ws ∧ PgO (put (pgPut O w.a w.u w.g pg) w.r od) w.a w.u w.g pg ∧ w.ads.Nodup ∧ (∀ x ∈ [b, s, tk, a, u, g, kp], x ∉ w.ads) ∧ (∀ x ∈ ws.flatMap Row.ads, x ∉ w.ads) := by
  have hP : PgO (pgPut O w.a w.u w.g pg) w.a w.u w.g pg := pgput_ok n1 n2 n3
  obtain ⟨r1, r2, r3⟩ := hP.apart h4
  have hr0 : O w.r = none := by
    rw [pgput_ne (Ne.symm r1) (Ne.symm r2) (Ne.symm r3)] at h4
    exact h4
  have ne : ∀ {q : Addr}, O q ≠ none → q ∉ w.ads := fun {q} hq z => by
    simp only [Row.ads, List.mem_cons, List.not_mem_nil, or_false] at z
    rcases z with rfl | rfl | rfl | rfl
    · exact hq hr0
    · exact hq h1
    · exact hq h2
    · exact hq h3
  obtain ⟨o1, o2⟩ := h.own
  refine ⟨h.ext fun q hq => ?_, hP.over r1 r2 r3, ?_, fun x hx => ne (o1 x hx), fun x hx => ne (o2 x hx)⟩
  · have := ne hq
    simp only [Row.ads, List.mem_cons, List.not_mem_nil, or_false, not_or] at this
    rw [put_ne this.1, pgput_ne this.2.1 this.2.2.1 this.2.2.2]
  · simp only [Row.ads, List.nodup_cons, List.mem_cons, List.not_mem_nil, or_false, not_or, not_false_eq_true, List.nodup_nil, and_true]
    exact ⟨⟨Ne.symm r1, Ne.symm r2, Ne.symm r3⟩, ⟨n1, n2⟩, n3⟩
end Dg

namespace Dg
open PySem PySem.Spec PyProof.Rows L2 GxR Dz
section
variable {P : Program} {w : World} {K : PySem.W.Frag} {mg : Str → Option Value} {base : Heap} {T : List Addr} {CE fI : Addr}
theorem scLaw : FnScope ["script", "box", "turn", "setup", "listener", "stage", "p", "state", "kept", "moments", "again", "told", "step", "before", "due", "row"] ["script"] (defScope sLaw) := ⟨rfl, rfl, rfl, by decide +kernel, rfl, by decide +kernel, by decide +kernel⟩
def pLaw : PR := fun ss O Rn Rx => ∃ ns : List Int, ss = [.dat (.kst (ns.map .int))] ∧ Rn = (fun v _ => v = .dat (.bl true)) ∧ Rx = fun _ _ => False
/-- the slots in the inner loop -/
def LR (ns : List Int) (b : Addr) (j : Nat) (c : Cf) (s a kp : Addr) (hs : List Stp) (s10 s11 s12 s13 s14 s15 : Dz.Slot) : List Dz.Slot :=
  [.dat (.kst (ns.map .int)), .val (.ref b), .dat (.int (j : Int)), .dat c.sD, .dat (liD c), .val (.ref s), .val (.ref a), .dat (.int (runC c hs).i), .val (.ref kp), .dat (.lst (tell c hs hs.length)), s10, s11, s12, s13, s14, s15]
theorem ok_law {f CG CS CL gi : Addr} {fd gid : FuncData} {cdv : Value} (F : FunC K "law" "law" sLaw f fd cdv) (L : Blt mg) (AG : FldG K CG) (MG : Mk K CG gi) (gG : mg "Stage" = some (.ref CG)) (GI : FnOk P w K mg base (L2.CX P w) 8 gi gid ["self", "setup", "listener"] (spX T K CE (pStgI CG CS CL))) (bI : Binds K gid ["self", "setup", "listener"] [])
    (MU : HasM P w K mg base CX0 2 CG "undo" ["self"] (spF T K (pUndo CG CS CL)))
    (Frow : HasF P w K mg base CX0 2 "_law_row" ["script", "first", "last"] (spF T K pRow)) (Fset : HasF P w K mg base CX0 3 "_law_setup" ["box"] (spF T K pLSetup)) (Fli : HasF P w K mg base (L2.CX P w) 3 "_law_listener" ["box", "most"] (spX T K CE pLList)) (Fmk : HasF P w K mg base (L2.CX P w) 6 "_law_made" ["told"] (spX T K CE (pLMade CS))) (Fls : HasF P w K mg base (L2.CX P w) 8 "_law_listening" ["told"] (spX T K CE (pListening CL)))
    (Fpg : HasF P w K mg base (L2.CX P w) 1 "_law_page" [] (spX T K CE pLPage)) (Fdr : HasF P w K mg base CX0 1 "_law_draw" ["box", "many"] (spF T K pDraw)) (Fst : HasF P w K mg base (L2.CX P w) 2 "_law_step" ["box", "p"] (spX T K CE pLStep)) (Fcp : HasF P w K mg base (L2.CX P w) 2 "_law_copied" ["p"] (spX T K CE pCopied)) (Fdu : HasF P w K mg base CX0 5 "_law_due" ["p", "setup", "listener", "state", "step"] (spF T K pLDue))
    (Fto : HasF P w K mg base (L2.CX P w) 9 "_law_told" ["stage", "step"] (spX T K CE (pLTold CG CS CL))) (Fsl : HasF P w K mg base CX0 7 "_law_same_look" ["stage", "kept", "p"] (spF T K (pLSame CG CS CL))) (Fpl : HasF P w K mg base (L2.CX P w) 8 "play" ["setup", "listener", "history"] (spX T K CE (pPlay CS CL))) :
    FnOk P w K mg base (L2.CX P w) 10 f fd ["script"] (spX T K CE pLaw) := by
  obtain ⟨_, _, Gun, mun, bun⟩ := MU
  obtain ⟨_, _, Gli, hli, kli, bli⟩ := Fli
  obtain ⟨_, _, Gmk, hmk, kmk, bmk⟩ := Fmk
  obtain ⟨_, _, Gls, hls, kls, bls⟩ := Fls
  obtain ⟨_, _, Gpg, hpg, kpg, bpg⟩ := Fpg
  obtain ⟨_, _, Gst, hst, kst, bst⟩ := Fst
  obtain ⟨_, _, Gcp, hcp, kcp, bcp⟩ := Fcp
  obtain ⟨_, _, Gto, hto, kto, bto⟩ := Fto
  obtain ⟨_, _, Gpl, hpl, kpl, bpl⟩ := Fpl
  refine fn_okX (R := pLaw) F scLaw (fun ss O Rn Rx ⟨ns, h, _⟩ => by rw [h]; rfl) fun A outer s0 H E ss O Rn Rx hr h => ?_
  obtain ⟨ns, e1, eN, eX⟩ := h
  subst e1 eN eX
  have hr1 := hr.mono (show 1 ≤ 9 by decide)
  have hr2 := hr.mono (show 2 ≤ 9 by decide)
  have hr3 := hr.mono (show 3 ≤ 9 by decide)
  have hr5 := hr.mono (show 5 ≤ 9 by decide)
  have hr6 := hr.mono (show 6 ≤ 9 by decide)
  have hr7 := hr.mono (show 7 ≤ 9 by decide)
  have hr8 := hr.mono (show 8 ≤ 9 by decide)
  refine ds_cons (d1_own 1 (ss := [.dat (.lst ((rowF ns 0 63).map .int)), .dat (.int 0)]) (O1 := O) (da_d (de_callH Frow hr2 (da_d (de_var 0) (da_d de_int (da_d de_int da_nil))) ⟨ns, 0, 63, rfl, by decide, by decide, by decide, by decide, rfl, rfl⟩) (da_d de_int da_nil)) (fun b hb => ?_) scLaw.nd (by show 2 ≤ 10000; decide))
  generalize rowF ns 0 63 = row
  refine ds_cons (d1_forR 2 (m := 2) (O1 := put O b (Bx row 0)) (fun j ρ' O2 => (∃ s2 s3 s4 s5 s6 s7 s8 s9 s10 s11 s12 s13 s14 s15, ρ' = [.dat (.kst (ns.map .int)), .val (.ref b), s2, s3, s4, s5, s6, s7, s8, s9, s10, s11, s12, s13, s14, s15]) ∧ ∃ a, O2 b = some (Bx row a) ∧ a ≤ 600 * j) de_int (by decide) ⟨⟨_, _, _, _, _, _, _, _, _, _, _, _, _, _, rfl⟩, 0, put_same, Nat.le_refl _⟩ scLaw.nd ?_ ?_ L.range (passes_of rfl))
  · rintro j ρ' O2 hj ⟨⟨s2, s3, s4, s5, s6, s7, s8, s9, s10, s11, s12, s13, s14, s15, rfl⟩, a, hOb, hal⟩
    have ha : a ≤ 1200 := by omega
    obtain ⟨p, ks, sg, hsu⟩ := su_ok row a
    have hG : SuG p ks sg := ⟨hsu.p, hsu.k, hsu.s⟩
    have suA1 : suA row a + 3 ≤ a + 11 := Nat.add_le_add_right (suA_le row a) 3
    refine ds_cons (d1_set 3 (s := .dat (suD p ks sg)) (O1 := put O2 b (Bx row (suA row a + 3))) (DE.dv (de_callH Fset hr3 (da_v (dv_var 1 rfl) da_nil) ⟨b, row, a, rfl, hOb, by omega, hsu.eq.symm, rfl⟩)) ?_ scLaw.nd)
    generalize suA row a + 3 = a1 at suA1
    have liA1 := liA_le row a1 (most := 5) (by decide) (by decide)
    obtain ⟨os, eos, hlo⟩ := li_ok row a1 (most := 5) (by decide) (by decide)
    have eli : listD row a1 5 = .lst [.int (liN row a1 5), .lst (os.map .int), .lst (liR row a1 5)] := by unfold listD; rw [eos]
    refine ds_cons (d1_set 4 (s := .dat (.lst [.int (liN row a1 5), .lst (os.map .int), .lst (liR row a1 5)])) (O1 := put O2 b (Bx row (liA row a1 5))) (dv_callX Gli hr3 hli kli bli (da_v (dv_var 1 rfl) (da_d de_int da_nil)) ⟨b, row, a1, 5, rfl, put_same, by decide, by decide, by omega, by rw [eli, put_put], rfl⟩) ?_ scLaw.nd)
    generalize liA row a1 5 = a2 at liA1
    generalize liN row a1 5 = n at hlo
    generalize liR row a1 5 = rs at hlo
    let c : Cf := ⟨p, ks, sg, n, os, rs⟩
    have hC : c.Ok := ⟨hG, hlo⟩
    have hol := hlo.ol
    have eLi : onD (.lst (os.map D.int)) = .lst (os.map .int) := hlo.srt (List.Perm.refl _)
    have pLi : ∀ O3 : OH, pListening CL [.dat (liD c)] O3 (fun s' O' => s' = .dat (c.lI CL) ∧ O' = O3) (fun _ _ => False) := fun O3 => by
      refine ⟨.int n, os.map .int, rs, rfl, .int n, pls_ints (by omega), hlo.plrs, hlo.ok (List.Perm.refl _), ?_, rfl⟩
      rw [eLi]
      rfl
    have pSu : ∀ O3 : OH, pLMade CS [.dat c.sD] O3 (fun s' O' => s' = .dat (c.sI CS) ∧ O' = O3) (fun _ _ => False) := fun O3 => ⟨p, ks, sg, rfl, hG, rfl, rfl⟩
    generalize hO3 : put O2 b (Bx row a2) = O3
    have hb3 : O3 b = some (Bx row a2) := by rw [← hO3]; exact put_same
    show DS T _ _ _ [.dat (.kst (ns.map .int)), .val (.ref b), .dat (.int (j : Int)), .dat c.sD, .dat (liD c), s5, s6, s7, s8, s9, s10, s11, s12, s13, s14, s15] O3 _
    -- the stage
    refine ds_mid (fun ρ' O4 => ∃ s tk, O3 s = none ∧ O3 tk = none ∧ s ≠ tk ∧ ρ' = [.dat (.kst (ns.map .int)), .val (.ref b), .dat (.int (j : Int)), .dat c.sD, .dat (liD c), .val (.ref s), s6, s7, s8, s9, s10, s11, s12, s13, s14, s15] ∧ O4 = stgPut O3 c CG CS CL s tk [])
      (d1_setX (R := fun v O4 => ∃ s tk, O3 s = none ∧ O3 tk = none ∧ s ≠ tk ∧ v = .val (.ref s) ∧ O4 = stgPut O3 c CG CS CL s tk []) 5 (dvx_make MG GI hr gG bI (da_v (dv_callX Gmk hr6 hmk kmk bmk (da_d (de_var 3) da_nil) (pSu O3)) (da_v (dv_callX Gls hr8 hls kls bls (da_d (de_var 4) da_nil) (pLi O3)) da_nil)) fun x hx => ?_) ?_ scLaw.nd) ?_
    · refine ⟨_, _, ⟨c, x, rfl, hC, put_same, rfl, rfl⟩, fun s' O' h => ?_, fun r O' h => h.elim⟩
      obtain ⟨q1, tk, q2, q3, rfl⟩ := h
      refine ⟨q1, x, tk, hx, by rw [put_ne (Ne.symm q3)] at q2; exact q2, q3, rfl, ?_⟩
      funext q
      unfold stgPut put
      by_cases e1 : q = x
      · simp [e1]
      · by_cases e2 : q = tk
        · simp [e2]
        · simp [e1, e2]
    · rintro s' O4 ⟨s, tk, q1, q2, q3, rfl, rfl⟩
      exact ⟨s, tk, q1, q2, q3, rfl, rfl⟩
    rintro ρ' O4 ⟨s, tk, os1, ot1, nst, rfl, rfl⟩
    have hb4 : stgPut O3 c CG CS CL s tk [] b = some (Bx row a2) := by
      rw [stgput_ne (fun z => by rw [z, os1] at hb3; cases hb3) (fun z => by rw [z, ot1] at hb3; cases hb3)]
      exact hb3
    have nbs : b ≠ s := fun z => by rw [z, os1] at hb3; cases hb3
    have nbt : b ≠ tk := fun z => by rw [z, ot1] at hb3; cases hb3
    have hS4 : StgO (stgPut O3 c CG CS CL s tk []) c CG CS CL s tk [] := stgput_ok nst
    generalize stgPut O3 c CG CS CL s tk [] = O4 at hb4 hS4
    -- the page
    refine ds_mid (fun ρ' O5 => ∃ pa u g, O4 pa = none ∧ O4 u = none ∧ O4 g = none ∧ pa ≠ u ∧ pa ≠ g ∧ u ≠ g ∧ ρ' = [.dat (.kst (ns.map .int)), .val (.ref b), .dat (.int (j : Int)), .dat c.sD, .dat (liD c), .val (.ref s), .val (.ref pa), s7, s8, s9, s10, s11, s12, s13, s14, s15] ∧ O5 = pgPut O4 pa u g pg0)
      (d1_setX (R := fun v O5 => ∃ pa u g, O4 pa = none ∧ O4 u = none ∧ O4 g = none ∧ pa ≠ u ∧ pa ≠ g ∧ u ≠ g ∧ v = .val (.ref pa) ∧ O5 = pgPut O4 pa u g pg0) 6 (dvn_call0 Gpg hr1 hpg kpg bpg ⟨rfl, rfl, rfl⟩) ?_ scLaw.nd) ?_
    · rintro s' O5 ⟨pa, u, g, q1, q2, q3, q4, q5, q6, rfl, rfl⟩
      exact ⟨pa, u, g, q1, q2, q3, q4, q5, q6, rfl, rfl⟩
    rintro ρ' O5 ⟨pa, u, g, oa, ou, og, nau, nag, nug, rfl, rfl⟩
    have hP5 : PgO (pgPut O4 pa u g pg0) pa u g pg0 := pgput_ok nau nag nug
    have kee : ∀ {q : Addr} {o : OD}, O4 q = some o → pgPut O4 pa u g pg0 q = some o ∧ q ≠ pa ∧ q ≠ u ∧ q ≠ g := fun {q o} e => by
      have m1 : q ≠ pa := fun z => by rw [z, oa] at e; cases e
      have m2 : q ≠ u := fun z => by rw [z, ou] at e; cases e
      have m3 : q ≠ g := fun z => by rw [z, og] at e; cases e
      exact ⟨by rw [pgput_ne m1 m2 m3]; exact e, m1, m2, m3⟩
    obtain ⟨hb5, nba, nbu, nbg⟩ := kee hb4
    obtain ⟨hs5, nsa, nsu, nsg⟩ := kee hS4.hs'
    obtain ⟨ht5, nta, ntu, ntg⟩ := kee hS4.ht
    generalize pgPut O4 pa u g pg0 = O5 at hP5 hb5 hs5 ht5
    refine ds_cons (d1_set 7 (s := .dat (.int 0)) (DE.dv de_int) ?_ scLaw.nd)
    refine ds_cons (d1_own 8 (ss := []) da_nil (fun kp hkp => ?_) scLaw.nd)
    refine ds_cons (d1_set 9 (s := .dat (.lst [])) (DE.dv (de_lst (ds := []) da_nil)) ?_ scLaw.nd)
    have nk : ∀ {q : Addr} {o : OD}, O5 q = some o → q ≠ kp := fun {q o} e z => by rw [z, hkp] at e; cases e
    have LI0 : LInv (put O5 kp (.lst [])) c CG CS CL [] b row a2 s tk pa u g kp [] := by
      refine ⟨by rw [put_ne (nk hb5)]; exact hb5, ⟨by rw [put_ne (nk hs5)]; exact hs5, by rw [put_ne (nk ht5)]; exact ht5, nst⟩, hP5.over (nk hP5.ha) (nk hP5.hu) (nk hP5.hg), ⟨put_same, rfl, fun k st w e => (by cases e), fun w hw => (by cases hw)⟩, fun j st e => (by cases e), n7_to ⟨nbs, nbt, nba, nbu, nbg, nk hb5, nst, nsa, nsu, nsg, nk hs5, nta, ntu, ntg, nk ht5, nau, nag, nk hP5.ha, nug, nk hP5.hu, nk hP5.hg⟩, List.nodup_nil, fun x hx z => by cases z⟩
    generalize put O5 kp (.lst []) = O6 at LI0
    show DS T _ _ _ (LR ns b j c s pa kp [] s10 s11 s12 s13 s14 s15) O6 _
    -- thirty steps
    refine ds_mid (fun ρ' O7 => ∃ hs at_ pa u g ws s10 s11 s12 s13 s14 s15, ρ' = LR ns b j c s pa kp hs s10 s11 s12 s13 s14 s15 ∧ LInv O7 c CG CS CL hs b row at_ s tk pa u g kp ws ∧ hs.length ≤ 30 ∧ at_ ≤ a2 + 9 * 30)
      (d1_forR 10 (m := 30) (fun k ρ' O7 => ∃ hs at_ pa u g ws s10 s11 s12 s13 s14 s15, ρ' = LR ns b j c s pa kp hs s10 s11 s12 s13 s14 s15 ∧ LInv O7 c CG CS CL hs b row at_ s tk pa u g kp ws ∧ hs.length ≤ k ∧ at_ ≤ a2 + 9 * k) de_int (by decide) ⟨[], a2, pa, u, g, [], _, _, _, _, _, _, rfl, LI0, Nat.le_refl _, Nat.le_refl _⟩ scLaw.nd ?_ (fun ρ' O7 h => h) L.range (passes_of rfl)) ?_
    · rintro k ρ' O7 hk ⟨hs, at_, pa, u, g, ws, s10, s11, s12, s13, s14, s15, rfl, LI, hl, hat⟩
      have hk30 : k < 30 := by omega
      have hkl := LI.hK.len
      refine ds_mid (fun ρ' O8 => ∃ hs at_ pa u g ws s10 s11 s12 s13 s14 s15, ρ' = LR ns b j c s pa kp hs s10 s11 s12 s13 s14 s15 ∧ LInv O8 c CG CS CL hs b row at_ s tk pa u g kp ws ∧ hs.length ≤ k + 1 ∧ at_ ≤ a2 + 9 * (k + 1))
        (d1_if (p := decide (drw row at_ 9 = 0)) (O1 := put O7 b (Bx row (at_ + 1))) (DT.cast (dt_eq (x := .int (drw row at_ 9)) (y := .int 0) hr1 (by rfl) (by rfl) (de_callH Fdr hr1 (da_v (dv_var 1 rfl) (da_d de_int da_nil)) ⟨b, row, at_, 9, rfl, LI.hb, by decide, by omega, rfl, rfl⟩) de_int) (deq_int _ _)) (fun _ => ?_) fun _ => ?_) ?_
      · -- undone
        have LI1 := LI.draw (at' := at_ + 1)
        generalize put O7 b (Bx row (at_ + 1)) = O8 at LI1
        have hne := LI1.n7
        show DS T _ _ _ (LR ns b j c s pa kp hs (.dat (.int (k : Int))) s11 s12 s13 s14 s15) O8 _
        refine ds_cons (d1_set 11 (O1 := stgPut O8 c CG CS CL s tk hs.dropLast) (s := .dat (.bl (decide (0 < hs.length)))) (DE.dv (de_meth0 AG.cl mun Gun hr2 bun (dv_var 5 rfl) LI1.hS.hs' (stF_no (by decide +kernel)) ⟨c, s, tk, hs, rfl, LI1.hS, rfl, rfl⟩)) ?_ scLaw.nd)
        have hkp8 : stgPut O8 c CG CS CL s tk hs.dropLast kp = some (keptOD ws) := by rw [stgput_ne (Ne.symm hne.sk) (Ne.symm hne.tk')]; exact LI1.hK.hk
        have hlen : ((ws.map fun w => Dz.Slot.val (.ref w.r)).length : Int) = hs.length := by rw [List.length_map, hkl]
        have ed : decide ((0 : Int) < (hs.length : Int)) = decide (0 < hs.length) := decide_eq_decide.mpr ⟨fun z => by omega, fun z => by omega⟩
        refine ds_cons (d1_if (p := false) (DW.dt (dw_or (p := false) (q := false) (DT.cast (dt_not (dt_val (de_isBool (x := .bl (decide (0 < hs.length))) L (.bl _) (de_var 11)))) rfl) fun _ => dw_or1 (DT.cast (dt_ne (x := .bl (decide (0 < hs.length))) (y := .bl (decide (0 < hs.length))) hr1 (by rfl) (by rfl) (de_var 11) (DE.cast (de_gt (de_lenO L.len (dv_var 8 rfl) hkp8) de_int) (by rw [hlen, ed]))) (by rw [deq_refl (n := 32) (by rfl)]; rfl)))) (fun z => by cases z) fun _ => ds_nil ?_)
        refine ds_one (d1_if (p := decide (0 < hs.length)) (DT.cast (dt_gt (de_lenO L.len (dv_var 8 rfl) hkp8) de_int) (by rw [hlen, ed])) (fun z => ?_) fun z => ?_)
        · have h0 : hs ≠ [] := fun e => by subst e; exact absurd (of_decide_eq_true z) (Nat.lt_irrefl _)
          obtain ⟨h', st, rfl⟩ : ∃ h' st, hs = h' ++ [st] := ⟨hs.dropLast, hs.getLast h0, (List.dropLast_concat_getLast h0).symm⟩
          have h1 : ws ≠ [] := fun e => by subst e; rw [List.length_append] at hkl; exact absurd hkl (by show ¬ 0 = h'.length + 1; omega)
          obtain ⟨w', w0, rfl⟩ : ∃ w' w0, ws = w' ++ [w0] := ⟨ws.dropLast, ws.getLast h1, (List.dropLast_concat_getLast h1).symm⟩
          rw [List.dropLast_concat] at hkp8 ⊢
          have hkl' : w'.length = h'.length := by rw [List.length_append, List.length_append] at hkl; simpa using hkl
          have hlast : ((w' ++ [w0]).map fun w => Dz.Slot.val (.ref w.r))[((w' ++ [w0]).map fun w => Dz.Slot.val (.ref w.r)).length - 1]? = some (.val (.ref w0.r)) := by
            rw [List.map_append, List.length_append]
            show ((w'.map fun w => Dz.Slot.val (.ref w.r)) ++ [Dz.Slot.val (.ref w0.r)])[(w'.map fun w => Dz.Slot.val (.ref w.r)).length + 1 - 1]? = _
            rw [Nat.add_sub_cancel, List.getElem?_append_right (Nat.le_refl _), Nat.sub_self]
            rfl
          have hdl : OD.lst (((w' ++ [w0]).map fun w => Dz.Slot.val (.ref w.r)).dropLast) = keptOD w' := by
            rw [List.map_append]
            unfold keptOD
            rw [show ((w'.map fun w => Dz.Slot.val (.ref w.r)) ++ [w0].map fun w => Dz.Slot.val (.ref w.r)).dropLast = w'.map fun w => Dz.Slot.val (.ref w.r) from List.dropLast_concat]
          have hrow := LI1.hK.row h'.length st w0 (by rw [List.getElem?_append_right (Nat.le_refl _), Nat.sub_self]; rfl) (by rw [← hkl', List.getElem?_append_right (Nat.le_refl _), Nat.sub_self]; rfl)
          have hrr := hrow.hr
          unfold rowOD at hrr
          rw [take_snoc (Nat.le_refl _), List.take_length, tell_snoc c h' st h'.length (Nat.le_refl _)] at hrr
          have hw0 : w0.r ∈ (w' ++ [w0]).flatMap Row.ads := mem_ads (List.mem_append.mpr (.inr (List.mem_singleton.mpr rfl))) (by simp [Row.ads])
          have hrr2 : put (stgPut O8 c CG CS CL s tk h') kp (OD.lst (((w' ++ [w0]).map fun w => Dz.Slot.val (.ref w.r)).dropLast)) w0.r = some (.lst [.val (.ref w0.a), .dat (.int (runC c h').i), .dat (stD st), .dat (.lst (tell c h' h'.length))]) := by
            rw [put_ne (LI1.off (by simp) _ hw0), stgput_ne (LI1.off (by simp) _ hw0) (LI1.off (by simp) _ hw0)]
            exact hrr
          refine ds_one (d1_unpackO (is := [6, 7, 12, 9]) (dv_pop (dv_var 8 rfl) hkp8 hlast) hrr2 rfl (by repeat' (first | exact Dz.Names.nil | refine Dz.Names.cons rfl (by first | exact Or.inl rfl | exact Or.inr rfl) (by first | exact .inl rfl | exact .inr rfl) rfl ?_)) ?_ scLaw.nd)
          have hl' : h'.length + 1 ≤ k := by rw [List.length_append] at hl; exact hl
          rw [hdl]
          exact ⟨h', at_ + 1, w0.a, w0.u, w0.g, w', .dat (.int (k : Int)), _, _, _, _, _, rfl, LI1.undo, by omega, by omega⟩
        · have h0 : hs = [] := List.length_eq_zero_iff.mp (by have := of_decide_eq_false z; omega)
          subst h0
          refine ds_nil ⟨[], at_ + 1, pa, u, g, ws, .dat (.int (k : Int)), _, _, _, _, _, rfl, ?_, Nat.zero_le _, by omega⟩
          have : stgPut O8 c CG CS CL s tk ([] : List Stp).dropLast = O8 := LI1.hS.self
          rw [this]
          exact LI1
      · -- a step
        have LI1 := LI.draw (at' := at_ + 1)
        generalize put O7 b (Bx row (at_ + 1)) = O8 at LI1
        have hne := LI1.n7
        obtain ⟨R, hz⟩ := run_Rl LI1.run (by omega)
        have hW := R.wf
        show DS T _ _ _ (LR ns b j c s pa kp hs (.dat (.int (k : Int))) s11 s12 s13 s14 s15) O8 _
        refine ds_mid (fun ρ' O9 => ∃ st at', ρ' = LR ns b j c s pa kp hs (.dat (.int (k : Int))) s11 (.dat (stD st)) s13 s14 s15 ∧ StOk st ∧ at_ + 1 ≤ at' ∧ at' ≤ at_ + 9 ∧ O9 = put O8 b (Bx row at'))
          (d1_setX (R := fun v O9 => ∃ st at', v = .dat (stD st) ∧ StOk st ∧ at_ + 1 ≤ at' ∧ at' ≤ at_ + 1 + 8 ∧ O9 = put O8 b (Bx row at')) 12 (dvn_call Gst hr2 hst kst bst (da_v (dv_var 1 rfl) (da_v (dv_var 6 rfl) da_nil)) ⟨b, row, at_ + 1, pa, u, g, (runC c hs).pg, rfl, LI1.hb, by omega, LI1.hP, hne.ba, hne.bu, hne.bg, by have := R.two; omega, by omega, rfl, rfl⟩) ?_ scLaw.nd) ?_
        · rintro s' O9 ⟨st, at', rfl, q1, q2, q3, rfl⟩
          exact ⟨st, at', rfl, q1, q2, q3, rfl⟩
        rintro ρ' O9 ⟨st, at', rfl, hst0, ha1, ha2, rfl⟩
        have LI2 := LI1.draw (at' := at')
        generalize put O8 b (Bx row at') = O9 at LI2
        -- before
        refine ds_mid (fun ρ' O10 => ∃ w0 : Row, ρ' = LR ns b j c s pa kp hs (.dat (.int (k : Int))) s11 (.dat (stD st)) (.val (.ref w0.r)) s14 s15 ∧ LInv O10 c CG CS CL hs b row at' s tk pa u g kp ws ∧ PgO O10 w0.a w0.u w0.g (runC c hs).pg ∧ O10 w0.r = some (rowOD c w0 hs hs.length st) ∧ w0.ads.Nodup ∧ (∀ x ∈ [b, s, tk, pa, u, g, kp], x ∉ w0.ads) ∧ (∀ x ∈ ws.flatMap Row.ads, x ∉ w0.ads))
          (d1_ownX 13 (R := fun v O' => ∃ a' u' g', O9 a' = none ∧ O9 u' = none ∧ O9 g' = none ∧ a' ≠ u' ∧ a' ≠ g' ∧ u' ≠ g' ∧ v = .val (.ref a') ∧ O' = pgPut O9 a' u' g' (runC c hs).pg) (dvn_call Gcp hr2 hcp kcp bcp (da_v (dv_var 6 rfl) da_nil) ⟨pa, u, g, (runC c hs).pg, rfl, LI2.hP, rfl, rfl⟩) ?_ scLaw.nd) ?_
        · rintro s' O10 ⟨a', u', g', q1, q2, q3, n1, n2, n3, rfl, rfl⟩
          refine ⟨[.dat (.int (runC c hs).i), .dat (stD st), .dat (.lst (tell c hs hs.length))], _, da_d (de_var 7) (da_d (de_var 12) (da_d (de_listL L.list (de_var 9)) da_nil)), by show 3 < 1000; decide, fun r hr0 => ?_⟩
          obtain ⟨z1, z2, z3, z4, z5⟩ := LI2.beside (w := ⟨r, a', u', g'⟩) (od := rowOD c ⟨r, a', u', g'⟩ hs hs.length st) q1 q2 q3 n1 n2 n3 hr0
          have eod : (OD.lst [.val (.ref a'), .dat (.int (runC c hs).i), .dat (stD st), .dat (.lst (tell c hs hs.length))]) = rowOD c ⟨r, a', u', g'⟩ hs hs.length st := by
            unfold rowOD
            rw [List.take_length]
          rw [eod]
          exact ⟨⟨r, a', u', g'⟩, rfl, z1, z2, put_same, z3, z4, z5⟩
        rintro ρ' O10 ⟨w0, rfl, LI3, hwP, hwR, hwn, hwd, hwd2⟩
        -- due
        refine ds_cons (d1_set 14 (O1 := pgPut O10 pa u g (duePg c (runC c hs) st)) (s := .dat (dueD c (runC c hs) st)) (DE.dv (de_callH Fdu hr5 (da_v (dv_var 6 rfl) (da_d (de_var 3) (da_d (de_var 4) (da_d (de_var 7) (da_d (de_var 12) da_nil))))) ⟨c, pa, u, g, runC c hs, st, rfl, hC, LI3.hP, R, hz, hst0, rfl, rfl⟩)) ?_ scLaw.nd)
        have hS11 : StgO (pgPut O10 pa u g (duePg c (runC c hs) st)) c CG CS CL s tk hs := ⟨by rw [pgput_ne hne.sa hne.su hne.sg]; exact LI3.hS.hs', by rw [pgput_ne hne.ta hne.tu hne.tg]; exact LI3.hS.ht, hne.st⟩
        refine ds_cons (d1_if (p := false) (O1 := stgPut (pgPut O10 pa u g (duePg c (runC c hs) st)) c CG CS CL s tk (nxH (runC c hs) hs st)) (DT.cast (dt_ne (x := tolD c (runC c hs) st) (y := tolD c (runC c hs) st) hr1 (tolD_ok _ _ _) (tolD_ok _ _ _) (DV.de (dv_callX Gto hr hto kto bto (da_v (dv_var 5 rfl) (da_d (de_var 12) da_nil)) ⟨c, s, tk, hs, st, rfl, hC, hS11, LI3.run, by omega, hst0, rfl, rfl⟩)) (de_ixL (ds := [tolD c (runC c hs) st, .int (if canP (runC c hs).pg st = true then (adv c (runC c hs) st).i else (runC c hs).i)]) (de_var 14) de_int rfl)) (by rw [deq_refl (tolD_ok _ _ _)]; rfl)) (fun z => by cases z) fun _ => ds_nil ?_)
        refine ds_cons (d1_set 7 (s := .dat (.int (if canP (runC c hs).pg st = true then (adv c (runC c hs) st).i else (runC c hs).i))) (DE.dv (de_ixL (ds := [tolD c (runC c hs) st, .int (if canP (runC c hs).pg st = true then (adv c (runC c hs) st).i else (runC c hs).i)]) (de_var 14) de_int rfl)) ?_ scLaw.nd)
        refine ds_one (d1_if (p := canP (runC c hs).pg st) (DT.cast (dt_ne (x := tolD c (runC c hs) st) (y := .str "not possible") hr1 (tolD_ok _ _ _) (by rfl) (de_ixL (ds := [tolD c (runC c hs) st, .int (if canP (runC c hs).pg st = true then (adv c (runC c hs) st).i else (runC c hs).i)]) (de_var 14) de_int rfl) de_str) deq_tol_np) (fun hc => ?_) fun hc => ?_)
        · have e1 : duePg c (runC c hs) st = (adv c (runC c hs) st).pg := by unfold duePg; rw [if_pos hc]
          have e2 : nxH (runC c hs) hs st = hs ++ [st] := by unfold nxH; rw [if_pos hc]
          have e3 : tolD c (runC c hs) st = .lst [toldC c (runC c hs) st] := by unfold tolD; rw [if_pos hc]
          have LI4 := LI3.take (w := w0) ⟨hc, hst0⟩ hwP hwR hwn hwd hwd2
          have hkp12 : stgPut (pgPut O10 pa u g (adv c (runC c hs) st).pg) c CG CS CL s tk (hs ++ [st]) kp = some (keptOD ws) := by
            rw [stgput_ne (Ne.symm hne.sk) (Ne.symm hne.tk'), pgput_ne (Ne.symm hne.ak) (Ne.symm hne.uk) (Ne.symm hne.gk)]
            exact LI3.hK.hk
          rw [e1, e2, if_pos hc]
          have eap : (OD.lst ((ws.map fun w => Dz.Slot.val (.ref w.r)) ++ [.val (.ref w0.r)])) = keptOD (ws ++ [w0]) := by
            unfold keptOD
            rw [List.map_append]
            rfl
          refine ds_cons (d1_append 8 rfl hkp12 (dv_var 13 rfl) hkp12 (by rw [List.length_map, hkl]; omega) ?_)
          rw [eap]
          have lenS : (hs ++ [st]).length = hs.length + 1 := by rw [List.length_append]; rfl
          have es : (adv c (runC c hs) st).i = (runC c (hs ++ [st])).i := by rw [run_snoc]
          refine ds_one (d1_if (p := !isCh st) (DT.cast (dt_ne (x := .lst [toldC c (runC c hs) st]) (y := .lst [.non]) hr1 (ok_lst fun d hd => by rw [List.mem_singleton.mp hd]; exact toldC_ok _ _ _ 27) (by rfl) (de_ixL (ds := [tolD c (runC c hs) st, .int (if canP (runC c hs).pg st = true then (adv c (runC c hs) st).i else (runC c hs).i)]) (de_var 14) de_int (by rw [e3]; rfl)) (de_lst (ds := [.non]) (da_d de_non da_nil))) deq_told_non) (fun z => ?_) fun z => ?_)
          · have z' : isCh st = false := by simpa using z
            have et : tell c (hs ++ [st]) (hs ++ [st]).length = tell c hs hs.length ++ [toldC c (runC c hs) st] := by rw [tell_next, if_neg (by rw [z']; exact Bool.false_ne_true)]
            have lt := tell_len c hs hs.length
            refine ds_one (d1_set 9 (s := .dat (.lst (tell c hs hs.length ++ [toldC c (runC c hs) st]))) (DE.dv (de_catL (ds := tell c hs hs.length) (ds' := [toldC c (runC c hs) st]) (de_var 9) (de_ixL (ds := [tolD c (runC c hs) st, .int (if canP (runC c hs).pg st = true then (adv c (runC c hs) st).i else (runC c hs).i)]) (de_var 14) de_int (by rw [e3]; rfl)) (by show _ + 1 ≤ 100000; omega))) ⟨hs ++ [st], at', pa, u, g, ws ++ [w0], .dat (.int (k : Int)), s11, .dat (stD st), .val (.ref w0.r), .dat (dueD c (runC c hs) st), s15, ?_, LI4, by omega, by omega⟩ scLaw.nd)
            unfold LR
            rw [et, ← es]
            rfl
          · have z' : isCh st = true := by simpa using z
            have et : tell c (hs ++ [st]) (hs ++ [st]).length = tell c hs hs.length := by rw [tell_next, if_pos z', List.append_nil]
            refine ds_nil ⟨hs ++ [st], at', pa, u, g, ws ++ [w0], .dat (.int (k : Int)), s11, .dat (stD st), .val (.ref w0.r), .dat (dueD c (runC c hs) st), s15, ?_, LI4, by omega, by omega⟩
            unfold LR
            rw [et, ← es]
            rfl
        · have hc' : ¬ canP (runC c hs).pg st = true := by rw [hc]; exact Bool.false_ne_true
          have e1 : pgPut O10 pa u g (duePg c (runC c hs) st) = O10 := by unfold duePg; rw [if_neg hc']; exact LI3.hP.self
          have e2 : nxH (runC c hs) hs st = hs := by unfold nxH; rw [if_neg hc']
          rw [e1, e2, if_neg hc', LI3.hS.self]
          exact ds_nil ⟨hs, at', pa, u, g, ws, .dat (.int (k : Int)), _, _, _, _, _, rfl, LI3, by omega, by omega⟩
      -- the same look
      rintro ρ' O8 ⟨hs, at_, pa, u, g, ws, s10, s11, s12, s13, s14, s15, rfl, LI, hl, hat⟩
      refine ds_one (d1_if (p := false) (O1 := O8) (DT.cast (dt_not (dt_val (de_callH Fsl hr7 (da_v (dv_var 5 rfl) (da_v (dv_var 8 rfl) (da_v (dv_var 6 rfl) da_nil))) ⟨c, s, tk, kp, pa, u, g, hs, ws, rfl, LI.hS, LI.run, by omega, LI.hK, LI.hP, rfl, rfl⟩))) rfl) (fun z => by cases z) fun _ => ds_nil ⟨hs, at_, pa, u, g, ws, s10, s11, s12, s13, s14, s15, rfl, LI, by omega, by omega⟩)
    -- play
    rintro ρ' O7 ⟨hs, at_, pa, u, g, ws, s10, s11, s12, s13, s14, s15, rfl, LI, hl, hat⟩
    have hkl := LI.hK.len
    have okT : D.ok 32 (.lst (tell c hs hs.length)) = true := ok_lst fun d hd => tell_ok c hs _ d hd
    refine ds_one (d1_if (p := false) (O1 := O7) (DT.cast (dt_ne (x := .lst (tell c hs hs.length)) (y := .lst (tell c hs hs.length)) hr1 okT okT (DV.de (dv_callX Gpl hr8 hpl kpl bpl (da_v (dv_callX Gmk hr6 hmk kmk bmk (da_d (de_var 3) da_nil) (pSu O7)) (da_v (dv_callX Gls hr8 hls kls bls (da_d (de_var 4) da_nil) (pLi O7)) (da_d (de_lcO (out := hs.map stD) 15 (dv_var 8 rfl) LI.hK.hk (fun i acc => acc = (hs.take i).map stD) rfl (fun i sl acc hi hacc => ?_) (fun acc hacc => by rw [hacc, List.length_map, hkl, List.take_length]) (by rw [List.length_map, hkl]; omega) scLaw.nd (blkOk_by (own := [("row", 15)]) (N := ["script", "box", "turn", "setup", "listener", "stage", "p", "state", "kept", "moments", "again", "told", "step", "before", "due", "row"]) (sc := defScope sLaw) (by decide +kernel))) da_nil))) ⟨c, hs, rfl, hC, LI.run, by omega, rfl, rfl⟩)) (de_var 9)) (by rw [deq_refl okT]; rfl)) (fun z => by cases z) fun _ => ds_nil ⟨⟨_, _, _, _, _, _, _, _, _, _, _, _, _, _, rfl⟩, at_, LI.hb, by omega⟩)
    have hil : i < ws.length := by
      have := (List.getElem?_eq_some_iff.mp hi).1
      rw [List.length_map] at this
      exact this
    rw [List.getElem?_map, List.getElem?_eq_getElem hil] at hi
    cases hi
    obtain ⟨st, est⟩ : ∃ st, hs[i]? = some st := ⟨_, List.getElem?_eq_getElem (by omega)⟩
    have hrow := LI.hK.row i st ws[i] est (List.getElem?_eq_getElem hil)
    have hne := LI.hK.ne ws[i] (List.getElem_mem hil)
    refine ⟨true, _, difs_nil, fun _ => ⟨stD st, _, fun _ _ _ _ _ => DV.de (dv_ixOG (dv_var 15 rfl) de_int (by rw [cut_ne hne]; exact hrow.hr) rfl), ?_, rfl⟩, fun z => by cases z⟩
    rw [hacc, List.take_add_one, est, List.map_append]
    rfl
  · rintro ρ' O2 ⟨⟨s2, s3, s4, s5, s6, s7, s8, s9, s10, s11, s12, s13, s14, s15, rfl⟩, a, hOb, hal⟩
    exact ds_one (d1_ret (s := .dat (.bl true)) (DE.dv de_bl) rfl)
end
end Dg

namespace Dg
open PySem PySem.Spec PyProof.Rows L2 GxR Dz
theorem func_mk {K : PySem.W.Frag} {x qual : Str} {st : Stmt} {f : Addr} {oc : Value} {od an : Option Addr} {osl : Array (Option Value)} {kV doc pm cdv ct : Value} (l : K.lookup f = some ⟨oc, od, .func (PySem.W.fnOf x qual (defArgs st) (defBody st) (defScope st) .none kV doc pm an cdv ct), osl⟩)
    (c : PySem.W.codeIn K cdv qual = true) (k : PySem.W.keepIn K (.ref f) = true) : FunC K x qual st f (PySem.W.fnOf x qual (defArgs st) (defBody st) (defScope st) .none kV doc pm an cdv ct) cdv := ⟨⟨oc, od, kV, doc, pm, an, ct, osl, rfl, l, c⟩, k⟩
/-- the end of a law, with the empty tables of its defs' code objects -/
theorem walk_dz {l : PySem.W.OpenLaw} {n k : Nat} {q : Program} {loose : List Str} {XP : (Str → Option Value) → Heap → Prop} {YP : World → Heap → Prop} {d : DefRec} {K : Params → PySem.W.Frag} {CX : World → CXT} {x : Str}
    (hn : l.most = some n) (hz : n ≤ sizeLine) (hdf : d.params.defaults = []) (room : Room k callerA) (hY : ∀ (w : World) (h : Heap), YP w h → (K w.params).In h)
    (F : ∀ (w : World) (mg : Str → Option Value) (fa : Addr) (h : Heap), (K w.params).In h → h.Ns mainGlobals mg → mg d.name = some (.ref fa) →
      (∀ (y : Str) (c P : Addr), ((recsOf q).any fun e => e.name == y) = true → PySem.W.tabIn (K w.params) y = some (c, P) → h.get? P = some { cls := .none, data := .fields #[] }) → LamX.LawAtS l w (K w.params) (CX w) k n x mg fa h)
    (no : ∀ (w : World) (H : Hp) (s : Shared) (e : Value) (s' : Shared), CX w [] H s (fun _ _ _ => False) e s' → False) : PySem.W.WalkO q loose XP YP l.row.toRowW d [] (fun f vs => PySem.call f vs) := by
  refine Att.attach_callB hn hdf fun w s0 s1 mg mb fa o pm cd doc a vs ns G Y ho hd hcd hmg hobj hit short bits gens => ?_
  have KX := hY w _ Y
  obtain ⟨fd, cs, sp, e1, e2, e3, e4, e5, e6⟩ := F w mg fa _ KX G.T.g hmg fun y c P hr ht => by
    obtain ⟨r, m1, m2⟩ := List.any_eq_true.mp hr
    cases hf : (recsOf q).find? fun e => e.name == y with
    | none => exact absurd m2 (by simpa using List.find?_eq_none.mp hf r m1)
    | some r' => exact (PySem.W.tab_of G.T KX hf ht).2
  exact LamX.law_callTs KX G.T.g G.T.b G.T.builtins G.T.nolimit gens e1 e2 e3 G.T.bmain hobj hit (Nat.le_trans short hz) room e6 e4 (fun H hH hS => e5 H a ns short bits hH hS) fun H e s' => no w H s1 e s'
theorem cx_no {P : Program} {w : World} {H : Hp} {s : Shared} {e : Value} {s' : Shared} (z : L2.CX P w [] H s (fun _ _ _ => False) e s') : False := by
  obtain ⟨_, _, _, _, _, _, _, _, _, _, _, _, z⟩ := z
  exact z
def spEnd (K : PySem.W.Frag) (T : List Addr) (CE : Addr) : Sp := spX T K CE pLaw
theorem all_mk {l : PySem.W.OpenLaw} {w : World} {K : PySem.W.Frag} {h : Heap} {mg : Str → Option Value} {fa : Addr} (X : K.In h) (G : h.Ns mainGlobals mg) (hfa : mg "law" = some (.ref fa)) (hT : ∀ P ∈ [154, 166, 173], h.get? P = some { cls := .none, data := .fields #[] })
    {CG : Addr}
    {CS : Addr}
    {CL : Addr}
    {C0 : Addr}
    {f_n0 : Addr} {od_n0 an_n0 : Option Addr} {sl_n0 : Array (Option Value)} {oc_n0 kV_n0 dc_n0 pm_n0 ct_n0 : Value}
    {cd_n0 : Value}
    {f_n1 : Addr} {od_n1 an_n1 : Option Addr} {sl_n1 : Array (Option Value)} {oc_n1 kV_n1 dc_n1 pm_n1 ct_n1 : Value}
    {f_n2 : Addr} {od_n2 an_n2 : Option Addr} {sl_n2 : Array (Option Value)} {oc_n2 kV_n2 dc_n2 pm_n2 ct_n2 : Value}
    {cd_n2 : Value}
    {f_sI : Addr} {od_sI an_sI : Option Addr} {sl_sI : Array (Option Value)} {oc_sI kV_sI dc_sI pm_sI ct_sI : Value}
    {cd_sI : Value}
    {f_n4 : Addr} {od_n4 an_n4 : Option Addr} {sl_n4 : Array (Option Value)} {oc_n4 kV_n4 dc_n4 pm_n4 ct_n4 : Value}
    {cd_n4 : Value}
    {f_n5 : Addr} {od_n5 an_n5 : Option Addr} {sl_n5 : Array (Option Value)} {oc_n5 kV_n5 dc_n5 pm_n5 ct_n5 : Value}
    {cd_n5 : Value}
    {f_n6 : Addr} {od_n6 an_n6 : Option Addr} {sl_n6 : Array (Option Value)} {oc_n6 kV_n6 dc_n6 pm_n6 ct_n6 : Value}
    {f_n7 : Addr} {od_n7 an_n7 : Option Addr} {sl_n7 : Array (Option Value)} {oc_n7 kV_n7 dc_n7 pm_n7 ct_n7 : Value}
    {cd_n7 : Value}
    {f_n8 : Addr} {od_n8 an_n8 : Option Addr} {sl_n8 : Array (Option Value)} {oc_n8 kV_n8 dc_n8 pm_n8 ct_n8 : Value}
    {f_lI : Addr} {od_lI an_lI : Option Addr} {sl_lI : Array (Option Value)} {oc_lI kV_lI dc_lI pm_lI ct_lI : Value}
    {cd_lI : Value}
    {f_n10 : Addr} {od_n10 an_n10 : Option Addr} {sl_n10 : Array (Option Value)} {oc_n10 kV_n10 dc_n10 pm_n10 ct_n10 : Value}
    {cd_n10 : Value}
    {f_gI : Addr} {od_gI an_gI : Option Addr} {sl_gI : Array (Option Value)} {oc_gI kV_gI dc_gI pm_gI ct_gI : Value}
    {cd_gI : Value}
    {f_g_undo : Addr} {od_g_undo an_g_undo : Option Addr} {sl_g_undo : Array (Option Value)} {oc_g_undo kV_g_undo dc_g_undo pm_g_undo ct_g_undo : Value}
    {cd_g_undo : Value}
    {f_n13 : Addr} {od_n13 an_n13 : Option Addr} {sl_n13 : Array (Option Value)} {oc_n13 kV_n13 dc_n13 pm_n13 ct_n13 : Value}
    {cd_n13 : Value}
    {f_n14 : Addr} {od_n14 an_n14 : Option Addr} {sl_n14 : Array (Option Value)} {oc_n14 kV_n14 dc_n14 pm_n14 ct_n14 : Value}
    {cd_n14 : Value}
    {f_n15 : Addr} {od_n15 an_n15 : Option Addr} {sl_n15 : Array (Option Value)} {oc_n15 kV_n15 dc_n15 pm_n15 ct_n15 : Value}
    {cd_n15 : Value}
    {f_n16 : Addr} {od_n16 an_n16 : Option Addr} {sl_n16 : Array (Option Value)} {oc_n16 kV_n16 dc_n16 pm_n16 ct_n16 : Value}
    {cd_n16 : Value}
    {f_n17 : Addr} {od_n17 an_n17 : Option Addr} {sl_n17 : Array (Option Value)} {oc_n17 kV_n17 dc_n17 pm_n17 ct_n17 : Value}
    {cd_n17 : Value}
    {f_n18 : Addr} {od_n18 an_n18 : Option Addr} {sl_n18 : Array (Option Value)} {oc_n18 kV_n18 dc_n18 pm_n18 ct_n18 : Value}
    {cd_n18 : Value}
    {f_n19 : Addr} {od_n19 an_n19 : Option Addr} {sl_n19 : Array (Option Value)} {oc_n19 kV_n19 dc_n19 pm_n19 ct_n19 : Value}
    {cd_n19 : Value}
    {f_n20 : Addr} {od_n20 an_n20 : Option Addr} {sl_n20 : Array (Option Value)} {oc_n20 kV_n20 dc_n20 pm_n20 ct_n20 : Value}
    {cd_n20 : Value}
    {f_n21 : Addr} {od_n21 an_n21 : Option Addr} {sl_n21 : Array (Option Value)} {oc_n21 kV_n21 dc_n21 pm_n21 ct_n21 : Value}
    {cd_n21 : Value}
    {f_n22 : Addr} {od_n22 an_n22 : Option Addr} {sl_n22 : Array (Option Value)} {oc_n22 kV_n22 dc_n22 pm_n22 ct_n22 : Value}
    {cd_n22 : Value}
    {f_n23 : Addr} {od_n23 an_n23 : Option Addr} {sl_n23 : Array (Option Value)} {oc_n23 kV_n23 dc_n23 pm_n23 ct_n23 : Value}
    {cd_n23 : Value}
    {f_n24 : Addr} {od_n24 an_n24 : Option Addr} {sl_n24 : Array (Option Value)} {oc_n24 kV_n24 dc_n24 pm_n24 ct_n24 : Value}
    {cd_n24 : Value}
    {f_n25 : Addr} {od_n25 an_n25 : Option Addr} {sl_n25 : Array (Option Value)} {oc_n25 kV_n25 dc_n25 pm_n25 ct_n25 : Value}
    {cd_n25 : Value}
    {f_n26 : Addr} {od_n26 an_n26 : Option Addr} {sl_n26 : Array (Option Value)} {oc_n26 kV_n26 dc_n26 pm_n26 ct_n26 : Value}
    {cd_n26 : Value}
    {f_n27 : Addr} {od_n27 an_n27 : Option Addr} {sl_n27 : Array (Option Value)} {oc_n27 kV_n27 dc_n27 pm_n27 ct_n27 : Value}
    {cd_n27 : Value}
    {f_n28 : Addr} {od_n28 an_n28 : Option Addr} {sl_n28 : Array (Option Value)} {oc_n28 kV_n28 dc_n28 pm_n28 ct_n28 : Value}
    {cd_n28 : Value}
    {f_n29 : Addr} {od_n29 an_n29 : Option Addr} {sl_n29 : Array (Option Value)} {oc_n29 kV_n29 dc_n29 pm_n29 ct_n29 : Value}
    {cd_n29 : Value}
    {f_n30 : Addr} {od_n30 an_n30 : Option Addr} {sl_n30 : Array (Option Value)} {oc_n30 kV_n30 dc_n30 pm_n30 ct_n30 : Value}
    {cd_n30 : Value}
    {f_n31 : Addr} {od_n31 an_n31 : Option Addr} {sl_n31 : Array (Option Value)} {oc_n31 kV_n31 dc_n31 pm_n31 ct_n31 : Value}
    {cd_n31 : Value}
    {f_n32 : Addr} {od_n32 an_n32 : Option Addr} {sl_n32 : Array (Option Value)} {oc_n32 kV_n32 dc_n32 pm_n32 ct_n32 : Value}
    {cd_n32 : Value}
    {f_n33 : Addr} {od_n33 an_n33 : Option Addr} {sl_n33 : Array (Option Value)} {oc_n33 kV_n33 dc_n33 pm_n33 ct_n33 : Value}
    {cd_n33 : Value}
    {f_n34 : Addr} {od_n34 an_n34 : Option Addr} {sl_n34 : Array (Option Value)} {oc_n34 kV_n34 dc_n34 pm_n34 ct_n34 : Value}
    {cd_n34 : Value}
    {f_n35 : Addr} {od_n35 an_n35 : Option Addr} {sl_n35 : Array (Option Value)} {oc_n35 kV_n35 dc_n35 pm_n35 ct_n35 : Value}
    {cd_n35 : Value}
    {f_n36 : Addr} {od_n36 an_n36 : Option Addr} {sl_n36 : Array (Option Value)} {oc_n36 kV_n36 dc_n36 pm_n36 ct_n36 : Value}
    {cd_n36 : Value}
    {f_n37 : Addr} {od_n37 an_n37 : Option Addr} {sl_n37 : Array (Option Value)} {oc_n37 kV_n37 dc_n37 pm_n37 ct_n37 : Value}
    {cd_n37 : Value}
    {f_n38 : Addr} {od_n38 an_n38 : Option Addr} {sl_n38 : Array (Option Value)} {oc_n38 kV_n38 dc_n38 pm_n38 ct_n38 : Value}
    {cd_n38 : Value}
    {f_n39 : Addr} {od_n39 an_n39 : Option Addr} {sl_n39 : Array (Option Value)} {oc_n39 kV_n39 dc_n39 pm_n39 ct_n39 : Value}
    {cd_n39 : Value}
    {f_n40 : Addr} {od_n40 an_n40 : Option Addr} {sl_n40 : Array (Option Value)} {oc_n40 kV_n40 dc_n40 pm_n40 ct_n40 : Value}
    {cd_n40 : Value}
    {f_n41 : Addr} {od_n41 an_n41 : Option Addr} {sl_n41 : Array (Option Value)} {oc_n41 kV_n41 dc_n41 pm_n41 ct_n41 : Value}
    {cd_n41 : Value}
    {f_n42 : Addr} {od_n42 an_n42 : Option Addr} {sl_n42 : Array (Option Value)} {oc_n42 kV_n42 dc_n42 pm_n42 ct_n42 : Value}
    {cd_n42 : Value}
    {f_n43 : Addr} {od_n43 an_n43 : Option Addr} {sl_n43 : Array (Option Value)} {oc_n43 kV_n43 dc_n43 pm_n43 ct_n43 : Value}
    {cd_n43 : Value}
    {f_n44 : Addr} {od_n44 an_n44 : Option Addr} {sl_n44 : Array (Option Value)} {oc_n44 kV_n44 dc_n44 pm_n44 ct_n44 : Value}
    {cd_n44 : Value}
    {f_n45 : Addr} {od_n45 an_n45 : Option Addr} {sl_n45 : Array (Option Value)} {oc_n45 kV_n45 dc_n45 pm_n45 ct_n45 : Value}
    {cd_n45 : Value}
    {f_n46 : Addr} {od_n46 an_n46 : Option Addr} {sl_n46 : Array (Option Value)} {oc_n46 kV_n46 dc_n46 pm_n46 ct_n46 : Value}
    {cd_n46 : Value}
    {f_n47 : Addr} {od_n47 an_n47 : Option Addr} {sl_n47 : Array (Option Value)} {oc_n47 kV_n47 dc_n47 pm_n47 ct_n47 : Value}
    {cd_n47 : Value}
    {f_n48 : Addr} {od_n48 an_n48 : Option Addr} {sl_n48 : Array (Option Value)} {oc_n48 kV_n48 dc_n48 pm_n48 ct_n48 : Value}
    {cd_n48 : Value}
    {f_n49 : Addr} {od_n49 an_n49 : Option Addr} {sl_n49 : Array (Option Value)} {oc_n49 kV_n49 dc_n49 pm_n49 ct_n49 : Value}
    {cd_n49 : Value}
    {f_n50 : Addr} {od_n50 an_n50 : Option Addr} {sl_n50 : Array (Option Value)} {oc_n50 kV_n50 dc_n50 pm_n50 ct_n50 : Value}
    {cd_n50 : Value}
    {f_n51 : Addr} {od_n51 an_n51 : Option Addr} {sl_n51 : Array (Option Value)} {oc_n51 kV_n51 dc_n51 pm_n51 ct_n51 : Value}
    {cd_n51 : Value}
    {f_n52 : Addr} {od_n52 an_n52 : Option Addr} {sl_n52 : Array (Option Value)} {oc_n52 kV_n52 dc_n52 pm_n52 ct_n52 : Value}
    {cd_n52 : Value}
    {f_n53 : Addr} {od_n53 an_n53 : Option Addr} {sl_n53 : Array (Option Value)} {oc_n53 kV_n53 dc_n53 pm_n53 ct_n53 : Value}
    {cd_n53 : Value}
    {f_n54 : Addr} {od_n54 an_n54 : Option Addr} {sl_n54 : Array (Option Value)} {oc_n54 kV_n54 dc_n54 pm_n54 ct_n54 : Value}
    {cd_n54 : Value}
    {f_n55 : Addr} {od_n55 an_n55 : Option Addr} {sl_n55 : Array (Option Value)} {oc_n55 kV_n55 dc_n55 pm_n55 ct_n55 : Value}
    {cd_n55 : Value}
    {f_n56 : Addr} {od_n56 an_n56 : Option Addr} {sl_n56 : Array (Option Value)} {oc_n56 kV_n56 dc_n56 pm_n56 ct_n56 : Value}
    {cd_n56 : Value}
    {f_n57 : Addr} {od_n57 an_n57 : Option Addr} {sl_n57 : Array (Option Value)} {oc_n57 kV_n57 dc_n57 pm_n57 ct_n57 : Value}
    {cd_n57 : Value}
    {f_n58 : Addr} {od_n58 an_n58 : Option Addr} {sl_n58 : Array (Option Value)} {oc_n58 kV_n58 dc_n58 pm_n58 ct_n58 : Value}
    {cd_n58 : Value}
    {f_n59 : Addr} {od_n59 an_n59 : Option Addr} {sl_n59 : Array (Option Value)} {oc_n59 kV_n59 dc_n59 pm_n59 ct_n59 : Value}
    {cd_n59 : Value}
    {f_n60 : Addr} {od_n60 an_n60 : Option Addr} {sl_n60 : Array (Option Value)} {oc_n60 kV_n60 dc_n60 pm_n60 ct_n60 : Value}
    {cd_n60 : Value}
    {f_n61 : Addr} {od_n61 an_n61 : Option Addr} {sl_n61 : Array (Option Value)} {oc_n61 kV_n61 dc_n61 pm_n61 ct_n61 : Value}
    {cd_n61 : Value}
    {f_n62 : Addr} {od_n62 an_n62 : Option Addr} {sl_n62 : Array (Option Value)} {oc_n62 kV_n62 dc_n62 pm_n62 ct_n62 : Value}
    {cd_n62 : Value}
    {f_n63 : Addr} {od_n63 an_n63 : Option Addr} {sl_n63 : Array (Option Value)} {oc_n63 kV_n63 dc_n63 pm_n63 ct_n63 : Value}
    {cd_n63 : Value}
    {f_n64 : Addr} {od_n64 an_n64 : Option Addr} {sl_n64 : Array (Option Value)} {oc_n64 kV_n64 dc_n64 pm_n64 ct_n64 : Value}
    {cd_n64 : Value}
    {f_g_act : Addr} {od_g_act an_g_act : Option Addr} {sl_g_act : Array (Option Value)} {oc_g_act kV_g_act dc_g_act pm_g_act ct_g_act : Value}
    {cd_g_act : Value}
    {f_n66 : Addr} {od_n66 an_n66 : Option Addr} {sl_n66 : Array (Option Value)} {oc_n66 kV_n66 dc_n66 pm_n66 ct_n66 : Value}
    {cd_n66 : Value}
    {f_g_is_hovered : Addr} {od_g_is_hovered an_g_is_hovered : Option Addr} {sl_g_is_hovered : Array (Option Value)} {oc_g_is_hovered kV_g_is_hovered dc_g_is_hovered pm_g_is_hovered ct_g_is_hovered : Value}
    {cd_g_is_hovered : Value}
    {f_g_steps : Addr} {od_g_steps an_g_steps : Option Addr} {sl_g_steps : Array (Option Value)} {oc_g_steps kV_g_steps dc_g_steps pm_g_steps ct_g_steps : Value}
    {cd_g_steps : Value}
    {f_g_side : Addr} {od_g_side an_g_side : Option Addr} {sl_g_side : Array (Option Value)} {oc_g_side kV_g_side dc_g_side pm_g_side ct_g_side : Value}
    {cd_g_side : Value}
    {f_n70 : Addr} {od_n70 an_n70 : Option Addr} {sl_n70 : Array (Option Value)} {oc_n70 kV_n70 dc_n70 pm_n70 ct_n70 : Value}
    {cd_n70 : Value}
    {f_n71 : Addr} {od_n71 an_n71 : Option Addr} {sl_n71 : Array (Option Value)} {oc_n71 kV_n71 dc_n71 pm_n71 ct_n71 : Value}
    {cd_n71 : Value}
    {f_n72 : Addr} {od_n72 an_n72 : Option Addr} {sl_n72 : Array (Option Value)} {oc_n72 kV_n72 dc_n72 pm_n72 ct_n72 : Value}
    {cd_n72 : Value}
    {f_n73 : Addr} {od_n73 an_n73 : Option Addr} {sl_n73 : Array (Option Value)} {oc_n73 kV_n73 dc_n73 pm_n73 ct_n73 : Value}
    {cd_n73 : Value}
    {f_eI : Addr} {od_eI an_eI : Option Addr} {sl_eI : Array (Option Value)} {oc_eI kV_eI dc_eI pm_eI ct_eI : Value}
    {cd_eI : Value}
    {nm q : Str} {N : Addr} {bs : List Value} {sn : List Str} {sub : List Value} {ab : Bool} {col : Option Bool} {dd : Option Addr} {m0 m1 m2 m3 m5 : Option Value}
    {u_PLACES : Value}
    {u_KINDS : Value}
    {u_SIGHTS : Value}
    {u_MOST_STATES : Value}
    {u_MOST_RULES : Value}
    {u_SIDES : Value}
    {u_RELATED_SIDES : Value}
    {u_FIRST_PAGE : Value}
    {u_MOST_STEPS : Value}
    {u_STOPS_BOUND : Value}
    {u_ROOT : Value}
    {u_ZONE : Value}
    {u_END_SIGNAL : Value}
    {aC : Addr} {es_aC : Array DictEntry} {en_aC : Nat}
    {u_aC_add : Value}
    {u_aC_remove : Value}
    {u_aC_place : Value}
    {aT : Addr} {es_aT : Array DictEntry} {en_aT : Nat}
    {u_aT_point : Value}
    {u_aT_slip : Value}
    {u_aT_out : Value}
    {u_aT_drop : Value}
    {u_aT_cancel : Value}
    (a_n0 : PySem.W.nsIn K mainGlobals "is_word" = some (some (.ref f_n0)))
    (l_n0 : K.lookup f_n0 = some ⟨oc_n0, od_n0, .func (PySem.W.fnOf "is_word" "is_word" (defArgs sIsWord) (defBody sIsWord) (defScope sIsWord) .none kV_n0 dc_n0 pm_n0 an_n0 (cd_n0) ct_n0), sl_n0⟩)
    (c_n0 : PySem.W.codeIn K (cd_n0) "is_word" = true)
    (k_n0 : PySem.W.keepIn K (.ref f_n0) = true)
    (a_n1 : PySem.W.nsIn K mainGlobals "is_choice" = some (some (.ref f_n1)))
    (l_n1 : K.lookup f_n1 = some ⟨oc_n1, od_n1, .func (PySem.W.fnOf "is_choice" "is_choice" (defArgs sIsChoice) (defBody sIsChoice) (defScope sIsChoice) .none kV_n1 dc_n1 pm_n1 an_n1 (.ref 158) ct_n1), sl_n1⟩)
    (c_n1 : PySem.W.codeIn K (.ref 158) "is_choice" = true)
    (k_n1 : PySem.W.keepIn K (.ref f_n1) = true)
    (a_n2 : PySem.W.nsIn K mainGlobals "in_order" = some (some (.ref f_n2)))
    (l_n2 : K.lookup f_n2 = some ⟨oc_n2, od_n2, .func (PySem.W.fnOf "in_order" "in_order" (defArgs sInOrder) (defBody sInOrder) (defScope sInOrder) .none kV_n2 dc_n2 pm_n2 an_n2 (cd_n2) ct_n2), sl_n2⟩)
    (c_n2 : PySem.W.codeIn K (cd_n2) "in_order" = true)
    (k_n2 : PySem.W.keepIn K (.ref f_n2) = true)
    (g_sI : PySem.W.nsIn K mainGlobals "Setup" = some (some (.ref CS)))
    (a_sI : PySem.W.findIn K (.ref CS) "__init__" = some (some (.ref f_sI)))
    (l_sI : K.lookup f_sI = some ⟨oc_sI, od_sI, .func (PySem.W.fnOf "__init__" "Setup.__init__" (defArgs sSetupI) (defBody sSetupI) (defScope sSetupI) .none kV_sI dc_sI pm_sI an_sI (cd_sI) ct_sI), sl_sI⟩)
    (c_sI : PySem.W.codeIn K (cd_sI) "Setup.__init__" = true)
    (k_sI : PySem.W.keepIn K (.ref f_sI) = true)
    (fn_sI : PySem.W.isFn K (.ref f_sI) = true)
    (a_n4 : PySem.W.nsIn K mainGlobals "is_number" = some (some (.ref f_n4)))
    (l_n4 : K.lookup f_n4 = some ⟨oc_n4, od_n4, .func (PySem.W.fnOf "is_number" "is_number" (defArgs sIsNumber) (defBody sIsNumber) (defScope sIsNumber) .none kV_n4 dc_n4 pm_n4 an_n4 (cd_n4) ct_n4), sl_n4⟩)
    (c_n4 : PySem.W.codeIn K (cd_n4) "is_number" = true)
    (k_n4 : PySem.W.keepIn K (.ref f_n4) = true)
    (a_n5 : PySem.W.nsIn K mainGlobals "is_number_below" = some (some (.ref f_n5)))
    (l_n5 : K.lookup f_n5 = some ⟨oc_n5, od_n5, .func (PySem.W.fnOf "is_number_below" "is_number_below" (defArgs sIsBelow) (defBody sIsBelow) (defScope sIsBelow) .none kV_n5 dc_n5 pm_n5 an_n5 (cd_n5) ct_n5), sl_n5⟩)
    (c_n5 : PySem.W.codeIn K (cd_n5) "is_number_below" = true)
    (k_n5 : PySem.W.keepIn K (.ref f_n5) = true)
    (a_n6 : PySem.W.nsIn K mainGlobals "are_states" = some (some (.ref f_n6)))
    (l_n6 : K.lookup f_n6 = some ⟨oc_n6, od_n6, .func (PySem.W.fnOf "are_states" "are_states" (defArgs sAreStates) (defBody sAreStates) (defScope sAreStates) .none kV_n6 dc_n6 pm_n6 an_n6 (.ref 170) ct_n6), sl_n6⟩)
    (c_n6 : PySem.W.codeIn K (.ref 170) "are_states" = true)
    (k_n6 : PySem.W.keepIn K (.ref f_n6) = true)
    (a_n7 : PySem.W.nsIn K mainGlobals "is_rule" = some (some (.ref f_n7)))
    (l_n7 : K.lookup f_n7 = some ⟨oc_n7, od_n7, .func (PySem.W.fnOf "is_rule" "is_rule" (defArgs sIsRule) (defBody sIsRule) (defScope sIsRule) .none kV_n7 dc_n7 pm_n7 an_n7 (cd_n7) ct_n7), sl_n7⟩)
    (c_n7 : PySem.W.codeIn K (cd_n7) "is_rule" = true)
    (k_n7 : PySem.W.keepIn K (.ref f_n7) = true)
    (a_n8 : PySem.W.nsIn K mainGlobals "are_rules" = some (some (.ref f_n8)))
    (l_n8 : K.lookup f_n8 = some ⟨oc_n8, od_n8, .func (PySem.W.fnOf "are_rules" "are_rules" (defArgs sAreRules) (defBody sAreRules) (defScope sAreRules) .none kV_n8 dc_n8 pm_n8 an_n8 (.ref 177) ct_n8), sl_n8⟩)
    (c_n8 : PySem.W.codeIn K (.ref 177) "are_rules" = true)
    (k_n8 : PySem.W.keepIn K (.ref f_n8) = true)
    (g_lI : PySem.W.nsIn K mainGlobals "Listener" = some (some (.ref CL)))
    (a_lI : PySem.W.findIn K (.ref CL) "__init__" = some (some (.ref f_lI)))
    (l_lI : K.lookup f_lI = some ⟨oc_lI, od_lI, .func (PySem.W.fnOf "__init__" "Listener.__init__" (defArgs sListI) (defBody sListI) (defScope sListI) .none kV_lI dc_lI pm_lI an_lI (cd_lI) ct_lI), sl_lI⟩)
    (c_lI : PySem.W.codeIn K (cd_lI) "Listener.__init__" = true)
    (k_lI : PySem.W.keepIn K (.ref f_lI) = true)
    (fn_lI : PySem.W.isFn K (.ref f_lI) = true)
    (a_n10 : PySem.W.nsIn K mainGlobals "first_scene" = some (some (.ref f_n10)))
    (l_n10 : K.lookup f_n10 = some ⟨oc_n10, od_n10, .func (PySem.W.fnOf "first_scene" "first_scene" (defArgs s_first_scene) (defBody s_first_scene) (defScope s_first_scene) .none kV_n10 dc_n10 pm_n10 an_n10 (cd_n10) ct_n10), sl_n10⟩)
    (c_n10 : PySem.W.codeIn K (cd_n10) "first_scene" = true)
    (k_n10 : PySem.W.keepIn K (.ref f_n10) = true)
    (g_gI : PySem.W.nsIn K mainGlobals "Stage" = some (some (.ref CG)))
    (a_gI : PySem.W.findIn K (.ref CG) "__init__" = some (some (.ref f_gI)))
    (l_gI : K.lookup f_gI = some ⟨oc_gI, od_gI, .func (PySem.W.fnOf "__init__" "Stage.__init__" (defArgs s_Stage_init) (defBody s_Stage_init) (defScope s_Stage_init) .none kV_gI dc_gI pm_gI an_gI (cd_gI) ct_gI), sl_gI⟩)
    (c_gI : PySem.W.codeIn K (cd_gI) "Stage.__init__" = true)
    (k_gI : PySem.W.keepIn K (.ref f_gI) = true)
    (fn_gI : PySem.W.isFn K (.ref f_gI) = true)
    (a_g_undo : PySem.W.findIn K (.ref CG) "undo" = some (some (.ref f_g_undo)))
    (l_g_undo : K.lookup f_g_undo = some ⟨oc_g_undo, od_g_undo, .func (PySem.W.fnOf "undo" "Stage.undo" (defArgs s_Stage_undo) (defBody s_Stage_undo) (defScope s_Stage_undo) .none kV_g_undo dc_g_undo pm_g_undo an_g_undo (cd_g_undo) ct_g_undo), sl_g_undo⟩)
    (c_g_undo : PySem.W.codeIn K (cd_g_undo) "Stage.undo" = true)
    (k_g_undo : PySem.W.keepIn K (.ref f_g_undo) = true)
    (fn_g_undo : PySem.W.isFn K (.ref f_g_undo) = true)
    (a_n13 : PySem.W.nsIn K mainGlobals "_law_cell" = some (some (.ref f_n13)))
    (l_n13 : K.lookup f_n13 = some ⟨oc_n13, od_n13, .func (PySem.W.fnOf "_law_cell" "_law_cell" (defArgs sLCell) (defBody sLCell) (defScope sLCell) .none kV_n13 dc_n13 pm_n13 an_n13 (cd_n13) ct_n13), sl_n13⟩)
    (c_n13 : PySem.W.codeIn K (cd_n13) "_law_cell" = true)
    (k_n13 : PySem.W.keepIn K (.ref f_n13) = true)
    (a_n14 : PySem.W.nsIn K mainGlobals "_law_row" = some (some (.ref f_n14)))
    (l_n14 : K.lookup f_n14 = some ⟨oc_n14, od_n14, .func (PySem.W.fnOf "_law_row" "_law_row" (defArgs sLRow) (defBody sLRow) (defScope sLRow) .none kV_n14 dc_n14 pm_n14 an_n14 (cd_n14) ct_n14), sl_n14⟩)
    (c_n14 : PySem.W.codeIn K (cd_n14) "_law_row" = true)
    (k_n14 : PySem.W.keepIn K (.ref f_n14) = true)
    (a_n15 : PySem.W.nsIn K mainGlobals "_law_draw" = some (some (.ref f_n15)))
    (l_n15 : K.lookup f_n15 = some ⟨oc_n15, od_n15, .func (PySem.W.fnOf "_law_draw" "_law_draw" (defArgs sLDraw) (defBody sLDraw) (defScope sLDraw) .none kV_n15 dc_n15 pm_n15 an_n15 (cd_n15) ct_n15), sl_n15⟩)
    (c_n15 : PySem.W.codeIn K (cd_n15) "_law_draw" = true)
    (k_n15 : PySem.W.keepIn K (.ref f_n15) = true)
    (a_n16 : PySem.W.nsIn K mainGlobals "_law_some" = some (some (.ref f_n16)))
    (l_n16 : K.lookup f_n16 = some ⟨oc_n16, od_n16, .func (PySem.W.fnOf "_law_some" "_law_some" (defArgs sLSome) (defBody sLSome) (defScope sLSome) .none kV_n16 dc_n16 pm_n16 an_n16 (cd_n16) ct_n16), sl_n16⟩)
    (c_n16 : PySem.W.codeIn K (cd_n16) "_law_some" = true)
    (k_n16 : PySem.W.keepIn K (.ref f_n16) = true)
    (a_n17 : PySem.W.nsIn K mainGlobals "_law_kinds" = some (some (.ref f_n17)))
    (l_n17 : K.lookup f_n17 = some ⟨oc_n17, od_n17, .func (PySem.W.fnOf "_law_kinds" "_law_kinds" (defArgs sLKinds) (defBody sLKinds) (defScope sLKinds) .none kV_n17 dc_n17 pm_n17 an_n17 (cd_n17) ct_n17), sl_n17⟩)
    (c_n17 : PySem.W.codeIn K (cd_n17) "_law_kinds" = true)
    (k_n17 : PySem.W.keepIn K (.ref f_n17) = true)
    (a_n18 : PySem.W.nsIn K mainGlobals "_law_setup" = some (some (.ref f_n18)))
    (l_n18 : K.lookup f_n18 = some ⟨oc_n18, od_n18, .func (PySem.W.fnOf "_law_setup" "_law_setup" (defArgs sLSetup) (defBody sLSetup) (defScope sLSetup) .none kV_n18 dc_n18 pm_n18 an_n18 (cd_n18) ct_n18), sl_n18⟩)
    (c_n18 : PySem.W.codeIn K (cd_n18) "_law_setup" = true)
    (k_n18 : PySem.W.keepIn K (.ref f_n18) = true)
    (a_n19 : PySem.W.nsIn K mainGlobals "_law_rule" = some (some (.ref f_n19)))
    (l_n19 : K.lookup f_n19 = some ⟨oc_n19, od_n19, .func (PySem.W.fnOf "_law_rule" "_law_rule" (defArgs sLRule) (defBody sLRule) (defScope sLRule) .none kV_n19 dc_n19 pm_n19 an_n19 (cd_n19) ct_n19), sl_n19⟩)
    (c_n19 : PySem.W.codeIn K (cd_n19) "_law_rule" = true)
    (k_n19 : PySem.W.keepIn K (.ref f_n19) = true)
    (a_n20 : PySem.W.nsIn K mainGlobals "_law_sample" = some (some (.ref f_n20)))
    (l_n20 : K.lookup f_n20 = some ⟨oc_n20, od_n20, .func (PySem.W.fnOf "_law_sample" "_law_sample" (defArgs sLSample) (defBody sLSample) (defScope sLSample) .none kV_n20 dc_n20 pm_n20 an_n20 (cd_n20) ct_n20), sl_n20⟩)
    (c_n20 : PySem.W.codeIn K (cd_n20) "_law_sample" = true)
    (k_n20 : PySem.W.keepIn K (.ref f_n20) = true)
    (a_n21 : PySem.W.nsIn K mainGlobals "_law_listener" = some (some (.ref f_n21)))
    (l_n21 : K.lookup f_n21 = some ⟨oc_n21, od_n21, .func (PySem.W.fnOf "_law_listener" "_law_listener" (defArgs sLList) (defBody sLList) (defScope sLList) .none kV_n21 dc_n21 pm_n21 an_n21 (cd_n21) ct_n21), sl_n21⟩)
    (c_n21 : PySem.W.codeIn K (cd_n21) "_law_listener" = true)
    (k_n21 : PySem.W.keepIn K (.ref f_n21) = true)
    (a_n22 : PySem.W.nsIn K mainGlobals "_law_made" = some (some (.ref f_n22)))
    (l_n22 : K.lookup f_n22 = some ⟨oc_n22, od_n22, .func (PySem.W.fnOf "_law_made" "_law_made" (defArgs s_law_made) (defBody s_law_made) (defScope s_law_made) .none kV_n22 dc_n22 pm_n22 an_n22 (cd_n22) ct_n22), sl_n22⟩)
    (c_n22 : PySem.W.codeIn K (cd_n22) "_law_made" = true)
    (k_n22 : PySem.W.keepIn K (.ref f_n22) = true)
    (a_n23 : PySem.W.nsIn K mainGlobals "_law_listening" = some (some (.ref f_n23)))
    (l_n23 : K.lookup f_n23 = some ⟨oc_n23, od_n23, .func (PySem.W.fnOf "_law_listening" "_law_listening" (defArgs sLListening) (defBody sLListening) (defScope sLListening) .none kV_n23 dc_n23 pm_n23 an_n23 (cd_n23) ct_n23), sl_n23⟩)
    (c_n23 : PySem.W.codeIn K (cd_n23) "_law_listening" = true)
    (k_n23 : PySem.W.keepIn K (.ref f_n23) = true)
    (a_n24 : PySem.W.nsIn K mainGlobals "_law_page" = some (some (.ref f_n24)))
    (l_n24 : K.lookup f_n24 = some ⟨oc_n24, od_n24, .func (PySem.W.fnOf "_law_page" "_law_page" (defArgs s_law_page) (defBody s_law_page) (defScope s_law_page) .none kV_n24 dc_n24 pm_n24 an_n24 (cd_n24) ct_n24), sl_n24⟩)
    (c_n24 : PySem.W.codeIn K (cd_n24) "_law_page" = true)
    (k_n24 : PySem.W.keepIn K (.ref f_n24) = true)
    (a_n25 : PySem.W.nsIn K mainGlobals "_law_step" = some (some (.ref f_n25)))
    (l_n25 : K.lookup f_n25 = some ⟨oc_n25, od_n25, .func (PySem.W.fnOf "_law_step" "_law_step" (defArgs s_law_step) (defBody s_law_step) (defScope s_law_step) .none kV_n25 dc_n25 pm_n25 an_n25 (cd_n25) ct_n25), sl_n25⟩)
    (c_n25 : PySem.W.codeIn K (cd_n25) "_law_step" = true)
    (k_n25 : PySem.W.keepIn K (.ref f_n25) = true)
    (a_n26 : PySem.W.nsIn K mainGlobals "_law_copied" = some (some (.ref f_n26)))
    (l_n26 : K.lookup f_n26 = some ⟨oc_n26, od_n26, .func (PySem.W.fnOf "_law_copied" "_law_copied" (defArgs s_law_copied) (defBody s_law_copied) (defScope s_law_copied) .none kV_n26 dc_n26 pm_n26 an_n26 (cd_n26) ct_n26), sl_n26⟩)
    (c_n26 : PySem.W.codeIn K (cd_n26) "_law_copied" = true)
    (k_n26 : PySem.W.keepIn K (.ref f_n26) = true)
    (a_n27 : PySem.W.nsIn K mainGlobals "_law_is_there" = some (some (.ref f_n27)))
    (l_n27 : K.lookup f_n27 = some ⟨oc_n27, od_n27, .func (PySem.W.fnOf "_law_is_there" "_law_is_there" (defArgs s_law_is_there) (defBody s_law_is_there) (defScope s_law_is_there) .none kV_n27 dc_n27 pm_n27 an_n27 (cd_n27) ct_n27), sl_n27⟩)
    (c_n27 : PySem.W.codeIn K (cd_n27) "_law_is_there" = true)
    (k_n27 : PySem.W.keepIn K (.ref f_n27) = true)
    (a_n28 : PySem.W.nsIn K mainGlobals "_law_is_within" = some (some (.ref f_n28)))
    (l_n28 : K.lookup f_n28 = some ⟨oc_n28, od_n28, .func (PySem.W.fnOf "_law_is_within" "_law_is_within" (defArgs s_law_is_within) (defBody s_law_is_within) (defScope s_law_is_within) .none kV_n28 dc_n28 pm_n28 an_n28 (cd_n28) ct_n28), sl_n28⟩)
    (c_n28 : PySem.W.codeIn K (cd_n28) "_law_is_within" = true)
    (k_n28 : PySem.W.keepIn K (.ref f_n28) = true)
    (a_n29 : PySem.W.nsIn K mainGlobals "_law_current" = some (some (.ref f_n29)))
    (l_n29 : K.lookup f_n29 = some ⟨oc_n29, od_n29, .func (PySem.W.fnOf "_law_current" "_law_current" (defArgs s_law_current) (defBody s_law_current) (defScope s_law_current) .none kV_n29 dc_n29 pm_n29 an_n29 (cd_n29) ct_n29), sl_n29⟩)
    (c_n29 : PySem.W.codeIn K (cd_n29) "_law_current" = true)
    (k_n29 : PySem.W.keepIn K (.ref f_n29) = true)
    (a_n30 : PySem.W.nsIn K mainGlobals "_law_can" = some (some (.ref f_n30)))
    (l_n30 : K.lookup f_n30 = some ⟨oc_n30, od_n30, .func (PySem.W.fnOf "_law_can" "_law_can" (defArgs s_law_can) (defBody s_law_can) (defScope s_law_can) .none kV_n30 dc_n30 pm_n30 an_n30 (cd_n30) ct_n30), sl_n30⟩)
    (c_n30 : PySem.W.codeIn K (cd_n30) "_law_can" = true)
    (k_n30 : PySem.W.keepIn K (.ref f_n30) = true)
    (a_n31 : PySem.W.nsIn K mainGlobals "_law_removed" = some (some (.ref f_n31)))
    (l_n31 : K.lookup f_n31 = some ⟨oc_n31, od_n31, .func (PySem.W.fnOf "_law_removed" "_law_removed" (defArgs s_law_removed) (defBody s_law_removed) (defScope s_law_removed) .none kV_n31 dc_n31 pm_n31 an_n31 (cd_n31) ct_n31), sl_n31⟩)
    (c_n31 : PySem.W.codeIn K (cd_n31) "_law_removed" = true)
    (k_n31 : PySem.W.keepIn K (.ref f_n31) = true)
    (a_n32 : PySem.W.nsIn K mainGlobals "_law_changes" = some (some (.ref f_n32)))
    (l_n32 : K.lookup f_n32 = some ⟨oc_n32, od_n32, .func (PySem.W.fnOf "_law_changes" "_law_changes" (defArgs s_law_changes) (defBody s_law_changes) (defScope s_law_changes) .none kV_n32 dc_n32 pm_n32 an_n32 (cd_n32) ct_n32), sl_n32⟩)
    (c_n32 : PySem.W.codeIn K (cd_n32) "_law_changes" = true)
    (k_n32 : PySem.W.keepIn K (.ref f_n32) = true)
    (a_n33 : PySem.W.nsIn K mainGlobals "_law_number" = some (some (.ref f_n33)))
    (l_n33 : K.lookup f_n33 = some ⟨oc_n33, od_n33, .func (PySem.W.fnOf "_law_number" "_law_number" (defArgs s_law_number) (defBody s_law_number) (defScope s_law_number) .none kV_n33 dc_n33 pm_n33 an_n33 (cd_n33) ct_n33), sl_n33⟩)
    (c_n33 : PySem.W.codeIn K (cd_n33) "_law_number" = true)
    (k_n33 : PySem.W.keepIn K (.ref f_n33) = true)
    (a_n34 : PySem.W.nsIn K mainGlobals "_law_events" = some (some (.ref f_n34)))
    (l_n34 : K.lookup f_n34 = some ⟨oc_n34, od_n34, .func (PySem.W.fnOf "_law_events" "_law_events" (defArgs s_law_events) (defBody s_law_events) (defScope s_law_events) .none kV_n34 dc_n34 pm_n34 an_n34 (cd_n34) ct_n34), sl_n34⟩)
    (c_n34 : PySem.W.codeIn K (cd_n34) "_law_events" = true)
    (k_n34 : PySem.W.keepIn K (.ref f_n34) = true)
    (a_n35 : PySem.W.nsIn K mainGlobals "_law_reaches" = some (some (.ref f_n35)))
    (l_n35 : K.lookup f_n35 = some ⟨oc_n35, od_n35, .func (PySem.W.fnOf "_law_reaches" "_law_reaches" (defArgs s_law_reaches) (defBody s_law_reaches) (defScope s_law_reaches) .none kV_n35 dc_n35 pm_n35 an_n35 (cd_n35) ct_n35), sl_n35⟩)
    (c_n35 : PySem.W.codeIn K (cd_n35) "_law_reaches" = true)
    (k_n35 : PySem.W.keepIn K (.ref f_n35) = true)
    (a_n36 : PySem.W.nsIn K mainGlobals "_law_signal" = some (some (.ref f_n36)))
    (l_n36 : K.lookup f_n36 = some ⟨oc_n36, od_n36, .func (PySem.W.fnOf "_law_signal" "_law_signal" (defArgs s_law_signal) (defBody s_law_signal) (defScope s_law_signal) .none kV_n36 dc_n36 pm_n36 an_n36 (cd_n36) ct_n36), sl_n36⟩)
    (c_n36 : PySem.W.codeIn K (cd_n36) "_law_signal" = true)
    (k_n36 : PySem.W.keepIn K (.ref f_n36) = true)
    (a_n37 : PySem.W.nsIn K mainGlobals "_law_tick" = some (some (.ref f_n37)))
    (l_n37 : K.lookup f_n37 = some ⟨oc_n37, od_n37, .func (PySem.W.fnOf "_law_tick" "_law_tick" (defArgs s_law_tick) (defBody s_law_tick) (defScope s_law_tick) .none kV_n37 dc_n37 pm_n37 an_n37 (cd_n37) ct_n37), sl_n37⟩)
    (c_n37 : PySem.W.codeIn K (cd_n37) "_law_tick" = true)
    (k_n37 : PySem.W.keepIn K (.ref f_n37) = true)
    (a_n38 : PySem.W.nsIn K mainGlobals "_law_next" = some (some (.ref f_n38)))
    (l_n38 : K.lookup f_n38 = some ⟨oc_n38, od_n38, .func (PySem.W.fnOf "_law_next" "_law_next" (defArgs sLNext) (defBody sLNext) (defScope sLNext) .none kV_n38 dc_n38 pm_n38 an_n38 (cd_n38) ct_n38), sl_n38⟩)
    (c_n38 : PySem.W.codeIn K (cd_n38) "_law_next" = true)
    (k_n38 : PySem.W.keepIn K (.ref f_n38) = true)
    (a_n39 : PySem.W.nsIn K mainGlobals "_law_is_hovered" = some (some (.ref f_n39)))
    (l_n39 : K.lookup f_n39 = some ⟨oc_n39, od_n39, .func (PySem.W.fnOf "_law_is_hovered" "_law_is_hovered" (defArgs s_law_is_hovered) (defBody s_law_is_hovered) (defScope s_law_is_hovered) .none kV_n39 dc_n39 pm_n39 an_n39 (cd_n39) ct_n39), sl_n39⟩)
    (c_n39 : PySem.W.codeIn K (cd_n39) "_law_is_hovered" = true)
    (k_n39 : PySem.W.keepIn K (.ref f_n39) = true)
    (a_n40 : PySem.W.nsIn K mainGlobals "_law_due" = some (some (.ref f_n40)))
    (l_n40 : K.lookup f_n40 = some ⟨oc_n40, od_n40, .func (PySem.W.fnOf "_law_due" "_law_due" (defArgs s_law_due) (defBody s_law_due) (defScope s_law_due) .none kV_n40 dc_n40 pm_n40 an_n40 (cd_n40) ct_n40), sl_n40⟩)
    (c_n40 : PySem.W.codeIn K (cd_n40) "_law_due" = true)
    (k_n40 : PySem.W.keepIn K (.ref f_n40) = true)
    (a_n41 : PySem.W.nsIn K mainGlobals "is_within" = some (some (.ref f_n41)))
    (l_n41 : K.lookup f_n41 = some ⟨oc_n41, od_n41, .func (PySem.W.fnOf "is_within" "is_within" (defArgs s_is_within) (defBody s_is_within) (defScope s_is_within) .none kV_n41 dc_n41 pm_n41 an_n41 (cd_n41) ct_n41), sl_n41⟩)
    (c_n41 : PySem.W.codeIn K (cd_n41) "is_within" = true)
    (k_n41 : PySem.W.keepIn K (.ref f_n41) = true)
    (a_n42 : PySem.W.nsIn K mainGlobals "is_there" = some (some (.ref f_n42)))
    (l_n42 : K.lookup f_n42 = some ⟨oc_n42, od_n42, .func (PySem.W.fnOf "is_there" "is_there" (defArgs s_is_there) (defBody s_is_there) (defScope s_is_there) .none kV_n42 dc_n42 pm_n42 an_n42 (cd_n42) ct_n42), sl_n42⟩)
    (c_n42 : PySem.W.codeIn K (cd_n42) "is_there" = true)
    (k_n42 : PySem.W.keepIn K (.ref f_n42) = true)
    (a_n43 : PySem.W.nsIn K mainGlobals "is_movable" = some (some (.ref f_n43)))
    (l_n43 : K.lookup f_n43 = some ⟨oc_n43, od_n43, .func (PySem.W.fnOf "is_movable" "is_movable" (defArgs s_is_movable) (defBody s_is_movable) (defScope s_is_movable) .none kV_n43 dc_n43 pm_n43 an_n43 (cd_n43) ct_n43), sl_n43⟩)
    (c_n43 : PySem.W.codeIn K (cd_n43) "is_movable" = true)
    (k_n43 : PySem.W.keepIn K (.ref f_n43) = true)
    (a_n44 : PySem.W.nsIn K mainGlobals "is_possible_change" = some (some (.ref f_n44)))
    (l_n44 : K.lookup f_n44 = some ⟨oc_n44, od_n44, .func (PySem.W.fnOf "is_possible_change" "is_possible_change" (defArgs s_is_possible_change) (defBody s_is_possible_change) (defScope s_is_possible_change) .none kV_n44 dc_n44 pm_n44 an_n44 (cd_n44) ct_n44), sl_n44⟩)
    (c_n44 : PySem.W.codeIn K (cd_n44) "is_possible_change" = true)
    (k_n44 : PySem.W.keepIn K (.ref f_n44) = true)
    (a_n45 : PySem.W.nsIn K mainGlobals "is_possible_slip" = some (some (.ref f_n45)))
    (l_n45 : K.lookup f_n45 = some ⟨oc_n45, od_n45, .func (PySem.W.fnOf "is_possible_slip" "is_possible_slip" (defArgs s_is_possible_slip) (defBody s_is_possible_slip) (defScope s_is_possible_slip) .none kV_n45 dc_n45 pm_n45 an_n45 (cd_n45) ct_n45), sl_n45⟩)
    (c_n45 : PySem.W.codeIn K (cd_n45) "is_possible_slip" = true)
    (k_n45 : PySem.W.keepIn K (.ref f_n45) = true)
    (a_n46 : PySem.W.nsIn K mainGlobals "current_target" = some (some (.ref f_n46)))
    (l_n46 : K.lookup f_n46 = some ⟨oc_n46, od_n46, .func (PySem.W.fnOf "current_target" "current_target" (defArgs s_current_target) (defBody s_current_target) (defScope s_current_target) .none kV_n46 dc_n46 pm_n46 an_n46 (cd_n46) ct_n46), sl_n46⟩)
    (c_n46 : PySem.W.codeIn K (cd_n46) "current_target" = true)
    (k_n46 : PySem.W.keepIn K (.ref f_n46) = true)
    (a_n47 : PySem.W.nsIn K mainGlobals "is_possible_tick" = some (some (.ref f_n47)))
    (l_n47 : K.lookup f_n47 = some ⟨oc_n47, od_n47, .func (PySem.W.fnOf "is_possible_tick" "is_possible_tick" (defArgs s_is_possible_tick) (defBody s_is_possible_tick) (defScope s_is_possible_tick) .none kV_n47 dc_n47 pm_n47 an_n47 (cd_n47) ct_n47), sl_n47⟩)
    (c_n47 : PySem.W.codeIn K (cd_n47) "is_possible_tick" = true)
    (k_n47 : PySem.W.keepIn K (.ref f_n47) = true)
    (a_n48 : PySem.W.nsIn K mainGlobals "is_possible" = some (some (.ref f_n48)))
    (l_n48 : K.lookup f_n48 = some ⟨oc_n48, od_n48, .func (PySem.W.fnOf "is_possible" "is_possible" (defArgs s_is_possible) (defBody s_is_possible) (defScope s_is_possible) .none kV_n48 dc_n48 pm_n48 an_n48 (cd_n48) ct_n48), sl_n48⟩)
    (c_n48 : PySem.W.codeIn K (cd_n48) "is_possible" = true)
    (k_n48 : PySem.W.keepIn K (.ref f_n48) = true)
    (a_n49 : PySem.W.nsIn K mainGlobals "put_into" = some (some (.ref f_n49)))
    (l_n49 : K.lookup f_n49 = some ⟨oc_n49, od_n49, .func (PySem.W.fnOf "put_into" "put_into" (defArgs s_put_into) (defBody s_put_into) (defScope s_put_into) .none kV_n49 dc_n49 pm_n49 an_n49 (cd_n49) ct_n49), sl_n49⟩)
    (c_n49 : PySem.W.codeIn K (cd_n49) "put_into" = true)
    (k_n49 : PySem.W.keepIn K (.ref f_n49) = true)
    (a_n50 : PySem.W.nsIn K mainGlobals "changed" = some (some (.ref f_n50)))
    (l_n50 : K.lookup f_n50 = some ⟨oc_n50, od_n50, .func (PySem.W.fnOf "changed" "changed" (defArgs s_changed) (defBody s_changed) (defScope s_changed) .none kV_n50 dc_n50 pm_n50 an_n50 (cd_n50) ct_n50), sl_n50⟩)
    (c_n50 : PySem.W.codeIn K (cd_n50) "changed" = true)
    (k_n50 : PySem.W.keepIn K (.ref f_n50) = true)
    (a_n51 : PySem.W.nsIn K mainGlobals "side_of" = some (some (.ref f_n51)))
    (l_n51 : K.lookup f_n51 = some ⟨oc_n51, od_n51, .func (PySem.W.fnOf "side_of" "side_of" (defArgs s_side_of) (defBody s_side_of) (defScope s_side_of) .none kV_n51 dc_n51 pm_n51 an_n51 (cd_n51) ct_n51), sl_n51⟩)
    (c_n51 : PySem.W.codeIn K (cd_n51) "side_of" = true)
    (k_n51 : PySem.W.keepIn K (.ref f_n51) = true)
    (a_n52 : PySem.W.nsIn K mainGlobals "reaches" = some (some (.ref f_n52)))
    (l_n52 : K.lookup f_n52 = some ⟨oc_n52, od_n52, .func (PySem.W.fnOf "reaches" "reaches" (defArgs s_reaches) (defBody s_reaches) (defScope s_reaches) .none kV_n52 dc_n52 pm_n52 an_n52 (cd_n52) ct_n52), sl_n52⟩)
    (c_n52 : PySem.W.codeIn K (cd_n52) "reaches" = true)
    (k_n52 : PySem.W.keepIn K (.ref f_n52) = true)
    (a_n53 : PySem.W.nsIn K mainGlobals "without_zone" = some (some (.ref f_n53)))
    (l_n53 : K.lookup f_n53 = some ⟨oc_n53, od_n53, .func (PySem.W.fnOf "without_zone" "without_zone" (defArgs s_without_zone) (defBody s_without_zone) (defScope s_without_zone) .none kV_n53 dc_n53 pm_n53 an_n53 (cd_n53) ct_n53), sl_n53⟩)
    (c_n53 : PySem.W.codeIn K (cd_n53) "without_zone" = true)
    (k_n53 : PySem.W.keepIn K (.ref f_n53) = true)
    (a_n54 : PySem.W.nsIn K mainGlobals "signal_of" = some (some (.ref f_n54)))
    (l_n54 : K.lookup f_n54 = some ⟨oc_n54, od_n54, .func (PySem.W.fnOf "signal_of" "signal_of" (defArgs s_signal_of) (defBody s_signal_of) (defScope s_signal_of) .none kV_n54 dc_n54 pm_n54 an_n54 (cd_n54) ct_n54), sl_n54⟩)
    (c_n54 : PySem.W.codeIn K (cd_n54) "signal_of" = true)
    (k_n54 : PySem.W.keepIn K (.ref f_n54) = true)
    (a_n55 : PySem.W.nsIn K mainGlobals "heard" = some (some (.ref f_n55)))
    (l_n55 : K.lookup f_n55 = some ⟨oc_n55, od_n55, .func (PySem.W.fnOf "heard" "heard" (defArgs s_heard) (defBody s_heard) (defScope s_heard) .none kV_n55 dc_n55 pm_n55 an_n55 (cd_n55) ct_n55), sl_n55⟩)
    (c_n55 : PySem.W.codeIn K (cd_n55) "heard" = true)
    (k_n55 : PySem.W.keepIn K (.ref f_n55) = true)
    (a_n56 : PySem.W.nsIn K mainGlobals "signals_on_page" = some (some (.ref f_n56)))
    (l_n56 : K.lookup f_n56 = some ⟨oc_n56, od_n56, .func (PySem.W.fnOf "signals_on_page" "signals_on_page" (defArgs s_signals_on_page) (defBody s_signals_on_page) (defScope s_signals_on_page) .none kV_n56 dc_n56 pm_n56 an_n56 (cd_n56) ct_n56), sl_n56⟩)
    (c_n56 : PySem.W.codeIn K (cd_n56) "signals_on_page" = true)
    (k_n56 : PySem.W.keepIn K (.ref f_n56) = true)
    (a_n57 : PySem.W.nsIn K mainGlobals "point_events" = some (some (.ref f_n57)))
    (l_n57 : K.lookup f_n57 = some ⟨oc_n57, od_n57, .func (PySem.W.fnOf "point_events" "point_events" (defArgs s_point_events) (defBody s_point_events) (defScope s_point_events) .none kV_n57 dc_n57 pm_n57 an_n57 (cd_n57) ct_n57), sl_n57⟩)
    (c_n57 : PySem.W.codeIn K (cd_n57) "point_events" = true)
    (k_n57 : PySem.W.keepIn K (.ref f_n57) = true)
    (a_n58 : PySem.W.nsIn K mainGlobals "events_of" = some (some (.ref f_n58)))
    (l_n58 : K.lookup f_n58 = some ⟨oc_n58, od_n58, .func (PySem.W.fnOf "events_of" "events_of" (defArgs s_events_of) (defBody s_events_of) (defScope s_events_of) .none kV_n58 dc_n58 pm_n58 an_n58 (cd_n58) ct_n58), sl_n58⟩)
    (c_n58 : PySem.W.codeIn K (cd_n58) "events_of" = true)
    (k_n58 : PySem.W.keepIn K (.ref f_n58) = true)
    (a_n59 : PySem.W.nsIn K mainGlobals "takes_signal" = some (some (.ref f_n59)))
    (l_n59 : K.lookup f_n59 = some ⟨oc_n59, od_n59, .func (PySem.W.fnOf "takes_signal" "takes_signal" (defArgs sTakes) (defBody sTakes) (defScope sTakes) .none kV_n59 dc_n59 pm_n59 an_n59 (cd_n59) ct_n59), sl_n59⟩)
    (c_n59 : PySem.W.codeIn K (cd_n59) "takes_signal" = true)
    (k_n59 : PySem.W.keepIn K (.ref f_n59) = true)
    (a_n60 : PySem.W.nsIn K mainGlobals "applies" = some (some (.ref f_n60)))
    (l_n60 : K.lookup f_n60 = some ⟨oc_n60, od_n60, .func (PySem.W.fnOf "applies" "applies" (defArgs sApplies) (defBody sApplies) (defScope sApplies) .none kV_n60 dc_n60 pm_n60 an_n60 (cd_n60) ct_n60), sl_n60⟩)
    (c_n60 : PySem.W.codeIn K (cd_n60) "applies" = true)
    (k_n60 : PySem.W.keepIn K (.ref f_n60) = true)
    (a_n61 : PySem.W.nsIn K mainGlobals "next_state" = some (some (.ref f_n61)))
    (l_n61 : K.lookup f_n61 = some ⟨oc_n61, od_n61, .func (PySem.W.fnOf "next_state" "next_state" (defArgs sNext) (defBody sNext) (defScope sNext) .none kV_n61 dc_n61 pm_n61 an_n61 (cd_n61) ct_n61), sl_n61⟩)
    (c_n61 : PySem.W.codeIn K (cd_n61) "next_state" = true)
    (k_n61 : PySem.W.keepIn K (.ref f_n61) = true)
    (a_n62 : PySem.W.nsIn K mainGlobals "target_behind" = some (some (.ref f_n62)))
    (l_n62 : K.lookup f_n62 = some ⟨oc_n62, od_n62, .func (PySem.W.fnOf "target_behind" "target_behind" (defArgs s_target_behind) (defBody s_target_behind) (defScope s_target_behind) .none kV_n62 dc_n62 pm_n62 an_n62 (cd_n62) ct_n62), sl_n62⟩)
    (c_n62 : PySem.W.codeIn K (cd_n62) "target_behind" = true)
    (k_n62 : PySem.W.keepIn K (.ref f_n62) = true)
    (a_n63 : PySem.W.nsIn K mainGlobals "is_zone_hovered" = some (some (.ref f_n63)))
    (l_n63 : K.lookup f_n63 = some ⟨oc_n63, od_n63, .func (PySem.W.fnOf "is_zone_hovered" "is_zone_hovered" (defArgs s_is_zone_hovered) (defBody s_is_zone_hovered) (defScope s_is_zone_hovered) .none kV_n63 dc_n63 pm_n63 an_n63 (cd_n63) ct_n63), sl_n63⟩)
    (c_n63 : PySem.W.codeIn K (cd_n63) "is_zone_hovered" = true)
    (k_n63 : PySem.W.keepIn K (.ref f_n63) = true)
    (a_n64 : PySem.W.nsIn K mainGlobals "carried_out" = some (some (.ref f_n64)))
    (l_n64 : K.lookup f_n64 = some ⟨oc_n64, od_n64, .func (PySem.W.fnOf "carried_out" "carried_out" (defArgs s_carried_out) (defBody s_carried_out) (defScope s_carried_out) .none kV_n64 dc_n64 pm_n64 an_n64 (cd_n64) ct_n64), sl_n64⟩)
    (c_n64 : PySem.W.codeIn K (cd_n64) "carried_out" = true)
    (k_n64 : PySem.W.keepIn K (.ref f_n64) = true)
    (a_g_act : PySem.W.findIn K (.ref CG) "act" = some (some (.ref f_g_act)))
    (l_g_act : K.lookup f_g_act = some ⟨oc_g_act, od_g_act, .func (PySem.W.fnOf "act" "Stage.act" (defArgs s_Stage_act) (defBody s_Stage_act) (defScope s_Stage_act) .none kV_g_act dc_g_act pm_g_act an_g_act (cd_g_act) ct_g_act), sl_g_act⟩)
    (c_g_act : PySem.W.codeIn K (cd_g_act) "Stage.act" = true)
    (k_g_act : PySem.W.keepIn K (.ref f_g_act) = true)
    (fn_g_act : PySem.W.isFn K (.ref f_g_act) = true)
    (a_n66 : PySem.W.nsIn K mainGlobals "_law_told" = some (some (.ref f_n66)))
    (l_n66 : K.lookup f_n66 = some ⟨oc_n66, od_n66, .func (PySem.W.fnOf "_law_told" "_law_told" (defArgs s_law_told) (defBody s_law_told) (defScope s_law_told) .none kV_n66 dc_n66 pm_n66 an_n66 (cd_n66) ct_n66), sl_n66⟩)
    (c_n66 : PySem.W.codeIn K (cd_n66) "_law_told" = true)
    (k_n66 : PySem.W.keepIn K (.ref f_n66) = true)
    (a_g_is_hovered : PySem.W.findIn K (.ref CG) "is_hovered" = some (some (.ref f_g_is_hovered)))
    (l_g_is_hovered : K.lookup f_g_is_hovered = some ⟨oc_g_is_hovered, od_g_is_hovered, .func (PySem.W.fnOf "is_hovered" "Stage.is_hovered" (defArgs s_Stage_is_hovered) (defBody s_Stage_is_hovered) (defScope s_Stage_is_hovered) .none kV_g_is_hovered dc_g_is_hovered pm_g_is_hovered an_g_is_hovered (cd_g_is_hovered) ct_g_is_hovered), sl_g_is_hovered⟩)
    (c_g_is_hovered : PySem.W.codeIn K (cd_g_is_hovered) "Stage.is_hovered" = true)
    (k_g_is_hovered : PySem.W.keepIn K (.ref f_g_is_hovered) = true)
    (fn_g_is_hovered : PySem.W.isFn K (.ref f_g_is_hovered) = true)
    (a_g_steps : PySem.W.findIn K (.ref CG) "steps" = some (some (.ref f_g_steps)))
    (l_g_steps : K.lookup f_g_steps = some ⟨oc_g_steps, od_g_steps, .func (PySem.W.fnOf "steps" "Stage.steps" (defArgs s_Stage_steps) (defBody s_Stage_steps) (defScope s_Stage_steps) .none kV_g_steps dc_g_steps pm_g_steps an_g_steps (cd_g_steps) ct_g_steps), sl_g_steps⟩)
    (c_g_steps : PySem.W.codeIn K (cd_g_steps) "Stage.steps" = true)
    (k_g_steps : PySem.W.keepIn K (.ref f_g_steps) = true)
    (fn_g_steps : PySem.W.isFn K (.ref f_g_steps) = true)
    (a_g_side : PySem.W.findIn K (.ref CG) "side" = some (some (.ref f_g_side)))
    (l_g_side : K.lookup f_g_side = some ⟨oc_g_side, od_g_side, .func (PySem.W.fnOf "side" "Stage.side" (defArgs s_Stage_side) (defBody s_Stage_side) (defScope s_Stage_side) .none kV_g_side dc_g_side pm_g_side an_g_side (cd_g_side) ct_g_side), sl_g_side⟩)
    (c_g_side : PySem.W.codeIn K (cd_g_side) "Stage.side" = true)
    (k_g_side : PySem.W.keepIn K (.ref f_g_side) = true)
    (fn_g_side : PySem.W.isFn K (.ref f_g_side) = true)
    (a_n70 : PySem.W.nsIn K mainGlobals "_law_sides" = some (some (.ref f_n70)))
    (l_n70 : K.lookup f_n70 = some ⟨oc_n70, od_n70, .func (PySem.W.fnOf "_law_sides" "_law_sides" (defArgs s_law_sides) (defBody s_law_sides) (defScope s_law_sides) .none kV_n70 dc_n70 pm_n70 an_n70 (cd_n70) ct_n70), sl_n70⟩)
    (c_n70 : PySem.W.codeIn K (cd_n70) "_law_sides" = true)
    (k_n70 : PySem.W.keepIn K (.ref f_n70) = true)
    (a_n71 : PySem.W.nsIn K mainGlobals "_law_same_look" = some (some (.ref f_n71)))
    (l_n71 : K.lookup f_n71 = some ⟨oc_n71, od_n71, .func (PySem.W.fnOf "_law_same_look" "_law_same_look" (defArgs s_law_same_look) (defBody s_law_same_look) (defScope s_law_same_look) .none kV_n71 dc_n71 pm_n71 an_n71 (cd_n71) ct_n71), sl_n71⟩)
    (c_n71 : PySem.W.codeIn K (cd_n71) "_law_same_look" = true)
    (k_n71 : PySem.W.keepIn K (.ref f_n71) = true)
    (a_n72 : PySem.W.nsIn K mainGlobals "play" = some (some (.ref f_n72)))
    (l_n72 : K.lookup f_n72 = some ⟨oc_n72, od_n72, .func (PySem.W.fnOf "play" "play" (defArgs s_play) (defBody s_play) (defScope s_play) .none kV_n72 dc_n72 pm_n72 an_n72 (cd_n72) ct_n72), sl_n72⟩)
    (c_n72 : PySem.W.codeIn K (cd_n72) "play" = true)
    (k_n72 : PySem.W.keepIn K (.ref f_n72) = true)
    (a_n73 : PySem.W.nsIn K mainGlobals "law" = some (some (.ref f_n73)))
    (l_n73 : K.lookup f_n73 = some ⟨oc_n73, od_n73, .func (PySem.W.fnOf "law" "law" (defArgs sLaw) (defBody sLaw) (defScope sLaw) .none kV_n73 dc_n73 pm_n73 an_n73 (cd_n73) ct_n73), sl_n73⟩)
    (c_n73 : PySem.W.codeIn K (cd_n73) "law" = true)
    (k_n73 : PySem.W.keepIn K (.ref f_n73) = true)
    (g_eI : PySem.W.nsIn K mainGlobals "DragError" = some (some (.ref C0)))
    (a_eI : PySem.W.findIn K (.ref C0) "__init__" = some (some (.ref f_eI)))
    (l_eI : K.lookup f_eI = some ⟨oc_eI, od_eI, .func (PySem.W.fnOf "__init__" "DragError.__init__" (defArgs sErrI) (defBody sErrI) (defScope sErrI) .none kV_eI dc_eI pm_eI an_eI (cd_eI) ct_eI), sl_eI⟩)
    (c_eI : PySem.W.codeIn K (cd_eI) "DragError.__init__" = true)
    (k_eI : PySem.W.keepIn K (.ref f_eI) = true)
    (eX : K.lookup C0 = some (excClassObj nm q C0 N bs [.type "ValueError", .type "Exception", .type "BaseException", .type "object"] true sn sub ab col dd m0 m1 m2 m3 m5 "ValueError.__new__"))
    (eS : PySem.W.findIn K (.ref C0) "__setattr__" = some (some (.builtin "object.__setattr__")))
    (eB : PySem.W.subIn K (.ref C0) (.type "BaseException") = some true)
    (eT : PySem.W.typeIn K (.ref C0) = some (.type "type"))
    (eK : PySem.W.keepIn K (.ref C0) = true)
    (eF : PySem.W.typeIn K (.ref f_eI) = some (.type "function"))
    (eN : PySem.W.findIn K (.ref C0) "reason" = some none)
    (eV : PySem.W.findCls K (.type "ValueError") (.type "type") "__init__" = some (.val (.builtin "ValueError.__init__")))
    (eY : xfB K C0 = true)
    (eE : PySem.W.exmOne K (.ref C0) (.ref C0) = some true)
    (pg_gI : PySem.W.plainGet K CG Str.empty = true)
    (hd_gI : PySem.W.hasDictIn K CG = true)
    (po_gI : PySem.W.plainOver K CG = true)
    (sa_gI : PySem.W.findIn K (.ref CG) "__setattr__" = some (some (.builtin "object.__setattr__")))
    (mk_gI : PySem.W.makesIn K CG = true)
    (kp_gI : PySem.W.keepIn K (.ref CG) = true)
    (no0_gI : PySem.W.findIn K (.ref CG) "_setup" = some none)
    (no1_gI : PySem.W.findIn K (.ref CG) "_listener" = some none)
    (no2_gI : PySem.W.findIn K (.ref CG) "_scene" = some none)
    (no3_gI : PySem.W.findIn K (.ref CG) "_taken" = some none)
    (pg_sI : PySem.W.plainGet K CS Str.empty = true)
    (hd_sI : PySem.W.hasDictIn K CS = true)
    (po_sI : PySem.W.plainOver K CS = true)
    (sa_sI : PySem.W.findIn K (.ref CS) "__setattr__" = some (some (.builtin "object.__setattr__")))
    (mk_sI : PySem.W.makesIn K CS = true)
    (kp_sI : PySem.W.keepIn K (.ref CS) = true)
    (no0_sI : PySem.W.findIn K (.ref CS) "place" = some none)
    (no1_sI : PySem.W.findIn K (.ref CS) "kinds" = some none)
    (no2_sI : PySem.W.findIn K (.ref CS) "sights" = some none)
    (pg_lI : PySem.W.plainGet K CL Str.empty = true)
    (hd_lI : PySem.W.hasDictIn K CL = true)
    (po_lI : PySem.W.plainOver K CL = true)
    (sa_lI : PySem.W.findIn K (.ref CL) "__setattr__" = some (some (.builtin "object.__setattr__")))
    (mk_lI : PySem.W.makesIn K CL = true)
    (kp_lI : PySem.W.keepIn K (.ref CL) = true)
    (no0_lI : PySem.W.findIn K (.ref CL) "states" = some none)
    (no1_lI : PySem.W.findIn K (.ref CL) "on" = some none)
    (no2_lI : PySem.W.findIn K (.ref CL) "rules" = some none)
    (z_isinstance : PySem.W.nsIn K mainGlobals "isinstance" = some none)
    (z_int : PySem.W.nsIn K mainGlobals "int" = some none)
    (z_bool : PySem.W.nsIn K mainGlobals "bool" = some none)
    (z_str : PySem.W.nsIn K mainGlobals "str" = some none)
    (z_list : PySem.W.nsIn K mainGlobals "list" = some none)
    (z_tuple : PySem.W.nsIn K mainGlobals "tuple" = some none)
    (z_len : PySem.W.nsIn K mainGlobals "len" = some none)
    (z_set : PySem.W.nsIn K mainGlobals "set" = some none)
    (z_all : PySem.W.nsIn K mainGlobals "all" = some none)
    (z_sorted : PySem.W.nsIn K mainGlobals "sorted" = some none)
    (z_range : PySem.W.nsIn K mainGlobals "range" = some none)
    (z_abs : PySem.W.nsIn K mainGlobals "abs" = some none)
    (z_enumerate : PySem.W.nsIn K mainGlobals "enumerate" = some none)
    (z_ValueError : PySem.W.nsIn K mainGlobals "ValueError" = some none)
    (a_PLACES : PySem.W.nsIn K mainGlobals "PLACES" = some (some u_PLACES))
    (k_PLACES : kdB K 1 u_PLACES (.tup (PLACES.map .str)) = true)
    (a_KINDS : PySem.W.nsIn K mainGlobals "KINDS" = some (some u_KINDS))
    (k_KINDS : kdB K 1 u_KINDS (.tup (KINDS.map .str)) = true)
    (a_SIGHTS : PySem.W.nsIn K mainGlobals "SIGHTS" = some (some u_SIGHTS))
    (k_SIGHTS : kdB K 1 u_SIGHTS (.tup (SIGHTS.map .str)) = true)
    (a_MOST_STATES : PySem.W.nsIn K mainGlobals "MOST_STATES" = some (some u_MOST_STATES))
    (k_MOST_STATES : kdB K 0 u_MOST_STATES (.int 60) = true)
    (a_MOST_RULES : PySem.W.nsIn K mainGlobals "MOST_RULES" = some (some u_MOST_RULES))
    (k_MOST_RULES : kdB K 0 u_MOST_RULES (.int 1200) = true)
    (a_SIDES : PySem.W.nsIn K mainGlobals "SIDES" = some (some u_SIDES))
    (k_SIDES : kdB K 1 u_SIDES (.tup (SIDES.map .str)) = true)
    (a_RELATED_SIDES : PySem.W.nsIn K mainGlobals "RELATED_SIDES" = some (some u_RELATED_SIDES))
    (k_RELATED_SIDES : kdB K 1 u_RELATED_SIDES (.tup (RELS.map .str)) = true)
    (a_FIRST_PAGE : PySem.W.nsIn K mainGlobals "FIRST_PAGE" = some (some u_FIRST_PAGE))
    (k_FIRST_PAGE : kdB K 1 u_FIRST_PAGE (pgeD pp0) = true)
    (a_MOST_STEPS : PySem.W.nsIn K mainGlobals "MOST_STEPS" = some (some u_MOST_STEPS))
    (k_MOST_STEPS : kdB K 0 u_MOST_STEPS (.int 200) = true)
    (a_STOPS_BOUND : PySem.W.nsIn K mainGlobals "STOPS_BOUND" = some (some u_STOPS_BOUND))
    (k_STOPS_BOUND : kdB K 0 u_STOPS_BOUND (.int 8) = true)
    (a_ROOT : PySem.W.nsIn K mainGlobals "ROOT" = some (some u_ROOT))
    (k_ROOT : kdB K 0 u_ROOT (.int 0) = true)
    (a_ZONE : PySem.W.nsIn K mainGlobals "ZONE" = some (some u_ZONE))
    (k_ZONE : kdB K 0 u_ZONE (.int 1) = true)
    (a_END_SIGNAL : PySem.W.nsIn K mainGlobals "END_SIGNAL" = some (some u_END_SIGNAL))
    (k_END_SIGNAL : kdB K 1 u_END_SIGNAL (ENDS) = true)
    (a_CHANGE_LENGTHS : PySem.W.nsIn K mainGlobals "CHANGE_LENGTHS" = some (some (.ref aC)))
    (l_CHANGE_LENGTHS : K.lookup aC = some ⟨.type "dict", none, .dict es_aC en_aC, #[]⟩)
    (t_CHANGE_LENGTHS : PySem.W.KeysLit w.params es_aC.toList)
    (w_CHANGE_LENGTHS : (aC == sysModules) = false)
    (a_aC_add : PySem.W.nsIn K aC "add" = some (some u_aC_add))
    (k_aC_add : kdB K 0 u_aC_add (.int 2) = true)
    (a_aC_remove : PySem.W.nsIn K aC "remove" = some (some u_aC_remove))
    (k_aC_remove : kdB K 0 u_aC_remove (.int 2) = true)
    (a_aC_place : PySem.W.nsIn K aC "place" = some (some u_aC_place))
    (k_aC_place : kdB K 0 u_aC_place (.int 3) = true)
    (x_aC_point : PySem.W.nsIn K aC "point" = some none)
    (x_aC_slip : PySem.W.nsIn K aC "slip" = some none)
    (x_aC_out : PySem.W.nsIn K aC "out" = some none)
    (x_aC_drop : PySem.W.nsIn K aC "drop" = some none)
    (x_aC_cancel : PySem.W.nsIn K aC "cancel" = some none)
    (a_TICK_LENGTHS : PySem.W.nsIn K mainGlobals "TICK_LENGTHS" = some (some (.ref aT)))
    (l_TICK_LENGTHS : K.lookup aT = some ⟨.type "dict", none, .dict es_aT en_aT, #[]⟩)
    (t_TICK_LENGTHS : PySem.W.KeysLit w.params es_aT.toList)
    (w_TICK_LENGTHS : (aT == sysModules) = false)
    (a_aT_point : PySem.W.nsIn K aT "point" = some (some u_aT_point))
    (k_aT_point : kdB K 0 u_aT_point (.int 3) = true)
    (a_aT_slip : PySem.W.nsIn K aT "slip" = some (some u_aT_slip))
    (k_aT_slip : kdB K 0 u_aT_slip (.int 3) = true)
    (a_aT_out : PySem.W.nsIn K aT "out" = some (some u_aT_out))
    (k_aT_out : kdB K 0 u_aT_out (.int 2) = true)
    (a_aT_drop : PySem.W.nsIn K aT "drop" = some (some u_aT_drop))
    (k_aT_drop : kdB K 0 u_aT_drop (.int 3) = true)
    (a_aT_cancel : PySem.W.nsIn K aT "cancel" = some (some u_aT_cancel))
    (k_aT_cancel : kdB K 0 u_aT_cancel (.int 3) = true)
    (hd_is_choice : PySem.W.codeHdIn K 158 154 = true)
    (nt_is_choice : K.lookup 154 = none)
    (hd_are_states : PySem.W.codeHdIn K 170 166 = true)
    (nt_are_states : K.lookup 166 = none)
    (hd_are_rules : PySem.W.codeHdIn K 177 173 = true)
    (nt_are_rules : K.lookup 173 = none) :
    LamX.LawAtS l w K (L2.CX l.prog w) 10 63 "script" mg fa h := by
  have e := hfa.symm.trans (PySem.W.mg_of X G a_n73)
  cases e
  have L : Blt mg := ⟨PySem.W.mg_none_of X G z_isinstance, PySem.W.mg_none_of X G z_int, PySem.W.mg_none_of X G z_bool, PySem.W.mg_none_of X G z_str, PySem.W.mg_none_of X G z_list, PySem.W.mg_none_of X G z_tuple, PySem.W.mg_none_of X G z_len, PySem.W.mg_none_of X G z_set, PySem.W.mg_none_of X G z_all, PySem.W.mg_none_of X G z_sorted, PySem.W.mg_none_of X G z_range, PySem.W.mg_none_of X G z_abs⟩
  have V : Err K mg C0 f_eI := ⟨⟨⟨nm, q, N, bs, _, sn, sub, ab, col, dd, m0, m1, m2, m3, m5, eX, by decide +kernel⟩, eS, eB, eT, eK⟩, a_eI, eF, PySem.W.mg_of X G g_eI, eN, eV, PySem.W.mg_none_of X G z_ValueError, xfB_ok eY, eE⟩
  have AG : FldG K CG := ⟨⟨pg_gI, hd_gI, po_gI, sa_gI⟩, no0_gI, no1_gI, no2_gI, no3_gI⟩
  have AS : Fld3 K CS "place" "kinds" "sights" := ⟨⟨pg_sI, hd_sI, po_sI, sa_sI⟩, no0_sI, no1_sI, no2_sI⟩
  have AL : Fld3 K CL "states" "on" "rules" := ⟨⟨pg_lI, hd_lI, po_lI, sa_lI⟩, no0_lI, no1_lI, no2_lI⟩
  have Ln : Lens K w aC aT := ⟨⟨es_aC, en_aC, l_CHANGE_LENGTHS, t_CHANGE_LENGTHS, w_CHANGE_LENGTHS⟩, ⟨es_aT, en_aT, l_TICK_LENGTHS, t_TICK_LENGTHS, w_TICK_LENGTHS⟩,
    fun st hst => match st, hst with | .add _, _ => (by obtain ⟨v, r, g⟩ := kdB_ok _ _ _ k_aC_add; exact ⟨_, v, a_aC_add, ⟨es_aC, en_aC, _, l_CHANGE_LENGTHS, t_CHANGE_LENGTHS, a_aC_add, r⟩, g⟩) | .rem _, _ => (by obtain ⟨v, r, g⟩ := kdB_ok _ _ _ k_aC_remove; exact ⟨_, v, a_aC_remove, ⟨es_aC, en_aC, _, l_CHANGE_LENGTHS, t_CHANGE_LENGTHS, a_aC_remove, r⟩, g⟩) | .plc _ _, _ => (by obtain ⟨v, r, g⟩ := kdB_ok _ _ _ k_aC_place; exact ⟨_, v, a_aC_place, ⟨es_aC, en_aC, _, l_CHANGE_LENGTHS, t_CHANGE_LENGTHS, a_aC_place, r⟩, g⟩) | .pnt _ _, z => Bool.noConfusion z | .slp _ _, z => Bool.noConfusion z | .out _, z => Bool.noConfusion z | .drp _ _, z => Bool.noConfusion z | .cnc _ _, z => Bool.noConfusion z,
    fun st hst => match st, hst with | .pnt _ _, _ => x_aC_point | .slp _ _, _ => x_aC_slip | .out _, _ => x_aC_out | .drp _ _, _ => x_aC_drop | .cnc _ _, _ => x_aC_cancel | .add _, z => Bool.noConfusion z | .rem _, z => Bool.noConfusion z | .plc _ _, z => Bool.noConfusion z,
    fun st hst => match st, hst with | .pnt _ _, _ => (by obtain ⟨v, r, g⟩ := kdB_ok _ _ _ k_aT_point; exact ⟨_, v, a_aT_point, ⟨es_aT, en_aT, _, l_TICK_LENGTHS, t_TICK_LENGTHS, a_aT_point, r⟩, g⟩) | .slp _ _, _ => (by obtain ⟨v, r, g⟩ := kdB_ok _ _ _ k_aT_slip; exact ⟨_, v, a_aT_slip, ⟨es_aT, en_aT, _, l_TICK_LENGTHS, t_TICK_LENGTHS, a_aT_slip, r⟩, g⟩) | .out _, _ => (by obtain ⟨v, r, g⟩ := kdB_ok _ _ _ k_aT_out; exact ⟨_, v, a_aT_out, ⟨es_aT, en_aT, _, l_TICK_LENGTHS, t_TICK_LENGTHS, a_aT_out, r⟩, g⟩) | .drp _ _, _ => (by obtain ⟨v, r, g⟩ := kdB_ok _ _ _ k_aT_drop; exact ⟨_, v, a_aT_drop, ⟨es_aT, en_aT, _, l_TICK_LENGTHS, t_TICK_LENGTHS, a_aT_drop, r⟩, g⟩) | .cnc _ _, _ => (by obtain ⟨v, r, g⟩ := kdB_ok _ _ _ k_aT_cancel; exact ⟨_, v, a_aT_cancel, ⟨es_aT, en_aT, _, l_TICK_LENGTHS, t_TICK_LENGTHS, a_aT_cancel, r⟩, g⟩) | .add _, z => Bool.noConfusion z | .rem _, z => Bool.noConfusion z | .plc _ _, z => Bool.noConfusion z⟩
  have F_n0 := func_mk (st := sIsWord) l_n0 c_n0 k_n0
  have b_n0 := F_n0.binds (ps := ["value", "words"]) fun _ _ _ _ _ _ us hl => match us, hl with | [_, _], _ => rfl
  have m_n0 := PySem.W.mg_of X G a_n0
  have F_n1 := func_mk (st := sIsChoice) l_n1 c_n1 k_n1
  have b_n1 := F_n1.binds (ps := ["chosen", "words"]) fun _ _ _ _ _ _ us hl => match us, hl with | [_, _], _ => rfl
  have m_n1 := PySem.W.mg_of X G a_n1
  have F_n2 := func_mk (st := sInOrder) l_n2 c_n2 k_n2
  have b_n2 := F_n2.binds (ps := ["chosen", "words"]) fun _ _ _ _ _ _ us hl => match us, hl with | [_, _], _ => rfl
  have m_n2 := PySem.W.mg_of X G a_n2
  have F_sI := func_mk (st := sSetupI) l_sI c_sI k_sI
  have b_sI := F_sI.binds (ps := ["self", "place", "kinds", "sights"]) fun _ _ _ _ _ _ us hl => match us, hl with | [_, _, _, _], _ => rfl
  have m_sI := PySem.W.mg_of X G g_sI
  have Mk_sI : Mk K CS f_sI := ⟨mk_sI, a_sI, fn_sI, kp_sI⟩
  have F_n4 := func_mk (st := sIsNumber) l_n4 c_n4 k_n4
  have b_n4 := F_n4.binds (ps := ["value"]) fun _ _ _ _ _ _ us hl => match us, hl with | [_], _ => rfl
  have m_n4 := PySem.W.mg_of X G a_n4
  have F_n5 := func_mk (st := sIsBelow) l_n5 c_n5 k_n5
  have b_n5 := F_n5.binds (ps := ["value", "bound"]) fun _ _ _ _ _ _ us hl => match us, hl with | [_, _], _ => rfl
  have m_n5 := PySem.W.mg_of X G a_n5
  have F_n6 := func_mk (st := sAreStates) l_n6 c_n6 k_n6
  have b_n6 := F_n6.binds (ps := ["on", "states"]) fun _ _ _ _ _ _ us hl => match us, hl with | [_, _], _ => rfl
  have m_n6 := PySem.W.mg_of X G a_n6
  have F_n7 := func_mk (st := sIsRule) l_n7 c_n7 k_n7
  have b_n7 := F_n7.binds (ps := ["rule", "states"]) fun _ _ _ _ _ _ us hl => match us, hl with | [_, _], _ => rfl
  have m_n7 := PySem.W.mg_of X G a_n7
  have F_n8 := func_mk (st := sAreRules) l_n8 c_n8 k_n8
  have b_n8 := F_n8.binds (ps := ["rules", "states"]) fun _ _ _ _ _ _ us hl => match us, hl with | [_, _], _ => rfl
  have m_n8 := PySem.W.mg_of X G a_n8
  have F_lI := func_mk (st := sListI) l_lI c_lI k_lI
  have b_lI := F_lI.binds (ps := ["self", "states", "on", "rules"]) fun _ _ _ _ _ _ us hl => match us, hl with | [_, _, _, _], _ => rfl
  have m_lI := PySem.W.mg_of X G g_lI
  have Mk_lI : Mk K CL f_lI := ⟨mk_lI, a_lI, fn_lI, kp_lI⟩
  have F_n10 := func_mk (st := s_first_scene) l_n10 c_n10 k_n10
  have b_n10 := F_n10.binds (ps := []) fun _ _ _ _ _ _ us hl => match us, hl with | [], _ => rfl
  have m_n10 := PySem.W.mg_of X G a_n10
  have F_gI := func_mk (st := s_Stage_init) l_gI c_gI k_gI
  have b_gI := F_gI.binds (ps := ["self", "setup", "listener"]) fun _ _ _ _ _ _ us hl => match us, hl with | [_, _, _], _ => rfl
  have m_gI := PySem.W.mg_of X G g_gI
  have Mk_gI : Mk K CG f_gI := ⟨mk_gI, a_gI, fn_gI, kp_gI⟩
  have F_g_undo := func_mk (st := s_Stage_undo) l_g_undo c_g_undo k_g_undo
  have b_g_undo := F_g_undo.binds (ps := ["self"]) fun _ _ _ _ _ _ us hl => match us, hl with | [_], _ => rfl
  have F_n13 := func_mk (st := sLCell) l_n13 c_n13 k_n13
  have b_n13 := F_n13.binds (ps := ["script", "k"]) fun _ _ _ _ _ _ us hl => match us, hl with | [_, _], _ => rfl
  have m_n13 := PySem.W.mg_of X G a_n13
  have F_n14 := func_mk (st := sLRow) l_n14 c_n14 k_n14
  have b_n14 := F_n14.binds (ps := ["script", "first", "last"]) fun _ _ _ _ _ _ us hl => match us, hl with | [_, _, _], _ => rfl
  have m_n14 := PySem.W.mg_of X G a_n14
  have F_n15 := func_mk (st := sLDraw) l_n15 c_n15 k_n15
  have b_n15 := F_n15.binds (ps := ["box", "many"]) fun _ _ _ _ _ _ us hl => match us, hl with | [_, _], _ => rfl
  have m_n15 := PySem.W.mg_of X G a_n15
  have F_n16 := func_mk (st := sLSome) l_n16 c_n16 k_n16
  have b_n16 := F_n16.binds (ps := ["box", "names"]) fun _ _ _ _ _ _ us hl => match us, hl with | [_, _], _ => rfl
  have m_n16 := PySem.W.mg_of X G a_n16
  have F_n17 := func_mk (st := sLKinds) l_n17 c_n17 k_n17
  have b_n17 := F_n17.binds (ps := []) fun _ _ _ _ _ _ us hl => match us, hl with | [], _ => rfl
  have m_n17 := PySem.W.mg_of X G a_n17
  have F_n18 := func_mk (st := sLSetup) l_n18 c_n18 k_n18
  have b_n18 := F_n18.binds (ps := ["box"]) fun _ _ _ _ _ _ us hl => match us, hl with | [_], _ => rfl
  have m_n18 := PySem.W.mg_of X G a_n18
  have F_n19 := func_mk (st := sLRule) l_n19 c_n19 k_n19
  have b_n19 := F_n19.binds (ps := ["box", "states"]) fun _ _ _ _ _ _ us hl => match us, hl with | [_, _], _ => rfl
  have m_n19 := PySem.W.mg_of X G a_n19
  have F_n20 := func_mk (st := sLSample) l_n20 c_n20 k_n20
  have b_n20 := F_n20.binds (ps := ["name"]) fun _ _ _ _ _ _ us hl => match us, hl with | [_], _ => rfl
  have m_n20 := PySem.W.mg_of X G a_n20
  have F_n21 := func_mk (st := sLList) l_n21 c_n21 k_n21
  have b_n21 := F_n21.binds (ps := ["box", "most"]) fun _ _ _ _ _ _ us hl => match us, hl with | [_, _], _ => rfl
  have m_n21 := PySem.W.mg_of X G a_n21
  have F_n22 := func_mk (st := s_law_made) l_n22 c_n22 k_n22
  have b_n22 := F_n22.binds (ps := ["told"]) fun _ _ _ _ _ _ us hl => match us, hl with | [_], _ => rfl
  have m_n22 := PySem.W.mg_of X G a_n22
  have F_n23 := func_mk (st := sLListening) l_n23 c_n23 k_n23
  have b_n23 := F_n23.binds (ps := ["told"]) fun _ _ _ _ _ _ us hl => match us, hl with | [_], _ => rfl
  have m_n23 := PySem.W.mg_of X G a_n23
  have F_n24 := func_mk (st := s_law_page) l_n24 c_n24 k_n24
  have b_n24 := F_n24.binds (ps := []) fun _ _ _ _ _ _ us hl => match us, hl with | [], _ => rfl
  have m_n24 := PySem.W.mg_of X G a_n24
  have F_n25 := func_mk (st := s_law_step) l_n25 c_n25 k_n25
  have b_n25 := F_n25.binds (ps := ["box", "p"]) fun _ _ _ _ _ _ us hl => match us, hl with | [_, _], _ => rfl
  have m_n25 := PySem.W.mg_of X G a_n25
  have F_n26 := func_mk (st := s_law_copied) l_n26 c_n26 k_n26
  have b_n26 := F_n26.binds (ps := ["p"]) fun _ _ _ _ _ _ us hl => match us, hl with | [_], _ => rfl
  have m_n26 := PySem.W.mg_of X G a_n26
  have F_n27 := func_mk (st := s_law_is_there) l_n27 c_n27 k_n27
  have b_n27 := F_n27.binds (ps := ["p", "x"]) fun _ _ _ _ _ _ us hl => match us, hl with | [_, _], _ => rfl
  have m_n27 := PySem.W.mg_of X G a_n27
  have F_n28 := func_mk (st := s_law_is_within) l_n28 c_n28 k_n28
  have b_n28 := F_n28.binds (ps := ["p", "x", "y"]) fun _ _ _ _ _ _ us hl => match us, hl with | [_, _, _], _ => rfl
  have m_n28 := PySem.W.mg_of X G a_n28
  have F_n29 := func_mk (st := s_law_current) l_n29 c_n29 k_n29
  have b_n29 := F_n29.binds (ps := ["p"]) fun _ _ _ _ _ _ us hl => match us, hl with | [_], _ => rfl
  have m_n29 := PySem.W.mg_of X G a_n29
  have F_n30 := func_mk (st := s_law_can) l_n30 c_n30 k_n30
  have b_n30 := F_n30.binds (ps := ["p", "step"]) fun _ _ _ _ _ _ us hl => match us, hl with | [_, _], _ => rfl
  have m_n30 := PySem.W.mg_of X G a_n30
  have F_n31 := func_mk (st := s_law_removed) l_n31 c_n31 k_n31
  have b_n31 := F_n31.binds (ps := ["p", "x"]) fun _ _ _ _ _ _ us hl => match us, hl with | [_, _], _ => rfl
  have m_n31 := PySem.W.mg_of X G a_n31
  have F_n32 := func_mk (st := s_law_changes) l_n32 c_n32 k_n32
  have b_n32 := F_n32.binds (ps := ["p", "step"]) fun _ _ _ _ _ _ us hl => match us, hl with | [_, _], _ => rfl
  have m_n32 := PySem.W.mg_of X G a_n32
  have F_n33 := func_mk (st := s_law_number) l_n33 c_n33 k_n33
  have b_n33 := F_n33.binds (ps := ["p", "x"]) fun _ _ _ _ _ _ us hl => match us, hl with | [_, _], _ => rfl
  have m_n33 := PySem.W.mg_of X G a_n33
  have F_n34 := func_mk (st := s_law_events) l_n34 c_n34 k_n34
  have b_n34 := F_n34.binds (ps := ["p", "step"]) fun _ _ _ _ _ _ us hl => match us, hl with | [_, _], _ => rfl
  have m_n34 := PySem.W.mg_of X G a_n34
  have F_n35 := func_mk (st := s_law_reaches) l_n35 c_n35 k_n35
  have b_n35 := F_n35.binds (ps := ["setup", "kind", "number", "is_root", "stopped"]) fun _ _ _ _ _ _ us hl => match us, hl with | [_, _, _, _, _], _ => rfl
  have m_n35 := PySem.W.mg_of X G a_n35
  have F_n36 := func_mk (st := s_law_signal) l_n36 c_n36 k_n36
  have b_n36 := F_n36.binds (ps := ["setup", "kind", "number", "same", "related"]) fun _ _ _ _ _ _ us hl => match us, hl with | [_, _, _, _, _], _ => rfl
  have m_n36 := PySem.W.mg_of X G a_n36
  have F_n37 := func_mk (st := s_law_tick) l_n37 c_n37 k_n37
  have b_n37 := F_n37.binds (ps := ["p", "setup", "step"]) fun _ _ _ _ _ _ us hl => match us, hl with | [_, _, _], _ => rfl
  have m_n37 := PySem.W.mg_of X G a_n37
  have F_n38 := func_mk (st := sLNext) l_n38 c_n38 k_n38
  have b_n38 := F_n38.binds (ps := ["listener", "state", "signal"]) fun _ _ _ _ _ _ us hl => match us, hl with | [_, _, _], _ => rfl
  have m_n38 := PySem.W.mg_of X G a_n38
  have F_n39 := func_mk (st := s_law_is_hovered) l_n39 c_n39 k_n39
  have b_n39 := F_n39.binds (ps := ["p"]) fun _ _ _ _ _ _ us hl => match us, hl with | [_], _ => rfl
  have m_n39 := PySem.W.mg_of X G a_n39
  have F_n40 := func_mk (st := s_law_due) l_n40 c_n40 k_n40
  have b_n40 := F_n40.binds (ps := ["p", "setup", "listener", "state", "step"]) fun _ _ _ _ _ _ us hl => match us, hl with | [_, _, _, _, _], _ => rfl
  have m_n40 := PySem.W.mg_of X G a_n40
  have F_n41 := func_mk (st := s_is_within) l_n41 c_n41 k_n41
  have b_n41 := F_n41.binds (ps := ["page", "element", "other"]) fun _ _ _ _ _ _ us hl => match us, hl with | [_, _, _], _ => rfl
  have m_n41 := PySem.W.mg_of X G a_n41
  have F_n42 := func_mk (st := s_is_there) l_n42 c_n42 k_n42
  have b_n42 := F_n42.binds (ps := ["page", "element"]) fun _ _ _ _ _ _ us hl => match us, hl with | [_, _], _ => rfl
  have m_n42 := PySem.W.mg_of X G a_n42
  have F_n43 := func_mk (st := s_is_movable) l_n43 c_n43 k_n43
  have b_n43 := F_n43.binds (ps := ["page", "element"]) fun _ _ _ _ _ _ us hl => match us, hl with | [_, _], _ => rfl
  have m_n43 := PySem.W.mg_of X G a_n43
  have F_n44 := func_mk (st := s_is_possible_change) l_n44 c_n44 k_n44
  have b_n44 := F_n44.binds (ps := ["page", "change"]) fun _ _ _ _ _ _ us hl => match us, hl with | [_, _], _ => rfl
  have m_n44 := PySem.W.mg_of X G a_n44
  have F_n45 := func_mk (st := s_is_possible_slip) l_n45 c_n45 k_n45
  have b_n45 := F_n45.binds (ps := ["page", "current", "element"]) fun _ _ _ _ _ _ us hl => match us, hl with | [_, _, _], _ => rfl
  have m_n45 := PySem.W.mg_of X G a_n45
  have F_n46 := func_mk (st := s_current_target) l_n46 c_n46 k_n46
  have b_n46 := F_n46.binds (ps := ["scene"]) fun _ _ _ _ _ _ us hl => match us, hl with | [_], _ => rfl
  have m_n46 := PySem.W.mg_of X G a_n46
  have F_n47 := func_mk (st := s_is_possible_tick) l_n47 c_n47 k_n47
  have b_n47 := F_n47.binds (ps := ["scene", "tick"]) fun _ _ _ _ _ _ us hl => match us, hl with | [_, _], _ => rfl
  have m_n47 := PySem.W.mg_of X G a_n47
  have F_n48 := func_mk (st := s_is_possible) l_n48 c_n48 k_n48
  have b_n48 := F_n48.binds (ps := ["scene", "step"]) fun _ _ _ _ _ _ us hl => match us, hl with | [_, _], _ => rfl
  have m_n48 := PySem.W.mg_of X G a_n48
  have F_n49 := func_mk (st := s_put_into) l_n49 c_n49 k_n49
  have b_n49 := F_n49.binds (ps := ["page", "element", "parent"]) fun _ _ _ _ _ _ us hl => match us, hl with | [_, _, _], _ => rfl
  have m_n49 := PySem.W.mg_of X G a_n49
  have F_n50 := func_mk (st := s_changed) l_n50 c_n50 k_n50
  have b_n50 := F_n50.binds (ps := ["page", "change"]) fun _ _ _ _ _ _ us hl => match us, hl with | [_, _], _ => rfl
  have m_n50 := PySem.W.mg_of X G a_n50
  have F_n51 := func_mk (st := s_side_of) l_n51 c_n51 k_n51
  have b_n51 := F_n51.binds (ps := ["page", "element"]) fun _ _ _ _ _ _ us hl => match us, hl with | [_, _], _ => rfl
  have m_n51 := PySem.W.mg_of X G a_n51
  have F_n52 := func_mk (st := s_reaches) l_n52 c_n52 k_n52
  have b_n52 := F_n52.binds (ps := ["place", "target", "side", "stopped"]) fun _ _ _ _ _ _ us hl => match us, hl with | [_, _, _, _], _ => rfl
  have m_n52 := PySem.W.mg_of X G a_n52
  have F_n53 := func_mk (st := s_without_zone) l_n53 c_n53 k_n53
  have b_n53 := F_n53.binds (ps := ["side"]) fun _ _ _ _ _ _ us hl => match us, hl with | [_], _ => rfl
  have m_n53 := PySem.W.mg_of X G a_n53
  have F_n54 := func_mk (st := s_signal_of) l_n54 c_n54 k_n54
  have b_n54 := F_n54.binds (ps := ["setup", "sides", "event", "entered"]) fun _ _ _ _ _ _ us hl => match us, hl with | [_, _, _, _], _ => rfl
  have m_n54 := PySem.W.mg_of X G a_n54
  have F_n55 := func_mk (st := s_heard) l_n55 c_n55 k_n55
  have b_n55 := F_n55.binds (ps := ["setup", "sides", "events", "stops", "entered"]) fun _ _ _ _ _ _ us hl => match us, hl with | [_, _, _, _, _], _ => rfl
  have m_n55 := PySem.W.mg_of X G a_n55
  have F_n56 := func_mk (st := s_signals_on_page) l_n56 c_n56 k_n56
  have b_n56 := F_n56.binds (ps := ["setup", "page", "events", "stops", "entered"]) fun _ _ _ _ _ _ us hl => match us, hl with | [_, _, _, _, _], _ => rfl
  have m_n56 := PySem.W.mg_of X G a_n56
  have F_n57 := func_mk (st := s_point_events) l_n57 c_n57 k_n57
  have b_n57 := F_n57.binds (ps := ["element", "current"]) fun _ _ _ _ _ _ us hl => match us, hl with | [_, _], _ => rfl
  have m_n57 := PySem.W.mg_of X G a_n57
  have F_n58 := func_mk (st := s_events_of) l_n58 c_n58 k_n58
  have b_n58 := F_n58.binds (ps := ["tick", "current"]) fun _ _ _ _ _ _ us hl => match us, hl with | [_, _], _ => rfl
  have m_n58 := PySem.W.mg_of X G a_n58
  have F_n59 := func_mk (st := sTakes) l_n59 c_n59 k_n59
  have b_n59 := F_n59.binds (ps := ["rule", "signal"]) fun _ _ _ _ _ _ us hl => match us, hl with | [_, _], _ => rfl
  have m_n59 := PySem.W.mg_of X G a_n59
  have F_n60 := func_mk (st := sApplies) l_n60 c_n60 k_n60
  have b_n60 := F_n60.binds (ps := ["rule", "state", "signal"]) fun _ _ _ _ _ _ us hl => match us, hl with | [_, _, _], _ => rfl
  have m_n60 := PySem.W.mg_of X G a_n60
  have F_n61 := func_mk (st := sNext) l_n61 c_n61 k_n61
  have b_n61 := F_n61.binds (ps := ["listener", "state", "signal"]) fun _ _ _ _ _ _ us hl => match us, hl with | [_, _, _], _ => rfl
  have m_n61 := PySem.W.mg_of X G a_n61
  have F_n62 := func_mk (st := s_target_behind) l_n62 c_n62 k_n62
  have b_n62 := F_n62.binds (ps := ["tick"]) fun _ _ _ _ _ _ us hl => match us, hl with | [_], _ => rfl
  have m_n62 := PySem.W.mg_of X G a_n62
  have F_n63 := func_mk (st := s_is_zone_hovered) l_n63 c_n63 k_n63
  have b_n63 := F_n63.binds (ps := ["scene"]) fun _ _ _ _ _ _ us hl => match us, hl with | [_], _ => rfl
  have m_n63 := PySem.W.mg_of X G a_n63
  have F_n64 := func_mk (st := s_carried_out) l_n64 c_n64 k_n64
  have b_n64 := F_n64.binds (ps := ["setup", "listener", "scene", "step"]) fun _ _ _ _ _ _ us hl => match us, hl with | [_, _, _, _], _ => rfl
  have m_n64 := PySem.W.mg_of X G a_n64
  have F_g_act := func_mk (st := s_Stage_act) l_g_act c_g_act k_g_act
  have b_g_act := F_g_act.binds (ps := ["self", "step"]) fun _ _ _ _ _ _ us hl => match us, hl with | [_, _], _ => rfl
  have F_n66 := func_mk (st := s_law_told) l_n66 c_n66 k_n66
  have b_n66 := F_n66.binds (ps := ["stage", "step"]) fun _ _ _ _ _ _ us hl => match us, hl with | [_, _], _ => rfl
  have m_n66 := PySem.W.mg_of X G a_n66
  have F_g_is_hovered := func_mk (st := s_Stage_is_hovered) l_g_is_hovered c_g_is_hovered k_g_is_hovered
  have b_g_is_hovered := F_g_is_hovered.binds (ps := ["self"]) fun _ _ _ _ _ _ us hl => match us, hl with | [_], _ => rfl
  have F_g_steps := func_mk (st := s_Stage_steps) l_g_steps c_g_steps k_g_steps
  have b_g_steps := F_g_steps.binds (ps := ["self"]) fun _ _ _ _ _ _ us hl => match us, hl with | [_], _ => rfl
  have F_g_side := func_mk (st := s_Stage_side) l_g_side c_g_side k_g_side
  have b_g_side := F_g_side.binds (ps := ["self", "element"]) fun _ _ _ _ _ _ us hl => match us, hl with | [_, _], _ => rfl
  have F_n70 := func_mk (st := s_law_sides) l_n70 c_n70 k_n70
  have b_n70 := F_n70.binds (ps := ["p"]) fun _ _ _ _ _ _ us hl => match us, hl with | [_], _ => rfl
  have m_n70 := PySem.W.mg_of X G a_n70
  have F_n71 := func_mk (st := s_law_same_look) l_n71 c_n71 k_n71
  have b_n71 := F_n71.binds (ps := ["stage", "kept", "p"]) fun _ _ _ _ _ _ us hl => match us, hl with | [_, _, _], _ => rfl
  have m_n71 := PySem.W.mg_of X G a_n71
  have F_n72 := func_mk (st := s_play) l_n72 c_n72 k_n72
  have b_n72 := F_n72.binds (ps := ["setup", "listener", "history"]) fun _ _ _ _ _ _ us hl => match us, hl with | [_, _, _], _ => rfl
  have m_n72 := PySem.W.mg_of X G a_n72
  have F_n73 := func_mk (st := sLaw) l_n73 c_n73 k_n73
  have b_n73 := F_n73.binds (ps := ["script"]) fun _ _ _ _ _ _ us hl => match us, hl with | [_], _ => rfl
  have m_n73 := PySem.W.mg_of X G a_n73
  have F_eI := func_mk (st := sErrI) l_eI c_eI k_eI
  have b_eI := F_eI.binds (ps := ["self", "reason"]) fun _ _ _ _ _ _ us hl => match us, hl with | [_, _], _ => rfl
  have m_PLACES := PySem.W.mg_of X G a_PLACES
  have m_KINDS := PySem.W.mg_of X G a_KINDS
  have m_SIGHTS := PySem.W.mg_of X G a_SIGHTS
  have m_MOST_STATES := PySem.W.mg_of X G a_MOST_STATES
  have m_MOST_RULES := PySem.W.mg_of X G a_MOST_RULES
  have m_SIDES := PySem.W.mg_of X G a_SIDES
  have m_RELATED_SIDES := PySem.W.mg_of X G a_RELATED_SIDES
  have m_FIRST_PAGE := PySem.W.mg_of X G a_FIRST_PAGE
  have m_MOST_STEPS := PySem.W.mg_of X G a_MOST_STEPS
  have m_STOPS_BOUND := PySem.W.mg_of X G a_STOPS_BOUND
  have m_ROOT := PySem.W.mg_of X G a_ROOT
  have m_ZONE := PySem.W.mg_of X G a_ZONE
  have m_END_SIGNAL := PySem.W.mg_of X G a_END_SIGNAL
  have m_CHANGE_LENGTHS := PySem.W.mg_of X G a_CHANGE_LENGTHS
  have m_TICK_LENGTHS := PySem.W.mg_of X G a_TICK_LENGTHS
  refine ⟨PySem.W.fnOf "law" "law" (defArgs sLaw) (defBody sLaw) (defScope sLaw) .none kV_n73 dc_n73 pm_n73 an_n73 cd_n73 ct_n73, [(158, 154), (170, 166), (177, 173)], spEnd K [154, 166, 173] C0, ?_, ?_, ?_, fun s u => .of_eq rfl, ?_, fun base Xb Gb TB => ?_⟩
  · intro p hp
    simp only [List.mem_cons, List.not_mem_nil, or_false] at hp
    rcases hp with rfl | rfl | rfl
    · exact hT 154 (by simp)
    · exact hT 166 (by simp)
    · exact hT 173 (by simp)
  · intro p hp
    simp only [List.mem_cons, List.not_mem_nil, or_false] at hp
    rcases hp with rfl | rfl | rfl
    · exact nt_is_choice
    · exact nt_are_states
    · exact nt_are_rules
  · intro p hp
    simp only [List.mem_cons, List.not_mem_nil, or_false] at hp
    rcases hp with rfl | rfl | rfl
    · exact PySem.W.codeHd_of_K X hd_is_choice
    · exact PySem.W.codeHd_of_K X hd_are_states
    · exact PySem.W.codeHd_of_K X hd_are_rules
  · intro H a ns hl hb ht hS
    have tb : ∀ P ∈ ([154, 166, 173] : List Addr), H P = some (.tbl #[]) := fun P hP => by
      simp only [List.mem_cons, List.not_mem_nil, or_false] at hP
      rcases hP with rfl | rfl | rfl
      · exact ht (158, 154) (by simp)
      · exact ht (170, 166) (by simp)
      · exact ht (177, 173) (by simp)
    have bs : Same (fun b => if b ∈ ([154, 166, 173] : List Addr) then none else H b) H := fun b u e => by
      have e' : (if b ∈ ([154, 166, 173] : List Addr) then none else H b) = some u := e
      split at e'
      · cases e'
      · exact e'
    have sq : SqL K (fun b => if b ∈ ([154, 166, 173] : List Addr) then none else H b) a (ns.map L2.V.int) := by
      have na : ∀ u, H a = some u → u ≠ .tbl #[] → (fun b => if b ∈ ([154, 166, 173] : List Addr) then none else H b) a = some u := fun u e ne => by
        show (if a ∈ ([154, 166, 173] : List Addr) then none else H a) = some u
        rw [if_neg (fun z => by rw [tb a z] at e; exact ne (Option.some.inj e).symm)]
        exact e
      rcases hS with (hS | ⟨o, hS⟩) | hS
      · exact .inl (.inl (na _ hS (fun z => by cases z)))
      · exact .inl (.inr ⟨o, na _ hS (fun z => by cases z)⟩)
      · exact .inr hS
    refine ⟨[.dat (.kst (ns.map .int))], _, O0, _, _, ⟨ns, rfl, rfl, rfl⟩, .cons (show SlotOk K _ (some (.ref a)) (.dat (.kst (ns.map .int))) from .kst sq (ints_rp ns)) .nil, ⟨bs, (fun _ _ e => by cases e), fun P hP => ⟨if_pos hP, rfl⟩, fun P hP => ⟨#[], tb P hP, by trivial⟩⟩, fun s O' v B' H' h _ r => ?_, fun _ _ _ _ _ _ h => h.elim⟩
    subst h
    cases (show Rp K B' v (.bl true) from r)
    rfl
  · have t_is_choice : TabB base mg 158 154 := let z := TB (158, 154) (by simp); ⟨z.code, z.bm, z.gP⟩
    have t_are_states : TabB base mg 170 166 := let z := TB (170, 166) (by simp); ⟨z.code, z.bm, z.gP⟩
    have t_are_rules : TabB base mg 177 173 := let z := TB (177, 173) (by simp); ⟨z.code, z.bm, z.gP⟩
    have T_is_choice : (154 : Addr) ∈ [154, 166, 173] := by simp
    have T_are_states : (166 : Addr) ∈ [154, 166, 173] := by simp
    have T_are_rules : (173 : Addr) ∈ [154, 166, 173] := by simp
    have EI := ok_errI (P := l.prog) (w := w) (base := base) F_eI V
    have G_n0 := ok_word (mg := mg) (P := l.prog) (w := w) (base := base) (T := [154, 166, 173]) F_n0 L
    have G_n1 := ok_choice (mg := mg) (P := l.prog) (w := w) (base := base) (T := [154, 166, 173]) F_n1 L T_is_choice t_is_choice G_n0 m_n0 k_n0 b_n0
    have G_n2 := ok_order (mg := mg) (P := l.prog) (w := w) (base := base) (T := [154, 166, 173]) F_n2 L
    have G_sI := ok_setup (mg := mg) (P := l.prog) (w := w) (base := base) (T := [154, 166, 173]) F_sI V AS m_PLACES k_PLACES m_KINDS k_KINDS m_SIGHTS k_SIGHTS EI b_eI G_n0 m_n0 k_n0 b_n0 G_n1 m_n1 k_n1 b_n1 G_n2 m_n2 k_n2 b_n2
    have G_n4 := ok_num (mg := mg) (P := l.prog) (w := w) (base := base) (T := [154, 166, 173]) F_n4 L
    have G_n5 := ok_below (mg := mg) (P := l.prog) (w := w) (base := base) (T := [154, 166, 173]) F_n5 L G_n4 m_n4 k_n4 b_n4
    have G_n6 := ok_states (mg := mg) (P := l.prog) (w := w) (base := base) (T := [154, 166, 173]) F_n6 L T_are_states t_are_states G_n5 m_n5 k_n5 b_n5
    have G_n7 := ok_rule (mg := mg) (P := l.prog) (w := w) (base := base) (T := [154, 166, 173]) F_n7 L m_KINDS k_KINDS m_SIDES k_SIDES m_RELATED_SIDES k_RELATED_SIDES G_n5 m_n5 k_n5 b_n5 G_n0 m_n0 k_n0 b_n0
    have G_n8 := ok_rules (mg := mg) (P := l.prog) (w := w) (base := base) (T := [154, 166, 173]) F_n8 L T_are_rules t_are_rules m_MOST_RULES k_MOST_RULES G_n7 m_n7 k_n7 b_n7
    have G_lI := ok_list (mg := mg) (P := l.prog) (w := w) (base := base) (T := [154, 166, 173]) F_lI L V AL m_MOST_STATES k_MOST_STATES EI b_eI G_n4 m_n4 k_n4 b_n4 G_n6 m_n6 k_n6 b_n6 G_n8 m_n8 k_n8 b_n8
    have G_n10 := ok_first (mg := mg) (P := l.prog) (w := w) (base := base) (T := [154, 166, 173]) F_n10 m_FIRST_PAGE k_FIRST_PAGE
    have G_gI := ok_stgI (mg := mg) (P := l.prog) (w := w) (base := base) (T := [154, 166, 173]) (CE := C0) (CS := CS) (CL := CL) F_gI L AG AS AL Mk_sI m_sI Mk_lI m_lI G_sI b_sI G_lI b_lI ⟨_, _, G_n10, m_n10, k_n10, b_n10⟩
    have G_g_undo := ok_undo (mg := mg) (P := l.prog) (w := w) (base := base) (T := [154, 166, 173]) (CS := CS) (CL := CL) F_g_undo L AG
    have G_n13 := ok_cell (mg := mg) (P := l.prog) (w := w) (base := base) (T := [154, 166, 173]) F_n13 L
    have G_n14 := ok_row (mg := mg) (P := l.prog) (w := w) (base := base) (T := [154, 166, 173]) F_n14 L G_n13 m_n13 k_n13 b_n13
    have G_n15 := ok_draw (mg := mg) (P := l.prog) (w := w) (base := base) (T := [154, 166, 173]) F_n15 L
    have G_n16 := ok_some (mg := mg) (P := l.prog) (w := w) (base := base) (T := [154, 166, 173]) F_n16 G_n15 m_n15 k_n15 b_n15
    have G_n17 := ok_kinds (mg := mg) (P := l.prog) (w := w) (base := base) (T := [154, 166, 173]) F_n17 
    have G_n18 := ok_lsetup (mg := mg) (P := l.prog) (w := w) (base := base) (T := [154, 166, 173]) F_n18 G_n15 m_n15 k_n15 b_n15 G_n16 m_n16 k_n16 b_n16 G_n17 m_n17 k_n17 b_n17
    have G_n19 := ok_lrule (mg := mg) (P := l.prog) (w := w) (base := base) (T := [154, 166, 173]) F_n19 L G_n15 m_n15 k_n15 b_n15 G_n17 m_n17 k_n17 b_n17
    have G_n20 := ok_lsample (mg := mg) (P := l.prog) (w := w) (base := base) (T := [154, 166, 173]) (CE := C0) F_n20 L
    have G_n21 := ok_llist (mg := mg) (P := l.prog) (w := w) (base := base) (T := [154, 166, 173]) (CE := C0) F_n21 L G_n15 m_n15 k_n15 b_n15 G_n19 m_n19 k_n19 b_n19 G_n20 m_n20 k_n20 b_n20
    have G_n22 := ok_lmade (mg := mg) (P := l.prog) (w := w) (base := base) (T := [154, 166, 173]) (CE := C0) F_n22 L Mk_sI m_sI G_sI b_sI
    have G_n23 := ok_listening (mg := mg) (P := l.prog) (w := w) (base := base) (T := [154, 166, 173]) (CE := C0) F_n23 L Mk_lI m_lI G_lI b_lI
    have G_n24 := ok_lpage (mg := mg) (P := l.prog) (w := w) (base := base) (T := [154, 166, 173]) (CE := C0) F_n24 
    have G_n25 := ok_lstep (mg := mg) (P := l.prog) (w := w) (base := base) (T := [154, 166, 173]) (CE := C0) F_n25 L ⟨_, _, G_n15, m_n15, k_n15, b_n15⟩
    have G_n26 := ok_copied (mg := mg) (P := l.prog) (w := w) (base := base) (T := [154, 166, 173]) (CE := C0) F_n26 L
    have G_n27 := ok_pthere (mg := mg) (P := l.prog) (w := w) (base := base) (T := [154, 166, 173]) F_n27 L
    have G_n28 := ok_pwithin (mg := mg) (P := l.prog) (w := w) (base := base) (T := [154, 166, 173]) F_n28 L
    have G_n29 := ok_pcurrent (mg := mg) (P := l.prog) (w := w) (base := base) (T := [154, 166, 173]) F_n29 ⟨_, _, G_n27, m_n27, k_n27, b_n27⟩
    have G_n30 := ok_can (mg := mg) (P := l.prog) (w := w) (base := base) (T := [154, 166, 173]) F_n30 L ⟨_, _, G_n27, m_n27, k_n27, b_n27⟩ ⟨_, _, G_n28, m_n28, k_n28, b_n28⟩ ⟨_, _, G_n29, m_n29, k_n29, b_n29⟩
    have G_n31 := ok_removed (mg := mg) (P := l.prog) (w := w) (base := base) (T := [154, 166, 173]) F_n31 L ⟨_, _, G_n28, m_n28, k_n28, b_n28⟩
    have G_n32 := ok_changes (mg := mg) (P := l.prog) (w := w) (base := base) (T := [154, 166, 173]) F_n32 L ⟨_, _, G_n31, m_n31, k_n31, b_n31⟩
    have G_n33 := ok_pnumber (mg := mg) (P := l.prog) (w := w) (base := base) (T := [154, 166, 173]) F_n33 L ⟨_, _, G_n27, m_n27, k_n27, b_n27⟩ ⟨_, _, G_n28, m_n28, k_n28, b_n28⟩
    have G_n34 := ok_events (mg := mg) (P := l.prog) (w := w) (base := base) (T := [154, 166, 173]) F_n34 L ⟨_, _, G_n29, m_n29, k_n29, b_n29⟩
    have G_n35 := ok_lreach (mg := mg) (P := l.prog) (w := w) (base := base) (T := [154, 166, 173]) F_n35 
    have G_n36 := ok_lsig (mg := mg) (P := l.prog) (w := w) (base := base) (T := [154, 166, 173]) F_n36 
    have G_n37 := ok_tick (mg := mg) (P := l.prog) (w := w) (base := base) (T := [154, 166, 173]) F_n37 L ⟨_, _, G_n33, m_n33, k_n33, b_n33⟩ ⟨_, _, G_n29, m_n29, k_n29, b_n29⟩ ⟨_, _, G_n34, m_n34, k_n34, b_n34⟩ ⟨_, _, G_n35, m_n35, k_n35, b_n35⟩ ⟨_, _, G_n36, m_n36, k_n36, b_n36⟩
    have G_n38 := ok_lnext (mg := mg) (P := l.prog) (w := w) (base := base) (T := [154, 166, 173]) F_n38 L
    have G_n39 := ok_lhov (mg := mg) (P := l.prog) (w := w) (base := base) (T := [154, 166, 173]) F_n39 ⟨_, _, G_n29, m_n29, k_n29, b_n29⟩ ⟨_, _, G_n28, m_n28, k_n28, b_n28⟩
    have G_n40 := ok_ldue (mg := mg) (P := l.prog) (w := w) (base := base) (T := [154, 166, 173]) F_n40 ⟨_, _, G_n30, m_n30, k_n30, b_n30⟩ ⟨_, _, G_n32, m_n32, k_n32, b_n32⟩ ⟨_, _, G_n37, m_n37, k_n37, b_n37⟩ ⟨_, _, G_n38, m_n38, k_n38, b_n38⟩ ⟨_, _, G_n39, m_n39, k_n39, b_n39⟩
    have G_n41 := ok_iswithin (mg := mg) (P := l.prog) (w := w) (base := base) (T := [154, 166, 173]) F_n41 
    have G_n42 := ok_isthere (mg := mg) (P := l.prog) (w := w) (base := base) (T := [154, 166, 173]) F_n42 L m_ROOT k_ROOT ⟨_, _, G_n5, m_n5, k_n5, b_n5⟩ ⟨_, _, G_n41, m_n41, k_n41, b_n41⟩
    have G_n43 := ok_ismov (mg := mg) (P := l.prog) (w := w) (base := base) (T := [154, 166, 173]) F_n43 m_ROOT k_ROOT m_ZONE k_ZONE ⟨_, _, G_n42, m_n42, k_n42, b_n42⟩
    have G_n44 := ok_possch (mg := mg) (P := l.prog) (w := w) (base := base) (T := [154, 166, 173]) F_n44 ⟨_, _, G_n42, m_n42, k_n42, b_n42⟩ ⟨_, _, G_n43, m_n43, k_n43, b_n43⟩ ⟨_, _, G_n41, m_n41, k_n41, b_n41⟩
    have G_n45 := ok_posssl (mg := mg) (P := l.prog) (w := w) (base := base) (T := [154, 166, 173]) F_n45 ⟨_, _, G_n43, m_n43, k_n43, b_n43⟩ ⟨_, _, G_n42, m_n42, k_n42, b_n42⟩
    have G_n46 := ok_curt (mg := mg) (P := l.prog) (w := w) (base := base) (T := [154, 166, 173]) F_n46 ⟨_, _, G_n42, m_n42, k_n42, b_n42⟩
    have G_n47 := ok_posstk (mg := mg) (P := l.prog) (w := w) (base := base) (T := [154, 166, 173]) F_n47 L ⟨_, _, G_n42, m_n42, k_n42, b_n42⟩ ⟨_, _, G_n45, m_n45, k_n45, b_n45⟩ ⟨_, _, G_n46, m_n46, k_n46, b_n46⟩
    have G_n48 := ok_poss5 (mg := mg) (P := l.prog) (w := w) (base := base) (T := [154, 166, 173]) F_n48 L m_CHANGE_LENGTHS m_TICK_LENGTHS Ln m_STOPS_BOUND k_STOPS_BOUND ⟨_, _, G_n44, m_n44, k_n44, b_n44⟩ ⟨_, _, G_n5, m_n5, k_n5, b_n5⟩ ⟨_, _, G_n47, m_n47, k_n47, b_n47⟩
    have G_n49 := ok_putinto (mg := mg) (P := l.prog) (w := w) (base := base) (T := [154, 166, 173]) F_n49 
    have G_n50 := ok_changed (mg := mg) (P := l.prog) (w := w) (base := base) (T := [154, 166, 173]) F_n50 ⟨_, _, G_n49, m_n49, k_n49, b_n49⟩
    have G_n51 := ok_sideof (mg := mg) (P := l.prog) (w := w) (base := base) (T := [154, 166, 173]) F_n51 m_ZONE k_ZONE ⟨_, _, G_n42, m_n42, k_n42, b_n42⟩ ⟨_, _, G_n41, m_n41, k_n41, b_n41⟩
    have G_n52 := ok_reach (mg := mg) (P := l.prog) (w := w) (base := base) (T := [154, 166, 173]) F_n52 m_ROOT k_ROOT m_ZONE k_ZONE
    have G_n53 := ok_woz (mg := mg) (P := l.prog) (w := w) (base := base) (T := [154, 166, 173]) F_n53 
    have G_n54 := ok_sig (mg := mg) (P := l.prog) (w := w) (base := base) (T := [154, 166, 173]) F_n54 AS m_END_SIGNAL k_END_SIGNAL ⟨_, _, G_n53, m_n53, k_n53, b_n53⟩
    have G_n55 := ok_heard (mg := mg) (P := l.prog) (w := w) (base := base) (T := [154, 166, 173]) F_n55 L (PySem.W.mg_none_of X G z_enumerate) AS ⟨_, _, G_n52, m_n52, k_n52, b_n52⟩ ⟨_, _, G_n54, m_n54, k_n54, b_n54⟩
    have G_n56 := ok_sigpg (mg := mg) (P := l.prog) (w := w) (base := base) (T := [154, 166, 173]) F_n56 ⟨_, _, G_n51, m_n51, k_n51, b_n51⟩ ⟨_, _, G_n55, m_n55, k_n55, b_n55⟩
    have G_n57 := ok_pte (mg := mg) (P := l.prog) (w := w) (base := base) (T := [154, 166, 173]) F_n57 
    have G_n58 := ok_evof (mg := mg) (P := l.prog) (w := w) (base := base) (T := [154, 166, 173]) F_n58 m_ROOT k_ROOT ⟨_, _, G_n57, m_n57, k_n57, b_n57⟩
    have G_n59 := ok_takes (mg := mg) (P := l.prog) (w := w) (base := base) (T := [154, 166, 173]) F_n59 
    have G_n60 := ok_applies (mg := mg) (P := l.prog) (w := w) (base := base) (T := [154, 166, 173]) F_n60 G_n59 m_n59 k_n59 b_n59
    have G_n61 := ok_next (mg := mg) (P := l.prog) (w := w) (base := base) (T := [154, 166, 173]) F_n61 AL G_n60 m_n60 k_n60 b_n60
    have G_n62 := ok_tgb (mg := mg) (P := l.prog) (w := w) (base := base) (T := [154, 166, 173]) F_n62 
    have G_n63 := ok_zhov (mg := mg) (P := l.prog) (w := w) (base := base) (T := [154, 166, 173]) F_n63 m_ZONE k_ZONE ⟨_, _, G_n46, m_n46, k_n46, b_n46⟩ ⟨_, _, G_n41, m_n41, k_n41, b_n41⟩
    have G_n64 := ok_carr (mg := mg) (P := l.prog) (w := w) (base := base) (T := [154, 166, 173]) F_n64 AL m_CHANGE_LENGTHS Ln ⟨_, _, G_n50, m_n50, k_n50, b_n50⟩ ⟨_, _, G_n46, m_n46, k_n46, b_n46⟩ ⟨_, _, G_n56, m_n56, k_n56, b_n56⟩ ⟨_, _, G_n58, m_n58, k_n58, b_n58⟩ ⟨_, _, G_n61, m_n61, k_n61, b_n61⟩ ⟨_, _, G_n62, m_n62, k_n62, b_n62⟩ ⟨_, _, G_n63, m_n63, k_n63, b_n63⟩
    have G_g_act := ok_act (mg := mg) (P := l.prog) (w := w) (base := base) (T := [154, 166, 173]) (CS := CS) (CL := CL) F_g_act L V AG EI b_eI m_MOST_STEPS k_MOST_STEPS ⟨_, _, G_n48, m_n48, k_n48, b_n48⟩ ⟨_, _, G_n64, m_n64, k_n64, b_n64⟩
    have G_n66 := ok_ltold (mg := mg) (P := l.prog) (w := w) (base := base) (T := [154, 166, 173]) (CE := C0) F_n66 V AG ⟨_, _, G_g_act, ⟨a_g_act, fn_g_act, k_g_act⟩, b_g_act⟩
    have G_g_is_hovered := ok_ishov (mg := mg) (P := l.prog) (w := w) (base := base) (T := [154, 166, 173]) (CS := CS) (CL := CL) F_g_is_hovered AG ⟨_, _, G_n63, m_n63, k_n63, b_n63⟩
    have G_g_steps := ok_steps (mg := mg) (P := l.prog) (w := w) (base := base) (T := [154, 166, 173]) (CS := CS) (CL := CL) F_g_steps AG
    have G_g_side := ok_side (mg := mg) (P := l.prog) (w := w) (base := base) (T := [154, 166, 173]) (CS := CS) (CL := CL) F_g_side AG ⟨_, _, G_n51, m_n51, k_n51, b_n51⟩
    have G_n70 := ok_lsides (mg := mg) (P := l.prog) (w := w) (base := base) (T := [154, 166, 173]) F_n70 L ⟨_, _, G_n33, m_n33, k_n33, b_n33⟩
    have G_n71 := ok_lsame (mg := mg) (P := l.prog) (w := w) (base := base) (T := [154, 166, 173]) F_n71 L AG ⟨_, _, G_g_is_hovered, ⟨a_g_is_hovered, fn_g_is_hovered, k_g_is_hovered⟩, b_g_is_hovered⟩ ⟨_, _, G_g_steps, ⟨a_g_steps, fn_g_steps, k_g_steps⟩, b_g_steps⟩ ⟨_, _, G_g_side, ⟨a_g_side, fn_g_side, k_g_side⟩, b_g_side⟩ ⟨_, _, G_n39, m_n39, k_n39, b_n39⟩ ⟨_, _, G_n70, m_n70, k_n70, b_n70⟩
    have G_n72 := ok_play (mg := mg) (P := l.prog) (w := w) (base := base) (T := [154, 166, 173]) (CE := C0) F_n72 ⟨_, _, G_n10, m_n10, k_n10, b_n10⟩ ⟨_, _, G_n48, m_n48, k_n48, b_n48⟩ ⟨_, _, G_n64, m_n64, k_n64, b_n64⟩
    exact ok_law (mg := mg) (P := l.prog) (w := w) (base := base) (T := [154, 166, 173]) (CE := C0) F_n73 L AG Mk_gI m_gI G_gI b_gI ⟨_, _, G_g_undo, ⟨a_g_undo, fn_g_undo, k_g_undo⟩, b_g_undo⟩ ⟨_, _, G_n14, m_n14, k_n14, b_n14⟩ ⟨_, _, G_n18, m_n18, k_n18, b_n18⟩ ⟨_, _, G_n21, m_n21, k_n21, b_n21⟩ ⟨_, _, G_n22, m_n22, k_n22, b_n22⟩ ⟨_, _, G_n23, m_n23, k_n23, b_n23⟩ ⟨_, _, G_n24, m_n24, k_n24, b_n24⟩ ⟨_, _, G_n15, m_n15, k_n15, b_n15⟩ ⟨_, _, G_n25, m_n25, k_n25, b_n25⟩ ⟨_, _, G_n26, m_n26, k_n26, b_n26⟩ ⟨_, _, G_n40, m_n40, k_n40, b_n40⟩ ⟨_, _, G_n66, m_n66, k_n66, b_n66⟩ ⟨_, _, G_n71, m_n71, k_n71, b_n71⟩ ⟨_, _, G_n72, m_n72, k_n72, b_n72⟩
end Dg

open PySem PySem.W PyProof.Rows
set_option maxHeartbeats 0 in
theorem PySem.Challenge.cw_dragtold_k05_stages_holds : PySem.Challenge.rw_dragtold_k05_stages.Holds := by
  w_on; o_law; k_head; (case hw => w_witness2)
  k_fill
  refine Dg.walk_dz (l := PySem.Challenge.rw_dragtold_k05_stages) (n := 63) (k := 10) (x := "script") (CX := fun w => L2.CX PySem.Challenge.rw_dragtold_k05_stages.prog w) rfl (by decide) rfl ⟨rfl, by decide, by decide⟩ (fun w h Y => PySem.W.kIn_of Y) ?F (fun w H s e s' z => Dg.cx_no z)
  case F =>
    intro w mg fa h KX G hmg tabs
    have hT : ∀ P ∈ [154, 166, 173], h.get? P = some { cls := .none, data := .fields #[] } := fun P hP => by
      simp only [List.mem_cons, List.not_mem_nil, or_false] at hP
      rcases hP with e | e | e
      · rw [e]; exact tabs "is_choice" 158 154 (by kernel_rfl) (by kernel_rfl)
      · rw [e]; exact tabs "are_states" 170 166 (by kernel_rfl) (by kernel_rfl)
      · rw [e]; exact tabs "are_rules" 177 173 (by kernel_rfl) (by kernel_rfl)
    refine' Dg.all_mk KX G hmg hT ?zz_a_n0 ?zz_l_n0 ?zz_c_n0 ?zz_k_n0 ?zz_a_n1 ?zz_l_n1 ?zz_c_n1 ?zz_k_n1 ?zz_a_n2 ?zz_l_n2 ?zz_c_n2 ?zz_k_n2 ?zz_g_sI ?zz_a_sI ?zz_l_sI ?zz_c_sI ?zz_k_sI ?zz_fn_sI ?zz_a_n4 ?zz_l_n4 ?zz_c_n4 ?zz_k_n4 ?zz_a_n5 ?zz_l_n5 ?zz_c_n5 ?zz_k_n5 ?zz_a_n6 ?zz_l_n6 ?zz_c_n6 ?zz_k_n6 ?zz_a_n7 ?zz_l_n7 ?zz_c_n7 ?zz_k_n7 ?zz_a_n8 ?zz_l_n8 ?zz_c_n8 ?zz_k_n8 ?zz_g_lI ?zz_a_lI ?zz_l_lI ?zz_c_lI ?zz_k_lI ?zz_fn_lI ?zz_a_n10 ?zz_l_n10 ?zz_c_n10 ?zz_k_n10 ?zz_g_gI ?zz_a_gI ?zz_l_gI ?zz_c_gI ?zz_k_gI ?zz_fn_gI ?zz_a_g_undo ?zz_l_g_undo ?zz_c_g_undo ?zz_k_g_undo ?zz_fn_g_undo ?zz_a_n13 ?zz_l_n13 ?zz_c_n13 ?zz_k_n13 ?zz_a_n14 ?zz_l_n14 ?zz_c_n14 ?zz_k_n14 ?zz_a_n15 ?zz_l_n15 ?zz_c_n15 ?zz_k_n15 ?zz_a_n16 ?zz_l_n16 ?zz_c_n16 ?zz_k_n16 ?zz_a_n17 ?zz_l_n17 ?zz_c_n17 ?zz_k_n17 ?zz_a_n18 ?zz_l_n18 ?zz_c_n18 ?zz_k_n18 ?zz_a_n19 ?zz_l_n19 ?zz_c_n19 ?zz_k_n19 ?zz_a_n20 ?zz_l_n20 ?zz_c_n20 ?zz_k_n20 ?zz_a_n21 ?zz_l_n21 ?zz_c_n21 ?zz_k_n21 ?zz_a_n22 ?zz_l_n22 ?zz_c_n22 ?zz_k_n22 ?zz_a_n23 ?zz_l_n23 ?zz_c_n23 ?zz_k_n23 ?zz_a_n24 ?zz_l_n24 ?zz_c_n24 ?zz_k_n24 ?zz_a_n25 ?zz_l_n25 ?zz_c_n25 ?zz_k_n25 ?zz_a_n26 ?zz_l_n26 ?zz_c_n26 ?zz_k_n26 ?zz_a_n27 ?zz_l_n27 ?zz_c_n27 ?zz_k_n27 ?zz_a_n28 ?zz_l_n28 ?zz_c_n28 ?zz_k_n28 ?zz_a_n29 ?zz_l_n29 ?zz_c_n29 ?zz_k_n29 ?zz_a_n30 ?zz_l_n30 ?zz_c_n30 ?zz_k_n30 ?zz_a_n31 ?zz_l_n31 ?zz_c_n31 ?zz_k_n31 ?zz_a_n32 ?zz_l_n32 ?zz_c_n32 ?zz_k_n32 ?zz_a_n33 ?zz_l_n33 ?zz_c_n33 ?zz_k_n33 ?zz_a_n34 ?zz_l_n34 ?zz_c_n34 ?zz_k_n34 ?zz_a_n35 ?zz_l_n35 ?zz_c_n35 ?zz_k_n35 ?zz_a_n36 ?zz_l_n36 ?zz_c_n36 ?zz_k_n36 ?zz_a_n37 ?zz_l_n37 ?zz_c_n37 ?zz_k_n37 ?zz_a_n38 ?zz_l_n38 ?zz_c_n38 ?zz_k_n38 ?zz_a_n39 ?zz_l_n39 ?zz_c_n39 ?zz_k_n39 ?zz_a_n40 ?zz_l_n40 ?zz_c_n40 ?zz_k_n40 ?zz_a_n41 ?zz_l_n41 ?zz_c_n41 ?zz_k_n41 ?zz_a_n42 ?zz_l_n42 ?zz_c_n42 ?zz_k_n42 ?zz_a_n43 ?zz_l_n43 ?zz_c_n43 ?zz_k_n43 ?zz_a_n44 ?zz_l_n44 ?zz_c_n44 ?zz_k_n44 ?zz_a_n45 ?zz_l_n45 ?zz_c_n45 ?zz_k_n45 ?zz_a_n46 ?zz_l_n46 ?zz_c_n46 ?zz_k_n46 ?zz_a_n47 ?zz_l_n47 ?zz_c_n47 ?zz_k_n47 ?zz_a_n48 ?zz_l_n48 ?zz_c_n48 ?zz_k_n48 ?zz_a_n49 ?zz_l_n49 ?zz_c_n49 ?zz_k_n49 ?zz_a_n50 ?zz_l_n50 ?zz_c_n50 ?zz_k_n50 ?zz_a_n51 ?zz_l_n51 ?zz_c_n51 ?zz_k_n51 ?zz_a_n52 ?zz_l_n52 ?zz_c_n52 ?zz_k_n52 ?zz_a_n53 ?zz_l_n53 ?zz_c_n53 ?zz_k_n53 ?zz_a_n54 ?zz_l_n54 ?zz_c_n54 ?zz_k_n54 ?zz_a_n55 ?zz_l_n55 ?zz_c_n55 ?zz_k_n55 ?zz_a_n56 ?zz_l_n56 ?zz_c_n56 ?zz_k_n56 ?zz_a_n57 ?zz_l_n57 ?zz_c_n57 ?zz_k_n57 ?zz_a_n58 ?zz_l_n58 ?zz_c_n58 ?zz_k_n58 ?zz_a_n59 ?zz_l_n59 ?zz_c_n59 ?zz_k_n59 ?zz_a_n60 ?zz_l_n60 ?zz_c_n60 ?zz_k_n60 ?zz_a_n61 ?zz_l_n61 ?zz_c_n61 ?zz_k_n61 ?zz_a_n62 ?zz_l_n62 ?zz_c_n62 ?zz_k_n62 ?zz_a_n63 ?zz_l_n63 ?zz_c_n63 ?zz_k_n63 ?zz_a_n64 ?zz_l_n64 ?zz_c_n64 ?zz_k_n64 ?zz_a_g_act ?zz_l_g_act ?zz_c_g_act ?zz_k_g_act ?zz_fn_g_act ?zz_a_n66 ?zz_l_n66 ?zz_c_n66 ?zz_k_n66 ?zz_a_g_is_hovered ?zz_l_g_is_hovered ?zz_c_g_is_hovered ?zz_k_g_is_hovered ?zz_fn_g_is_hovered ?zz_a_g_steps ?zz_l_g_steps ?zz_c_g_steps ?zz_k_g_steps ?zz_fn_g_steps ?zz_a_g_side ?zz_l_g_side ?zz_c_g_side ?zz_k_g_side ?zz_fn_g_side ?zz_a_n70 ?zz_l_n70 ?zz_c_n70 ?zz_k_n70 ?zz_a_n71 ?zz_l_n71 ?zz_c_n71 ?zz_k_n71 ?zz_a_n72 ?zz_l_n72 ?zz_c_n72 ?zz_k_n72 ?zz_a_n73 ?zz_l_n73 ?zz_c_n73 ?zz_k_n73 ?zz_g_eI ?zz_a_eI ?zz_l_eI ?zz_c_eI ?zz_k_eI ?zz_eX ?zz_eS ?zz_eB ?zz_eT ?zz_eK ?zz_eF ?zz_eN ?zz_eV ?zz_eY ?zz_eE ?zz_pg_gI ?zz_hd_gI ?zz_po_gI ?zz_sa_gI ?zz_mk_gI ?zz_kp_gI ?zz_no0_gI ?zz_no1_gI ?zz_no2_gI ?zz_no3_gI ?zz_pg_sI ?zz_hd_sI ?zz_po_sI ?zz_sa_sI ?zz_mk_sI ?zz_kp_sI ?zz_no0_sI ?zz_no1_sI ?zz_no2_sI ?zz_pg_lI ?zz_hd_lI ?zz_po_lI ?zz_sa_lI ?zz_mk_lI ?zz_kp_lI ?zz_no0_lI ?zz_no1_lI ?zz_no2_lI ?zz_z_isinstance ?zz_z_int ?zz_z_bool ?zz_z_str ?zz_z_list ?zz_z_tuple ?zz_z_len ?zz_z_set ?zz_z_all ?zz_z_sorted ?zz_z_range ?zz_z_abs ?zz_z_enumerate ?zz_z_ValueError ?zz_a_PLACES ?zz_k_PLACES ?zz_a_KINDS ?zz_k_KINDS ?zz_a_SIGHTS ?zz_k_SIGHTS ?zz_a_MOST_STATES ?zz_k_MOST_STATES ?zz_a_MOST_RULES ?zz_k_MOST_RULES ?zz_a_SIDES ?zz_k_SIDES ?zz_a_RELATED_SIDES ?zz_k_RELATED_SIDES ?zz_a_FIRST_PAGE ?zz_k_FIRST_PAGE ?zz_a_MOST_STEPS ?zz_k_MOST_STEPS ?zz_a_STOPS_BOUND ?zz_k_STOPS_BOUND ?zz_a_ROOT ?zz_k_ROOT ?zz_a_ZONE ?zz_k_ZONE ?zz_a_END_SIGNAL ?zz_k_END_SIGNAL ?zz_a_CHANGE_LENGTHS ?zz_l_CHANGE_LENGTHS ?zz_t_CHANGE_LENGTHS ?zz_w_CHANGE_LENGTHS ?zz_a_aC_add ?zz_k_aC_add ?zz_a_aC_remove ?zz_k_aC_remove ?zz_a_aC_place ?zz_k_aC_place ?zz_x_aC_point ?zz_x_aC_slip ?zz_x_aC_out ?zz_x_aC_drop ?zz_x_aC_cancel ?zz_a_TICK_LENGTHS ?zz_l_TICK_LENGTHS ?zz_t_TICK_LENGTHS ?zz_w_TICK_LENGTHS ?zz_a_aT_point ?zz_k_aT_point ?zz_a_aT_slip ?zz_k_aT_slip ?zz_a_aT_out ?zz_k_aT_out ?zz_a_aT_drop ?zz_k_aT_drop ?zz_a_aT_cancel ?zz_k_aT_cancel ?zz_hd_is_choice ?zz_nt_is_choice ?zz_hd_are_states ?zz_nt_are_states ?zz_hd_are_rules ?zz_nt_are_rules
    (case zz_a_n0 => first | k_is | rfl | kernel_rfl)
    (case zz_l_n0 => first | k_is | rfl | kernel_rfl)
    (case zz_c_n0 => first | k_is | rfl | kernel_rfl)
    (case zz_k_n0 => first | k_is | rfl | kernel_rfl)
    (case zz_a_n1 => first | k_is | rfl | kernel_rfl)
    (case zz_l_n1 => first | k_is | rfl | kernel_rfl)
    (case zz_c_n1 => first | k_is | rfl | kernel_rfl)
    (case zz_k_n1 => first | k_is | rfl | kernel_rfl)
    (case zz_a_n2 => first | k_is | rfl | kernel_rfl)
    (case zz_l_n2 => first | k_is | rfl | kernel_rfl)
    (case zz_c_n2 => first | k_is | rfl | kernel_rfl)
    (case zz_k_n2 => first | k_is | rfl | kernel_rfl)
    (case zz_g_sI => first | k_is | rfl | kernel_rfl)
    (case zz_a_sI => first | k_is | rfl | kernel_rfl)
    (case zz_l_sI => first | k_is | rfl | kernel_rfl)
    (case zz_c_sI => first | k_is | rfl | kernel_rfl)
    (case zz_k_sI => first | k_is | rfl | kernel_rfl)
    (case zz_fn_sI => first | k_is | rfl | kernel_rfl)
    (case zz_a_n4 => first | k_is | rfl | kernel_rfl)
    (case zz_l_n4 => first | k_is | rfl | kernel_rfl)
    (case zz_c_n4 => first | k_is | rfl | kernel_rfl)
    (case zz_k_n4 => first | k_is | rfl | kernel_rfl)
    (case zz_a_n5 => first | k_is | rfl | kernel_rfl)
    (case zz_l_n5 => first | k_is | rfl | kernel_rfl)
    (case zz_c_n5 => first | k_is | rfl | kernel_rfl)
    (case zz_k_n5 => first | k_is | rfl | kernel_rfl)
    (case zz_a_n6 => first | k_is | rfl | kernel_rfl)
    (case zz_l_n6 => first | k_is | rfl | kernel_rfl)
    (case zz_c_n6 => first | k_is | rfl | kernel_rfl)
    (case zz_k_n6 => first | k_is | rfl | kernel_rfl)
    (case zz_a_n7 => first | k_is | rfl | kernel_rfl)
    (case zz_l_n7 => first | k_is | rfl | kernel_rfl)
    (case zz_c_n7 => first | k_is | rfl | kernel_rfl)
    (case zz_k_n7 => first | k_is | rfl | kernel_rfl)
    (case zz_a_n8 => first | k_is | rfl | kernel_rfl)
    (case zz_l_n8 => first | k_is | rfl | kernel_rfl)
    (case zz_c_n8 => first | k_is | rfl | kernel_rfl)
    (case zz_k_n8 => first | k_is | rfl | kernel_rfl)
    (case zz_g_lI => first | k_is | rfl | kernel_rfl)
    (case zz_a_lI => first | k_is | rfl | kernel_rfl)
    (case zz_l_lI => first | k_is | rfl | kernel_rfl)
    (case zz_c_lI => first | k_is | rfl | kernel_rfl)
    (case zz_k_lI => first | k_is | rfl | kernel_rfl)
    (case zz_fn_lI => first | k_is | rfl | kernel_rfl)
    (case zz_a_n10 => first | k_is | rfl | kernel_rfl)
    (case zz_l_n10 => first | k_is | rfl | kernel_rfl)
    (case zz_c_n10 => first | k_is | rfl | kernel_rfl)
    (case zz_k_n10 => first | k_is | rfl | kernel_rfl)
    (case zz_g_gI => first | k_is | rfl | kernel_rfl)
    (case zz_a_gI => first | k_is | rfl | kernel_rfl)
    (case zz_l_gI => first | k_is | rfl | kernel_rfl)
    (case zz_c_gI => first | k_is | rfl | kernel_rfl)
    (case zz_k_gI => first | k_is | rfl | kernel_rfl)
    (case zz_fn_gI => first | k_is | rfl | kernel_rfl)
    (case zz_a_g_undo => first | k_is | rfl | kernel_rfl)
    (case zz_l_g_undo => first | k_is | rfl | kernel_rfl)
    (case zz_c_g_undo => first | k_is | rfl | kernel_rfl)
    (case zz_k_g_undo => first | k_is | rfl | kernel_rfl)
    (case zz_fn_g_undo => first | k_is | rfl | kernel_rfl)
    (case zz_a_n13 => first | k_is | rfl | kernel_rfl)
    (case zz_l_n13 => first | k_is | rfl | kernel_rfl)
    (case zz_c_n13 => first | k_is | rfl | kernel_rfl)
    (case zz_k_n13 => first | k_is | rfl | kernel_rfl)
    (case zz_a_n14 => first | k_is | rfl | kernel_rfl)
    (case zz_l_n14 => first | k_is | rfl | kernel_rfl)
    (case zz_c_n14 => first | k_is | rfl | kernel_rfl)
    (case zz_k_n14 => first | k_is | rfl | kernel_rfl)
    (case zz_a_n15 => first | k_is | rfl | kernel_rfl)
    (case zz_l_n15 => first | k_is | rfl | kernel_rfl)
    (case zz_c_n15 => first | k_is | rfl | kernel_rfl)
    (case zz_k_n15 => first | k_is | rfl | kernel_rfl)
    (case zz_a_n16 => first | k_is | rfl | kernel_rfl)
    (case zz_l_n16 => first | k_is | rfl | kernel_rfl)
    (case zz_c_n16 => first | k_is | rfl | kernel_rfl)
    (case zz_k_n16 => first | k_is | rfl | kernel_rfl)
    (case zz_a_n17 => first | k_is | rfl | kernel_rfl)
    (case zz_l_n17 => first | k_is | rfl | kernel_rfl)
    (case zz_c_n17 => first | k_is | rfl | kernel_rfl)
    (case zz_k_n17 => first | k_is | rfl | kernel_rfl)
    (case zz_a_n18 => first | k_is | rfl | kernel_rfl)
    (case zz_l_n18 => first | k_is | rfl | kernel_rfl)
    (case zz_c_n18 => first | k_is | rfl | kernel_rfl)
    (case zz_k_n18 => first | k_is | rfl | kernel_rfl)
    (case zz_a_n19 => first | k_is | rfl | kernel_rfl)
    (case zz_l_n19 => first | k_is | rfl | kernel_rfl)
    (case zz_c_n19 => first | k_is | rfl | kernel_rfl)
    (case zz_k_n19 => first | k_is | rfl | kernel_rfl)
    (case zz_a_n20 => first | k_is | rfl | kernel_rfl)
    (case zz_l_n20 => first | k_is | rfl | kernel_rfl)
    (case zz_c_n20 => first | k_is | rfl | kernel_rfl)
    (case zz_k_n20 => first | k_is | rfl | kernel_rfl)
    (case zz_a_n21 => first | k_is | rfl | kernel_rfl)
    (case zz_l_n21 => first | k_is | rfl | kernel_rfl)
    (case zz_c_n21 => first | k_is | rfl | kernel_rfl)
    (case zz_k_n21 => first | k_is | rfl | kernel_rfl)
    (case zz_a_n22 => first | k_is | rfl | kernel_rfl)
    (case zz_l_n22 => first | k_is | rfl | kernel_rfl)
    (case zz_c_n22 => first | k_is | rfl | kernel_rfl)
    (case zz_k_n22 => first | k_is | rfl | kernel_rfl)
    (case zz_a_n23 => first | k_is | rfl | kernel_rfl)
    (case zz_l_n23 => first | k_is | rfl | kernel_rfl)
    (case zz_c_n23 => first | k_is | rfl | kernel_rfl)
    (case zz_k_n23 => first | k_is | rfl | kernel_rfl)
    (case zz_a_n24 => first | k_is | rfl | kernel_rfl)
    (case zz_l_n24 => first | k_is | rfl | kernel_rfl)
    (case zz_c_n24 => first | k_is | rfl | kernel_rfl)
    (case zz_k_n24 => first | k_is | rfl | kernel_rfl)
    (case zz_a_n25 => first | k_is | rfl | kernel_rfl)
    (case zz_l_n25 => first | k_is | rfl | kernel_rfl)
    (case zz_c_n25 => first | k_is | rfl | kernel_rfl)
    (case zz_k_n25 => first | k_is | rfl | kernel_rfl)
    (case zz_a_n26 => first | k_is | rfl | kernel_rfl)
    (case zz_l_n26 => first | k_is | rfl | kernel_rfl)
    (case zz_c_n26 => first | k_is | rfl | kernel_rfl)
    (case zz_k_n26 => first | k_is | rfl | kernel_rfl)
    (case zz_a_n27 => first | k_is | rfl | kernel_rfl)
    (case zz_l_n27 => first | k_is | rfl | kernel_rfl)
    (case zz_c_n27 => first | k_is | rfl | kernel_rfl)
    (case zz_k_n27 => first | k_is | rfl | kernel_rfl)
    (case zz_a_n28 => first | k_is | rfl | kernel_rfl)
    (case zz_l_n28 => first | k_is | rfl | kernel_rfl)
    (case zz_c_n28 => first | k_is | rfl | kernel_rfl)
    (case zz_k_n28 => first | k_is | rfl | kernel_rfl)
    (case zz_a_n29 => first | k_is | rfl | kernel_rfl)
    (case zz_l_n29 => first | k_is | rfl | kernel_rfl)
    (case zz_c_n29 => first | k_is | rfl | kernel_rfl)
    (case zz_k_n29 => first | k_is | rfl | kernel_rfl)
    (case zz_a_n30 => first | k_is | rfl | kernel_rfl)
    (case zz_l_n30 => first | k_is | rfl | kernel_rfl)
    (case zz_c_n30 => first | k_is | rfl | kernel_rfl)
    (case zz_k_n30 => first | k_is | rfl | kernel_rfl)
    (case zz_a_n31 => first | k_is | rfl | kernel_rfl)
    (case zz_l_n31 => first | k_is | rfl | kernel_rfl)
    (case zz_c_n31 => first | k_is | rfl | kernel_rfl)
    (case zz_k_n31 => first | k_is | rfl | kernel_rfl)
    (case zz_a_n32 => first | k_is | rfl | kernel_rfl)
    (case zz_l_n32 => first | k_is | rfl | kernel_rfl)
    (case zz_c_n32 => first | k_is | rfl | kernel_rfl)
    (case zz_k_n32 => first | k_is | rfl | kernel_rfl)
    (case zz_a_n33 => first | k_is | rfl | kernel_rfl)
    (case zz_l_n33 => first | k_is | rfl | kernel_rfl)
    (case zz_c_n33 => first | k_is | rfl | kernel_rfl)
    (case zz_k_n33 => first | k_is | rfl | kernel_rfl)
    (case zz_a_n34 => first | k_is | rfl | kernel_rfl)
    (case zz_l_n34 => first | k_is | rfl | kernel_rfl)
    (case zz_c_n34 => first | k_is | rfl | kernel_rfl)
    (case zz_k_n34 => first | k_is | rfl | kernel_rfl)
    (case zz_a_n35 => first | k_is | rfl | kernel_rfl)
    (case zz_l_n35 => first | k_is | rfl | kernel_rfl)
    (case zz_c_n35 => first | k_is | rfl | kernel_rfl)
    (case zz_k_n35 => first | k_is | rfl | kernel_rfl)
    (case zz_a_n36 => first | k_is | rfl | kernel_rfl)
    (case zz_l_n36 => first | k_is | rfl | kernel_rfl)
    (case zz_c_n36 => first | k_is | rfl | kernel_rfl)
    (case zz_k_n36 => first | k_is | rfl | kernel_rfl)
    (case zz_a_n37 => first | k_is | rfl | kernel_rfl)
    (case zz_l_n37 => first | k_is | rfl | kernel_rfl)
    (case zz_c_n37 => first | k_is | rfl | kernel_rfl)
    (case zz_k_n37 => first | k_is | rfl | kernel_rfl)
    (case zz_a_n38 => first | k_is | rfl | kernel_rfl)
    (case zz_l_n38 => first | k_is | rfl | kernel_rfl)
    (case zz_c_n38 => first | k_is | rfl | kernel_rfl)
    (case zz_k_n38 => first | k_is | rfl | kernel_rfl)
    (case zz_a_n39 => first | k_is | rfl | kernel_rfl)
    (case zz_l_n39 => first | k_is | rfl | kernel_rfl)
    (case zz_c_n39 => first | k_is | rfl | kernel_rfl)
    (case zz_k_n39 => first | k_is | rfl | kernel_rfl)
    (case zz_a_n40 => first | k_is | rfl | kernel_rfl)
    (case zz_l_n40 => first | k_is | rfl | kernel_rfl)
    (case zz_c_n40 => first | k_is | rfl | kernel_rfl)
    (case zz_k_n40 => first | k_is | rfl | kernel_rfl)
    (case zz_a_n41 => first | k_is | rfl | kernel_rfl)
    (case zz_l_n41 => first | k_is | rfl | kernel_rfl)
    (case zz_c_n41 => first | k_is | rfl | kernel_rfl)
    (case zz_k_n41 => first | k_is | rfl | kernel_rfl)
    (case zz_a_n42 => first | k_is | rfl | kernel_rfl)
    (case zz_l_n42 => first | k_is | rfl | kernel_rfl)
    (case zz_c_n42 => first | k_is | rfl | kernel_rfl)
    (case zz_k_n42 => first | k_is | rfl | kernel_rfl)
    (case zz_a_n43 => first | k_is | rfl | kernel_rfl)
    (case zz_l_n43 => first | k_is | rfl | kernel_rfl)
    (case zz_c_n43 => first | k_is | rfl | kernel_rfl)
    (case zz_k_n43 => first | k_is | rfl | kernel_rfl)
    (case zz_a_n44 => first | k_is | rfl | kernel_rfl)
    (case zz_l_n44 => first | k_is | rfl | kernel_rfl)
    (case zz_c_n44 => first | k_is | rfl | kernel_rfl)
    (case zz_k_n44 => first | k_is | rfl | kernel_rfl)
    (case zz_a_n45 => first | k_is | rfl | kernel_rfl)
    (case zz_l_n45 => first | k_is | rfl | kernel_rfl)
    (case zz_c_n45 => first | k_is | rfl | kernel_rfl)
    (case zz_k_n45 => first | k_is | rfl | kernel_rfl)
    (case zz_a_n46 => first | k_is | rfl | kernel_rfl)
    (case zz_l_n46 => first | k_is | rfl | kernel_rfl)
    (case zz_c_n46 => first | k_is | rfl | kernel_rfl)
    (case zz_k_n46 => first | k_is | rfl | kernel_rfl)
    (case zz_a_n47 => first | k_is | rfl | kernel_rfl)
    (case zz_l_n47 => first | k_is | rfl | kernel_rfl)
    (case zz_c_n47 => first | k_is | rfl | kernel_rfl)
    (case zz_k_n47 => first | k_is | rfl | kernel_rfl)
    (case zz_a_n48 => first | k_is | rfl | kernel_rfl)
    (case zz_l_n48 => first | k_is | rfl | kernel_rfl)
    (case zz_c_n48 => first | k_is | rfl | kernel_rfl)
    (case zz_k_n48 => first | k_is | rfl | kernel_rfl)
    (case zz_a_n49 => first | k_is | rfl | kernel_rfl)
    (case zz_l_n49 => first | k_is | rfl | kernel_rfl)
    (case zz_c_n49 => first | k_is | rfl | kernel_rfl)
    (case zz_k_n49 => first | k_is | rfl | kernel_rfl)
    (case zz_a_n50 => first | k_is | rfl | kernel_rfl)
    (case zz_l_n50 => first | k_is | rfl | kernel_rfl)
    (case zz_c_n50 => first | k_is | rfl | kernel_rfl)
    (case zz_k_n50 => first | k_is | rfl | kernel_rfl)
    (case zz_a_n51 => first | k_is | rfl | kernel_rfl)
    (case zz_l_n51 => first | k_is | rfl | kernel_rfl)
    (case zz_c_n51 => first | k_is | rfl | kernel_rfl)
    (case zz_k_n51 => first | k_is | rfl | kernel_rfl)
    (case zz_a_n52 => first | k_is | rfl | kernel_rfl)
    (case zz_l_n52 => first | k_is | rfl | kernel_rfl)
    (case zz_c_n52 => first | k_is | rfl | kernel_rfl)
    (case zz_k_n52 => first | k_is | rfl | kernel_rfl)
    (case zz_a_n53 => first | k_is | rfl | kernel_rfl)
    (case zz_l_n53 => first | k_is | rfl | kernel_rfl)
    (case zz_c_n53 => first | k_is | rfl | kernel_rfl)
    (case zz_k_n53 => first | k_is | rfl | kernel_rfl)
    (case zz_a_n54 => first | k_is | rfl | kernel_rfl)
    (case zz_l_n54 => first | k_is | rfl | kernel_rfl)
    (case zz_c_n54 => first | k_is | rfl | kernel_rfl)
    (case zz_k_n54 => first | k_is | rfl | kernel_rfl)
    (case zz_a_n55 => first | k_is | rfl | kernel_rfl)
    (case zz_l_n55 => first | k_is | rfl | kernel_rfl)
    (case zz_c_n55 => first | k_is | rfl | kernel_rfl)
    (case zz_k_n55 => first | k_is | rfl | kernel_rfl)
    (case zz_a_n56 => first | k_is | rfl | kernel_rfl)
    (case zz_l_n56 => first | k_is | rfl | kernel_rfl)
    (case zz_c_n56 => first | k_is | rfl | kernel_rfl)
    (case zz_k_n56 => first | k_is | rfl | kernel_rfl)
    (case zz_a_n57 => first | k_is | rfl | kernel_rfl)
    (case zz_l_n57 => first | k_is | rfl | kernel_rfl)
    (case zz_c_n57 => first | k_is | rfl | kernel_rfl)
    (case zz_k_n57 => first | k_is | rfl | kernel_rfl)
    (case zz_a_n58 => first | k_is | rfl | kernel_rfl)
    (case zz_l_n58 => first | k_is | rfl | kernel_rfl)
    (case zz_c_n58 => first | k_is | rfl | kernel_rfl)
    (case zz_k_n58 => first | k_is | rfl | kernel_rfl)
    (case zz_a_n59 => first | k_is | rfl | kernel_rfl)
    (case zz_l_n59 => first | k_is | rfl | kernel_rfl)
    (case zz_c_n59 => first | k_is | rfl | kernel_rfl)
    (case zz_k_n59 => first | k_is | rfl | kernel_rfl)
    (case zz_a_n60 => first | k_is | rfl | kernel_rfl)
    (case zz_l_n60 => first | k_is | rfl | kernel_rfl)
    (case zz_c_n60 => first | k_is | rfl | kernel_rfl)
    (case zz_k_n60 => first | k_is | rfl | kernel_rfl)
    (case zz_a_n61 => first | k_is | rfl | kernel_rfl)
    (case zz_l_n61 => first | k_is | rfl | kernel_rfl)
    (case zz_c_n61 => first | k_is | rfl | kernel_rfl)
    (case zz_k_n61 => first | k_is | rfl | kernel_rfl)
    (case zz_a_n62 => first | k_is | rfl | kernel_rfl)
    (case zz_l_n62 => first | k_is | rfl | kernel_rfl)
    (case zz_c_n62 => first | k_is | rfl | kernel_rfl)
    (case zz_k_n62 => first | k_is | rfl | kernel_rfl)
    (case zz_a_n63 => first | k_is | rfl | kernel_rfl)
    (case zz_l_n63 => first | k_is | rfl | kernel_rfl)
    (case zz_c_n63 => first | k_is | rfl | kernel_rfl)
    (case zz_k_n63 => first | k_is | rfl | kernel_rfl)
    (case zz_a_n64 => first | k_is | rfl | kernel_rfl)
    (case zz_l_n64 => first | k_is | rfl | kernel_rfl)
    (case zz_c_n64 => first | k_is | rfl | kernel_rfl)
    (case zz_k_n64 => first | k_is | rfl | kernel_rfl)
    (case zz_a_g_act => first | k_is | rfl | kernel_rfl)
    (case zz_l_g_act => first | k_is | rfl | kernel_rfl)
    (case zz_c_g_act => first | k_is | rfl | kernel_rfl)
    (case zz_k_g_act => first | k_is | rfl | kernel_rfl)
    (case zz_fn_g_act => first | k_is | rfl | kernel_rfl)
    (case zz_a_n66 => first | k_is | rfl | kernel_rfl)
    (case zz_l_n66 => first | k_is | rfl | kernel_rfl)
    (case zz_c_n66 => first | k_is | rfl | kernel_rfl)
    (case zz_k_n66 => first | k_is | rfl | kernel_rfl)
    (case zz_a_g_is_hovered => first | k_is | rfl | kernel_rfl)
    (case zz_l_g_is_hovered => first | k_is | rfl | kernel_rfl)
    (case zz_c_g_is_hovered => first | k_is | rfl | kernel_rfl)
    (case zz_k_g_is_hovered => first | k_is | rfl | kernel_rfl)
    (case zz_fn_g_is_hovered => first | k_is | rfl | kernel_rfl)
    (case zz_a_g_steps => first | k_is | rfl | kernel_rfl)
    (case zz_l_g_steps => first | k_is | rfl | kernel_rfl)
    (case zz_c_g_steps => first | k_is | rfl | kernel_rfl)
    (case zz_k_g_steps => first | k_is | rfl | kernel_rfl)
    (case zz_fn_g_steps => first | k_is | rfl | kernel_rfl)
    (case zz_a_g_side => first | k_is | rfl | kernel_rfl)
    (case zz_l_g_side => first | k_is | rfl | kernel_rfl)
    (case zz_c_g_side => first | k_is | rfl | kernel_rfl)
    (case zz_k_g_side => first | k_is | rfl | kernel_rfl)
    (case zz_fn_g_side => first | k_is | rfl | kernel_rfl)
    (case zz_a_n70 => first | k_is | rfl | kernel_rfl)
    (case zz_l_n70 => first | k_is | rfl | kernel_rfl)
    (case zz_c_n70 => first | k_is | rfl | kernel_rfl)
    (case zz_k_n70 => first | k_is | rfl | kernel_rfl)
    (case zz_a_n71 => first | k_is | rfl | kernel_rfl)
    (case zz_l_n71 => first | k_is | rfl | kernel_rfl)
    (case zz_c_n71 => first | k_is | rfl | kernel_rfl)
    (case zz_k_n71 => first | k_is | rfl | kernel_rfl)
    (case zz_a_n72 => first | k_is | rfl | kernel_rfl)
    (case zz_l_n72 => first | k_is | rfl | kernel_rfl)
    (case zz_c_n72 => first | k_is | rfl | kernel_rfl)
    (case zz_k_n72 => first | k_is | rfl | kernel_rfl)
    (case zz_a_n73 => first | k_is | rfl | kernel_rfl)
    (case zz_l_n73 => first | k_is | rfl | kernel_rfl)
    (case zz_c_n73 => first | k_is | rfl | kernel_rfl)
    (case zz_k_n73 => first | k_is | rfl | kernel_rfl)
    (case zz_g_eI => first | k_is | rfl | kernel_rfl)
    (case zz_a_eI => first | k_is | rfl | kernel_rfl)
    (case zz_l_eI => first | k_is | rfl | kernel_rfl)
    (case zz_c_eI => first | k_is | rfl | kernel_rfl)
    (case zz_k_eI => first | k_is | rfl | kernel_rfl)
    (case zz_eX => first | k_is | rfl | kernel_rfl)
    (case zz_eS => first | k_is | rfl | kernel_rfl)
    (case zz_eB => first | k_is | rfl | kernel_rfl)
    (case zz_eT => first | k_is | rfl | kernel_rfl)
    (case zz_eK => first | k_is | rfl | kernel_rfl)
    (case zz_eF => first | k_is | rfl | kernel_rfl)
    (case zz_eN => first | k_is | rfl | kernel_rfl)
    (case zz_eV => first | k_is | rfl | kernel_rfl)
    (case zz_eY => first | k_is | rfl | kernel_rfl)
    (case zz_eE => first | k_is | rfl | kernel_rfl)
    (case zz_pg_gI => first | k_is | rfl | kernel_rfl)
    (case zz_hd_gI => first | k_is | rfl | kernel_rfl)
    (case zz_po_gI => first | k_is | rfl | kernel_rfl)
    (case zz_sa_gI => first | k_is | rfl | kernel_rfl)
    (case zz_mk_gI => first | k_is | rfl | kernel_rfl)
    (case zz_kp_gI => first | k_is | rfl | kernel_rfl)
    (case zz_no0_gI => first | k_is | rfl | kernel_rfl)
    (case zz_no1_gI => first | k_is | rfl | kernel_rfl)
    (case zz_no2_gI => first | k_is | rfl | kernel_rfl)
    (case zz_no3_gI => first | k_is | rfl | kernel_rfl)
    (case zz_pg_sI => first | k_is | rfl | kernel_rfl)
    (case zz_hd_sI => first | k_is | rfl | kernel_rfl)
    (case zz_po_sI => first | k_is | rfl | kernel_rfl)
    (case zz_sa_sI => first | k_is | rfl | kernel_rfl)
    (case zz_mk_sI => first | k_is | rfl | kernel_rfl)
    (case zz_kp_sI => first | k_is | rfl | kernel_rfl)
    (case zz_no0_sI => first | k_is | rfl | kernel_rfl)
    (case zz_no1_sI => first | k_is | rfl | kernel_rfl)
    (case zz_no2_sI => first | k_is | rfl | kernel_rfl)
    (case zz_pg_lI => first | k_is | rfl | kernel_rfl)
    (case zz_hd_lI => first | k_is | rfl | kernel_rfl)
    (case zz_po_lI => first | k_is | rfl | kernel_rfl)
    (case zz_sa_lI => first | k_is | rfl | kernel_rfl)
    (case zz_mk_lI => first | k_is | rfl | kernel_rfl)
    (case zz_kp_lI => first | k_is | rfl | kernel_rfl)
    (case zz_no0_lI => first | k_is | rfl | kernel_rfl)
    (case zz_no1_lI => first | k_is | rfl | kernel_rfl)
    (case zz_no2_lI => first | k_is | rfl | kernel_rfl)
    (case zz_z_isinstance => first | k_is | rfl | kernel_rfl)
    (case zz_z_int => first | k_is | rfl | kernel_rfl)
    (case zz_z_bool => first | k_is | rfl | kernel_rfl)
    (case zz_z_str => first | k_is | rfl | kernel_rfl)
    (case zz_z_list => first | k_is | rfl | kernel_rfl)
    (case zz_z_tuple => first | k_is | rfl | kernel_rfl)
    (case zz_z_len => first | k_is | rfl | kernel_rfl)
    (case zz_z_set => first | k_is | rfl | kernel_rfl)
    (case zz_z_all => first | k_is | rfl | kernel_rfl)
    (case zz_z_sorted => first | k_is | rfl | kernel_rfl)
    (case zz_z_range => first | k_is | rfl | kernel_rfl)
    (case zz_z_abs => first | k_is | rfl | kernel_rfl)
    (case zz_z_enumerate => first | k_is | rfl | kernel_rfl)
    (case zz_z_ValueError => first | k_is | rfl | kernel_rfl)
    (case zz_a_PLACES => first | k_is | rfl | kernel_rfl)
    (case zz_k_PLACES => first | k_is | rfl | kernel_rfl)
    (case zz_a_KINDS => first | k_is | rfl | kernel_rfl)
    (case zz_k_KINDS => first | k_is | rfl | kernel_rfl)
    (case zz_a_SIGHTS => first | k_is | rfl | kernel_rfl)
    (case zz_k_SIGHTS => first | k_is | rfl | kernel_rfl)
    (case zz_a_MOST_STATES => first | k_is | rfl | kernel_rfl)
    (case zz_k_MOST_STATES => first | k_is | rfl | kernel_rfl)
    (case zz_a_MOST_RULES => first | k_is | rfl | kernel_rfl)
    (case zz_k_MOST_RULES => first | k_is | rfl | kernel_rfl)
    (case zz_a_SIDES => first | k_is | rfl | kernel_rfl)
    (case zz_k_SIDES => first | k_is | rfl | kernel_rfl)
    (case zz_a_RELATED_SIDES => first | k_is | rfl | kernel_rfl)
    (case zz_k_RELATED_SIDES => first | k_is | rfl | kernel_rfl)
    (case zz_a_FIRST_PAGE => first | k_is | rfl | kernel_rfl)
    (case zz_k_FIRST_PAGE => first | k_is | rfl | kernel_rfl)
    (case zz_a_MOST_STEPS => first | k_is | rfl | kernel_rfl)
    (case zz_k_MOST_STEPS => first | k_is | rfl | kernel_rfl)
    (case zz_a_STOPS_BOUND => first | k_is | rfl | kernel_rfl)
    (case zz_k_STOPS_BOUND => first | k_is | rfl | kernel_rfl)
    (case zz_a_ROOT => first | k_is | rfl | kernel_rfl)
    (case zz_k_ROOT => first | k_is | rfl | kernel_rfl)
    (case zz_a_ZONE => first | k_is | rfl | kernel_rfl)
    (case zz_k_ZONE => first | k_is | rfl | kernel_rfl)
    (case zz_a_END_SIGNAL => first | k_is | rfl | kernel_rfl)
    (case zz_k_END_SIGNAL => first | k_is | rfl | kernel_rfl)
    (case zz_a_CHANGE_LENGTHS => first | k_is | rfl | kernel_rfl)
    (case zz_l_CHANGE_LENGTHS => first | k_is | rfl | kernel_rfl)
    (case zz_t_CHANGE_LENGTHS => exact He.keysLit_of (ks := ["add", "remove", "place"]) (by kernel_rfl))
    (case zz_w_CHANGE_LENGTHS => first | k_is | rfl | kernel_rfl)
    (case zz_a_aC_add => first | k_is | rfl | kernel_rfl)
    (case zz_k_aC_add => first | k_is | rfl | kernel_rfl)
    (case zz_a_aC_remove => first | k_is | rfl | kernel_rfl)
    (case zz_k_aC_remove => first | k_is | rfl | kernel_rfl)
    (case zz_a_aC_place => first | k_is | rfl | kernel_rfl)
    (case zz_k_aC_place => first | k_is | rfl | kernel_rfl)
    (case zz_x_aC_point => first | k_is | rfl | kernel_rfl)
    (case zz_x_aC_slip => first | k_is | rfl | kernel_rfl)
    (case zz_x_aC_out => first | k_is | rfl | kernel_rfl)
    (case zz_x_aC_drop => first | k_is | rfl | kernel_rfl)
    (case zz_x_aC_cancel => first | k_is | rfl | kernel_rfl)
    (case zz_a_TICK_LENGTHS => first | k_is | rfl | kernel_rfl)
    (case zz_l_TICK_LENGTHS => first | k_is | rfl | kernel_rfl)
    (case zz_t_TICK_LENGTHS => exact He.keysLit_of (ks := ["point", "slip", "out", "drop", "cancel"]) (by kernel_rfl))
    (case zz_w_TICK_LENGTHS => first | k_is | rfl | kernel_rfl)
    (case zz_a_aT_point => first | k_is | rfl | kernel_rfl)
    (case zz_k_aT_point => first | k_is | rfl | kernel_rfl)
    (case zz_a_aT_slip => first | k_is | rfl | kernel_rfl)
    (case zz_k_aT_slip => first | k_is | rfl | kernel_rfl)
    (case zz_a_aT_out => first | k_is | rfl | kernel_rfl)
    (case zz_k_aT_out => first | k_is | rfl | kernel_rfl)
    (case zz_a_aT_drop => first | k_is | rfl | kernel_rfl)
    (case zz_k_aT_drop => first | k_is | rfl | kernel_rfl)
    (case zz_a_aT_cancel => first | k_is | rfl | kernel_rfl)
    (case zz_k_aT_cancel => first | k_is | rfl | kernel_rfl)
    (case zz_hd_is_choice => first | k_is | rfl | kernel_rfl)
    (case zz_nt_is_choice => first | k_is | rfl | kernel_rfl)
    (case zz_hd_are_states => first | k_is | rfl | kernel_rfl)
    (case zz_nt_are_states => first | k_is | rfl | kernel_rfl)
    (case zz_hd_are_rules => first | k_is | rfl | kernel_rfl)
    (case zz_nt_are_rules => first | k_is | rfl | kernel_rfl)

