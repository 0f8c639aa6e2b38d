import PyProof.Rows.All
import Wide.All
import OpenK.AllK
import Wide.FinOn
import HandS.ForMost
import HandS.AnyAll
import HandS.GenList
import HandS.ForExc
import HandS.Star
import HandS.IsInst
import HandS.ExcInit
import HandS.ExcField
import KE.KDictKeyed
import KE.DataEq
import HandS.Zip
import HandS.Strs
import HandS.SortInts
import HandS.Style
import HandS.Comp
import KE.KUnpackStar
import HandS.Walk
import HandS.More
import KE.GoesMore
import HandS.TupSets
import HandS.SortOrd
import HandS.Flow
import HandS.NoneIn
import HandS.TupAny
import HandS.SetKeys
import HandS.Conv
import KE.KDictWalk
import HandS.DictComp
import HandS.TupLen
import KE.KDictCopyH
import HandS.Sort
import HandS.Deep
import HandS.EndTab
import KE.KNestM
import HandS.HeadHook3
import PySem.Challenge.RW_dragtold_k17_merged
set_option Elab.async false
set_option linter.all false
set_option maxRecDepth 100000
set_option maxHeartbeats 8000000
/-! all(test for x in xs), the test by the layer's own rules (it may call defs) -/
namespace Dz
open PySem PySem.Spec PyProof.Rows L2 GxR GenW

/-- where the body of the generator expression runs -/
abbrev gcx (X : Cx) (s : Shared) (H : Hp) (scope : Scope) (cl : List (Str × Addr)) (C : Addr) (code : Value) (fp : List Addr) (A : Around) : Cx :=
  { X with
    A := A
    s_0 := s
    H_0 := H
    env := genEnv scope cl C code builtinsNs X.env
    outer := X.stack
    stack := genEnv scope cl C code builtinsNs X.env :: X.stack
    ex := fp
    fn := fun _ => false
    pn := []
    xe := fun _ _ => False }

section
variable {X : Cx} {pins : List (Addr × Obj)} {σ : L2.St} {H : Hp} {s : Shared}

theorem clo_at {cells : List (Str × Addr)} {names : List (Str × NameKind)} {y : Str} {c : Addr} (hy : (y, NameKind.free) ∈ names) (hc : cells.lookup y = some c) :
    (cloFrom cells names []).lookup y = some c := by
  obtain ⟨c1, e1⟩ := mem_lookup (cloFrom_has (cells := cells) (acc := []) hy)
  rcases cloFrom_mem (PySem.mem_of_lookup e1) with z | ⟨_, z⟩
  · cases z
  · rw [hc] at z
    rw [e1, z]
    rfl
theorem clo_of {cells : List (Str × Addr)} {names : List (Str × NameKind)} {y : Str} {c : Addr} (h : (cloFrom cells names []).lookup y = some c)
    (hf : ∀ z ∈ names, z.2 = .free → ∃ d, cells.lookup z.1 = some d) : cells.lookup y = some c := by
  rcases cloFrom_mem (PySem.mem_of_lookup h) with z | ⟨z1, z2⟩
  · cases z
  · obtain ⟨d, hd⟩ := hf _ z1 rfl
    have hd2 : cells.lookup y = some d := hd
    rw [hd2] at z2
    rw [hd2, z2]
    rfl

/-- the generator's body begins: its frame stands at C, its object at a -/
theorem gen_start {scope : Scope} {x : Str} {i : Nat} {fp : List Addr} {C a : Addr} {code it : Value} {A : Around} {go : Obj} {h1 : Heap} {g1 : Array GenState} {t1 : Nat} (I : Inv X pins σ H s) (hN : X.N.Nodup)
    (ok : BlkOk X.N X.env.scope scope [(x, i)]) (S : GenS X.env scope x) (hfp : ∀ b ∈ fp, FpOk X pins H b ∧ b < s.heap.objs.size) (hA : A.handled = none)
    (hfr : A.frames = some (genEnv scope (cloFrom X.env.cells scope.names []) C code builtinsNs X.env :: X.stack)) (hC : C = s.heap.objs.size)
    (hns : h1.Ns C (fun y => if y = (".0" : Str) then some it else none)) (keep : ∀ b o, s.heap.get? b = some o → h1.get? b = some o) (hg : AllBare g1)
    (ha : h1.get? a = some go) (hga : ∀ v, go.data ≠ .cell v) (hCa : C < a) :
    Inv (gcx X s H scope (cloFrom X.env.cells scope.names []) C code fp A) [(a, go)] (wipe σ [i]) H { s with heap := h1, gens := g1, toks := t1 } := by
  have hcl : ∀ y c, (cloFrom X.env.cells scope.names []).lookup y = some c → X.env.cells.lookup y = some c := fun y c h => clo_of h S.free
  have hlt : ∀ y c, X.env.cells.lookup y = some c → c < s.heap.objs.size := fun y c h => by
    obtain ⟨v, z⟩ := I.cell y c h
    exact z.lt
  have young : ∀ b, s.heap.objs.size ≤ b → H b = none := fun b hb => I.hok.fresh hb
  have nstk : ∀ b, s.heap.objs.size ≤ b → b ∉ frs X.stack := fun b hb hm => by
    rcases List.mem_cons.mp (I.stkSub b hm) with z | z
    · exact absurd (Nat.lt_of_lt_of_le I.lt hb) (by rw [z]; exact Nat.lt_irrefl _)
    · exact I.nofs hb z
  have okX : (gcx X s H scope (cloFrom X.env.cells scope.names []) C code fp A).Ok := by
    refine ⟨I.ok.mod, S.kind, I.ok.glob, rfl, Nat.le_of_eq hC.symm, fun y z c e1 e2 => ?_, fun y hy => ?_, fun y c z _ => ?_, fun _ => hA, hfr, .inr ⟨rfl, rfl⟩, fun b hb => ⟨?_, fun y c e z => ?_⟩, I.bs, Nat.le_trans I.ok.bsz I.sz, fun b o e hb => ?_, fun b hb z => ?_, I.stack, I.stkFree⟩
    · exact I.ok.inj y z c (hcl y c e1) (hcl z c e2)
    · have hy' : scope.names.lookup y = some .cell ∨ scope.names.lookup y = some .free := hy
      rcases hy' with k | k
      · exact absurd rfl (S.cell _ (PySem.mem_of_lookup k))
      · have hm := PySem.mem_of_lookup k
        obtain ⟨c, hc⟩ := S.free _ hm rfl
        exact ⟨c, clo_at hm hc⟩
    · cases z
    · show b ≠ C
      rw [hC]
      exact Nat.ne_of_lt (hfp b hb).2
    · exact (hfp b hb).1.2.2.2.2.1 y c (hcl y c e) z
    · rcases (hfp b hb).1.2.2.2.1 with z | z
      · exact I.ok.noex b o e z
      · have := I.ok.bs b o e
        exact absurd (Nat.lt_of_lt_of_le (Heap.lt_size this.1) z) (Nat.lt_irrefl _)
    · have hz : b ∈ frs X.stack := z
      rcases List.mem_cons.mp (I.stkSub b hz) with q | q
      · exact (hfp b hb).1.2.1 q
      · exact (hfp b hb).1.2.2.1 q
  have kC : ∀ c, c < s.heap.objs.size → c ≠ C := fun c h z => by
    rw [hC] at z
    rw [z] at h
    exact Nat.lt_irrefl _ h
  refine ⟨okX, rfl, hg, Un.kept keep, ⟨_, hns, fun j y v e1 e2 e3 => ?_⟩, fun y c e => ?_, young C (Nat.le_of_eq hC.symm), fun y c e => I.freeC y c (hcl y c e), fun p hp => ?_, I.hok.kept keep, by rw [wipe_length]; exact I.len⟩
  · obtain ⟨e4, e5⟩ := wipe_some e2
    have e1' : X.N[j]? = some y := e1
    have e3' : Vis scope y := e3
    rcases e3' with k | k | k
    · exfalso
      rcases ok.own _ (PySem.mem_of_lookup k) (.inl rfl) with z | z
      · have hx : y = x := by simpa using z
        have hi := ok.ix (x, i) (List.mem_singleton.mpr rfl)
        rw [hx] at e1'
        exact e5 (List.mem_singleton.mpr (nodup_ix hN e1' hi))
      · exact z (List.mem_of_getElem? e1')
    · exact absurd rfl (S.cell _ (PySem.mem_of_lookup k))
    · have hm := PySem.mem_of_lookup k
      obtain ⟨mX, _, hl⟩ := I.loc
      have kx := ok.free _ hm rfl
      have kx' : X.env.scope.names.lookup y = some .cell ∨ X.env.scope.names.lookup y = some .free := kx
      obtain ⟨u, r, l⟩ := hl j y v e1' e4 (.inr kx')
      refine ⟨u, r, .inr ⟨.inr k, ?_⟩⟩
      rcases l with ⟨kl, _⟩ | ⟨_, c, hc, hcell⟩
      · have kl' : X.env.scope.names.lookup y = some .local := kl
        rcases kx' with q | q <;> rw [q] at kl' <;> cases kl'
      · obtain ⟨o, ho, hd⟩ := hcell
        exact ⟨c, clo_at hm hc, o, keep c o ho, hd⟩
  · obtain ⟨v, o, ho, hd⟩ := I.cell y c (hcl y c e)
    exact ⟨v, o, keep c o ho, hd⟩
  · have hp' : p = (a, go) := List.mem_singleton.mp hp
    subst hp'
    have hs : s.heap.objs.size ≤ a := by rw [← hC]; exact Nat.le_of_lt hCa
    exact ⟨ha, young a hs, Nat.ne_of_gt hCa, nstk a hs, hga⟩
end

/-- between two turns the consumer leaves all but the table of generators -/
structure Idle (s s' : Shared) : Prop where
  heap : s'.heap = s.heap
  os : s'.os = s.os
  bare : AllBare s'.gens

section
variable {Xg : Cx} {a : Addr} {go : Obj} {σ0 : L2.St} {fp : List Addr} {tn : Nat → Heap → Prop} {n : Nat} {W : Nat → Hp → Prop} {TT FF : Hp → Prop}

/-- the generator stands before its turn j -/
def GSt (Xg : Cx) (a : Addr) (go : Obj) (σ0 : L2.St) (fp : List Addr) (tn : Nat → Heap → Prop) (j : Nat) (H : Hp) (s : Shared) : Prop :=
  Inv Xg [(a, go)] σ0 H s ∧ tn j s.heap ∧ ∀ b ∈ fp, H b = none
theorem GSt.idle {j : Nat} {H : Hp} {s s' : Shared} (h : GSt Xg a go σ0 fp tn j H s) (z : Idle s s') : GSt Xg a go σ0 fp tn j H s' := by
  obtain ⟨I, t, f⟩ := h
  have kp : ∀ b o, s.heap.get? b = some o → s'.heap.get? b = some o := fun b o e => by rw [z.heap]; exact e
  refine ⟨I.call' (ch := []) z.os (Un.kept kp) (I.hok.kept kp) z.bare fun b hb => absurd hb (by simp), by rw [z.heap]; exact t, f⟩

def GYp (Xg : Cx) (a : Addr) (go : Obj) (σ0 : L2.St) (fp : List Addr) (tn : Nat → Heap → Prop) (n : Nat) (W : Nat → Hp → Prop) (FF : Hp → Prop) : Protocol := fun m _ v s kap =>
  ∃ (j : Nat) (H : Hp) (b : Bool), j < n ∧ j + m = n ∧ v = .bool b ∧ GSt Xg a go σ0 fp tn (j + 1) H s ∧ (b = true → W (j + 1) H ∧ ∀ s', Idle s s' → kap (.send .none) s') ∧ (b = false → FF H)
def GRp (Xg : Cx) (a : Addr) (go : Obj) (σ0 : L2.St) (fp : List Addr) (TT : Hp → Prop) (m : Nat) (s : Shared) : Prop := m = 1 ∧ ∃ H, Inv Xg [(a, go)] σ0 H s ∧ TT H

theorem gen_loop {A : Around} {elt iter : Expr} {x : Str} {px pos : Pos} {scope : Scope} {it : Addr} {J : It} {i : Nat} {te : TE} (hc : Xg.calm = true) (hco : Xg.env.scope.isCoroutine = false)
    (hov : A.over (.compLoop (.GeneratorExp elt [⟨.Name x px, iter, [], 0⟩] scope pos) 0 (.ref it) .none Xg.env) [] = Xg.A)
    (T : Turn Xg.prog Xg.w Xg.K (.Name x px) J fp it tn) (pg : PG Xg (.Name x px) (gName i)) (he : PE Xg elt te) (hw0 : wipe σ0 [i] = σ0) (hfp : Xg.ex = fp) (hpn : Xg.pn = []) (hfa : a ∉ fp) (hxe : ∀ e s', Xg.xe e s' → False)
    (turn : ∀ j H, W j H → (j = n → J.stop j H ∧ TT H) ∧ (j < n → J.go j H ∧ ∀ y H', J.yld j H y H' → te (σ0.set i (some y)) H' fun v H2 => ∃ b, v = .bl b ∧ if b = true then W (j + 1) H2 else FF H2)) :
    ∀ (k j : Nat) (s₀ : Shared) (H : Hp) (s : Shared), n - j = k → j ≤ n → GSt Xg a go σ0 fp tn j H s → W j H →
      Seg (model Xg.prog Xg.w) A (fun m _ r s1 => r = .ok .next ∧ GRp Xg a go σ0 fp TT m s1) (GYp Xg a go σ0 fp tn n W FF) (k + 1) s₀ (.compLoop (.GeneratorExp elt [⟨.Name x px, iter, [], 0⟩] scope pos) 0 (.ref it) .none Xg.env)
        ((model Xg.prog Xg.w).den (.compLoop (.GeneratorExp elt [⟨.Name x px, iter, [], 0⟩] scope pos) 0 (.ref it) .none Xg.env)) [] s := by
  have stat : ∀ {ps : List (Addr × Obj)} {σ' : L2.St} {H' : Hp} {s' : Shared}, Inv Xg ps σ' H' s' → (∀ p ∈ ps, p.1 ∉ fp) → (∀ b ∈ fp, H' b = none) → ∀ b ∈ fp, FpOk Xg ps H' b := fun {ps σ' H' s'} I' hps hn b hb => by
    have hb' : b ∈ Xg.ex := by rw [hfp]; exact hb
    refine ⟨hn b hb, (I'.ok.exf b hb').1, I'.ok.exfs b hb', .inl hb', fun y c e => (I'.ok.exf b hb').2 y c e, fun p hp z => ?_⟩
    rw [hpn] at hp
    have hp' : p ∈ ps := by simpa using hp
    exact hps p hp' (by rw [z]; exact hb)
  have one : ∀ p ∈ [(a, go)], p.1 ∉ fp := fun p hp => by
    rw [List.mem_singleton.mp hp]
    exact hfa
  intro k
  induction k with
  | zero =>
    intro j s₀ H s hk hj ⟨I, st, fr⟩ w
    have e : j = n := by omega
    obtain ⟨stop, tt⟩ := (turn j H w).1 e
    show Seg _ A _ _ _ s₀ _ ((compTurn (.GeneratorExp elt [⟨.Name x px, iter, [], 0⟩] scope pos) 0 (.ref it) .none Xg.env).onRaise (leaving Xg.env)) [] s
    simp only [compTurn_gen, Sem.onRaise_eq_wrap]
    refine seg_bind_wrap (wpAny_standAt (seg_bind_wrap ?_))
    rw [hov]
    refine wpAny_mono (T.done Xg rfl rfl rfl hc j [(a, go)] s σ0 H _ I (stat I one fr) st stop) (fun r s1 h1 => ?_) fun _ _ z => z
    obtain ⟨hr, I1⟩ := h1
    subst hr
    exact seg_end (.ok .next) ⟨rfl, rfl, H, I1, tt⟩
  | succ k ih =>
    intro j s₀ H s hk hj ⟨I, st, fr⟩ w
    have hlt : j < n := by omega
    obtain ⟨go', step⟩ := (turn j H w).2 hlt
    show Seg _ A _ _ _ s₀ _ ((compTurn (.GeneratorExp elt [⟨.Name x px, iter, [], 0⟩] scope pos) 0 (.ref it) .none Xg.env).onRaise (leaving Xg.env)) [] s
    simp only [compTurn_gen, Sem.onRaise_eq_wrap]
    refine seg_bind_wrap (wpAny_standAt (seg_bind_wrap ?_))
    rw [hov]
    refine wpAny_mono (T.item Xg rfl rfl rfl hc j [(a, go)] s σ0 H (fun _ _ => False) I (stat I one fr) st go') (fun r s1 h1 => ?_) fun _ _ z => z.elim
    obtain ⟨u, hr, h1⟩ := h1
    subst hr
    refine seg_bind_wrap ?_
    rw [hov]
    refine wpAny_mono h1 (fun _ s2 h2 => ?_) fun _ _ z => z.elim
    obtain ⟨y, H2, I2, r2, y2, st2, fr2⟩ := h2
    have I2' := I2.pinned (stat I2 one fr2) (T.obj _ _ st2)
    refine seg_bind_wrap ?_
    rw [hov]
    have hy2 := step y H2 y2
    refine wpAny_mono (pg.run _ s2 σ0 H2 y u (fun σ3 H3 => σ3 = σ0.set i (some y) ∧ H3 = H2) I2' r2 ⟨rfl, rfl⟩) (fun _ s3 h3 => ?_) ?_
    · obtain ⟨σ3, H3, I3, e3, e4⟩ := h3
      subst e3 e4
      simp only [List.forIn_nil]
      refine seg_bind_wrap (wpAny_pure ?_)
      have hy : ∀ v, yieldOut Xg.env v = yieldValue v := fun v => by unfold yieldOut; simp only [hco, Bool.false_eq_true, if_false]
      simp only [if_true, hy, Sem.bind_eq_wrap', Sem.wrap_wrap]
      refine seg_wrap ?_
      rw [hov]
      refine wpAny_mono (he.run _ s3 _ _ _ I3 hy2) (fun v s4 h4 => ?_) fun e s' z => (hxe e s' z).elim
      obtain ⟨vv, H4, I4, r4, b, eb, q4⟩ := h4
      subst eb
      obtain rfl : v = Value.bool b := r4
      have pinAt : ∀ c ∈ fp, ∀ o, s2.heap.get? c = some o → s4.heap.get? c = some o ∧ H4 c = none := fun c hcm o e =>
        let z := I4.pin (c, o) (List.mem_append_right _ (List.mem_append_right _ (mem_pinsAt hcm e)))
        ⟨z.1, z.2.1⟩
      have st4 : tn (j + 1) s4.heap := T.keep _ _ _ st2 fun c hcm o e => (pinAt c hcm o e).1
      have I5 : Inv Xg [(a, go)] σ0 H4 s4 := I4.unpinned.weak (by rw [List.length_set]) fun m v e => by
        by_cases z : i = m
        · subst z
          rw [← hw0] at e
          exact absurd ((wipe_some e).2) (by simp)
        · rw [List.getElem?_set_ne z]
          exact e
      have G4 : GSt Xg a go σ0 fp tn (j + 1) H4 s4 := ⟨I5, st4, fun c hcm => by
        obtain ⟨o, e, _⟩ := T.obj _ _ st2 c hcm
        exact (pinAt c hcm o e).2⟩
      refine seg_at (seg_yield rfl rfl rfl ⟨j, H4, b, hlt, by omega, rfl, G4, fun hb => ?_, fun hb => ?_⟩)
      · subst hb
        have w4 : W (j + 1) H4 := by rw [if_pos rfl] at q4; exact q4
        refine ⟨w4, fun s5 z => ?_⟩
        exact seg_again rfl (ih (j + 1) s5 H4 s5 (by omega) hlt (G4.idle z) w4)
      · subst hb
        rw [if_neg (by decide)] at q4
        exact q4
    · exact fun e s' z => (hxe e s' z).elim

/-- .. from its start -/
theorem gen_begin {A : Around} {elt iter : Expr} {x : Str} {px pos : Pos} {scope : Scope} {it : Addr} {J : It} {i : Nat} {te : TE} (hc : Xg.calm = true) (hco : Xg.env.scope.isCoroutine = false)
    (hov : A.over (.compLoop (.GeneratorExp elt [⟨.Name x px, iter, [], 0⟩] scope pos) 0 (.ref it) .none Xg.env) [] = Xg.A) (hov1 : A.over (.compStart (.GeneratorExp elt [⟨.Name x px, iter, [], 0⟩] scope pos) 0 (.ref it) .none Xg.env) [] = Xg.A)
    (T : Turn Xg.prog Xg.w Xg.K (.Name x px) J fp it tn) (pg : PG Xg (.Name x px) (gName i)) (he : PE Xg elt te) (hw0 : wipe σ0 [i] = σ0) (hfp : Xg.ex = fp) (hpn : Xg.pn = []) (hfa : a ∉ fp) (hxe : ∀ e s', Xg.xe e s' → False)
    (turn : ∀ j H, W j H → (j = n → J.stop j H ∧ TT H) ∧ (j < n → J.go j H ∧ ∀ y H', J.yld j H y H' → te (σ0.set i (some y)) H' fun v H2 => ∃ b, v = .bl b ∧ if b = true then W (j + 1) H2 else FF H2))
    (s₀ : Shared) (H : Hp) (s : Shared) (G : GSt Xg a go σ0 fp tn 0 H s) (w : W 0 H) :
    Seg (model Xg.prog Xg.w) A (fun m _ r s1 => r = .ok .next ∧ GRp Xg a go σ0 fp TT m s1) (GYp Xg a go σ0 fp tn n W FF) (n + 1) s₀ (.compStart (.GeneratorExp elt [⟨.Name x px, iter, [], 0⟩] scope pos) 0 (.ref it) .none Xg.env)
      ((model Xg.prog Xg.w).den (.compStart (.GeneratorExp elt [⟨.Name x px, iter, [], 0⟩] scope pos) 0 (.ref it) .none Xg.env)) [] s := by
  have loop := gen_loop (n := n) (W := W) (TT := TT) (FF := FF) (s₀ := s₀) hc hco hov T pg he hw0 hfp hpn hfa hxe turn n 0 H s (Nat.sub_zero _) (Nat.zero_le _) G w
  show Seg _ A _ _ _ s₀ _ ((compStart (.GeneratorExp elt [⟨.Name x px, iter, [], 0⟩] scope pos) 0 (.ref it) .none Xg.env).onRaise (leaving Xg.env)) [] s
  unfold compStart
  simp only [Sem.onRaise_eq_wrap]
  show Seg _ A _ _ _ s₀ _ ((ask >>= _).wrap _ _ _ _) [] s
  refine seg_bind_wrap (wpAny_askSetting ?_)
  split
  · exact seg_again rfl loop
  · refine seg_bind_wrap (wpAny_rule ?_)
    first
      | (refine seg_bind_wrap (wpAny_standAt (seg_bind_wrap ?_)); rw [hov1]; exact T.self _ 0 s _ _ G.2.1 (seg_again rfl loop))
      | (show Seg _ A _ _ _ s₀ _ ((standAt iter.pos >>= _).wrap _ _ _ _) [] s; refine seg_bind_wrap (wpAny_standAt (seg_bind_wrap ?_)); rw [hov1]; exact T.self _ 0 s _ _ G.2.1 (seg_again rfl loop))

/-- what the consumer holds before turn j -/
def Held (A1 : Around) (Xg : Cx) (a : Addr) (g : Nat) (go : Obj) (σ0 : L2.St) (fp : List Addr) (tn : Nat → Heap → Prop) (n : Nat) (W : Nat → Hp → Prop) (TT FF : Hp → Prop) (j : Nat) (s : Shared) : Prop :=
  ∃ H gs, GSt Xg a go σ0 fp tn j H s ∧ s.gens[g]? = some gs ∧ ∀ s', Idle s s' → gs.Goes (model Xg.prog Xg.w) A1 (fun m _ r s1 => r = .ok .next ∧ GRp Xg a go σ0 fp TT m s1) (GYp Xg a go σ0 fp tn n W FF) (n - j + 1) (.send .none) s'

theorem idle_gen {s : Shared} {g : Nat} {x : GenState} (h : AllBare s.gens) (hx : x.bare = true) : Idle s (s.setGen g x) := ⟨rfl, rfl, allBare_setGen h hx⟩

theorem all_turns {A : Around} {g : Nat} {R : Result → Shared → Prop} (hh : A.handled = none) (hroom : A.depth < recursionLimit) (hgo : ∀ h : Heap, h.get? a = some go → h.IsGen a g)
    (hT : ∀ H s s', Inv Xg [(a, go)] σ0 H s → TT H → s'.os = s.os → AllBare s'.gens → (∀ b o, s.heap.get? b = some o → s'.heap.get? b = some o) → R (.ok (.ret (.bool true))) s')
    (hF : ∀ H s s', Inv Xg [(a, go)] σ0 H s → FF H → s'.os = s.os → AllBare s'.gens → (∀ b o, s.heap.get? b = some o → s'.heap.get? b = some o) → R (.ok (.ret (.bool false))) s') :
    ∀ (k j : Nat) (s : Shared), n - j = k → j ≤ n → Held A.in1.in1 Xg a g go σ0 fp tn n W TT FF j s → codeAny (model Xg.prog Xg.w) A (.builtin "all.loop" ⟨[.ref a], []⟩) R s := by
  have gen_at : ∀ {j : Nat} {H : Hp} {s : Shared}, GSt Xg a go σ0 fp tn j H s → s.heap.IsGen a g := fun {j H s} G => hgo _ (G.1.pin (a, go) (by simp)).1
  intro k
  induction k with
  | zero =>
    intro j s hk hj ⟨H, gs, G, hgs, hgg⟩
    have hgen := gen_at G
    have e : n - j = 0 := hk
    rw [e] at hgg
    refine codeAny_builtin F.entry_all_loop ?_
    rw [Around.under_plainId F.plain_all_loop _]
    show wpAny _ A.in1 (pyNext (.ref a) >>= _) _ _ s
    refine wpAny_bind (wpAny_pyNext_genexpQ (P := fun m _ s1 => GRp Xg a go σ0 fp TT m s1) hh G.1.nolimit hroom hgen hgs (hgg _ (idle_gen G.1.bare rfl)) (fun v s₁ gs' hb hv => ?_) (fun s₁ hp h' hk => ?_))
    · exfalso
      obtain ⟨j2, H2, b, e1, e2, _⟩ := hv
      omega
    · obtain ⟨_, H1, I1, t1⟩ := hp
      exact wpAny_bind (wpAny_rule (wpAny_pure (hT H1 s₁ _ I1 t1 rfl (allBare_setGen I1.bare rfl) hk)))
  | succ k ih =>
    intro j s hk hj ⟨H, gs, G, hgs, hgg⟩
    have hgen := gen_at G
    have e : n - j = k + 1 := hk
    rw [e] at hgg
    refine codeAny_builtin F.entry_all_loop ?_
    rw [Around.under_plainId F.plain_all_loop _]
    show wpAny _ A.in1 (pyNext (.ref a) >>= _) _ _ s
    have hgl : g + 1 ≤ s.gens.size := (Array.getElem?_eq_some_iff.mp hgs).1
    refine wpAny_bind (wpAny_gsz (n := g + 1) hgl (wpAny_pyNext_genexpQ (P := fun m _ s1 => GRp Xg a go σ0 fp TT m s1) hh G.1.nolimit hroom hgen hgs (hgg _ (idle_gen G.1.bare rfl)) (fun v s₁ gs' hb hv hsz => ?_) (fun s₁ hp h' hk => ?_)))
    · obtain ⟨j2, H2, b, e1, e2, ev, G2, ht, hf⟩ := hv
      subst ev
      have ej : j2 = j := by omega
      subst ej
      refine wpAny_bind (wpAny_holding (wpAny_truthy_bool (wpAny_bind (wpAny_letGo ?_))))
      cases b with
      | true =>
        obtain ⟨w2, kap⟩ := ht rfl
        simp only [if_true]
        refine wpAny_pure ⟨plainId_quiet F.plain_all_loop _, ih (j2 + 1) _ (by omega) e1 ⟨H2, gs', G2.idle (idle_gen G2.1.bare hb), ?_, fun s' z => ?_⟩⟩
        · refine setGen_at ?_
          rw [setGen_size] at hsz
          exact hsz
        · have e3 : n - (j2 + 1) + 1 = k + 1 := by omega
          rw [e3]
          exact kap s' ⟨z.heap, z.os, z.bare⟩
      | false =>
        simp only [Bool.false_eq_true, if_false]
        exact wpAny_bind (wpAny_rule (wpAny_pure (hF H2 s₁ _ G2.1 (hf rfl) rfl (allBare_setGen G2.1.bare hb) fun _ _ e => e)))
    · exfalso
      obtain ⟨e1, _⟩ := hp
      omega
end

/-- what the text of the generator expression's scope shows -/
structure GOk (scope : Scope) (x : Str) : Prop where
  kind : scope.kind = .function
  co : scope.isCoroutine = false
  cell : ∀ y ∈ scope.names, y.2 ≠ .cell
  dot : scope.names.lookup (".0" : Str) = some NameKind.local
  loc : scope.names.lookup x = some .local

section
variable {X : Cx}
/-- all(e for x in ..): W before each turn; the test's answer true leads to W again, false to the end -/
def tAllG (P : Addr) (wi : TI) (te : TE) (i : Nat) : TE := fun σ H Q => wi σ H fun J H1 => TabG H1 P ∧ ∀ H2, Tabbed P H1 H2 → ∃ (n : Nat) (W : Nat → Hp → Prop), W 0 H2 ∧
  ∀ j H, W j H → (j = n → J.stop j H ∧ Q (.bl true) H) ∧ (j < n → J.go j H ∧ ∀ y H', J.yld j H y H' → te ((wipe σ [i]).set i (some y)) H' fun v H3 => ∃ b, v = .bl b ∧ if b = true then W (j + 1) H3 else Q (.bl false) H3)

theorem over_same {A : Around} {e : Expr} {g : List Comprehension} {scope : Scope} {pos : Pos} {it : Value} {env : Env} :
    A.over (.compStart (.GeneratorExp e g scope pos) 0 it .none env) [] = A.over (.compLoop (.GeneratorExp e g scope pos) 0 it .none env) [] := rfl
theorem over_frames {A : Around} {e : Expr} {g : List Comprehension} {scope : Scope} {pos : Pos} {it : Value} {env : Env} {l : List Env} (h : A.frames = some l) :
    (A.over (.compLoop (.GeneratorExp e g scope pos) 0 it .none env) []).frames = some (env :: l) := by
  show pushEnvs [env] (pushEnvs [] A.frames) = some (env :: l)
  rw [h]
  rfl
theorem over_room {A : Around} {e : Expr} {g : List Comprehension} {scope : Scope} {pos : Pos} {it : Value} {env : Env} {k : Nat} (h : Room (k + 1) A) :
    Room k (A.in1.in1.over (.compLoop (.GeneratorExp e g scope pos) 0 it .none env) []) := by
  refine ⟨h.hd, ?_, ?_⟩
  · have := h.dp
    show A.depth + 0 + 1 + 3 * k + 5 < recursionLimit
    omega
  · have := h.un
    show A.units + 1 + 1 + 0 + 3 + 16 * k + 200 < cLine
    omega

theorem pe_allG {c P : Addr} {elt iter : Expr} {x : Str} {px p pos gpos : Pos} {scope : Scope} {i k : Nat} {wi : TI} {te : TE} (hc : X.calm = true) (hr : Room (k + 1) X.A) (hN : X.N.Nodup) (hg : Gl X "all") (hm : X.mg "all" = none)
    (TB : TabB X.base X.mg c P) (hcode : X.env.code = .ref c) (ok : BlkOk X.N X.env.scope scope [(x, i)]) (go : GOk scope x) (hi : PI X (.Name x px) iter wi)
    (he : ∀ (s : Shared) (H : Hp) (cl : List (Str × Addr)) (C : Addr) (code : Value) (fp : List Addr) (A' : Around), Room k A' → PE (gcx X s H scope cl C code fp A') elt te)
    (hs : ∀ v, genFold iter X.env v = pure v := by intro _; rfl)
    (hst : starEach [.GeneratorExp elt [⟨.Name x px, iter, [], 0⟩] scope gpos] X.env = (false, eval (.GeneratorExp elt [⟨.Name x px, iter, [], 0⟩] scope gpos) X.env) :: starEach [] X.env := by rfl) :
    PE X (.Call (.Name "all" p) [.GeneratorExp elt [⟨.Name x px, iter, [], 0⟩] scope gpos] [] pos) (tAllG P wi te i) := by
  refine ⟨fun pins s σ H Q I h => ?_⟩
  have hfree : ∀ y ∈ scope.names, y.2 = .free → ∃ d, X.env.cells.lookup y.1 = some d := fun y hy e => by
    rcases ok.free y hy e with q | q
    · exact I.ok.has _ (.inl q)
    · exact I.ok.has _ (.inr q)
  have S : GenS X.env scope x := ⟨go.kind, go.co, go.cell, go.dot, go.loc, hfree⟩
  refine wpAny_Call_Name_kw (ld_blt I hg hm (show bootBuiltins "all" = some (.builtin "all") by decide +kernel) ?_)
  refine PyProof.Rows.callWith_builtin1 ?_ hst (by rfl)
  rw [hst]
  show wpAny _ _ (spliced ((false, eval (.GeneratorExp elt [⟨.Name x px, iter, [], 0⟩] scope gpos) X.env) :: backTo pos (starEach [] X.env))) _ _ s
  refine Calls.spliced_cons ?_
  refine wpAny_GeneratorExp_make S.co (closure_ok S.free) S.cell S.dot S.kind (by have := hr.dp; omega) ?_ hs
  refine thn (hi.run pins s σ H _ I h) fun xv s1 hx => thn hx fun itv s2 h2 => ?_
  obtain ⟨it, fp, tn, J, H2, e, I2, T, st2, f2, ⟨ps, hP, htr⟩, q⟩ := h2
  subst e
  refine ⟨I2.nolimit, ?_⟩
  have hPs : s2.heap.get? P = some { cls := .none, data := .fields ps } := I2.hok P _ hP
  have cd : PySem.W.CodeHd s2.heap c P := TB.code.keeps fun b u e => I2.bk b u e
  -- behind the code object: the table at P may have grown
  have cont : ∀ (code : Value) (h3 : Heap) (tk : Nat) (more : Array Value), Heap.ExtBut P s2.heap h3 → s2.heap.objs.size ≤ h3.objs.size → h3.get? P = some { cls := .none, data := .fields (ps ++ more) } → TriplesOk (ps ++ more).toList →
      wpAny (model X.prog X.w) X.A (builtinsFor X.env.globals X.env.builtins) (fun bi s₄ =>
        ∀ h', h'.Ns s₄.heap.objs.size (fun y => if y = ".0" then some (.ref it) else none) → Heap.SameBut s₄.heap.objs.size (s₄.heap.push { cls := .type "frame", data := .dict #[] }) h' →
          wpAny (model X.prog X.w) X.A (spliced (backTo pos (starEach [] X.env))) (fun us s5 => wpAny (model X.prog X.w) X.A (call (.builtin "all") (.ref h'.objs.size :: us)) (EP X pins σ Q) X.xe s5) X.xe { s₄ with
            gens := s₄.gens.push (.fresh (.compStart (.GeneratorExp elt [⟨.Name x px, iter, [], 0⟩] scope gpos) 0 (.ref it) .none (genEnv scope (cloFrom X.env.cells scope.names []) s₄.heap.objs.size code bi X.env))),
            toks := s₄.toks + 1 + 1 + 1,
            heap := h'.push { cls := .type "generator", data := .fields #[.int s₄.gens.size 0, .str "<genexpr>" (s₄.toks + 1), .str (X.env.qual ++ "<genexpr>") (s₄.toks + 1 + 1)] } }) X.xe { s2 with heap := h3, toks := tk } := by
    intro code h3 tk more hx3 hsz hP3 htr3
    obtain ⟨bm, ob, e1, e2, e3, e4, e5, e6, e7, e8⟩ := TB.bm
    have keep3 : ∀ b u, b ≠ P → s2.heap.get? b = some u → h3.get? b = some u := fun b u hb e => hx3 b u hb e
    have nsG : h3.Ns mainGlobals X.mg := by
      obtain ⟨o, es, ep, ho, r⟩ := I2.mod.glob.keeps I2.bk
      exact ⟨o, es, ep, hx3 _ _ TB.gP ho, r⟩
    refine wpAny_builtinsFor (m := X.mg) (by rw [I2.ok.glob]; exact nsG) e1 e2 (keep3 _ _ e4 (I2.bk _ _ e5)) e6 e7 e8 ?_
    intro h' hns' hsb
    refine Calls.spliced_nil ?_
    have hsz' : h'.objs.size = h3.objs.size + 1 := by rw [hsb.1]; exact Heap.size_push ..
    -- the caller's state, the table grown
    have I4 : Inv X pins σ (upd H2 P (.tbl (ps ++ more))) { s2 with heap := h3, gens := s2.gens, drawn := s2.drawn, toks := tk } := inv_tab I2 hP keep3 hP3 I2.bare
    obtain ⟨n, W, w0, turn⟩ := q (upd H2 P (.tbl (ps ++ more))) ⟨⟨ps ++ more, upd_same, htr3⟩, fun b hb => upd_ne hb⟩
    generalize hHn : upd H2 P (.tbl (ps ++ more)) = Hn at I4 w0
    have fpP : ∀ b ∈ fp, b ≠ P := fun b hb z => by
      have := (f2 b hb).1
      rw [z, hP] at this
      cases this
    have hfp : ∀ b ∈ fp, FpOk X pins Hn b ∧ b < h3.objs.size := fun b hb => by
      refine ⟨⟨?_, (f2 b hb).2⟩, ?_⟩
      · rw [← hHn, upd_ne (fpP b hb)]
        exact (f2 b hb).1
      · obtain ⟨o, ho, _⟩ := T.obj _ _ st2 b hb
        exact Nat.lt_of_lt_of_le (Heap.lt_size ho) hsz
    have kp : ∀ (go : Obj) (b : Addr) (o : Obj), h3.get? b = some o → (h'.push go).get? b = some o := fun go b o e => by
      refine Heap.get?_push_of_some _ ?_
      rw [hsb.2 b (Nat.ne_of_lt (Heap.lt_size e))]
      exact Heap.get?_push_of_some _ e
    have main : ∀ (go : Obj) (nm qn : Value) (tk2 : Nat), go.cls = .type "generator" → go.data = .fields #[.int s2.gens.size 0, nm, qn] → go.slots = #[] → (h'.push go).get? h'.objs.size = some go →
        wpAny (model X.prog X.w) X.A (call (.builtin "all") [.ref h'.objs.size]) (EP X pins σ Q) X.xe { s2 with
          gens := s2.gens.push (.fresh (.compStart (.GeneratorExp elt [⟨.Name x px, iter, [], 0⟩] scope gpos) 0 (.ref it) .none (genEnv scope (cloFrom X.env.cells scope.names []) h3.objs.size code builtinsNs X.env)))
          toks := tk2
          heap := h'.push go } := by
      intro gob nm qn tk2 gc gd gs0 gat
      have fr0 := over_frames (A := X.A.in1.in1) (e := elt) (g := [⟨.Name x px, iter, [], 0⟩]) (scope := scope) (pos := gpos) (it := .ref it) (env := genEnv scope (cloFrom X.env.cells scope.names []) h3.objs.size code builtinsNs X.env) (show X.A.in1.in1.frames = some X.stack from I2.ok.frames)
      have rm0 := over_room (A := X.A) (e := elt) (g := [⟨.Name x px, iter, [], 0⟩]) (scope := scope) (pos := gpos) (it := .ref it) (env := genEnv scope (cloFrom X.env.cells scope.names []) h3.objs.size code builtinsNs X.env) hr
      generalize hA' : X.A.in1.in1.over (.compLoop (.GeneratorExp elt [⟨.Name x px, iter, [], 0⟩] scope gpos) 0 (.ref it) .none (genEnv scope (cloFrom X.env.cells scope.names []) h3.objs.size code builtinsNs X.env)) [] = A' at fr0 rm0
      have J0 := gen_start (x := x) (i := i) (fp := fp) (C := h3.objs.size) (a := h'.objs.size) (code := code) (it := .ref it) (A := A') (go := gob) (h1 := h'.push gob) (g1 := s2.gens.push (.fresh (.compStart (.GeneratorExp elt [⟨.Name x px, iter, [], 0⟩] scope gpos) 0 (.ref it) .none (genEnv scope (cloFrom X.env.cells scope.names []) h3.objs.size code builtinsNs X.env)))) (t1 := tk2)
        I4 hN ok S hfp rm0.hd fr0 rfl (hns'.push gob) (kp gob) (I2.bare.push rfl) gat (fun v z => by rw [gd] at z; cases z) (by rw [hsz']; exact Nat.lt_succ_self _)
      have st0 : tn 0 (h'.push gob) := T.keep _ _ _ st2 fun b hb o e => kp gob b o (keep3 b o (fpP b hb) e)
      have nfp : ∀ b ∈ fp, Hn b = none := fun b hb => (hfp b hb).1.1
      have hfa : h'.objs.size ∉ fp := fun z => by
        have := (hfp _ z).2
        rw [hsz'] at this
        exact absurd (Nat.lt_of_succ_lt this) (Nat.lt_irrefl _)
      have back : ∀ (H9 : Hp) (s8 s9 : Shared) (b : Bool), Inv (gcx X { s2 with heap := h3, gens := s2.gens, drawn := s2.drawn, toks := tk } Hn scope (cloFrom X.env.cells scope.names []) h3.objs.size code fp A') [(h'.objs.size, gob)] (wipe σ [i]) H9 s8 →
          Q (.bl b) H9 → s9.os = s8.os → AllBare s9.gens → (∀ c o, s8.heap.get? c = some o → s9.heap.get? c = some o) → EP X pins σ Q (.bool b) s9 := fun H9 s8 s9 b I8 q8 ho hb9 k9 => by
        have os8 : s8.os = s2.os := I8.os
        have un8 : Un (frs X.stack) fp Hn H9 h3 s8.heap := I8.base
        have I9 : Inv X pins σ H9 s9 := I4.call' (ch := fp) (ho.trans os8) (un8.trans (Un.kept k9)) (I8.hok.kept k9) hb9 fun c hc9 => by
          obtain ⟨_, z1, z2, z3, z4, z5⟩ := (hfp c hc9).1
          exact ⟨z3, z1, z4, z5⟩
        exact ⟨.bl b, H9, I9, rfl, q8⟩
      refine call_function_tree F.kind_all F.plain_all F.entry_all (F.args_all1 _) ?_
      unfold Builtin.«all»
      refine wpAny_bind (m := oneArg "all" _) (wpAny_pure ?_)
      have isg : ∀ h : Heap, h.get? h'.objs.size = some gob → h.IsGen h'.objs.size s2.gens.size := fun h e => ⟨gob, nm, qn, e, gc, gd, gs0⟩
      refine wpAny_bind (wpAny_pyIter_gen (isg _ gat) ?_)
      refine wpAny_pure ⟨plainId_quiet F.plain_all_loop _, ?_⟩
      refine all_turns (Xg := gcx X { s2 with heap := h3, gens := s2.gens, drawn := s2.drawn, toks := tk } Hn scope (cloFrom X.env.cells scope.names []) h3.objs.size code fp A') (a := h'.objs.size) (go := gob) (σ0 := wipe σ [i]) (fp := fp) (tn := tn) (n := n) (W := W)
        (TT := fun H9 => Q (.bl true) H9) (FF := fun H9 => Q (.bl false) H9) hr.hd (by have := hr.dp; omega) isg (fun H9 s8 s9 I8 q8 ho hb9 k9 => back H9 s8 s9 true I8 q8 ho hb9 k9) (fun H9 s8 s9 I8 q8 ho hb9 k9 => back H9 s8 s9 false I8 q8 ho hb9 k9)
        n 0 _ (Nat.sub_zero _) (Nat.zero_le _) ⟨Hn, _, ⟨J0, st0, nfp⟩, Array.getElem?_push_size .., fun s' z => ?_⟩
      refine ⟨rfl, ?_⟩
      have ww : wipe (wipe σ [i]) [i] = wipe σ [i] := by
        show (σ.set i none).set i none = σ.set i none
        rw [List.set_set]
      have G' : GSt (gcx X { s2 with heap := h3, gens := s2.gens, drawn := s2.drawn, toks := tk } Hn scope (cloFrom X.env.cells scope.names []) h3.objs.size code fp A') h'.objs.size gob (wipe σ [i]) fp tn 0 Hn s' := GSt.idle ⟨J0, st0, nfp⟩ z
      have px0 : PG (gcx X { s2 with heap := h3, gens := s2.gens, drawn := s2.drawn, toks := tk } Hn scope (cloFrom X.env.cells scope.names []) h3.objs.size code fp A') (.Name x px) (gName i) := pg_name hN (ok.ix (x, i) (List.mem_singleton.mpr rfl)) (.inl go.loc) (.inr go.loc)
      exact gen_begin (Xg := gcx X { s2 with heap := h3, gens := s2.gens, drawn := s2.drawn, toks := tk } Hn scope (cloFrom X.env.cells scope.names []) h3.objs.size code fp A') (A := X.A.in1.in1) (s₀ := s') hc go.co hA' (over_same.trans hA') T px0 (he _ _ _ _ _ _ _ rm0) ww rfl rfl hfa (fun _ _ z => z) turn Hn s' G' w0
    exact main _ _ _ _ rfl rfl rfl (Heap.get?_push_size _ rfl)
  cases hf : codeAmong gpos ps.toList with
  | none =>
    refine wpAny_genexprCodeX hcode (cd.code hPs htr) (cd.tab hPs) hf fun c' h' tk hx3 hge hlt hco' _ htab' _ => ?_
    obtain ⟨o1, vs, f1, tf, fl, tg, inF, tx, tt, op, _, _, _, _, _, _, _, _, _, htr', _⟩ := hco'
    exact cont _ h' tk _ hx3 (Nat.le_trans hge (Nat.le_of_lt hlt)) htab'.2 htr'
  | some cv =>
    refine wpAny_genexprCode_hit hcode (cd.code hPs htr) hf ?_
    have e0 : ps ++ #[] = ps := Array.append_empty
    exact cont cv s2.heap s2.toks #[] (Heap.ExtBut.refl _ _) (Nat.le_refl _) (by rw [e0]; exact hPs) (by rw [e0]; exact htr)
end
end Dz


/-! What a program does, told over data: the frozen part B of the heap holds data, the part O is owned and may change; tables of code objects stand at T -/
namespace Dz
open PySem PySem.Spec PyProof.Rows L2 GxR

/-- data -/
inductive D where
  | non | bl (b : Bool) | int (i : Int) | str (x : Str)
  | lst (ds : List D) | tup (ds : List D) | kst (ds : List D)
  | ins (C : Addr) (fs : List (Str × D))
  | dic (kvs : List (Key × D))
  | dicN (w : World) (kvs : List (D × D))

/-- the dict at a: each of its entries a key, what the key is, a value -/
def NdE (w : World) (p : V × NestedKey × V) (e : DictEntry) : Prop := e.hash = p.2.1.hash w ∧ RelV p.1 e.key ∧ RelV p.2.2 e.val
def NdAt (w : World) (a : Addr) (kx : List (V × NestedKey × V)) (h : Heap) : Prop := kx.length ≤ sizeLine ∧ (a == sysModules) = false ∧
  ∃ (o : Obj) (es : Array DictEntry) (ep : Nat), h.get? a = some o ∧ o.ExactDict ∧ o.data = .dict es ep ∧ Paired (NdE w) kx es.toList ∧ (kx.map (·.2.1)).Nodup
/-- the dict at a, its keys carried by value -/
def LfAt (P : Program) (w : World) (a : Addr) (kl : List (Leaf × V)) (h : Heap) : Prop := kl.length ≤ sizeLine ∧ (a == sysModules) = false ∧ ∃ vs, KV kl vs ∧ h.DictOf (leafKind P w) a vs
def lfO (P : Program) (w : World) (a : Addr) (kl : List (Leaf × V)) : HO := .ext (LfAt P w a kl)
def ndO (w : World) (a : Addr) (kx : List (V × NestedKey × V)) : HO := .ext (NdAt w a kx)
mutual
/-- what a data is as a key -/
def nkD : D → Option NestedKey
  | .non => some .none
  | .bl b => some (.num (if b = true then 1 else 0))
  | .int i => some (.num i)
  | .str x => some (.text x)
  | .tup ds => match nkDs ds with
    | some ks => some (.tup ks)
    | none => none
  | .lst _ => none
  | .kst _ => none
  | .ins _ _ => none
  | .dic _ => none
  | .dicN _ _ => none
def nkDs : List D → Option (List NestedKey)
  | [] => some []
  | d :: ds => match nkD d, nkDs ds with
    | some k, some ks => some (k :: ks)
    | _, _ => none
end
/-- a key of a dict whose keys are tuples -/
def keyD (d : D) : Option NestedKey := match nkD d with
  | some (.tup ks) => if (NestedKey.tup ks).depth ≤ 8 then some (.tup ks) else none
  | _ => none
theorem keyD_some {d : D} {k : NestedKey} (h : keyD d = some k) : nkD d = some k ∧ (∃ ks, k = .tup ks) ∧ k.depth ≤ 8 := by
  unfold keyD at h
  split at h
  · rename_i ks e
    by_cases z : (NestedKey.tup ks).depth ≤ 8
    · rw [if_pos z] at h
      cases h
      exact ⟨e, ⟨ks, rfl⟩, z⟩
    · rw [if_neg z] at h
      cases h
  · cases h

mutual
/-- the value v is the data d, in the heap H -/
inductive Rp (K : PySem.W.Frag) (H : Hp) : V → D → Prop
  | non : Rp K H .non .non
  | bl (b : Bool) : Rp K H (.bl b) (.bl b)
  | int (i : Int) : Rp K H (.int i) (.int i)
  | str (x : Str) : Rp K H (.str x) (.str x)
  | lst {a : Addr} {xs : List V} {ds : List D} : H a = some (.lst xs) → RpAll K H xs ds → Rp K H (.ref a) (.lst ds)
  | kst {a : Addr} {xs : List V} {ds : List D} : SqL K H a xs → RpAll K H xs ds → Rp K H (.ref a) (.kst ds)
  | tup {a : Addr} {xs : List V} {ds : List D} : SqT K H a xs → RpAll K H xs ds → Rp K H (.ref a) (.tup ds)
  | ins {a C dx : Addr} {fs : List (Str × V)} {fd : List (Str × D)} : H a = some (.ins C dx fs) → RpFs K H fs fd → Rp K H (.ref a) (.ins C fd)
  | dic {a : Addr} {kvs : List (Key × V)} {kd : List (Key × D)} : H a = some (.dK kvs) → RpKs K H kvs kd → Rp K H (.ref a) (.dic kd)
  | dicN {a : Addr} {o : Obj} {w : World} {kx : List (V × NestedKey × V)} {kd : List (D × D)} : H a = some (.frz o (ndO w a kx)) → RpNs K H kx kd → Rp K H (.ref a) (.dicN w kd)
inductive RpAll (K : PySem.W.Frag) (H : Hp) : List V → List D → Prop
  | nil : RpAll K H [] []
  | cons {v : V} {vs : List V} {d : D} {ds : List D} : Rp K H v d → RpAll K H vs ds → RpAll K H (v :: vs) (d :: ds)
inductive RpFs (K : PySem.W.Frag) (H : Hp) : List (Str × V) → List (Str × D) → Prop
  | nil : RpFs K H [] []
  | cons {f : Str} {v : V} {d : D} {fs : List (Str × V)} {fd : List (Str × D)} : Rp K H v d → RpFs K H fs fd → RpFs K H ((f, v) :: fs) ((f, d) :: fd)
inductive RpKs (K : PySem.W.Frag) (H : Hp) : List (Key × V) → List (Key × D) → Prop
  | nil : RpKs K H [] []
  | cons {k : Key} {v : V} {d : D} {fs : List (Key × V)} {fd : List (Key × D)} : Rp K H v d → RpKs K H fs fd → RpKs K H ((k, v) :: fs) ((k, d) :: fd)
inductive RpNs (K : PySem.W.Frag) (H : Hp) : List (V × NestedKey × V) → List (D × D) → Prop
  | nil : RpNs K H [] []
  | cons {y : V} {k : NestedKey} {v : V} {kd d : D} {fs : List (V × NestedKey × V)} {fd : List (D × D)} : Rp K H y kd → keyD kd = some k → Rp K H v d → RpNs K H fs fd → RpNs K H ((y, k, v) :: fs) ((kd, d) :: fd)
end

theorem same_t {K : PySem.W.Frag} {H H' : Hp} {a : Addr} {xs : List V} (e : Same H H') (h : SqT K H a xs) : SqT K H' a xs := by
  rcases h with (h | ⟨o, h⟩) | h
  · exact .inl (.inl (e _ _ h))
  · exact .inl (.inr ⟨o, e _ _ h⟩)
  · exact .inr h

section
variable {K : PySem.W.Frag} {H H' : Hp}
mutual
theorem Rp.mono (e : Same H H') : ∀ {v : V} {d : D}, Rp K H v d → Rp K H' v d
  | _, _, .non => .non
  | _, _, .bl b => .bl b
  | _, _, .int i => .int i
  | _, _, .str x => .str x
  | _, _, .lst h r => .lst (e _ _ h) (RpAll.mono e r)
  | _, _, .kst h r => .kst (e.seq h) (RpAll.mono e r)
  | _, _, .tup h r => .tup (same_t e h) (RpAll.mono e r)
  | _, _, .ins h r => .ins (e _ _ h) (RpFs.mono e r)
  | _, _, .dic h r => .dic (e _ _ h) (RpKs.mono e r)
  | _, _, .dicN h r => .dicN (e _ _ h) (RpNs.mono e r)
theorem RpAll.mono (e : Same H H') : ∀ {vs : List V} {ds : List D}, RpAll K H vs ds → RpAll K H' vs ds
  | _, _, .nil => .nil
  | _, _, .cons h r => .cons (Rp.mono e h) (RpAll.mono e r)
theorem RpFs.mono (e : Same H H') : ∀ {vs : List (Str × V)} {ds : List (Str × D)}, RpFs K H vs ds → RpFs K H' vs ds
  | _, _, .nil => .nil
  | _, _, .cons h r => .cons (Rp.mono e h) (RpFs.mono e r)
theorem RpKs.mono (e : Same H H') : ∀ {vs : List (Key × V)} {ds : List (Key × D)}, RpKs K H vs ds → RpKs K H' vs ds
  | _, _, .nil => .nil
  | _, _, .cons h r => .cons (Rp.mono e h) (RpKs.mono e r)
theorem RpNs.mono (e : Same H H') : ∀ {vs : List (V × NestedKey × V)} {ds : List (D × D)}, RpNs K H vs ds → RpNs K H' vs ds
  | _, _, .nil => .nil
  | _, _, .cons h n g r => .cons (Rp.mono e h) n (Rp.mono e g) (RpNs.mono e r)
end
theorem RpAll.length : ∀ {vs : List V} {ds : List D}, RpAll K H vs ds → vs.length = ds.length
  | _, _, .nil => rfl
  | _, _, .cons _ r => congrArg Nat.succ r.length
theorem RpAll.get : ∀ {vs : List V} {ds : List D} {i : Nat} {d : D}, RpAll K H vs ds → ds[i]? = some d → ∃ v, vs[i]? = some v ∧ Rp K H v d
  | _, _, 0, _, .cons h _, e => by
    cases e
    exact ⟨_, rfl, h⟩
  | _, _, i + 1, _, .cons _ r, e => r.get (i := i) (by simpa using e)
theorem RpAll.getV : ∀ {vs : List V} {ds : List D} {i : Nat} {v : V}, RpAll K H vs ds → vs[i]? = some v → ∃ d, ds[i]? = some d ∧ Rp K H v d
  | _, _, 0, _, .cons h _, e => by
    cases e
    exact ⟨_, rfl, h⟩
  | _, _, i + 1, _, .cons _ r, e => r.getV (i := i) (by simpa using e)
theorem RpAll.append : ∀ {vs ws : List V} {ds es : List D}, RpAll K H vs ds → RpAll K H ws es → RpAll K H (vs ++ ws) (ds ++ es)
  | _, _, _, _, .nil, s => s
  | _, _, _, _, .cons h r, s => .cons h (r.append s)
theorem RpAll.take : ∀ {vs : List V} {ds : List D} (n : Nat), RpAll K H vs ds → RpAll K H (vs.take n) (ds.take n)
  | _, _, 0, _ => .nil
  | _, _, _ + 1, .nil => .nil
  | _, _, n + 1, .cons h r => .cons h (r.take n)
theorem RpAll.drop : ∀ {vs : List V} {ds : List D} (n : Nat), RpAll K H vs ds → RpAll K H (vs.drop n) (ds.drop n)
  | _, _, 0, r => r
  | _, _, _ + 1, .nil => .nil
  | _, _, n + 1, .cons _ r => r.drop n
theorem RpAll.reverse : ∀ {vs : List V} {ds : List D}, RpAll K H vs ds → RpAll K H vs.reverse ds.reverse
  | _, _, .nil => .nil
  | _, _, .cons h r => by
    rw [List.reverse_cons, List.reverse_cons]
    exact r.reverse.append (.cons h .nil)
theorem RpAll.set {v : V} {d : D} (h : Rp K H v d) : ∀ {vs : List V} {ds : List D} (i : Nat), RpAll K H vs ds → RpAll K H (vs.set i v) (ds.set i d)
  | _, _, _, .nil => .nil
  | _, _, 0, .cons _ r => .cons h r
  | _, _, i + 1, .cons g r => .cons g (r.set h i)
theorem RpAll.map {α : Type} {f : α → V} {g : α → D} (h : ∀ x, Rp K H (f x) (g x)) : ∀ xs : List α, RpAll K H (xs.map f) (xs.map g)
  | [] => .nil
  | x :: xs => .cons (h x) (RpAll.map h xs)
theorem RpFs.get {f : Str} {d : D} : ∀ {fs : List (Str × V)} {fd : List (Str × D)}, RpFs K H fs fd → fd.lookup f = some d → ∃ v, fs.lookup f = some v ∧ Rp K H v d
  | _, _, .cons (f := g) h r, e => by
    rw [List.lookup_cons] at e ⊢
    cases hb : f == g with
    | true =>
      rw [hb] at e
      cases e
      exact ⟨_, rfl, h⟩
    | false =>
      rw [hb] at e
      exact r.get e
theorem RpKs.get {k : Key} {d : D} : ∀ {fs : List (Key × V)} {fd : List (Key × D)}, RpKs K H fs fd → (fd.find? fun kv => decide (kv.1 = k)).map (·.2) = some d → ∃ v, valV fs k = some v ∧ Rp K H v d
  | _, _, .cons (k := g) (v := v) h r, e => by
    by_cases hb : g = k
    · rw [List.find?_cons_of_pos (by simpa using hb)] at e
      cases e
      exact ⟨_, valV_pos hb, h⟩
    · rw [List.find?_cons_of_neg (by simpa using hb)] at e
      obtain ⟨w, h1, h2⟩ := r.get e
      exact ⟨w, (valV_neg hb).trans h1, h2⟩
end

/-- what a slot holds: nothing that is known | data | this very value (an owned object's address) -/
inductive Slot where
  | no | dat (d : D) | val (v : V)
def SlotOk (K : PySem.W.Frag) (B : Hp) : Option V → Slot → Prop
  | _, .no => True
  | some v, .dat d => Rp K B v d
  | some v, .val w => v = w
  | none, _ => False
theorem SlotOk.mono {K : PySem.W.Frag} {B B' : Hp} (e : Same B B') : ∀ {o : Option V} {s : Slot}, SlotOk K B o s → SlotOk K B' o s
  | _, .no, _ => True.intro
  | some v, .dat d, h => Rp.mono e h
  | some v, .val w, h => h
  | none, .dat _, h => h.elim
  | none, .val _, h => h.elim
/-- values: data, or owned objects -/
inductive Args (K : PySem.W.Frag) (B : Hp) : List V → List Slot → Prop
  | nil : Args K B [] []
  | cons {v : V} {s : Slot} {vs : List V} {ss : List Slot} : SlotOk K B (some v) s → Args K B vs ss → Args K B (v :: vs) (s :: ss)
theorem Args.mono {K : PySem.W.Frag} {B B' : Hp} (e : Same B B') : ∀ {vs : List V} {ss : List Slot}, Args K B vs ss → Args K B' vs ss
  | _, _, .nil => .nil
  | _, _, .cons h r => .cons (h.mono e) (r.mono e)
theorem Args.length {K : PySem.W.Frag} {B : Hp} : ∀ {vs : List V} {ss : List Slot}, Args K B vs ss → vs.length = ss.length
  | _, _, .nil => rfl
  | _, _, .cons _ r => congrArg Nat.succ r.length
theorem Args.append {K : PySem.W.Frag} {B : Hp} : ∀ {vs ws : List V} {ss ts : List Slot}, Args K B vs ss → Args K B ws ts → Args K B (vs ++ ws) (ss ++ ts)
  | _, _, _, _, .nil, r => r
  | _, _, _, _, .cons h q, r => .cons h (q.append r)
theorem Args.get {K : PySem.W.Frag} {B : Hp} : ∀ {vs : List V} {ss : List Slot} {i : Nat} {s : Slot}, Args K B vs ss → ss[i]? = some s → ∃ v, vs[i]? = some v ∧ SlotOk K B (some v) s
  | _, _, 0, _, .cons h _, e => by
    cases e
    exact ⟨_, rfl, h⟩
  | _, _, i + 1, _, .cons _ r, e => r.get (i := i) (by simpa using e)
theorem Args.set {K : PySem.W.Frag} {B : Hp} {v : V} {s : Slot} (h : SlotOk K B (some v) s) : ∀ {vs : List V} {ss : List Slot} (i : Nat), Args K B vs ss → Args K B (vs.set i v) (ss.set i s)
  | _, _, _, .nil => .nil
  | _, _, 0, .cons _ r => .cons h r
  | _, _, i + 1, .cons g r => .cons g (r.set h i)
theorem Args.dropLast {K : PySem.W.Frag} {B : Hp} : ∀ {vs : List V} {ss : List Slot}, Args K B vs ss → Args K B vs.dropLast ss.dropLast
  | _, _, .nil => .nil
  | _, _, .cons h .nil => .nil
  | _, _, .cons h (.cons g r) => .cons h (Args.dropLast (.cons g r))
/-- all of them data -/
theorem Args.all {K : PySem.W.Frag} {B : Hp} : ∀ {vs : List V} {ds : List D}, Args K B vs (ds.map .dat) → RpAll K B vs ds
  | _, [], .nil => .nil
  | _, _ :: _, .cons h r => .cons h (Args.all r)
theorem Args.of {K : PySem.W.Frag} {B : Hp} : ∀ {vs : List V} {ds : List D}, RpAll K B vs ds → Args K B vs (ds.map .dat)
  | _, _, .nil => .nil
  | _, _, .cons h r => .cons h (Args.of r)

/-- an owned object -/
inductive OD where
  | lst (ss : List Slot) | ins (C : Addr) (fs : List (Str × Slot)) | dic (kvs : List (Key × Slot)) | dicN (w : World) (a : Addr) (kvs : List (D × Slot)) | dicL (P : Program) (w : World) (a : Addr) (kvs : List (Leaf × Slot))
inductive FsOk (K : PySem.W.Frag) (B : Hp) : List (Str × V) → List (Str × Slot) → Prop
  | nil : FsOk K B [] []
  | cons {f : Str} {v : V} {s : Slot} {fs : List (Str × V)} {ss : List (Str × Slot)} : SlotOk K B (some v) s → FsOk K B fs ss → FsOk K B ((f, v) :: fs) ((f, s) :: ss)
inductive KsOk (K : PySem.W.Frag) (B : Hp) : List (Key × V) → List (Key × Slot) → Prop
  | nil : KsOk K B [] []
  | cons {f : Key} {v : V} {s : Slot} {fs : List (Key × V)} {ss : List (Key × Slot)} : SlotOk K B (some v) s → KsOk K B fs ss → KsOk K B ((f, v) :: fs) ((f, s) :: ss)
inductive NsOk (K : PySem.W.Frag) (B : Hp) : List (V × NestedKey × V) → List (D × Slot) → Prop
  | nil : NsOk K B [] []
  | cons {y : V} {k : NestedKey} {v : V} {kd : D} {s : Slot} {fs : List (V × NestedKey × V)} {ss : List (D × Slot)} : Rp K B y kd → keyD kd = some k → SlotOk K B (some v) s → NsOk K B fs ss → NsOk K B ((y, k, v) :: fs) ((kd, s) :: ss)
inductive LsOk (K : PySem.W.Frag) (B : Hp) : List (Leaf × V) → List (Leaf × Slot) → Prop
  | nil : LsOk K B [] []
  | cons {f : Leaf} {v : V} {s : Slot} {fs : List (Leaf × V)} {ss : List (Leaf × Slot)} : SlotOk K B (some v) s → LsOk K B fs ss → LsOk K B ((f, v) :: fs) ((f, s) :: ss)
theorem LsOk.mono {K : PySem.W.Frag} {B B' : Hp} (e : Same B B') : ∀ {vs : List (Leaf × V)} {ss : List (Leaf × Slot)}, LsOk K B vs ss → LsOk K B' vs ss
  | _, _, .nil => .nil
  | _, _, .cons h r => .cons (h.mono e) (r.mono e)
theorem NsOk.mono {K : PySem.W.Frag} {B B' : Hp} (e : Same B B') : ∀ {vs : List (V × NestedKey × V)} {ss : List (D × Slot)}, NsOk K B vs ss → NsOk K B' vs ss
  | _, _, .nil => .nil
  | _, _, .cons h n g r => .cons (Rp.mono e h) n (g.mono e) (r.mono e)
theorem NsOk.all {K : PySem.W.Frag} {B : Hp} : ∀ {vs : List (V × NestedKey × V)} {ds : List (D × D)}, NsOk K B vs (ds.map fun p => (p.1, .dat p.2)) → RpNs K B vs ds
  | _, [], .nil => .nil
  | _, _ :: _, .cons h n g r => .cons h n g (NsOk.all r)
theorem NsOk.of {K : PySem.W.Frag} {B : Hp} : ∀ {vs : List (V × NestedKey × V)} {ds : List (D × D)}, RpNs K B vs ds → NsOk K B vs (ds.map fun p => (p.1, .dat p.2))
  | _, _, .nil => .nil
  | _, _, .cons h n g r => .cons h n g (NsOk.of r)
theorem FsOk.mono {K : PySem.W.Frag} {B B' : Hp} (e : Same B B') : ∀ {vs : List (Str × V)} {ss : List (Str × Slot)}, FsOk K B vs ss → FsOk K B' vs ss
  | _, _, .nil => .nil
  | _, _, .cons h r => .cons (h.mono e) (r.mono e)
theorem KsOk.mono {K : PySem.W.Frag} {B B' : Hp} (e : Same B B') : ∀ {vs : List (Key × V)} {ss : List (Key × Slot)}, KsOk K B vs ss → KsOk K B' vs ss
  | _, _, .nil => .nil
  | _, _, .cons h r => .cons (h.mono e) (r.mono e)
theorem FsOk.length {K : PySem.W.Frag} {B : Hp} : ∀ {vs : List (Str × V)} {ss : List (Str × Slot)}, FsOk K B vs ss → vs.length = ss.length
  | _, _, .nil => rfl
  | _, _, .cons _ r => congrArg Nat.succ r.length
theorem KsOk.length {K : PySem.W.Frag} {B : Hp} : ∀ {vs : List (Key × V)} {ss : List (Key × Slot)}, KsOk K B vs ss → vs.length = ss.length
  | _, _, .nil => rfl
  | _, _, .cons _ r => congrArg Nat.succ r.length
theorem FsOk.get {K : PySem.W.Frag} {B : Hp} {f : Str} {s : Slot} : ∀ {fs : List (Str × V)} {ss : List (Str × Slot)}, FsOk K B fs ss → ss.lookup f = some s → ∃ v, fs.lookup f = some v ∧ SlotOk K B (some v) s
  | _, _, .cons (f := g) h r, e => by
    rw [List.lookup_cons] at e ⊢
    cases hb : f == g with
    | true =>
      rw [hb] at e
      cases e
      exact ⟨_, rfl, h⟩
    | false =>
      rw [hb] at e
      exact r.get e
/-- a field stored -/
def putS (f : Str) (s : Slot) : List (Str × Slot) → List (Str × Slot)
  | [] => [(f, s)]
  | (g, t) :: r => if g = f then (g, s) :: r else (g, t) :: putS f s r
theorem FsOk.put {K : PySem.W.Frag} {B : Hp} {f : Str} {v : V} {s : Slot} (h : SlotOk K B (some v) s) : ∀ {fs : List (Str × V)} {ss : List (Str × Slot)}, FsOk K B fs ss → FsOk K B (putF f v fs) (putS f s ss)
  | _, _, .nil => .cons h .nil
  | _, _, .cons (f := g) q r => by
    unfold putF putS
    by_cases e : g = f
    · rw [if_pos e, if_pos e]
      exact .cons h r
    · rw [if_neg e, if_neg e]
      exact .cons q (r.put h)
theorem FsOk.all {K : PySem.W.Frag} {B : Hp} : ∀ {vs : List (Str × V)} {ds : List (Str × D)}, FsOk K B vs (ds.map fun p => (p.1, .dat p.2)) → RpFs K B vs ds
  | _, [], .nil => .nil
  | _, _ :: _, .cons h r => .cons h (FsOk.all r)
theorem KsOk.all {K : PySem.W.Frag} {B : Hp} : ∀ {vs : List (Key × V)} {ds : List (Key × D)}, KsOk K B vs (ds.map fun p => (p.1, .dat p.2)) → RpKs K B vs ds
  | _, [], .nil => .nil
  | _, _ :: _, .cons h r => .cons h (KsOk.all r)
/-- the object o is as od tells -/
def OdOk (K : PySem.W.Frag) (B : Hp) : HO → OD → Prop
  | .lst vs, .lst ss => Args K B vs ss
  | .ins C _ fs, .ins C' ss => C = C' ∧ FsOk K B fs ss
  | .dK kvs, .dic ss => KsOk K B kvs ss
  | .ext φ, .dicN w a ss => ∃ kx, HO.ext φ = ndO w a kx ∧ NsOk K B kx ss
  | .ext φ, .dicL P w a ss => ∃ kl, HO.ext φ = lfO P w a kl ∧ LsOk K B kl ss
  | _, _ => False
theorem OdOk.mono {K : PySem.W.Frag} {B B' : Hp} (e : Same B B') : ∀ {o : HO} {od : OD}, OdOk K B o od → OdOk K B' o od := fun {o od} h => by
  cases o with
  | lst vs => cases od <;> first | exact Args.mono e h | exact h.elim
  | ins C dx fs => cases od <;> first | exact ⟨h.1, FsOk.mono e h.2⟩ | exact h.elim
  | dK kvs => cases od <;> first | exact KsOk.mono e h | exact h.elim
  | ext φ => cases od <;> first | exact (let ⟨kx, q, r⟩ := h; ⟨kx, q, NsOk.mono e r⟩) | exact (let ⟨kx, q, r⟩ := h; ⟨kx, q, LsOk.mono e r⟩) | exact h.elim
  | _ => cases od <;> exact h.elim
abbrev OH := Addr → Option OD
def put (O : OH) (a : Addr) (o : OD) : OH := fun b => if b = a then some o else O b
theorem put_same {O : OH} {a : Addr} {o : OD} : put O a o a = some o := if_pos rfl
theorem put_ne {O : OH} {a b : Addr} {o : OD} (h : b ≠ a) : put O a o b = O b := if_neg h
theorem put_put {O : OH} {a : Addr} {o u : OD} : put (put O a o) a u = put O a u := by
  funext b
  unfold put
  split <;> rfl
theorem put_self {O : OH} {a : Addr} {o : OD} (h : O a = some o) : put O a o = O := by
  funext b
  unfold put
  split
  · rename_i z
    rw [z, h]
  · rfl
/-- without what is owned at a -/
def cut (O : OH) (a : Addr) : OH := fun b => if b = a then none else O b
theorem cut_same {O : OH} {a : Addr} : cut O a a = none := if_pos rfl
theorem cut_ne {O : OH} {a b : Addr} (h : b ≠ a) : cut O a b = O b := if_neg h
theorem cut_put {O : OH} {a : Addr} {o : OD} (h : O a = none) : cut (put O a o) a = O := by
  funext b
  unfold cut put
  split
  · rename_i z
    rw [z, h]
  · rfl

/-- what stands where -/
structure At (T : List Addr) (K : PySem.W.Frag) (B : Hp) (O : OH) (H : Hp) : Prop where
  base : Same B H
  own : ∀ a o, O a = some o → B a = none ∧ ∃ u, H a = some u ∧ OdOk K B u o
  nt : ∀ P ∈ T, B P = none ∧ O P = none
  tabs : ∀ P ∈ T, TabG H P
/-- what a piece of the program leaves -/
structure Post (T : List Addr) (K : PySem.W.Frag) (B : Hp) (O : OH) (H : Hp) (B' : Hp) (O' : OH) (H' : Hp) : Prop where
  at' : At T K B' O' H'
  bb : Same B B'
  new : ∀ a, H a ≠ none → O a = none → B' a = B a
  own : ∀ a, O' a ≠ none → O a ≠ none ∨ H a = none
  fr : ∀ a o, H a = some o → O a = none → a ∉ T → H' a = some o
  dom : ∀ a, H a ≠ none → H' a ≠ none
/-- nothing is owned -/
abbrev O0 : OH := fun _ => none

section
variable {T : List Addr} {K : PySem.W.Frag} {B : Hp} {O : OH} {H B1 : Hp} {O1 : OH} {H1 B2 : Hp} {O2 : OH} {H2 : Hp}
theorem ne_some {α β : Type} {f : α → Option β} {a : α} {o : β} (h : f a = some o) : f a ≠ none := fun z => by
  rw [h] at z
  cases z
theorem some_ne {α β : Type} {f : α → Option β} {a : α} (h : f a ≠ none) : ∃ o, f a = some o := by
  cases e : f a with
  | none => exact absurd e h
  | some o => exact ⟨o, rfl⟩
theorem At.ownH (h : At T K B O H) {a : Addr} {o : OD} (e : O a = some o) : H a ≠ none := by
  obtain ⟨_, u, hu, _⟩ := h.own a o e
  exact ne_some hu
theorem Post.refl (h : At T K B O H) : Post T K B O H B O H := ⟨h, Same.refl B, fun _ _ _ => rfl, fun _ z => .inl z, fun _ _ e _ _ => e, fun _ z => z⟩
theorem Post.keepO (p : Post T K B O H B1 O1 H1) {a : Addr} (h : H a ≠ none) (ho : O a = none) : O1 a = none := by
  cases e : O1 a with
  | none => rfl
  | some o =>
    rcases p.own a (ne_some e) with z | z
    · exact absurd ho z
    · exact absurd z h
theorem Post.trans (p : Post T K B O H B1 O1 H1) (q : Post T K B1 O1 H1 B2 O2 H2) : Post T K B O H B2 O2 H2 where
  at' := q.at'
  bb := p.bb.trans q.bb
  new := fun a h ho => (q.new a (p.dom a h) (p.keepO h ho)).trans (p.new a h ho)
  own := fun a h => by
    rcases q.own a h with z | z
    · exact p.own a z
    · refine .inr ?_
      cases e : H a with
      | none => rfl
      | some o => exact absurd z (p.dom a (ne_some e))
  fr := fun a o h ho ht => q.fr a o (p.fr a o h ho ht) (p.keepO (ne_some h) ho) ht
  dom := fun a h => q.dom a (p.dom a h)
theorem Post.free (p : Post T K B O H B1 O1 H1) {a : Addr} (h : H1 a = none) : H a = none := by
  cases e : H a with
  | none => rfl
  | some o => exact absurd h (p.dom a (ne_some e))
theorem At.noB (h : At T K B O H) {a : Addr} (n : H a = none) : B a = none := by
  cases q : B a with
  | none => rfl
  | some v => exact absurd n (ne_some (h.base a v q))
theorem At.noO (h : At T K B O H) {a : Addr} (n : H a = none) : O a = none := by
  cases q : O a with
  | none => rfl
  | some v => exact absurd n (h.ownH q)
theorem upd_dom {H : Hp} {a b : Addr} {o : HO} (h : H b ≠ none) : upd H a o b ≠ none := by
  by_cases z : b = a
  · subst z
    rw [upd_same]
    exact fun q => by cases q
  · rw [upd_ne z]
    exact h
/-- something that is neither frozen nor owned is laid -/
theorem Post.laid (h : At T K B O H) {a : Addr} {o : HO} (n : H a = none) : Post T K B O H B O (upd H a o) where
  at' :=
    { base := fun b u e => by rw [upd_ne (ne_of_none (h.base b u e) n)]; exact h.base b u e
      own := fun b u e => by
        obtain ⟨e1, v, e2, e3⟩ := h.own b u e
        exact ⟨e1, v, by rw [upd_ne (ne_of_none e2 n)]; exact e2, e3⟩
      nt := h.nt
      tabs := fun P hP => by
        obtain ⟨ps, e, t⟩ := h.tabs P hP
        exact ⟨ps, by rw [upd_ne (ne_of_none e n)]; exact e, t⟩ }
  bb := Same.refl B
  new := fun _ _ _ => rfl
  own := fun b hb => .inl hb
  fr := fun b u e _ _ => by rw [upd_ne (ne_of_none e n)]; exact e
  dom := fun b hb => upd_dom hb
/-- a new object, frozen at once -/
theorem Post.made (h : At T K B O H) {a : Addr} {o : HO} (n : H a = none) : Post T K B O H (upd B a o) O (upd H a o) where
  at' :=
    { base := fun b u e => by
        by_cases z : b = a
        · subst z
          rw [upd_same] at e ⊢
          exact e
        · rw [upd_ne z] at e ⊢
          exact h.base b u e
      own := fun b u e => by
        obtain ⟨e1, v, e2, e3⟩ := h.own b u e
        have z : b ≠ a := ne_of_none e2 n
        exact ⟨by rw [upd_ne z]; exact e1, v, by rw [upd_ne z]; exact e2, e3.mono fun c w q => by rw [upd_ne (ne_of_none (h.base c w q) n)]; exact q⟩
      nt := fun P hP => by
        obtain ⟨ps, e, _⟩ := h.tabs P hP
        have z : P ≠ a := ne_of_none e n
        rw [upd_ne z]
        exact h.nt P hP
      tabs := fun P hP => by
        obtain ⟨ps, e, t⟩ := h.tabs P hP
        exact ⟨ps, by rw [upd_ne (ne_of_none e n)]; exact e, t⟩ }
  bb := fun b u e => by rw [upd_ne (ne_of_none (h.base b u e) n)]; exact e
  new := fun b hb _ => by
    have z : b ≠ a := fun q => hb (by rw [q]; exact n)
    rw [upd_ne z]
  own := fun b hb => .inl hb
  fr := fun b u e _ _ => by rw [upd_ne (ne_of_none e n)]; exact e
  dom := fun b hb => upd_dom hb
/-- a new object, owned -/
theorem Post.madeO (h : At T K B O H) {a : Addr} {o : HO} {od : OD} (n : H a = none) (k : OdOk K B o od) : Post T K B O H B (put O a od) (upd H a o) where
  at' :=
    { base := fun b u e => by rw [upd_ne (ne_of_none (h.base b u e) n)]; exact h.base b u e
      own := fun b u e => by
        by_cases z : b = a
        · subst z
          rw [put_same] at e
          cases e
          exact ⟨h.noB n, o, upd_same, k⟩
        · rw [put_ne z] at e
          obtain ⟨e1, v, e2, e3⟩ := h.own b u e
          exact ⟨e1, v, by rw [upd_ne z]; exact e2, e3⟩
      nt := fun P hP => by
        obtain ⟨ps, e, _⟩ := h.tabs P hP
        rw [put_ne (ne_of_none e n)]
        exact h.nt P hP
      tabs := fun P hP => by
        obtain ⟨ps, e, t⟩ := h.tabs P hP
        exact ⟨ps, by rw [upd_ne (ne_of_none e n)]; exact e, t⟩ }
  bb := Same.refl B
  new := fun _ _ _ => rfl
  own := fun b hb => by
    by_cases z : b = a
    · subst z
      exact .inr n
    · rw [put_ne z] at hb
      exact .inl hb
  fr := fun b u e _ _ => by rw [upd_ne (ne_of_none e n)]; exact e
  dom := fun b hb => upd_dom hb
theorem At.notT (h : At T K B O H) {a : Addr} {o : OD} (e : O a = some o) : a ∉ T := fun z => by
  have := (h.nt a z).2
  rw [e] at this
  cases this
/-- an owned object changes -/
theorem Post.put (h : At T K B O H) {a : Addr} {o od : OD} {u : HO} (e : O a = some o) (k : OdOk K B u od) : Post T K B O H B (put O a od) (upd H a u) where
  at' :=
    { base := fun b v q => by
        have z : b ≠ a := fun z => by
          rw [z, (h.own a o e).1] at q
          cases q
        rw [upd_ne z]
        exact h.base b v q
      own := fun b v q => by
        by_cases z : b = a
        · subst z
          rw [put_same] at q
          cases q
          exact ⟨(h.own b o e).1, u, upd_same, k⟩
        · rw [put_ne z] at q
          obtain ⟨e1, v, e2, e3⟩ := h.own b v q
          exact ⟨e1, v, by rw [upd_ne z]; exact e2, e3⟩
      nt := fun P hP => by
        have z : P ≠ a := fun z => h.notT e (by rw [← z]; exact hP)
        rw [put_ne z]
        exact h.nt P hP
      tabs := fun P hP => by
        obtain ⟨ps, q, t⟩ := h.tabs P hP
        have z : P ≠ a := fun z => h.notT e (by rw [← z]; exact hP)
        exact ⟨ps, by rw [upd_ne z]; exact q, t⟩ }
  bb := Same.refl B
  new := fun _ _ _ => rfl
  own := fun b hb => by
    by_cases z : b = a
    · subst z
      exact .inl (ne_some e)
    · rw [put_ne z] at hb
      exact .inl hb
  fr := fun b v q ho _ => by
    have z : b ≠ a := fun z => by
      rw [z, e] at ho
      cases ho
    rw [upd_ne z]
    exact q
  dom := fun b hb => upd_dom hb
/-- an owned object is frozen -/
theorem Post.freeze (h : At T K B O H) {a : Addr} {o : OD} {u : HO} (e : O a = some o) (eu : H a = some u) : Post T K B O H (upd B a u) (cut O a) H where
  at' :=
    { base := fun b v q => by
        by_cases z : b = a
        · subst z
          rw [upd_same] at q
          cases q
          exact eu
        · rw [upd_ne z] at q
          exact h.base b v q
      own := fun b v q => by
        have z : b ≠ a := fun z => by
          rw [z, cut_same] at q
          cases q
        rw [cut_ne z] at q
        obtain ⟨e1, v, e2, e3⟩ := h.own b v q
        refine ⟨by rw [upd_ne z]; exact e1, v, e2, e3.mono fun c w q => ?_⟩
        have zc : c ≠ a := fun zc => by
          rw [zc, (h.own a o e).1] at q
          cases q
        rw [upd_ne zc]
        exact q
      nt := fun P hP => by
        have z : P ≠ a := fun z => h.notT e (by rw [← z]; exact hP)
        rw [upd_ne z, cut_ne z]
        exact h.nt P hP
      tabs := h.tabs }
  bb := fun b v q => by
    have z : b ≠ a := fun z => by
      rw [z, (h.own a o e).1] at q
      cases q
    rw [upd_ne z]
    exact q
  new := fun b _ ho => by
    have z : b ≠ a := fun z => by
      rw [z, e] at ho
      cases ho
    rw [upd_ne z]
  own := fun b hb => by
    by_cases z : b = a
    · subst z
      exact .inl (ne_some e)
    · rw [cut_ne z] at hb
      exact .inl hb
  fr := fun _ _ q _ _ => q
  dom := fun _ q => q
/-- a piece that owns nothing, where something is owned -/
theorem Post.frame0 (h : At T K B O H) (p : Post T K B O0 H B1 O0 H1) : Post T K B O H B1 O H1 where
  at' :=
    { base := p.at'.base
      own := fun a o e => by
        obtain ⟨e1, u, e2, e3⟩ := h.own a o e
        exact ⟨(p.new a (ne_some e2) rfl).trans e1, u, p.fr a u e2 rfl (h.notT e), e3.mono p.bb⟩
      nt := fun P hP => ⟨(p.at'.nt P hP).1, (h.nt P hP).2⟩
      tabs := p.at'.tabs }
  bb := p.bb
  new := fun a ha _ => p.new a ha rfl
  own := fun a ha => .inl ha
  fr := fun a o e _ ht => p.fr a o e rfl ht
  dom := p.dom
theorem At.no (h : At T K B O H) : At T K B O0 H := ⟨h.base, (fun _ _ e => by cases e), fun P hP => ⟨(h.nt P hP).1, rfl⟩, h.tabs⟩
/-- a table has grown -/
theorem Post.tabbed (h : At T K B O H) {P : Addr} (hP : P ∈ T) (t : Tabbed P H H1) : Post T K B O H B O H1 where
  at' :=
    { base := fun b u e => by
        have z : b ≠ P := fun z => by
          rw [z, (h.nt P hP).1] at e
          cases e
        rw [t.2 b z]
        exact h.base b u e
      own := fun b u e => by
        have z : b ≠ P := fun z => h.notT e (by rw [z]; exact hP)
        obtain ⟨e1, v, e2, e3⟩ := h.own b u e
        exact ⟨e1, v, by rw [t.2 b z]; exact e2, e3⟩
      nt := h.nt
      tabs := fun Q hQ => by
        by_cases z : Q = P
        · rw [z]
          exact t.1
        · obtain ⟨ps, e, tr⟩ := h.tabs Q hQ
          exact ⟨ps, by rw [t.2 Q z]; exact e, tr⟩ }
  bb := Same.refl B
  new := fun _ _ _ => rfl
  own := fun _ z => .inl z
  fr := fun b u e _ ht => by rw [t.2 b fun z => ht (by rw [z]; exact hP)]; exact e
  dom := fun b hb => by
    by_cases z : b = P
    · obtain ⟨ps, e, _⟩ := t.1
      rw [z, e]
      exact fun q => by cases q
    · rw [t.2 b z]
      exact hb
end
end Dz

namespace Dz
open PySem PySem.Spec PyProof.Rows L2 GxR

/-- the slots hold what ρ says -/
inductive Env (K : PySem.W.Frag) (B : Hp) : L2.St → List Slot → Prop
  | nil : Env K B [] []
  | cons {o : Option V} {s : Slot} {σ : L2.St} {ρ : List Slot} : SlotOk K B o s → Env K B σ ρ → Env K B (o :: σ) (s :: ρ)
section
variable {K : PySem.W.Frag} {B B' : Hp}
theorem Env.mono (e : Same B B') : ∀ {σ : L2.St} {ρ : List Slot}, Env K B σ ρ → Env K B' σ ρ
  | _, _, .nil => .nil
  | _, _, .cons h r => .cons (h.mono e) (r.mono e)
theorem Env.get : ∀ {σ : L2.St} {ρ : List Slot} {i : Nat} {s : Slot}, Env K B σ ρ → ρ[i]? = some s → ∃ o, σ[i]? = some o ∧ SlotOk K B o s
  | _, _, 0, _, .cons h _, e => by
    cases e
    exact ⟨_, rfl, h⟩
  | _, _, i + 1, _, .cons _ r, e => r.get (i := i) (by simpa using e)
theorem Env.set {o : Option V} {s : Slot} (h : SlotOk K B o s) : ∀ {σ : L2.St} {ρ : List Slot} (i : Nat), Env K B σ ρ → Env K B (σ.set i o) (ρ.set i s)
  | _, _, _, .nil => .nil
  | _, _, 0, .cons _ r => .cons h r
  | _, _, i + 1, .cons g r => .cons g (r.set h i)
theorem Env.wipe1 (i : Nat) {σ : L2.St} {ρ : List Slot} (e : Env K B σ ρ) : Env K B (σ.set i none) (ρ.set i .no) := Env.set (o := none) (s := .no) (show SlotOk K B none .no from True.intro) i e
theorem Env.length : ∀ {σ : L2.St} {ρ : List Slot}, Env K B σ ρ → σ.length = ρ.length
  | _, _, .nil => rfl
  | _, _, .cons _ r => congrArg Nat.succ r.length
end
theorem Env.of_args {K : PySem.W.Frag} {B : Hp} (k : Nat) : ∀ {vs : List V} {ss : List Slot}, Args K B vs ss → Env K B (vs.map some ++ List.replicate k none) (ss ++ List.replicate k .no)
  | _, _, .nil => by
    induction k with
    | zero => exact .nil
    | succ k ih => exact .cons True.intro ih
  | _, _, .cons h r => .cons h (Env.of_args k r)

/-! ### judgements -/
/-- the expression's own wish -/
def WE (X : Cx) (e : Expr) : TE := fun σ H Q => ∀ (pins : List (Addr × Obj)) (s : Shared), L2.Inv X pins σ H s → wpAny (model X.prog X.w) X.A (eval e X.env) (EP X pins σ Q) X.xe s
def WT (X : Cx) (e : Expr) : TT := fun σ H Q => ∀ (pins : List (Addr × Obj)) (s : Shared), L2.Inv X pins σ H s → wpAny (model X.prog X.w) X.A (isTrue e X.env (eval e X.env)) (TP X pins σ Q) X.xe s
def WW (X : Cx) (e : Expr) : TT := fun σ H Q => ∀ (whole : Sem Value) (pins : List (Addr × Obj)) (s : Shared), L2.Inv X pins σ H s → wpAny (model X.prog X.w) X.A (isTrue e X.env whole) (TP X pins σ Q) X.xe s
def WA (X : Cx) (es : List Expr) : TA := fun σ H Q => ∀ (pos : Pos) (pins : List (Addr × Obj)) (s : Shared), L2.Inv X pins σ H s → wpAny (model X.prog X.w) X.A (spliced (backTo pos (starEach es X.env))) (AP X pins σ Q) X.xe s
def WS (X : Cx) (st : Stmt) : TS := fun D σ H => ∀ (pins : List (Addr × Obj)) (s : Shared), L2.Inv X pins σ H s → wpAny (model X.prog X.w) X.A (exec st X.env) (SP X pins D) X.xe s
def WSs (X : Cx) (st : List Stmt) : TS := fun D σ H => ∀ (pins : List (Addr × Obj)) (s : Shared), L2.Inv X pins σ H s → wpAny (model X.prog X.w) X.A (execs st X.env) (SP X pins D) X.xe s
theorem pe_we {X : Cx} {e : Expr} : PE X e (WE X e) := ⟨fun pins s σ H Q I h => h pins s I⟩
theorem pt_wt {X : Cx} {e : Expr} : PT X e (WT X e) := ⟨fun pins s σ H Q I h => h pins s I⟩
theorem pw_ww {X : Cx} {e : Expr} : PW X e (WW X e) := ⟨fun wh pins s σ H Q I h => h wh pins s I⟩
theorem pa_wa {X : Cx} {es : List Expr} : PA X es (WA X es) := ⟨fun pos pins s σ H Q I h => h pos pins s I⟩
theorem ps_ws {X : Cx} {st : Stmt} : PS X st (WS X st) := ⟨fun pins s σ H D I h => h pins s I⟩
theorem pss_wss {X : Cx} {st : List Stmt} : PSs X st (WSs X st) := ⟨fun pins s σ H D I h => h pins s I⟩
theorem we_of {X : Cx} {e : Expr} {t : TE} (h : PE X e t) {σ : L2.St} {H : Hp} {Q : VK} (q : t σ H Q) : WE X e σ H Q := fun pins s I => h.run pins s σ H Q I q
theorem wt_of {X : Cx} {e : Expr} {t : TT} (h : PT X e t) {σ : L2.St} {H : Hp} {Q : Bool → Hp → Prop} (q : t σ H Q) : WT X e σ H Q := fun pins s I => h.run pins s σ H Q I q
theorem ww_of {X : Cx} {e : Expr} {t : TT} (h : PW X e t) {σ : L2.St} {H : Hp} {Q : Bool → Hp → Prop} (q : t σ H Q) : WW X e σ H Q := fun wh pins s I => h.run wh pins s σ H Q I q
theorem wa_of {X : Cx} {es : List Expr} {t : TA} (h : PA X es t) {σ : L2.St} {H : Hp} {Q : List V → Hp → Prop} (q : t σ H Q) : WA X es σ H Q := fun pos pins s I => h.run pos pins s σ H Q I q
theorem ws_of {X : Cx} {st : Stmt} {t : TS} (h : PS X st t) {σ : L2.St} {H : Hp} {D : Ends} (q : t D σ H) : WS X st D σ H := fun pins s I => h.run pins s σ H D I q
theorem wss_of {X : Cx} {st : List Stmt} {t : TS} (h : PSs X st t) {σ : L2.St} {H : Hp} {D : Ends} (q : t D σ H) : WSs X st D σ H := fun pins s I => h.run pins s σ H D I q

section
variable (T : List Addr) (X : Cx)
/-- the expression e, where the slots hold ρ and O is owned, gives the data d, and O' is owned -/
structure DE (e : Expr) (ρ : List Slot) (O : OH) (d : D) (O' : OH) : Prop where
  run : ∀ (σ : L2.St) (B H : Hp), Env X.K B σ ρ → At T X.K B O H → ∀ Q : VK, (∀ v B' H', Post T X.K B O H B' O' H' → Rp X.K B' v d → Q v H') → WE X e σ H Q
/-- .. any slot -/
structure DV (e : Expr) (ρ : List Slot) (O : OH) (d : Slot) (O' : OH) : Prop where
  run : ∀ (σ : L2.St) (B H : Hp), Env X.K B σ ρ → At T X.K B O H → ∀ Q : VK, (∀ v B' H', Post T X.K B O H B' O' H' → SlotOk X.K B' (some v) d → Q v H') → WE X e σ H Q
structure DT (e : Expr) (ρ : List Slot) (O : OH) (b : Bool) (O' : OH) : Prop where
  run : ∀ (σ : L2.St) (B H : Hp), Env X.K B σ ρ → At T X.K B O H → ∀ Q : Bool → Hp → Prop, (∀ B' H', Post T X.K B O H B' O' H' → Q b H') → WT X e σ H Q
structure DW (e : Expr) (ρ : List Slot) (O : OH) (b : Bool) (O' : OH) : Prop where
  run : ∀ (σ : L2.St) (B H : Hp), Env X.K B σ ρ → At T X.K B O H → ∀ Q : Bool → Hp → Prop, (∀ B' H', Post T X.K B O H B' O' H' → Q b H') → WW X e σ H Q
structure DA (es : List Expr) (ρ : List Slot) (O : OH) (ss : List Slot) (O' : OH) : Prop where
  run : ∀ (σ : L2.St) (B H : Hp), Env X.K B σ ρ → At T X.K B O H → ∀ Q : List V → Hp → Prop, (∀ vs B' H', Post T X.K B O H B' O' H' → Args X.K B' vs ss → Q vs H') → WA X es σ H Q
end
instance {T : List Addr} {X : Cx} {e : Expr} {ρ : List Slot} {O : OH} {d : D} {O' : OH} : CoeFun (DE T X e ρ O d O') fun _ => ∀ (σ : L2.St) (B H : Hp), Env X.K B σ ρ → At T X.K B O H → ∀ Q : VK, (∀ v B' H', Post T X.K B O H B' O' H' → Rp X.K B' v d → Q v H') → WE X e σ H Q := ⟨DE.run⟩
instance {T : List Addr} {X : Cx} {e : Expr} {ρ : List Slot} {O : OH} {d : Slot} {O' : OH} : CoeFun (DV T X e ρ O d O') fun _ => ∀ (σ : L2.St) (B H : Hp), Env X.K B σ ρ → At T X.K B O H → ∀ Q : VK, (∀ v B' H', Post T X.K B O H B' O' H' → SlotOk X.K B' (some v) d → Q v H') → WE X e σ H Q := ⟨DV.run⟩
instance {T : List Addr} {X : Cx} {e : Expr} {ρ : List Slot} {O : OH} {b : Bool} {O' : OH} : CoeFun (DT T X e ρ O b O') fun _ => ∀ (σ : L2.St) (B H : Hp), Env X.K B σ ρ → At T X.K B O H → ∀ Q : Bool → Hp → Prop, (∀ B' H', Post T X.K B O H B' O' H' → Q b H') → WT X e σ H Q := ⟨DT.run⟩
instance {T : List Addr} {X : Cx} {e : Expr} {ρ : List Slot} {O : OH} {b : Bool} {O' : OH} : CoeFun (DW T X e ρ O b O') fun _ => ∀ (σ : L2.St) (B H : Hp), Env X.K B σ ρ → At T X.K B O H → ∀ Q : Bool → Hp → Prop, (∀ B' H', Post T X.K B O H B' O' H' → Q b H') → WW X e σ H Q := ⟨DW.run⟩
instance {T : List Addr} {X : Cx} {es : List Expr} {ρ : List Slot} {O : OH} {ss : List Slot} {O' : OH} : CoeFun (DA T X es ρ O ss O') fun _ => ∀ (σ : L2.St) (B H : Hp), Env X.K B σ ρ → At T X.K B O H → ∀ Q : List V → Hp → Prop, (∀ vs B' H', Post T X.K B O H B' O' H' → Args X.K B' vs ss → Q vs H') → WA X es σ H Q := ⟨DA.run⟩

section
variable {T : List Addr} {X : Cx} {ρ : List Slot} {O O1 O2 O3 : OH} {e a b : Expr} {pos : Pos} {d x y z : D}
theorem DV.de (h : DV T X e ρ O (.dat d) O1) : DE T X e ρ O d O1 := .mk h.run
theorem DE.dv (h : DE T X e ρ O d O1) : DV T X e ρ O (.dat d) O1 := .mk h.run
/-- an expression by its reading -/
theorem de_of {t : TE} (h : PE X e t) (ht : ∀ (σ : L2.St) (B H : Hp), Env X.K B σ ρ → At T X.K B O H → ∀ Q : VK, (∀ v B' H', Post T X.K B O H B' O1 H' → Rp X.K B' v d → Q v H') → t σ H Q) : DE T X e ρ O d O1 :=
  .mk fun σ B H hE hA Q q => we_of h (ht σ B H hE hA Q q)
theorem de_c {v : V} (h : PE X e (tC v)) (r : ∀ B : Hp, Rp X.K B v d) : DE T X e ρ O d O :=
  de_of h fun σ B H hE hA Q q => q v B H (Post.refl hA) (r B)
theorem de_int {i : Int} {j pos} : DE T X (.Constant (.int i) j pos) ρ O (.int i) O := de_c pe_int fun _ => .int i
theorem de_str {i : Str} {j pos} : DE T X (.Constant (.str i) j pos) ρ O (.str i) O := de_c pe_str fun _ => .str i
theorem de_bl {i : Bool} {j pos} : DE T X (.Constant (.bool i) j pos) ρ O (.bl i) O := de_c pe_bl fun _ => .bl i
theorem de_non {j pos} : DE T X (.Constant .none j pos) ρ O .non O := de_c pe_non fun _ => .non
/-- a name of the def -/
theorem dv_var {s : Slot} (i : Nat) {n : Str} (h : ρ[i]? = some s) (hs : s ≠ .no := by intro z; cases z) (hN : X.N[i]? = some n := by rfl) (hv : Vis X.env.scope n := by first | exact Or.inl rfl | exact Or.inr (Or.inl rfl) | exact Or.inr (Or.inr rfl))
    (hd : (n == ("__debug__" : Str)) = false := by decide) (hcd : (n == ("__classdict__" : Str)) = false := by decide) : DV T X (.Name n pos) ρ O s O := by
  refine .mk fun σ B H hE hA Q q => ?_
  obtain ⟨o, e1, e2⟩ := hE.get h
  cases o with
  | none => cases s <;> first | exact e2.elim | exact absurd rfl hs
  | some v => exact we_of (pe_var hN hv hd hcd) ⟨v, e1, q v B H (Post.refl hA) e2⟩
theorem de_var (i : Nat) {n : Str} (h : ρ[i]? = some (.dat d) := by rfl) (hN : X.N[i]? = some n := by rfl) (hv : Vis X.env.scope n := by first | exact Or.inl rfl | exact Or.inr (Or.inl rfl) | exact Or.inr (Or.inr rfl))
    (hd : (n == ("__debug__" : Str)) = false := by decide) (hcd : (n == ("__classdict__" : Str)) = false := by decide) : DE T X (.Name n pos) ρ O d O := (dv_var i h (by intro z; cases z) hN hv hd hcd).de
/-- a module's constant -/
theorem de_glob {n : Str} {v : V} {u : Value} (hm : X.mg n = some u) (r : RelV v u) (rp : ∀ B : Hp, Rp X.K B v d) (hg : Gl X n := by rfl) (hd : (n == ("__debug__" : Str)) = false := by decide) : DE T X (.Name n pos) ρ O d O :=
  de_c (pe_glob hg hm r hd) rp

/-- two parts, from the left -/
theorem two {R : V → V → Hp → Prop} {σ : L2.St} {B H : Hp} (ha : DE T X a ρ O x O1) (hb : DE T X b ρ O1 y O2) (hE : Env X.K B σ ρ) (hA : At T X.K B O H)
    (k : ∀ v w B' H', Post T X.K B O H B' O2 H' → Rp X.K B' v x → Rp X.K B' w y → R v w H') : WE X a σ H fun v H1 => WE X b σ H1 fun w H2 => R v w H2 :=
  ha σ B H hE hA _ fun v B1 H1 p1 r1 => hb σ B1 H1 (hE.mono p1.bb) p1.at' _ fun w B2 H2 p2 r2 => k v w B2 H2 (p1.trans p2) (r1.mono p2.bb) r2
/-- an operator by values -/
def ROp (T : List Addr) (X : Cx) (r : R2) (O : OH) (x y z : D) (O' : OH) : Prop := ∀ (v w : V) (B H : Hp), At T X.K B O H → Rp X.K B v x → Rp X.K B w y → ∀ Q : VK, (∀ u B' H', Post T X.K B O H B' O' H' → Rp X.K B' u z → Q u H') → r v w H Q
theorem de_op {op : Operator} {r : R2} (ho : OpR X (binaryOp op) r) (ha : DE T X a ρ O x O1) (hb : DE T X b ρ O1 y O2) (hr : ROp T X r O2 x y z O3) : DE T X (.BinOp a op b pos) ρ O z O3 :=
  de_of (pe_op ho pe_we pe_we) fun σ B H hE hA Q q => two ha hb hE hA fun v w B' H' p rv rw' => hr v w B' H' p.at' rv rw' Q fun u B2 H2 p2 => q u B2 H2 (p.trans p2)
theorem de_cmp {op : CmpOp} {r : R2} (ho : OpR X (compareOp op) r) (hm : behindInMarks op b = false) (ha : DE T X a ρ O x O1) (hb : DE T X b ρ O1 y O2) (hr : ROp T X r O2 x y z O3) : DE T X (.Compare a [op] [b] pos) ρ O z O3 :=
  de_of (pe_cmpR ho pe_we pe_we hm) fun σ B H hE hA Q q => two ha hb hE hA fun v w B' H' p rv rw' => hr v w B' H' p.at' rv rw' Q fun u B2 H2 p2 => q u B2 H2 (p.trans p2)
theorem dt_cmp {op : CmpOp} {r : R2} {k : Bool} (ho : OpR X (compareOp op) r) (hm : behindInMarks op b = false) (ha : DE T X a ρ O x O1) (hb : DE T X b ρ O1 y O2) (hr : ROp T X r O2 x y (.bl k) O3) : DT T X (.Compare a [op] [b] pos) ρ O k O3 :=
  .mk fun σ B H hE hA Q q => wt_of (pt_cmpR ho pe_we pe_we hm) (two ha hb hE hA fun v w B' H' p rv rw' => hr v w B' H' p.at' rv rw' _ fun u B2 H2 p2 ru => by
    cases ru
    exact ⟨k, rfl, q B2 H2 (p.trans p2)⟩)
/-- the operators on ints -/
theorem rop_I0 {f : Int → Int → V} {i j : Int} (h : ∀ B, Rp X.K B (f i j) z) : ROp T X (rI0 f) O (.int i) (.int j) z O := fun v w B H hA rv rw' Q q => by
  cases rv
  cases rw'
  exact ⟨i, j, rfl, rfl, q _ B H (Post.refl hA) (h B)⟩
theorem rop_I {C : Int → Int → Prop} {f : Int → Int → V} {i j : Int} (hc : C i j) (h : ∀ B, Rp X.K B (f i j) z) : ROp T X (rI C f) O (.int i) (.int j) z O := fun v w B H hA rv rw' Q q => by
  cases rv
  cases rw'
  exact ⟨i, j, rfl, rfl, hc, q _ B H (Post.refl hA) (h B)⟩
section
variable {i j : Int}
theorem de_add (ha : DE T X a ρ O (.int i) O1) (hb : DE T X b ρ O1 (.int j) O2) : DE T X (.BinOp a .Add b pos) ρ O (.int (i + j)) O2 := de_op op_add ha hb (rop_I0 fun _ => .int _)
theorem de_sub (ha : DE T X a ρ O (.int i) O1) (hb : DE T X b ρ O1 (.int j) O2) : DE T X (.BinOp a .Sub b pos) ρ O (.int (i - j)) O2 := de_op op_sub ha hb (rop_I0 fun _ => .int _)
theorem de_mul (hc : CMul i j) (ha : DE T X a ρ O (.int i) O1) (hb : DE T X b ρ O1 (.int j) O2) : DE T X (.BinOp a .Mult b pos) ρ O (.int (i * j)) O2 := de_op op_mul ha hb (rop_I hc fun _ => .int _)
theorem de_mod (hc : 0 < j) (ha : DE T X a ρ O (.int i) O1) (hb : DE T X b ρ O1 (.int j) O2) : DE T X (.BinOp a .Mod b pos) ρ O (.int (i % j)) O2 := de_op op_mod ha hb (rop_I hc fun _ => .int _)
theorem de_fdiv (hc : CDiv i j) (ha : DE T X a ρ O (.int i) O1) (hb : DE T X b ρ O1 (.int j) O2) : DE T X (.BinOp a .FloorDiv b pos) ρ O (.int (i / j)) O2 := de_op op_fdiv ha hb (rop_I hc fun _ => .int _)
theorem de_pow (hc : CPow i j) (ha : DE T X a ρ O (.int i) O1) (hb : DE T X b ρ O1 (.int j) O2) : DE T X (.BinOp a .Pow b pos) ρ O (.int (i ^ j.toNat)) O2 := de_op op_pow ha hb (rop_I hc fun _ => .int _)
theorem de_shr (hc : 0 ≤ j) (ha : DE T X a ρ O (.int i) O1) (hb : DE T X b ρ O1 (.int j) O2) : DE T X (.BinOp a .RShift b pos) ρ O (.int (i / 2 ^ j.toNat)) O2 := de_op op_shr ha hb (rop_I hc fun _ => .int _)
theorem de_lt (ha : DE T X a ρ O (.int i) O1) (hb : DE T X b ρ O1 (.int j) O2) : DE T X (.Compare a [.Lt] [b] pos) ρ O (.bl (decide (i < j))) O2 := de_cmp op_lt (nomark _) ha hb (rop_I0 fun _ => .bl _)
theorem de_le (ha : DE T X a ρ O (.int i) O1) (hb : DE T X b ρ O1 (.int j) O2) : DE T X (.Compare a [.LtE] [b] pos) ρ O (.bl (decide (i ≤ j))) O2 := de_cmp op_le (nomark _) ha hb (rop_I0 fun _ => .bl _)
theorem de_gt (ha : DE T X a ρ O (.int i) O1) (hb : DE T X b ρ O1 (.int j) O2) : DE T X (.Compare a [.Gt] [b] pos) ρ O (.bl (decide (j < i))) O2 := de_cmp op_gt (nomark _) ha hb (rop_I0 fun _ => .bl _)
theorem de_ge (ha : DE T X a ρ O (.int i) O1) (hb : DE T X b ρ O1 (.int j) O2) : DE T X (.Compare a [.GtE] [b] pos) ρ O (.bl (decide (j ≤ i))) O2 := de_cmp op_ge (nomark _) ha hb (rop_I0 fun _ => .bl _)
theorem dt_lt (ha : DE T X a ρ O (.int i) O1) (hb : DE T X b ρ O1 (.int j) O2) : DT T X (.Compare a [.Lt] [b] pos) ρ O (decide (i < j)) O2 := dt_cmp op_lt (nomark _) ha hb (rop_I0 fun _ => .bl _)
theorem dt_le (ha : DE T X a ρ O (.int i) O1) (hb : DE T X b ρ O1 (.int j) O2) : DT T X (.Compare a [.LtE] [b] pos) ρ O (decide (i ≤ j)) O2 := dt_cmp op_le (nomark _) ha hb (rop_I0 fun _ => .bl _)
theorem dt_gt (ha : DE T X a ρ O (.int i) O1) (hb : DE T X b ρ O1 (.int j) O2) : DT T X (.Compare a [.Gt] [b] pos) ρ O (decide (j < i)) O2 := dt_cmp op_gt (nomark _) ha hb (rop_I0 fun _ => .bl _)
theorem dt_ge (ha : DE T X a ρ O (.int i) O1) (hb : DE T X b ρ O1 (.int j) O2) : DT T X (.Compare a [.GtE] [b] pos) ρ O (decide (j ≤ i)) O2 := dt_cmp op_ge (nomark _) ha hb (rop_I0 fun _ => .bl _)
end
end
end Dz

namespace Dz
open PySem PySem.Spec PyProof.Rows L2 GxR

/-! ### data as the library's data -/
mutual
def D.py : D → PyData
  | .non => .none
  | .bl b => .bool b
  | .int i => .int i
  | .str x => .str x
  | .lst ds => .list (D.pys ds)
  | .tup ds => .tuple (D.pys ds)
  | .ins _ _ => .dict []
  | .kst _ => .dict []
  | .dic _ => .dict []
  | .dicN _ _ => .dict []
def D.pys : List D → List PyData
  | [] => []
  | d :: ds => d.py :: D.pys ds
end
mutual
/-- no object but lists and tuples, at most n deep -/
def D.ok : Nat → D → Bool
  | _, .non => true
  | _, .bl _ => true
  | _, .int _ => true
  | _, .str _ => true
  | 0, _ => false
  | n + 1, .lst ds => D.oks n ds
  | n + 1, .tup ds => D.oks n ds
  | _, .ins _ _ => false
  | _, .kst _ => false
  | _, .dic _ => false
  | _, .dicN _ _ => false
def D.oks : Nat → List D → Bool
  | _, [] => true
  | n, d :: ds => D.ok n d && D.oks n ds
end
theorem oks_all : ∀ (n : Nat) (ds : List D), D.oks n ds = ds.all (D.ok n)
  | _, [] => by rw [D.oks]; rfl
  | n, d :: ds => by rw [D.oks, List.all_cons, oks_all n ds]
theorem pys_map : ∀ ds : List D, D.pys ds = ds.map D.py
  | [] => by rw [D.pys]; rfl
  | d :: ds => by rw [D.pys, List.map_cons, pys_map ds]
theorem ok_lst {n : Nat} {ds : List D} (h : ∀ d ∈ ds, D.ok n d = true) : D.ok (n + 1) (.lst ds) = true := by
  rw [D.ok, oks_all, List.all_eq_true]
  exact h
theorem ok_tup {n : Nat} {ds : List D} (h : ∀ d ∈ ds, D.ok n d = true) : D.ok (n + 1) (.tup ds) = true := by
  rw [D.ok, oks_all, List.all_eq_true]
  exact h
mutual
theorem ok_plain : ∀ (n : Nat) (d : D), D.ok n d = true → d.py.plain = true ∧ d.py.depth ≤ n
  | n, .non, _ => ⟨rfl, Nat.zero_le _⟩
  | n, .bl _, _ => ⟨rfl, Nat.zero_le _⟩
  | n, .int _, _ => ⟨rfl, Nat.zero_le _⟩
  | n, .str _, _ => ⟨rfl, Nat.zero_le _⟩
  | 0, .lst _, h => by simp [D.ok] at h
  | 0, .tup _, h => by simp [D.ok] at h
  | n + 1, .lst ds, h => by
    have h' : D.oks n ds = true := by simpa [D.ok] using h
    obtain ⟨h1, h2⟩ := oks_plain n ds h'
    rw [D.py, PyData.plain, PyData.depth]
    exact ⟨h1, Nat.succ_le_succ h2⟩
  | n + 1, .tup ds, h => by
    have h' : D.oks n ds = true := by simpa [D.ok] using h
    obtain ⟨h1, h2⟩ := oks_plain n ds h'
    rw [D.py, PyData.plain, PyData.depth]
    exact ⟨h1, Nat.succ_le_succ h2⟩
  | n, .ins _ _, h => by cases n <;> simp [D.ok] at h
  | n, .dic _, h => by cases n <;> simp [D.ok] at h
  | n, .dicN _ _, h => by cases n <;> simp [D.ok] at h
  | n, .kst _, h => by cases n <;> simp [D.ok] at h
theorem oks_plain : ∀ (n : Nat) (ds : List D), D.oks n ds = true → PyData.plainAll (D.pys ds) = true ∧ PyData.depthAll (D.pys ds) ≤ n
  | n, [], _ => by
    rw [D.pys, PyData.plainAll, PyData.depthAll]
    exact ⟨rfl, Nat.zero_le _⟩
  | n, d :: ds, h => by
    rw [D.oks, Bool.and_eq_true] at h
    obtain ⟨a1, a2⟩ := ok_plain n d h.1
    obtain ⟨b1, b2⟩ := oks_plain n ds h.2
    rw [D.pys, PyData.plainAll, PyData.depthAll, a1, b1]
    exact ⟨rfl, Nat.max_le.mpr ⟨a2, b2⟩⟩
end
mutual
theorem Rp.dp {K : PySem.W.Frag} {H : Hp} : ∀ {v : V} {d : D} (n : Nat), Rp K H v d → D.ok n d = true → Dp K H v d.py
  | _, _, _, .non, _ => .non
  | _, _, _, .bl b, _ => .bl b
  | _, _, _, .int i, _ => .int i
  | _, _, _, .str x, _ => .str x
  | _, _, 0, .lst h r, z => by simp [D.ok] at z
  | _, _, n + 1, .lst h r, z => .lst (SqL.of h) (RpAll.dp n r (by simpa [D.ok] using z))
  | _, _, 0, .tup h r, z => by simp [D.ok] at z
  | _, _, n + 1, .tup h r, z => .tup h (RpAll.dp n r (by simpa [D.ok] using z))
  | _, _, n, .ins h r, z => by cases n <;> simp [D.ok] at z
  | _, _, n, .dic h r, z => by cases n <;> simp [D.ok] at z
  | _, _, n, .dicN h r, z => by cases n <;> simp [D.ok] at z
  | _, _, n, .kst h r, z => by cases n <;> simp [D.ok] at z
theorem RpAll.dp {K : PySem.W.Frag} {H : Hp} : ∀ {vs : List V} {ds : List D} (n : Nat), RpAll K H vs ds → D.oks n ds = true → DpAll K H vs (D.pys ds)
  | _, _, _, .nil, _ => .nil
  | _, _, n, .cons h r, z => by
    rw [D.oks, Bool.and_eq_true] at z
    exact .cons (Rp.dp n h z.1) (RpAll.dp n r z.2)
end
/-- == of data -/
def deq (x y : D) : Bool := PyData.eqv x.py y.py
theorem deq_refl {n : Nat} {d : D} (h : D.ok n d = true) : deq d d = true := SeqAt.eqv_refl_plain d.py (ok_plain n d h).1

/-- == and != of data at most 32 deep -/
def rEqO (K : PySem.W.Frag) : R2 := fun x y H Q => ∃ d e : D, Rp K H x d ∧ Rp K H y e ∧ D.ok 32 d = true ∧ D.ok 32 e = true ∧ Q (.bl (deq d e)) H
def rNeO (K : PySem.W.Frag) : R2 := fun x y H Q => ∃ d e : D, Rp K H x d ∧ Rp K H y e ∧ D.ok 32 d = true ∧ D.ok 32 e = true ∧ Q (.bl (!deq d e)) H
def rInO (K : PySem.W.Frag) (neg : Bool) : R2 := fun x y H Q => ∃ (d : D) (ds : List D), Rp K H x d ∧ (Rp K H y (.lst ds) ∨ Rp K H y (.tup ds)) ∧ D.ok 32 d = true ∧ D.oks 32 ds = true ∧ Q (.bl (if neg then !ds.any (fun z => deq z d) else ds.any fun z => deq z d)) H
section
variable {X : Cx}
theorem min_room {A : Around} {a b : Nat} (h : a ≤ 32) (hu : A.units + 64 < cLine) : A.units + min a b < cLine := by
  have : min a b ≤ a := Nat.min_le_left _ _
  omega
theorem op_eqO (hu : X.A.units + 64 < cLine) : OpR X (compareOp .Eq) (rEqO X.K) := fun pins s σ H x y v u Q I rx ry h => by
  obtain ⟨d, e, hd, he, od, oe, q⟩ := h
  obtain ⟨as, r1⟩ := Dp.reads I d.py x v (hd.dp 32 od) rx
  obtain ⟨bs, r2⟩ := Dp.reads I e.py y u (he.dp 32 oe) ry
  exact SeqAt.eq_plain r1 r2 (ok_plain _ _ od).1 (ok_plain _ _ oe).1 (min_room (ok_plain _ _ od).2 hu) ⟨.bl _, H, I, rfl, q⟩
theorem op_neO (hu : X.A.units + 64 < cLine) : OpR X (compareOp .NotEq) (rNeO X.K) := fun pins s σ H x y v u Q I rx ry h => by
  obtain ⟨d, e, hd, he, od, oe, q⟩ := h
  obtain ⟨as, r1⟩ := Dp.reads I d.py x v (hd.dp 32 od) rx
  obtain ⟨bs, r2⟩ := Dp.reads I e.py y u (he.dp 32 oe) ry
  exact SeqAt.ne_plain r1 r2 (ok_plain _ _ od).1 (ok_plain _ _ oe).1 (min_room (ok_plain _ _ od).2 hu) ⟨.bl _, H, I, rfl, q⟩
theorem any_pys (d : D) : ∀ ds : List D, ((D.pys ds).any fun y => PyData.eqv y d.py) = ds.any fun z => deq z d
  | [] => by rw [D.pys]; rfl
  | e :: ds => by
    rw [D.pys, List.any_cons, List.any_cons, any_pys d ds]
    rfl
theorem op_inO (hu : X.A.units + 64 < cLine) : OpR X (compareOp .In) (rInO X.K false) := fun pins s σ H x y v u Q I rx ry h => by
  obtain ⟨d, ds, hd, he, od, oe, q⟩ := h
  obtain ⟨as, r1⟩ := Dp.reads I d.py x v (hd.dp 32 od) rx
  obtain ⟨p1, p2⟩ := oks_plain _ _ oe
  have room : X.A.units + 1 + min (PyData.depthAll (D.pys ds)) d.py.depth < cLine := by
    have : min (PyData.depthAll (D.pys ds)) d.py.depth ≤ 32 := Nat.le_trans (Nat.min_le_left _ _) p2
    omega
  rcases he with he | he
  · obtain ⟨bs, r2⟩ := Dp.reads I _ y u (he.dp 33 (by rw [D.ok]; exact oe)) ry
    rw [D.py] at r2
    refine SeqAt.in_list_data r2 r1 p1 (ok_plain _ _ od).1 room ⟨.bl _, H, I, rfl, ?_⟩
    rw [any_pys]
    exact q
  · obtain ⟨bs, r2⟩ := Dp.reads I _ y u (he.dp 33 (by rw [D.ok]; exact oe)) ry
    rw [D.py] at r2
    refine SeqAt.in_tuple_data r2 r1 p1 (ok_plain _ _ od).1 room ⟨.bl _, H, I, rfl, ?_⟩
    rw [any_pys]
    exact q
theorem op_notInO (hu : X.A.units + 64 < cLine) : OpR X (compareOp .NotIn) (rInO X.K true) := fun pins s σ H x y v u Q I rx ry h => by
  obtain ⟨d, ds, hd, he, od, oe, q⟩ := h
  obtain ⟨as, r1⟩ := Dp.reads I d.py x v (hd.dp 32 od) rx
  obtain ⟨p1, p2⟩ := oks_plain _ _ oe
  have room : X.A.units + 1 + min (PyData.depthAll (D.pys ds)) d.py.depth < cLine := by
    have : min (PyData.depthAll (D.pys ds)) d.py.depth ≤ 32 := Nat.le_trans (Nat.min_le_left _ _) p2
    omega
  rcases he with he | he
  · obtain ⟨bs, r2⟩ := Dp.reads I _ y u (he.dp 33 (by rw [D.ok]; exact oe)) ry
    rw [D.py] at r2
    refine SeqAt.notIn_list_data r2 r1 p1 (ok_plain _ _ od).1 room ⟨.bl _, H, I, rfl, ?_⟩
    rw [any_pys]
    exact q
  · obtain ⟨bs, r2⟩ := Dp.reads I _ y u (he.dp 33 (by rw [D.ok]; exact oe)) ry
    rw [D.py] at r2
    refine SeqAt.notIn_tuple_data r2 r1 p1 (ok_plain _ _ od).1 room ⟨.bl _, H, I, rfl, ?_⟩
    rw [any_pys]
    exact q
end

section
variable {T : List Addr} {X : Cx} {ρ : List Slot} {O O1 O2 O3 : OH} {e a b c : Expr} {rest : List Expr} {pos : Pos} {d x y z : D} {p q : Bool}
theorem rop_eqO (hx : D.ok 32 x = true) (hy : D.ok 32 y = true) : ROp T X (rEqO X.K) O x y (.bl (deq x y)) O := fun v w B H hA rv rw' Q q => ⟨x, y, rv.mono hA.base, rw'.mono hA.base, hx, hy, q _ B H (Post.refl hA) (.bl _)⟩
theorem rop_neO (hx : D.ok 32 x = true) (hy : D.ok 32 y = true) : ROp T X (rNeO X.K) O x y (.bl (!deq x y)) O := fun v w B H hA rv rw' Q q => ⟨x, y, rv.mono hA.base, rw'.mono hA.base, hx, hy, q _ B H (Post.refl hA) (.bl _)⟩
theorem rop_inL {ds : List D} (neg : Bool) (hx : D.ok 32 x = true) (hy : D.oks 32 ds = true) : ROp T X (rInO X.K neg) O x (.lst ds) (.bl (if neg then !ds.any (fun z => deq z x) else ds.any fun z => deq z x)) O :=
  fun v w B H hA rv rw' Q q => ⟨x, ds, rv.mono hA.base, .inl (rw'.mono hA.base), hx, hy, q _ B H (Post.refl hA) (.bl _)⟩
theorem rop_inT {ds : List D} (neg : Bool) (hx : D.ok 32 x = true) (hy : D.oks 32 ds = true) : ROp T X (rInO X.K neg) O x (.tup ds) (.bl (if neg then !ds.any (fun z => deq z x) else ds.any fun z => deq z x)) O :=
  fun v w B H hA rv rw' Q q => ⟨x, ds, rv.mono hA.base, .inr (rw'.mono hA.base), hx, hy, q _ B H (Post.refl hA) (.bl _)⟩
theorem de_eq {k : Nat} (hr : Room k X.A) (hx : D.ok 32 x = true) (hy : D.ok 32 y = true) (ha : DE T X a ρ O x O1) (hb : DE T X b ρ O1 y O2) : DE T X (.Compare a [.Eq] [b] pos) ρ O (.bl (deq x y)) O2 := de_cmp (op_eqO hr.units) (nomark _) ha hb (rop_eqO hx hy)
theorem de_ne {k : Nat} (hr : Room k X.A) (hx : D.ok 32 x = true) (hy : D.ok 32 y = true) (ha : DE T X a ρ O x O1) (hb : DE T X b ρ O1 y O2) : DE T X (.Compare a [.NotEq] [b] pos) ρ O (.bl (!deq x y)) O2 := de_cmp (op_neO hr.units) (nomark _) ha hb (rop_neO hx hy)
theorem dt_eq {k : Nat} (hr : Room k X.A) (hx : D.ok 32 x = true) (hy : D.ok 32 y = true) (ha : DE T X a ρ O x O1) (hb : DE T X b ρ O1 y O2) : DT T X (.Compare a [.Eq] [b] pos) ρ O (deq x y) O2 := dt_cmp (op_eqO hr.units) (nomark _) ha hb (rop_eqO hx hy)
theorem dt_ne {k : Nat} (hr : Room k X.A) (hx : D.ok 32 x = true) (hy : D.ok 32 y = true) (ha : DE T X a ρ O x O1) (hb : DE T X b ρ O1 y O2) : DT T X (.Compare a [.NotEq] [b] pos) ρ O (!deq x y) O2 := dt_cmp (op_neO hr.units) (nomark _) ha hb (rop_neO hx hy)
theorem de_inL {k : Nat} {ds : List D} (hr : Room k X.A) (hx : D.ok 32 x = true) (hy : D.oks 32 ds = true) (ha : DE T X a ρ O x O1) (hb : DE T X b ρ O1 (.lst ds) O2) (hm : behindInMarks .In b = false := by rfl) : DE T X (.Compare a [.In] [b] pos) ρ O (.bl (ds.any fun z => deq z x)) O2 := de_cmp (op_inO hr.units) hm ha hb (rop_inL false hx hy)
theorem de_inT {k : Nat} {ds : List D} (hr : Room k X.A) (hx : D.ok 32 x = true) (hy : D.oks 32 ds = true) (ha : DE T X a ρ O x O1) (hb : DE T X b ρ O1 (.tup ds) O2) (hm : behindInMarks .In b = false := by rfl) : DE T X (.Compare a [.In] [b] pos) ρ O (.bl (ds.any fun z => deq z x)) O2 := de_cmp (op_inO hr.units) hm ha hb (rop_inT false hx hy)
theorem dt_inL {k : Nat} {ds : List D} (hr : Room k X.A) (hx : D.ok 32 x = true) (hy : D.oks 32 ds = true) (ha : DE T X a ρ O x O1) (hb : DE T X b ρ O1 (.lst ds) O2) (hm : behindInMarks .In b = false := by rfl) : DT T X (.Compare a [.In] [b] pos) ρ O (ds.any fun z => deq z x) O2 := dt_cmp (op_inO hr.units) hm ha hb (rop_inL false hx hy)
theorem dt_inT {k : Nat} {ds : List D} (hr : Room k X.A) (hx : D.ok 32 x = true) (hy : D.oks 32 ds = true) (ha : DE T X a ρ O x O1) (hb : DE T X b ρ O1 (.tup ds) O2) (hm : behindInMarks .In b = false := by rfl) : DT T X (.Compare a [.In] [b] pos) ρ O (ds.any fun z => deq z x) O2 := dt_cmp (op_inO hr.units) hm ha hb (rop_inT false hx hy)
theorem dt_ninL {k : Nat} {ds : List D} (hr : Room k X.A) (hx : D.ok 32 x = true) (hy : D.oks 32 ds = true) (ha : DE T X a ρ O x O1) (hb : DE T X b ρ O1 (.lst ds) O2) (hm : behindInMarks .NotIn b = false := by rfl) : DT T X (.Compare a [.NotIn] [b] pos) ρ O (!ds.any fun z => deq z x) O2 := dt_cmp (op_notInO hr.units) hm ha hb (rop_inL true hx hy)
theorem dt_ninT {k : Nat} {ds : List D} (hr : Room k X.A) (hx : D.ok 32 x = true) (hy : D.oks 32 ds = true) (ha : DE T X a ρ O x O1) (hb : DE T X b ρ O1 (.tup ds) O2) (hm : behindInMarks .NotIn b = false := by rfl) : DT T X (.Compare a [.NotIn] [b] pos) ρ O (!ds.any fun z => deq z x) O2 := dt_cmp (op_notInO hr.units) hm ha hb (rop_inT true hx hy)
/-- is None, is not None -/
def D.isNon : D → Bool
  | .non => true
  | _ => false
theorem Rp.isNon {K : PySem.W.Frag} {H : Hp} {v : V} {d : D} (r : Rp K H v d) : decide (v = .non) = d.isNon := by
  cases r <;> first | rfl | exact decide_eq_false fun z => by cases z
theorem rop_isN : ROp T X (fun x y H Q => y = .non ∧ Q (.bl (decide (x = .non))) H) O x .non (.bl x.isNon) O := fun v w B H hA rv rw' Q q => by
  cases rw'
  exact ⟨rfl, q _ B H (Post.refl hA) (by rw [rv.isNon]; exact .bl _)⟩
theorem rop_notN : ROp T X (fun x y H Q => y = .non ∧ Q (.bl (!decide (x = .non))) H) O x .non (.bl (!x.isNon)) O := fun v w B H hA rv rw' Q q => by
  cases rw'
  exact ⟨rfl, q _ B H (Post.refl hA) (by rw [rv.isNon]; exact .bl _)⟩
theorem de_isN (ha : DE T X a ρ O x O1) (hb : DE T X b ρ O1 .non O2) : DE T X (.Compare a [.Is] [b] pos) ρ O (.bl x.isNon) O2 := de_cmp op_isN (nomark _) ha hb rop_isN
theorem de_notN (ha : DE T X a ρ O x O1) (hb : DE T X b ρ O1 .non O2) : DE T X (.Compare a [.IsNot] [b] pos) ρ O (.bl (!x.isNon)) O2 := de_cmp op_notN (nomark _) ha hb rop_notN
theorem dt_isN (ha : DE T X a ρ O x O1) (hb : DE T X b ρ O1 .non O2) : DT T X (.Compare a [.Is] [b] pos) ρ O x.isNon O2 := dt_cmp op_isN (nomark _) ha hb rop_isN
theorem dt_notN (ha : DE T X a ρ O x O1) (hb : DE T X b ρ O1 .non O2) : DT T X (.Compare a [.IsNot] [b] pos) ρ O (!x.isNon) O2 := dt_cmp op_notN (nomark _) ha hb rop_notN

/-! ### and, or, not, if else -/
theorem de_one {op} (ha : DE T X a ρ O x O1) : DE T X (.BoolOp op [a] pos) ρ O x O1 := de_of (pe_one pe_we) fun σ B H hE hA Q q => ha σ B H hE hA Q q
theorem de_and (ha : DE T X a ρ O (.bl p) O1) (hb : p = true → DE T X (.BoolOp .And (b :: rest) pos) ρ O1 (.bl q) O1) : DE T X (.BoolOp .And (a :: b :: rest) pos) ρ O (.bl (p && q)) O1 :=
  de_of (pe_and pe_we pe_we) fun σ B H hE hA Q k => ha σ B H hE hA _ fun v B1 H1 p1 r1 => by
    cases r1
    refine ⟨p, rfl, ?_⟩
    cases p with
    | false => exact k _ B1 H1 p1 (.bl false)
    | true => exact hb rfl σ B1 H1 (hE.mono p1.bb) p1.at' Q fun w B2 H2 p2 r2 => k w B2 H2 (p1.trans p2) r2
theorem de_or (ha : DE T X a ρ O (.bl p) O1) (hb : p = false → DE T X (.BoolOp .Or (b :: rest) pos) ρ O1 (.bl q) O1) : DE T X (.BoolOp .Or (a :: b :: rest) pos) ρ O (.bl (p || q)) O1 :=
  de_of (pe_or pe_we pe_we) fun σ B H hE hA Q k => ha σ B H hE hA _ fun v B1 H1 p1 r1 => by
    cases r1
    refine ⟨p, rfl, ?_⟩
    cases p with
    | true => exact k _ B1 H1 p1 (.bl true)
    | false => exact hb rfl σ B1 H1 (hE.mono p1.bb) p1.at' Q fun w B2 H2 p2 r2 => k w B2 H2 (p1.trans p2) r2
theorem de_not (ha : DE T X a ρ O (.bl p) O1) : DE T X (.UnaryOp .Not a pos) ρ O (.bl (!p)) O1 :=
  de_of (pe_not pe_we) fun σ B H hE hA Q k => ha σ B H hE hA _ fun v B1 H1 p1 r1 => by
    cases r1
    exact ⟨p, rfl, k _ B1 H1 p1 (.bl _)⟩
/-- tests -/
theorem dt_of {t : TT} (h : PT X e t) (ht : ∀ (σ : L2.St) (B H : Hp), Env X.K B σ ρ → At T X.K B O H → ∀ Q : Bool → Hp → Prop, (∀ B' H', Post T X.K B O H B' O1 H' → Q p H') → t σ H Q) : DT T X e ρ O p O1 :=
  .mk fun σ B H hE hA Q q => wt_of h (ht σ B H hE hA Q q)
theorem dt_val (ha : DE T X e ρ O (.bl p) O1) (he : ∀ whole, isTrue e X.env whole = (do let v ← whole; standAt e.pos; holding [v] (truthy v)) := by intro _; rfl) : DT T X e ρ O p O1 :=
  dt_of (pt_val pe_we he) fun σ B H hE hA Q k => ha σ B H hE hA _ fun v B1 H1 p1 r1 => by
    cases r1
    exact ⟨p, rfl, k B1 H1 p1⟩
theorem dt_not (ha : DT T X a ρ O p O1) : DT T X (.UnaryOp .Not a pos) ρ O (!p) O1 :=
  dt_of (pt_not pt_wt) fun σ B H hE hA Q k => ha σ B H hE hA _ fun B1 H1 p1 => k B1 H1 p1
theorem DW.dt (h : DW T X e ρ O p O1) : DT T X e ρ O p O1 := .mk fun σ B H hE hA Q q pins s I => h σ B H hE hA Q q _ pins s I
theorem dw_of {t : TT} (h : PW X e t) (ht : ∀ (σ : L2.St) (B H : Hp), Env X.K B σ ρ → At T X.K B O H → ∀ Q : Bool → Hp → Prop, (∀ B' H', Post T X.K B O H B' O1 H' → Q p H') → t σ H Q) : DW T X e ρ O p O1 :=
  .mk fun σ B H hE hA Q q => ww_of h (ht σ B H hE hA Q q)
theorem dw_and1 (ha : DT T X a ρ O p O1) : DW T X (.BoolOp .And [a] pos) ρ O p O1 := dw_of (pw_and1 pt_wt) fun σ B H hE hA Q k => ha σ B H hE hA Q k
theorem dw_or1 (ha : DT T X a ρ O p O1) : DW T X (.BoolOp .Or [a] pos) ρ O p O1 := dw_of (pw_or1 pt_wt) fun σ B H hE hA Q k => ha σ B H hE hA Q k
theorem dw_and (ha : DT T X a ρ O p O1) (hb : p = true → DW T X (.BoolOp .And (b :: rest) pos) ρ O1 q O1) : DW T X (.BoolOp .And (a :: b :: rest) pos) ρ O (p && q) O1 :=
  dw_of (pw_and pt_wt pw_ww) fun σ B H hE hA Q k => ha σ B H hE hA _ fun B1 H1 p1 => by
    cases p with
    | false => exact k B1 H1 p1
    | true => exact fun wh pins s I => hb rfl σ B1 H1 (hE.mono p1.bb) p1.at' Q (fun B2 H2 p2 => k B2 H2 (p1.trans p2)) wh pins s I
theorem dw_or (ha : DT T X a ρ O p O1) (hb : p = false → DW T X (.BoolOp .Or (b :: rest) pos) ρ O1 q O1) : DW T X (.BoolOp .Or (a :: b :: rest) pos) ρ O (p || q) O1 :=
  dw_of (pw_or pt_wt pw_ww) fun σ B H hE hA Q k => ha σ B H hE hA _ fun B1 H1 p1 => by
    cases p with
    | true => exact k B1 H1 p1
    | false => exact fun wh pins s I => hb rfl σ B1 H1 (hE.mono p1.bb) p1.at' Q (fun B2 H2 p2 => k B2 H2 (p1.trans p2)) wh pins s I
theorem de_if (hc : DT T X c ρ O p O1) (h1 : p = true → DE T X a ρ O1 d O2) (h2 : p = false → DE T X b ρ O1 d O2) : DE T X (.IfExp c a b pos) ρ O d O2 :=
  de_of (pe_ifExp pt_wt pe_we pe_we) fun σ B H hE hA Q k => hc σ B H hE hA _ fun B1 H1 p1 => by
    cases p with
    | true => exact h1 rfl σ B1 H1 (hE.mono p1.bb) p1.at' Q fun v B2 H2 p2 r2 => k v B2 H2 (p1.trans p2) r2
    | false => exact h2 rfl σ B1 H1 (hE.mono p1.bb) p1.at' Q fun v B2 H2 p2 r2 => k v B2 H2 (p1.trans p2) r2

/-! ### arguments, displays -/
variable {es : List Expr} {s : Slot} {ss : List Slot} {ds : List D}
theorem da_of {t : TA} (h : PA X es t) (ht : ∀ (σ : L2.St) (B H : Hp), Env X.K B σ ρ → At T X.K B O H → ∀ Q : List V → Hp → Prop, (∀ vs B' H', Post T X.K B O H B' O1 H' → Args X.K B' vs ss → Q vs H') → t σ H Q) : DA T X es ρ O ss O1 :=
  .mk fun σ B H hE hA Q q => wa_of h (ht σ B H hE hA Q q)
theorem da_nil : DA T X [] ρ O [] O := da_of pa_nil fun σ B H hE hA Q k => k [] B H (Post.refl hA) .nil
theorem da_cons (ha : DV T X e ρ O s O1) (hr : DA T X es ρ O1 ss O2) (hs : starEach (e :: es) X.env = (false, eval e X.env) :: starEach es X.env := by rfl) : DA T X (e :: es) ρ O (s :: ss) O2 :=
  da_of (pa_cons pe_we pa_wa hs) fun σ B H hE hA Q k => ha σ B H hE hA _ fun v B1 H1 p1 r1 => hr σ B1 H1 (hE.mono p1.bb) p1.at' _ fun vs B2 H2 p2 r2 => k (v :: vs) B2 H2 (p1.trans p2) (.cons (r1.mono p2.bb) r2)
theorem da_one (ha : DV T X e ρ O s O1) (hs : starEach [e] X.env = (false, eval e X.env) :: starEach [] X.env := by rfl) : DA T X [e] ρ O [s] O1 := da_cons ha da_nil hs
/-- *e in a display -/
theorem da_starT {x1 : Pos} (ha : DE T X e ρ O (.tup ds) O1) (hr : DA T X es ρ O1 ss O2) (hs : starEach (.Starred e x1 :: es) X.env = (true, eval e X.env) :: starEach es X.env := by rfl) : DA T X (.Starred e x1 :: es) ρ O (ds.map .dat ++ ss) O2 :=
  da_of (StX.pa_star pe_we pa_wa hs) fun σ B H hE hA Q k => ha σ B H hE hA _ fun v B1 H1 p1 r1 => by
    cases r1 with
    | tup h r => exact ⟨_, _, rfl, .inl (same_t p1.at'.base h), hr σ B1 H1 (hE.mono p1.bb) p1.at' _ fun vs B2 H2 p2 r2 => k _ B2 H2 (p1.trans p2) (((Args.of r).mono p2.bb).append r2)⟩
theorem da_starL {x1 : Pos} (ha : DE T X e ρ O (.lst ds) O1) (hr : DA T X es ρ O1 ss O2) (hs : starEach (.Starred e x1 :: es) X.env = (true, eval e X.env) :: starEach es X.env := by rfl) : DA T X (.Starred e x1 :: es) ρ O (ds.map .dat ++ ss) O2 :=
  da_of (StX.pa_star pe_we pa_wa hs) fun σ B H hE hA Q k => ha σ B H hE hA _ fun v B1 H1 p1 r1 => by
    cases r1 with
    | lst h r => exact ⟨_, _, rfl, .inr (SqL.of (p1.at'.base _ _ h)), hr σ B1 H1 (hE.mono p1.bb) p1.at' _ fun vs B2 H2 p2 r2 => k _ B2 H2 (p1.trans p2) (((Args.of r).mono p2.bb).append r2)⟩
theorem de_tup {x1} (ha : DA T X es ρ O (ds.map .dat) O1) (hl : ds.length ≤ 10000 := by decide) : DE T X (.Tuple es x1 pos) ρ O (.tup ds) O1 :=
  de_of (pe_tup pa_wa) fun σ B H hE hA Q k => ha σ B H hE hA _ fun vs B1 H1 p1 r1 => ⟨by rw [r1.all.length]; exact Nat.le_trans hl (by decide), fun p hp =>
    k (.ref p) (upd B1 p (.tup vs)) _ (p1.trans (Post.made p1.at' hp)) (.tup (.inl (.inl upd_same)) (r1.all.mono (Post.made p1.at' (o := .tup vs) hp).bb))⟩
theorem de_lst (ha : DA T X es ρ O (ds.map .dat) O1) (hl : ds.length ≤ 10000 := by decide) : DE T X (.List es pos) ρ O (.lst ds) O1 :=
  de_of (pe_lst pa_wa) fun σ B H hE hA Q k => ha σ B H hE hA _ fun vs B1 H1 p1 r1 => ⟨by rw [r1.all.length]; exact Nat.le_trans hl (by decide), fun p hp =>
    k (.ref p) (upd B1 p (.lst vs)) _ (p1.trans (Post.made p1.at' hp)) (.lst upd_same (r1.all.mono (Post.made p1.at' (o := .lst vs) hp).bb))⟩

/-! ### items, attributes -/
theorem atI_rp {K : PySem.W.Frag} {B : Hp} {vs : List V} {ds : List D} {i : Int} (r : RpAll K B vs ds) (h : atI ds i = some d) : ∃ v, atI vs i = some v ∧ Rp K B v d := by
  unfold atI at h ⊢
  rw [r.length]
  cases e : ixN ds.length i with
  | none =>
    rw [e] at h
    cases h
  | some j =>
    rw [e] at h
    exact r.get h
theorem de_ixL {i : Int} (ha : DE T X a ρ O (.lst ds) O1) (hb : DE T X b ρ O1 (.int i) O2) (h : atI ds i = some d) (hs : PlainIx b := by intro _ _; rfl) : DE T X (.Subscript a b pos) ρ O d O2 :=
  de_of (pe_ix ix_list pe_we pe_we hs) fun σ B H hE hA Q k => two ha hb hE hA fun v w B' H' p rv rw' => by
    cases rv with
    | lst hq r =>
      cases rw'
      obtain ⟨u, h1, h2⟩ := atI_rp r h
      exact ⟨_, _, i, u, rfl, rfl, SqL.of (p.at'.base _ _ hq), h1, k u B' H' p h2⟩
theorem de_ixK {i : Int} (ha : DE T X a ρ O (.kst ds) O1) (hb : DE T X b ρ O1 (.int i) O2) (h : atI ds i = some d) (hs : PlainIx b := by intro _ _; rfl) : DE T X (.Subscript a b pos) ρ O d O2 :=
  de_of (pe_ix ix_list pe_we pe_we hs) fun σ B H hE hA Q k => two ha hb hE hA fun v w B' H' p rv rw' => by
    cases rv with
    | kst hq r =>
      cases rw'
      obtain ⟨u, h1, h2⟩ := atI_rp r h
      exact ⟨_, _, i, u, rfl, rfl, p.at'.base.seq hq, h1, k u B' H' p h2⟩
theorem de_ixT {i : Int} (ha : DE T X a ρ O (.tup ds) O1) (hb : DE T X b ρ O1 (.int i) O2) (h : atI ds i = some d) (hs : PlainIx b := by intro _ _; rfl) : DE T X (.Subscript a b pos) ρ O d O2 :=
  de_of (pe_ix ix_tup pe_we pe_we hs) fun σ B H hE hA Q k => two ha hb hE hA fun v w B' H' p rv rw' => by
    cases rv with
    | tup hq r =>
      cases rw'
      obtain ⟨u, h1, h2⟩ := atI_rp r h
      exact ⟨_, _, i, u, rfl, rfl, same_t p.at'.base hq, h1, k u B' H' p h2⟩
/-- a field of a frozen instance -/
theorem de_fld {C : Addr} {f : Str} {fd : List (Str × D)} (cl : Cls X.K C) (na : NoAttr X.K C f) (ha : DE T X e ρ O (.ins C fd) O1) (h : fd.lookup f = some d) (hb : attributeBase e f X.env (eval e X.env) = eval e X.env := by rfl) : DE T X (.Attribute e f pos) ρ O d O1 :=
  de_of (pe_fld pe_we hb) fun σ B H hE hA Q k => ha σ B H hE hA _ fun v B1 H1 p1 r1 => by
    cases r1 with
    | ins hq r =>
      obtain ⟨u, h1, h2⟩ := r.get h
      exact ⟨_, C, _, _, u, rfl, p1.at'.base _ _ hq, cl, na, h1, k u B1 H1 p1 h2⟩
/-- a frozen dict's item -/
theorem de_dget {k : Nat} {kd : List (Key × D)} (hr : Room k X.A) {key : Key} {kx : D} (ha : DE T X a ρ O (.dic kd) O1) (hb : DE T X b ρ O1 kx O2) (hk : ∀ B v, Rp X.K B v kx → v = kV key) (h : (kd.find? fun kv => decide (kv.1 = key)).map (·.2) = some d) (hs : NoSl b := by intro _ _; rfl) :
    DE T X (.Subscript a b pos) ρ O d O2 :=
  de_of (pe_dget (hu_of hr) pe_we pe_we hs) fun σ B H hE hA Q q => two ha hb hE hA fun v w B' H' p rv rw' => by
    cases rv with
    | dic hq r =>
      obtain ⟨u, h1, h2⟩ := r.get h
      have e := hk B' w rw'
      subst e
      refine ⟨_, u, rfl, ?_, q u B' H' p h2⟩
      rw [← h1]
      exact DGet.k (p.at'.base _ _ hq)

/-! ### calls -/
/-- a def's promise: by P, from its arguments and what is owned to its answer and what is owned -/
def spF (T : List Addr) (K : PySem.W.Frag) (P : List Slot → OH → D → OH → Prop) : Sp := fun vs H Q _ => ∃ ss B O d O', P ss O d O' ∧ Args K B vs ss ∧ At T K B O H ∧ ∀ v B' H', Post T K B O H B' O' H' → Rp K B' v d → Q v H'
theorem de_call {CX : CXT} {k : Nat} {f : Addr} {fd : FuncData} {ps : List Str} {P : List Slot → OH → D → OH → Prop} {E : XK} {n : Str} {p : Pos} (F : FnOk X.prog X.w X.K X.mg X.base CX k f fd ps (spF T X.K P)) (hr : Room k X.A) (hm : X.mg n = some (.ref f)) (hk : PySem.W.keepIn X.K (.ref f) = true) (hb : Binds X.K fd ps []) (hx : Passes CX X E)
    (ha : DA T X (e :: es) ρ O ss O1) (h : P ss O1 d O2) (hg : Gl X n := by rfl) (hdb : (n == ("__debug__" : Str)) = false := by decide) (hs : starEach (e :: es) X.env = (false, eval e X.env) :: starEach es X.env := by rfl) (hpl : (backTo pos (starEach es X.env)).any (·.1) = false := by rfl) :
    DE T X (.Call (.Name n p) (e :: es) [] pos) ρ O d O2 :=
  de_of (pe_call F hr hg hm hk hb .nil hx pa_wa hdb hs hpl) fun σ B H hE hA Q q => ha σ B H hE hA _ fun vs B1 H1 p1 r1 => by
    show spF T X.K P (vs ++ []) H1 Q E
    rw [List.append_nil]
    exact ⟨ss, B1, O1, d, O2, h, r1, p1.at', fun v B2 H2 p2 r2 => q v B2 H2 (p1.trans p2) r2⟩
theorem de_call0 {CX : CXT} {k : Nat} {f : Addr} {fd : FuncData} {ps : List Str} {P : List Slot → OH → D → OH → Prop} {E : XK} {n : Str} {p : Pos} (F : FnOk X.prog X.w X.K X.mg X.base CX k f fd ps (spF T X.K P)) (hr : Room k X.A) (hm : X.mg n = some (.ref f)) (hk : PySem.W.keepIn X.K (.ref f) = true) (hb : Binds X.K fd ps []) (hx : Passes CX X E)
    (h : P [] O d O2) (hg : Gl X n := by rfl) (hdb : (n == ("__debug__" : Str)) = false := by decide) :
    DE T X (.Call (.Name n p) [] [] pos) ρ O d O2 :=
  de_of (pe_call0 F hr hg hm hk hb .nil hx hdb) fun σ B H hE hA Q q => by
    show spF T X.K P ([] ++ []) H Q E
    exact ⟨[], B, O, d, O2, h, .nil, hA, fun v B2 H2 p2 r2 => q v B2 H2 p2 r2⟩
end
end Dz

namespace Dz
open PySem PySem.Spec PyProof.Rows L2 GxR

theorem set_same {α : Type} : ∀ {l : List α} {i : Nat} {x : α}, l[i]? = some x → l.set i x = l
  | _ :: _, 0, _, h => by
    cases h
    rfl
  | a :: l, i + 1, x, h => congrArg (a :: ·) (set_same (l := l) (i := i) (by simpa using h))

/-! ### statements -/
/-- what may stand behind a statement: the slots and what is owned; an answer; the reason of the program's own error -/
structure DEn where
  nx : List Slot → OH → Prop
  rt : Slot → OH → Prop
  bk : List Slot → OH → Prop := fun _ _ => False
  ct : List Slot → OH → Prop := fun _ _ => False
  ex : D → OH → Prop := fun _ _ => False
structure Link (T : List Addr) (K : PySem.W.Frag) (CE : Addr) (B : Hp) (O : OH) (H : Hp) (E : DEn) (Dn : Ends) (W : WX) : Prop where
  nx : ∀ ρ O' σ B' H', E.nx ρ O' → Post T K B O H B' O' H' → Env K B' σ ρ → Dn.nx σ H'
  rt : ∀ s O' v B' H', E.rt s O' → Post T K B O H B' O' H' → SlotOk K B' (some v) s → Dn.rt v H'
  bk : ∀ ρ O' σ B' H', E.bk ρ O' → Post T K B O H B' O' H' → Env K B' σ ρ → Dn.bk σ H'
  ct : ∀ ρ O' σ B' H', E.ct ρ O' → Post T K B O H B' O' H' → Env K B' σ ρ → Dn.ct σ H'
  ex : ∀ r O' v dd σ B' H', E.ex r O' → Post T K B O H B' O' H' → H' dd = some (.xd [(("reason" : Str), v)]) → Rp K B' v r → W (.ref CE) (some dd) σ H'
section
variable (T : List Addr) (X : Cx) (CE : Addr)
structure D1 (st : Stmt) (ρ : List Slot) (O : OH) (E : DEn) : Prop where
  run : ∀ (σ : L2.St) (B H : Hp), Env X.K B σ ρ → At T X.K B O H → ∀ (Dn : Ends) (W : WX), Takes X W → Link T X.K CE B O H E Dn W → WS X st Dn σ H
structure DS (st : List Stmt) (ρ : List Slot) (O : OH) (E : DEn) : Prop where
  run : ∀ (σ : L2.St) (B H : Hp), Env X.K B σ ρ → At T X.K B O H → ∀ (Dn : Ends) (W : WX), Takes X W → Link T X.K CE B O H E Dn W → WSs X st Dn σ H
end
instance {T : List Addr} {X : Cx} {CE : Addr} {st : Stmt} {ρ : List Slot} {O : OH} {E : DEn} : CoeFun (D1 T X CE st ρ O E) fun _ => ∀ (σ : L2.St) (B H : Hp), Env X.K B σ ρ → At T X.K B O H → ∀ (Dn : Ends) (W : WX), Takes X W → Link T X.K CE B O H E Dn W → WS X st Dn σ H := ⟨D1.run⟩
instance {T : List Addr} {X : Cx} {CE : Addr} {st : List Stmt} {ρ : List Slot} {O : OH} {E : DEn} : CoeFun (DS T X CE st ρ O E) fun _ => ∀ (σ : L2.St) (B H : Hp), Env X.K B σ ρ → At T X.K B O H → ∀ (Dn : Ends) (W : WX), Takes X W → Link T X.K CE B O H E Dn W → WSs X st Dn σ H := ⟨DS.run⟩
section
variable {T : List Addr} {X : Cx} {CE : Addr} {ρ ρ' : List Slot} {O O1 O2 O3 : OH} {e a b c : Expr} {pos pos' : Pos} {d x y z : D} {p q : Bool} {E : DEn} {s : Slot} {ss : List Slot} {ds : List D} {rest body : List Stmt} {st : Stmt}
theorem Link.step {K : PySem.W.Frag} {B H B1 H1 : Hp} {Dn : Ends} {W : WX} (l : Link T K CE B O H E Dn W) (po : Post T K B O H B1 O1 H1) : Link T K CE B1 O1 H1 E Dn W where
  nx := fun ρ O' σ B' H' h q e => l.nx ρ O' σ B' H' h (po.trans q) e
  rt := fun ρ O' σ B' H' h q e => l.rt ρ O' σ B' H' h (po.trans q) e
  bk := fun ρ O' σ B' H' h q e => l.bk ρ O' σ B' H' h (po.trans q) e
  ct := fun ρ O' σ B' H' h q e => l.ct ρ O' σ B' H' h (po.trans q) e
  ex := fun r O' v dd σ B' H' h q e1 e2 => l.ex r O' v dd σ B' H' h (po.trans q) e1 e2
theorem ds_nil (h : E.nx ρ O) : DS T X CE [] ρ O E := .mk fun σ B H hE hA Dn W tk l => wss_of pss_nil (l.nx ρ O σ B H h (Post.refl hA) hE)
theorem ds_one (h : D1 T X CE st ρ O E) : DS T X CE [st] ρ O E := .mk fun σ B H hE hA Dn W tk l => wss_of (pss_one ps_ws) (h σ B H hE hA Dn W tk l)
theorem ds_cons (h : D1 T X CE st ρ O { E with nx := fun ρ' O' => DS T X CE rest ρ' O' E }) : DS T X CE (st :: rest) ρ O E := .mk fun σ B H hE hA Dn W tk l => by
  refine wss_of (pss_cons ps_ws pss_wss) ?_
  refine h σ B H hE hA { Dn with nx := WSs X rest Dn } W tk ⟨fun ρ' O' σ' B' H' k po e => ?_, l.rt, l.bk, l.ct, l.ex⟩
  exact k σ' B' H' e po.at' Dn W tk (l.step po)
/-- weaker ends -/
theorem DS.imp {E' : DEn} (h : DS T X CE body ρ O E) (h1 : ∀ ρ O, E.nx ρ O → E'.nx ρ O) (h2 : ∀ s O, E.rt s O → E'.rt s O) (h3 : ∀ ρ O, E.bk ρ O → E'.bk ρ O) (h4 : ∀ ρ O, E.ct ρ O → E'.ct ρ O) (h5 : ∀ r O, E.ex r O → E'.ex r O) : DS T X CE body ρ O E' :=
  .mk fun σ B H hE hA Dn W tk l => h σ B H hE hA Dn W tk ⟨fun _ _ _ _ _ k => l.nx _ _ _ _ _ (h1 _ _ k), fun _ _ _ _ _ k => l.rt _ _ _ _ _ (h2 _ _ k), fun _ _ _ _ _ k => l.bk _ _ _ _ _ (h3 _ _ k), fun _ _ _ _ _ k => l.ct _ _ _ _ _ (h4 _ _ k), fun _ _ _ _ _ _ _ k => l.ex _ _ _ _ _ _ _ (h5 _ _ k)⟩
theorem d1_pass (h : E.nx ρ O) : D1 T X CE (.Pass pos) ρ O E := .mk fun σ B H hE hA Dn W tk l => ws_of ps_pass (l.nx ρ O σ B H h (Post.refl hA) hE)
theorem d1_break (h : E.bk ρ O) : D1 T X CE (.Break pos) ρ O E := .mk fun σ B H hE hA Dn W tk l => ws_of ps_break (l.bk ρ O σ B H h (Post.refl hA) hE)
theorem d1_continue (h : E.ct ρ O) : D1 T X CE (.Continue pos) ρ O E := .mk fun σ B H hE hA Dn W tk l => ws_of ps_continue (l.ct ρ O σ B H h (Post.refl hA) hE)
theorem d1_set (i : Nat) {n : Str} (he : DV T X e ρ O s O1) (h : E.nx (ρ.set i s) O1) (hN : X.N.Nodup) (hi : X.N[i]? = some n := by rfl) (hx : Loc X.env.scope n := by first | exact Or.inl rfl | exact Or.inr rfl) (hs : swapsWith e (some (.Name n pos')) pos.line X.env = pure false := by rfl)
    (hf : X.fn n = true ∨ X.env.scope.names.lookup n = some .local := by first | exact .inl rfl | exact .inr rfl) : D1 T X CE (.Assign [.Name n pos'] e pos) ρ O E :=
  .mk fun σ B H hE hA Dn W tk l => ws_of (ps_set hN hi hx pe_we hs hf) (he σ B H hE hA _ fun v B1 H1 p1 r1 => l.nx _ _ _ B1 H1 h p1 ((hE.mono p1.bb).set r1 i))
theorem d1_ret (he : DV T X e ρ O s O1) (h : E.rt s O1) : D1 T X CE (.Return (some e) pos) ρ O E :=
  .mk fun σ B H hE hA Dn W tk l => ws_of (ps_ret pe_we) (he σ B H hE hA _ fun v B1 H1 p1 r1 => l.rt _ _ v B1 H1 h p1 r1)
theorem d1_retN (h : E.rt (.dat .non) O) : D1 T X CE (.Return none pos) ρ O E :=
  .mk fun σ B H hE hA Dn W tk l => ws_of ps_retN (l.rt _ _ .non B H h (Post.refl hA) .non)
theorem d1_if (hc : DT T X c ρ O p O1) (h1 : p = true → DS T X CE body ρ O1 E) (h2 : p = false → DS T X CE rest ρ O1 E) : D1 T X CE (.If c body rest pos) ρ O E :=
  .mk fun σ B H hE hA Dn W tk l => ws_of (ps_if pt_wt pss_wss pss_wss) (hc σ B H hE hA _ fun B1 H1 p1 => by
    cases p with
    | true => exact h1 rfl σ B1 H1 (hE.mono p1.bb) p1.at' Dn W tk (l.step p1)
    | false => exact h2 rfl σ B1 H1 (hE.mono p1.bb) p1.at' Dn W tk (l.step p1))
theorem d1_expr (he : DV T X e ρ O s O1) (h : E.nx ρ O1) (hs : swapsWith e none pos.line X.env = pure false := by rfl) : D1 T X CE (.Expr e pos) ρ O E :=
  .mk fun σ B H hE hA Dn W tk l => ws_of (ps_expr pe_we hs) (he σ B H hE hA _ fun v B1 H1 p1 r1 => l.nx _ _ _ B1 H1 h p1 (hE.mono p1.bb))
theorem d1_doc {t : Str} {j} (h : E.nx ρ O) : D1 T X CE (.Expr (.Constant (.str t) j pos) pos') ρ O E := .mk fun σ B H hE hA Dn W tk l => ws_of ps_doc (l.nx ρ O σ B H h (Post.refl hA) hE)
/-- a list display given to a name, owned -/
theorem d1_own (i : Nat) {n : Str} {es : List Expr} {lp : Pos} (ha : DA T X es ρ O ss O1) (h : ∀ p, O1 p = none → E.nx (ρ.set i (.val (.ref p))) (put O1 p (.lst ss))) (hN : X.N.Nodup) (hl : ss.length ≤ 10000 := by decide) (hi : X.N[i]? = some n := by rfl) (hx : Loc X.env.scope n := by first | exact Or.inl rfl | exact Or.inr rfl)
    (hs : swapsWith (.List es lp) (some (.Name n pos')) pos.line X.env = pure false := by rfl) (hf : X.fn n = true ∨ X.env.scope.names.lookup n = some .local := by first | exact .inl rfl | exact .inr rfl) : D1 T X CE (.Assign [.Name n pos'] (.List es lp) pos) ρ O E :=
  .mk fun σ B H hE hA Dn W tk l => ws_of (ps_set hN hi hx (pe_lst pa_wa) hs hf) (ha σ B H hE hA _ fun vs B1 H1 p1 r1 => ⟨by rw [r1.length]; exact Nat.le_trans hl (by decide), fun p hp =>
    have po := Post.madeO (o := .lst vs) (od := .lst ss) p1.at' hp r1
    l.nx _ _ _ B1 _ (h p (p1.at'.noO hp)) (p1.trans po) ((hE.mono p1.bb).set (s := .val (.ref p)) (show SlotOk X.K B1 (some (.ref p)) (.val (.ref p)) from rfl) i)⟩)
/-- what is owned by the name in slot i becomes data -/
theorem ds_freeze (i : Nat) {a : Addr} (hi : ρ[i]? = some (.val (.ref a))) (ho : O a = some (.lst (ds.map .dat))) (h : DS T X CE body (ρ.set i (.dat (.lst ds))) (cut O a) E) : DS T X CE body ρ O E := .mk fun σ B H hE hA Dn W tk l => by
  obtain ⟨_, u, hu, ok⟩ := hA.own a _ ho
  cases u <;> try exact ok.elim
  rename_i vs
  have po := Post.freeze hA ho hu
  obtain ⟨o, e1, e2⟩ := hE.get hi
  have hE' := (hE.mono po.bb).set (o := some (.ref a)) (s := .dat (.lst ds)) (show SlotOk X.K (upd B a (.lst vs)) (some (.ref a)) (.dat (.lst ds)) from .lst upd_same ((Args.all ok).mono po.bb)) i
  have eo : o = some (.ref a) := by
    cases o with
    | none => exact e2.elim
    | some v => exact congrArg some e2
  subst eo
  have es : σ.set i (some (.ref a)) = σ := set_same e1
  rw [es] at hE'
  exact h σ _ H hE' po.at' Dn W tk (l.step po)
/-- x.append(e), x owned -/
theorem d1_append (i : Nat) {n : Str} {a : Addr} {apos npos : Pos} {s0 : List Slot} (hi : ρ[i]? = some (.val (.ref a))) (h0 : O a = some (.lst s0)) (he : DV T X e ρ O s O1) (ho : O1 a = some (.lst ss)) (hl : ss.length < 100000) (h : E.nx ρ (put O1 a (.lst (ss ++ [s]))))
    (pe : PE X (.Call (.Attribute (.Name n npos) "append" apos) [e] [] pos) (tBM X.K "list" rAppend (tVar i) (tCons (WE X e) tNil)) := by exact pe_bm PySem.F.plainAttrs_list PySem.F.slot_list_append PySem.F.type_list_append mt_append (pv _) (pa_cons pe_we pa_nil)) (hs : swapsWith (.Call (.Attribute (.Name n npos) "append" apos) [e] [] pos) none pos'.line X.env = pure false := by rfl) :
    D1 T X CE (.Expr (.Call (.Attribute (.Name n npos) "append" apos) [e] [] pos) pos') ρ O E := .mk fun σ B H hE hA Dn W tk l => by
  refine ws_of (ps_expr pe hs) ?_
  obtain ⟨o, e1, e2⟩ := hE.get hi
  cases o with
  | none => exact e2.elim
  | some v =>
    have ev : v = .ref a := e2
    subst ev
    obtain ⟨_, u0, hu0, ok0⟩ := hA.own a _ h0
    cases u0 <;> try exact ok0.elim
    refine ⟨_, e1, .inl ⟨rfl, _, SqL.of hu0⟩, ?_⟩
    refine he σ B H hE hA _ fun w B1 H1 p1 r1 => ?_
    obtain ⟨_, u, hu, ok⟩ := p1.at'.own a _ ho
    cases u <;> try exact ok.elim
    rename_i vs
    have lv : vs.length = ss.length := Args.length ok
    have po := Post.put (u := .lst (vs ++ [w])) (od := .lst (ss ++ [s])) p1.at' ho (Args.append ok (.cons r1 .nil))
    exact ⟨a, vs, w, rfl, rfl, hu, by rw [lv]; exact Nat.lt_of_lt_of_le hl (by decide), l.nx _ _ _ B1 _ h (p1.trans po) (hE.mono p1.bb)⟩
/-- x.extend(e), x owned, e a list -/
theorem d1_extend (i : Nat) {n : Str} {a : Addr} {apos npos : Pos} {s0 : List Slot} (hi : ρ[i]? = some (.val (.ref a))) (h0 : O a = some (.lst s0)) (he : DE T X e ρ O (.lst ds) O1) (ho : O1 a = some (.lst ss)) (hl : ss.length + ds.length ≤ 100000) (h : E.nx ρ (put O1 a (.lst (ss ++ ds.map .dat))))
    (pe : PE X (.Call (.Attribute (.Name n npos) "extend" apos) [e] [] pos) (tBM X.K "list" rExtend (tVar i) (tCons (WE X e) tNil)) := by exact pe_bm PySem.F.plainAttrs_list PySem.F.slot_list_extend PySem.F.type_list_extend mt_extend (pv _) (pa_cons pe_we pa_nil)) (hs : swapsWith (.Call (.Attribute (.Name n npos) "extend" apos) [e] [] pos) none pos'.line X.env = pure false := by rfl) :
    D1 T X CE (.Expr (.Call (.Attribute (.Name n npos) "extend" apos) [e] [] pos) pos') ρ O E := .mk fun σ B H hE hA Dn W tk l => by
  refine ws_of (ps_expr pe hs) ?_
  obtain ⟨o, e1, e2⟩ := hE.get hi
  cases o with
  | none => exact e2.elim
  | some v =>
    have ev : v = .ref a := e2
    subst ev
    obtain ⟨_, u0, hu0, ok0⟩ := hA.own a _ h0
    cases u0 <;> try exact ok0.elim
    refine ⟨_, e1, .inl ⟨rfl, _, SqL.of hu0⟩, ?_⟩
    refine he σ B H hE hA _ fun w B1 H1 p1 r1 => ?_
    obtain ⟨_, u, hu, ok⟩ := p1.at'.own a _ ho
    cases u <;> try exact ok.elim
    rename_i vs
    have lv : vs.length = ss.length := Args.length ok
    cases r1
    rename_i b ws hb0 rb
    have hb := p1.at'.base _ _ hb0
    have po := Post.put (u := .lst (vs ++ ws)) (od := .lst (ss ++ ds.map .dat)) p1.at' ho (Args.append ok (Args.of rb))
    exact ⟨a, b, vs, ws, rfl, rfl, hu, hb, by rw [lv, rb.length]; exact Nat.le_trans hl (by decide), l.nx _ _ _ B1 _ h (p1.trans po) (hE.mono p1.bb)⟩
/-- o[i] = e, o owned by a name -/
theorem d1_setitem (i : Nat) {n : Str} {a : Addr} {npos spos : Pos} {k : Int} {j : Nat} (hi : ρ[i]? = some (.val (.ref a))) (he : DV T X e ρ O s O1) (hb : DE T X b ρ O1 (.int k) O2) (ho : O2 a = some (.lst ss)) (hj : ixN ss.length k = some j) (h : E.nx ρ (put O2 a (.lst (ss.set j s))))
    (pn : PE X (.Name n npos) (tVar i) := by exact pv _)
    (hsub : ∀ v, assign (.Subscript (.Name n npos) b spos) X.env v = (do
      let ov ← holding [v] (eval (.Name n npos) X.env)
      let iv ← holding [v, ov] (eval b X.env)
      standAt spos
      holding [v, ov, iv] (setItem ov iv v)
      release [v, ov, iv] []) := by intro _; rfl)
    (h1 : swapsWithSole [.Subscript (.Name n npos) b spos] e pos.line X.env = pure false := by rfl) (h2 : swappedStores [.Subscript (.Name n npos) b spos] e X.env = pure none := by rfl) (h3 : (assignEach [.Subscript (.Name n npos) b spos] X.env).map (·.2) = [assign (.Subscript (.Name n npos) b spos) X.env] := by rfl) :
    D1 T X CE (.Assign [.Subscript (.Name n npos) b spos] e pos) ρ O E := .mk fun σ B H hE hA Dn W tk l => by
  refine ws_of (ps_asg pe_we (pg_sub pn pe_we set_list hsub) h1 h2 h3) ?_
  refine he σ B H hE hA _ fun w B1 H1 p1 r1 => ?_
  obtain ⟨o, e1, e2⟩ := (hE.mono p1.bb).get hi
  cases o with
  | none => exact e2.elim
  | some v =>
    have ev : v = .ref a := e2
    subst ev
    refine ⟨_, e1, ?_⟩
    refine hb σ B1 H1 (hE.mono p1.bb) p1.at' _ fun iv B2 H2 p2 r2 => ?_
    cases r2
    obtain ⟨_, u, hu, ok⟩ := p2.at'.own a _ ho
    cases u <;> try exact ok.elim
    rename_i vs
    have lv : vs.length = ss.length := Args.length ok
    have po := Post.put (u := .lst (vs.set j w)) (od := .lst (ss.set j s)) p2.at' ho (Args.set (r1.mono p2.bb) j ok)
    exact ⟨a, vs, k, j, rfl, rfl, hu, by rw [lv]; exact hj, l.nx _ _ _ B2 _ h ((p1.trans p2).trans po) ((hE.mono p1.bb).mono p2.bb)⟩
/-- reading an owned list: x[i], len(x) -/
theorem dv_ixO (i : Nat) {n : Str} {a : Addr} {npos : Pos} {k : Int} (hi : ρ[i]? = some (.val (.ref a))) (hb : DE T X b ρ O (.int k) O1) (ho : O1 a = some (.lst ss)) (h : atI ss k = some s) (pn : PE X (.Name n npos) (tVar i) := by exact pv _) (hs : PlainIx b := by intro _ _; rfl) :
    DV T X (.Subscript (.Name n npos) b pos) ρ O s O1 := .mk fun σ B H hE hA Q q => by
  refine we_of (pe_ix ix_list pn pe_we hs) ?_
  obtain ⟨o, e1, e2⟩ := hE.get hi
  cases o with
  | none => exact e2.elim
  | some v =>
    have ev : v = .ref a := e2
    subst ev
    refine ⟨_, e1, ?_⟩
    refine hb σ B H hE hA _ fun iv B2 H2 p2 r2 => ?_
    cases r2
    obtain ⟨_, u, hu, ok⟩ := p2.at'.own a _ ho
    cases u <;> try exact ok.elim
    rename_i vs
    unfold atI at h
    cases ek : ixN ss.length k with
    | none =>
      rw [ek] at h
      cases h
    | some j =>
      rw [ek] at h
      obtain ⟨w, h1, h2⟩ := Args.get ok h
      refine ⟨a, vs, k, w, rfl, rfl, SqL.of hu, ?_, q w B2 H2 p2 h2⟩
      unfold atI
      rw [Args.length ok, ek]
      exact h1

/-! ### targets of several names -/
/-- names, from the left -/
inductive Names (X : Cx) : List Expr → List Nat → Prop
  | nil : Names X [] []
  | cons {n : Str} {p : Pos} {i : Nat} {es : List Expr} {is : List Nat} : X.N[i]? = some n → Loc X.env.scope n → (X.fn n = true ∨ X.env.scope.names.lookup n = some .local) → (assignEach (.Name n p :: es) X.env).map (·.2) = assign (.Name n p) X.env :: (assignEach es X.env).map (·.2) →
      Names X es is → Names X (.Name n p :: es) (i :: is)
/-- the slots behind the stores -/
def setAll (ρ : List Slot) : List Nat → List Slot → List Slot
  | i :: is, s :: ss => setAll (ρ.set i s) is ss
  | _, _ => ρ
theorem pgs_names (hN : X.N.Nodup) {es : List Expr} {is : List Nat} (h : Names X es is) : PGs X es (fun vs σ H Q => vs.length = is.length ∧ Q (List.foldl (fun σ (p : Nat × V) => σ.set p.1 (some p.2)) σ (is.zip vs)) H) := by
  induction h with
  | nil =>
    refine ⟨fun pins s σ H vs us Q I r h => ?_⟩
    obtain ⟨h1, h2⟩ := h
    have e : vs = [] := List.length_eq_zero_iff.mp h1
    subst e
    exact pgs_nil.run pins s σ H [] us Q I r ⟨rfl, h2⟩
  | cons h1 h2 h3 h4 _ ih =>
    refine ⟨fun pins s σ H vs us Q I r h => ?_⟩
    obtain ⟨k1, k2⟩ := h
    cases vs with
    | nil => cases k1
    | cons v vs =>
      exact (pgs_cons (pg_name hN h1 h2 h3) ih h4).run pins s σ H (v :: vs) us Q I r ⟨v, vs, rfl, Nat.succ.inj k1, k2⟩
theorem Env.setAll {K : PySem.W.Frag} {B : Hp} : ∀ (is : List Nat) {σ : L2.St} {ρ : List Slot} {vs : List V} {ss : List Slot}, Env K B σ ρ → Args K B vs ss → Env K B (List.foldl (fun σ (p : Nat × V) => σ.set p.1 (some p.2)) σ (is.zip vs)) (Dz.setAll ρ is ss)
  | [], σ, ρ, vs, ss, e, _ => by
    rw [List.zip_nil_left]
    cases ss <;> exact e
  | i :: is, σ, ρ, _, _, e, .nil => e
  | i :: is, σ, ρ, v :: vs, s :: ss, e, .cons h r => by
    show Env K B (List.foldl _ (σ.set i (some v)) (is.zip vs)) (Dz.setAll (ρ.set i s) is ss)
    exact Env.setAll is (e.set h i) r
/-- a, b, .. = e, e a tuple -/
theorem d1_unpack {es : List Expr} {k : Nat} {tp : Pos} {is : List Nat} (he : DE T X e ρ O (.tup ds) O1) (hl : ds.length = is.length) (hn : Names X es is) (h : E.nx (setAll ρ is (ds.map .dat)) O1) (hN : X.N.Nodup) (hc : X.calm = true := by rfl)
    (g1 : (assignEach es X.env).length = is.length := by rfl) (g2 : (assignEach es X.env).findIdx? (·.1) = none := by rfl) (h1 : swapsWithSole [.Tuple es k tp] e pos.line X.env = pure false := by rfl) (h2 : swappedStores [.Tuple es k tp] e X.env = pure none := by rfl) (h3 : (assignEach [.Tuple es k tp] X.env).map (·.2) = [assign (.Tuple es k tp) X.env] := by rfl) :
    D1 T X CE (.Assign [.Tuple es k tp] e pos) ρ O E := .mk fun σ B H hE hA Dn W tk l => by
  refine ws_of (ps_asg pe_we (pg_tup hc (pgs_names hN hn) g1 g2) h1 h2 h3) ?_
  refine he σ B H hE hA _ fun w B1 H1 p1 r1 => ?_
  cases r1 with
  | tup hq r =>
    have e1 : _ = is.length := r.length.trans hl
    exact ⟨_, _, rfl, same_t p1.at'.base hq, e1, e1, l.nx _ _ _ B1 H1 h p1 (Env.setAll is (hE.mono p1.bb) (Args.of r))⟩

/-! ### for -/
theorem d1_forL (i : Nat) {n : Str} {np : Pos} (I : Nat → List Slot → OH → Prop) (he : DE T X e ρ O (.lst ds) O1) (h0 : I 0 ρ O1) (hN : X.N.Nodup)
    (hs : ∀ j d ρ' O', ds[j]? = some d → I j ρ' O' → DS T X CE body (ρ'.set i (.dat d)) O' { E with nx := I (j + 1), ct := I (j + 1), bk := E.nx }) (hd : ∀ ρ' O', I ds.length ρ' O' → E.nx ρ' O')
    (hp : PassesOwn (model X.prog X.w) X.A X.env X.xe) (hc : X.calm = true := by rfl) (hi : X.N[i]? = some n := by rfl) (hx : Loc X.env.scope n := by first | exact Or.inl rfl | exact Or.inr rfl) (hf : X.fn n = true ∨ X.env.scope.names.lookup n = some .local := by first | exact .inl rfl | exact .inr rfl)
    (hfold : ∀ x, foldedSetIterable e X.env x = pure x := by intro _; rfl) :
    D1 T X CE (.For (.Name n np) e body [] pos) ρ O E := .mk fun σ B H hE hA Dn W tk l => by
  refine ws_of (ps_for hp hc (pi_list pe_we) (pg_name hN hi hx hf) pss_wss hfold) ?_
  refine he σ B H hE hA _ fun v B1 H1 p1 r1 => ?_
  cases r1 with
  | lst hq r =>
    rename_i a xs
    refine ⟨a, rfl, ⟨xs, SqL.of (p1.at'.base _ _ hq)⟩, for_list (K := X.K) (a := a) (xs := xs) (fun j σ' H' => ∃ ρ' O' B', I j ρ' O' ∧ Post T X.K B O H B' O' H' ∧ Same B1 B' ∧ Env X.K B' σ' ρ') ⟨ρ, O1, B1, h0, p1, Same.refl _, hE.mono p1.bb⟩ (fun j σ' H' _ ⟨_, _, B', _, po, sb, _⟩ => SqL.of (po.at'.base _ _ (sb _ _ hq))) ?_ ?_⟩
    · rintro j y σ' H' hj ⟨ρ', O', B', hI, po, sb, hE'⟩
      obtain ⟨d, hd1, hd2⟩ := r.getV hj
      refine hs j d ρ' O' hd1 hI _ B' H' (hE'.set (o := some y) (s := .dat d) (show SlotOk X.K B' (some y) (.dat d) from hd2.mono sb) i) po.at' _ W tk ?_
      have l' := l.step po
      exact ⟨fun ρ2 O2 σ2 B2 H2 h p2 e2 => ⟨ρ2, O2, B2, h, po.trans p2, sb.trans p2.bb, e2⟩, l'.rt, l'.nx, fun ρ2 O2 σ2 B2 H2 h p2 e2 => ⟨ρ2, O2, B2, h, po.trans p2, sb.trans p2.bb, e2⟩, l'.ex⟩
    · rintro σ' H' ⟨ρ', O', B', hI, po, sb, hE'⟩
      rw [r.length] at hI
      exact l.nx _ _ _ B' H' (hd ρ' O' hI) po hE'
theorem d1_forT (i : Nat) {n : Str} {np : Pos} (I : Nat → List Slot → OH → Prop) (he : DE T X e ρ O (.tup ds) O1) (h0 : I 0 ρ O1) (hN : X.N.Nodup)
    (hs : ∀ j d ρ' O', ds[j]? = some d → I j ρ' O' → DS T X CE body (ρ'.set i (.dat d)) O' { E with nx := I (j + 1), ct := I (j + 1), bk := E.nx }) (hd : ∀ ρ' O', I ds.length ρ' O' → E.nx ρ' O')
    (hp : PassesOwn (model X.prog X.w) X.A X.env X.xe) (hc : X.calm = true := by rfl) (hi : X.N[i]? = some n := by rfl) (hx : Loc X.env.scope n := by first | exact Or.inl rfl | exact Or.inr rfl) (hf : X.fn n = true ∨ X.env.scope.names.lookup n = some .local := by first | exact .inl rfl | exact .inr rfl)
    (hfold : ∀ x, foldedSetIterable e X.env x = pure x := by intro _; rfl) :
    D1 T X CE (.For (.Name n np) e body [] pos) ρ O E := .mk fun σ B H hE hA Dn W tk l => by
  refine ws_of (ps_for hp hc (pi_tup pe_we) (pg_name hN hi hx hf) pss_wss hfold) ?_
  refine he σ B H hE hA _ fun v B1 H1 p1 r1 => ?_
  cases r1 with
  | tup hq r =>
    rename_i a xs
    refine ⟨a, rfl, ⟨xs, same_t p1.at'.base hq⟩, for_tup (K := X.K) (a := a) (xs := xs) (fun j σ' H' => ∃ ρ' O' B', I j ρ' O' ∧ Post T X.K B O H B' O' H' ∧ Same B1 B' ∧ Env X.K B' σ' ρ') ⟨ρ, O1, B1, h0, p1, Same.refl _, hE.mono p1.bb⟩ (fun j σ' H' _ ⟨_, _, B', _, po, sb, _⟩ => same_t po.at'.base (same_t sb hq)) ?_ ?_⟩
    · rintro j y σ' H' hj ⟨ρ', O', B', hI, po, sb, hE'⟩
      obtain ⟨d, hd1, hd2⟩ := r.getV hj
      refine hs j d ρ' O' hd1 hI _ B' H' (hE'.set (o := some y) (s := .dat d) (show SlotOk X.K B' (some y) (.dat d) from hd2.mono sb) i) po.at' _ W tk ?_
      have l' := l.step po
      exact ⟨fun ρ2 O2 σ2 B2 H2 h p2 e2 => ⟨ρ2, O2, B2, h, po.trans p2, sb.trans p2.bb, e2⟩, l'.rt, l'.nx, fun ρ2 O2 σ2 B2 H2 h p2 e2 => ⟨ρ2, O2, B2, h, po.trans p2, sb.trans p2.bb, e2⟩, l'.ex⟩
    · rintro σ' H' ⟨ρ', O', B', hI, po, sb, hE'⟩
      rw [r.length] at hI
      exact l.nx _ _ _ B' H' (hd ρ' O' hI) po hE'
/-- for n in range(e) -/
theorem d1_forR (i : Nat) {n : Str} {np rp : Pos} {m : Int} (I : Nat → List Slot → OH → Prop) (he : DE T X e ρ O (.int m) O1) (hm : -(2 ^ 62) ≤ m ∧ m < 2 ^ 62) (h0 : I 0 ρ O1) (hN : X.N.Nodup)
    (hs : ∀ (j : Nat) ρ' O', (j : Int) < m → I j ρ' O' → DS T X CE body (ρ'.set i (.dat (.int (j : Int)))) O' { E with nx := I (j + 1), ct := I (j + 1), bk := E.nx }) (hd : ∀ ρ' O', I m.toNat ρ' O' → E.nx ρ' O')
    (hmg : X.mg "range" = none) (hp : PassesOwn (model X.prog X.w) X.A X.env X.xe) (hg : Gl X "range" := by rfl) (hc : X.calm = true := by rfl) (hi : X.N[i]? = some n := by rfl) (hx : Loc X.env.scope n := by first | exact Or.inl rfl | exact Or.inr rfl) (hf : X.fn n = true ∨ X.env.scope.names.lookup n = some .local := by first | exact .inl rfl | exact .inr rfl)
    (h1 : starEach [e] X.env = [(false, eval e X.env)] := by rfl) (hfold : ∀ x, foldedSetIterable (.Call (.Name "range" rp) [e] [] pos') X.env x = pure x := by intro _; rfl) :
    D1 T X CE (.For (.Name n np) (.Call (.Name "range" rp) [e] [] pos') body [] pos) ρ O E := .mk fun σ B H hE hA Dn W tk l => by
  refine ws_of (ps_for hp hc (pi_range1 hg hmg (pa_cons pe_we pa_nil h1) h1) (pg_name hN hi hx hf) pss_wss hfold) ?_
  refine he σ B H hE hA _ fun v B1 H1 p1 r1 => ?_
  cases r1
  refine ⟨m, rfl, hm.1, hm.2, for_range (fun j σ' H' => ∃ ρ' O' B', I j ρ' O' ∧ Post T X.K B O H B' O' H' ∧ Env X.K B' σ' ρ') ⟨ρ, O1, B1, h0, p1, hE.mono p1.bb⟩ ?_ ?_⟩
  · rintro j σ' H' hj ⟨ρ', O', B', hI, po, hE'⟩
    have e0 : (0 : Int) + (j : Int) = (j : Int) := Int.zero_add _
    rw [e0]
    refine hs j ρ' O' (by omega) hI _ B' H' (hE'.set (o := some (.int j)) (s := .dat (.int j)) (show SlotOk X.K B' (some (.int j)) (.dat (.int j)) from .int _) i) po.at' _ W tk ?_
    have l' := l.step po
    exact ⟨fun ρ2 O2 σ2 B2 H2 h p2 e2 => ⟨ρ2, O2, B2, h, po.trans p2, e2⟩, l'.rt, l'.nx, fun ρ2 O2 σ2 B2 H2 h p2 e2 => ⟨ρ2, O2, B2, h, po.trans p2, e2⟩, l'.ex⟩
  · rintro σ' H' ⟨ρ', O', B', hI, po, hE'⟩
    exact l.nx _ _ _ B' H' (hd ρ' O' hI) po hE'
/-- for n in range(a, b) -/
theorem d1_forR2 (i : Nat) {n : Str} {np rp : Pos} {lo m : Int} (I : Nat → List Slot → OH → Prop) (ha : DE T X a ρ O (.int lo) O1) (hb : DE T X b ρ O1 (.int m) O2) (hm : -(2 ^ 62) ≤ lo ∧ lo < 2 ^ 62 ∧ -(2 ^ 62) ≤ m ∧ m < 2 ^ 62) (h0 : I 0 ρ O2) (hN : X.N.Nodup)
    (hs : ∀ (j : Nat) ρ' O', lo + (j : Int) < m → I j ρ' O' → DS T X CE body (ρ'.set i (.dat (.int (lo + (j : Int))))) O' { E with nx := I (j + 1), ct := I (j + 1), bk := E.nx }) (hd : ∀ ρ' O', I (m - lo).toNat ρ' O' → E.nx ρ' O')
    (hmg : X.mg "range" = none) (hp : PassesOwn (model X.prog X.w) X.A X.env X.xe) (hg : Gl X "range" := by rfl) (hc : X.calm = true := by rfl) (hi : X.N[i]? = some n := by rfl) (hx : Loc X.env.scope n := by first | exact Or.inl rfl | exact Or.inr rfl) (hf : X.fn n = true ∨ X.env.scope.names.lookup n = some .local := by first | exact .inl rfl | exact .inr rfl)
    (h1 : starEach [a, b] X.env = [(false, eval a X.env), (false, eval b X.env)] := by rfl) (h2 : starEach [b] X.env = [(false, eval b X.env)] := by rfl) (hfold : ∀ x, foldedSetIterable (.Call (.Name "range" rp) [a, b] [] pos') X.env x = pure x := by intro _; rfl) :
    D1 T X CE (.For (.Name n np) (.Call (.Name "range" rp) [a, b] [] pos') body [] pos) ρ O E := .mk fun σ B H hE hA Dn W tk l => by
  refine ws_of (ps_for hp hc (pi_range2 hg hmg (pa_cons pe_we (pa_cons pe_we pa_nil (by rw [h2]; rfl)) (by rw [h1, h2])) h1 h2) (pg_name hN hi hx hf) pss_wss hfold) ?_
  refine two ha hb hE hA fun v w B1 H1 p1 r1 r2 => ?_
  cases r1
  cases r2
  refine ⟨lo, m, rfl, hm, for_range (fun j σ' H' => ∃ ρ' O' B', I j ρ' O' ∧ Post T X.K B O H B' O' H' ∧ Env X.K B' σ' ρ') ⟨ρ, O2, B1, h0, p1, hE.mono p1.bb⟩ ?_ ?_⟩
  · rintro j σ' H' hj ⟨ρ', O', B', hI, po, hE'⟩
    refine hs j ρ' O' (by omega) hI _ B' H' (hE'.set (o := some (.int (lo + j))) (s := .dat (.int (lo + j))) (show SlotOk X.K B' (some (.int (lo + j))) (.dat (.int (lo + j))) from .int _) i) po.at' _ W tk ?_
    have l' := l.step po
    exact ⟨fun ρ2 O2 σ2 B2 H2 h p2 e2 => ⟨ρ2, O2, B2, h, po.trans p2, e2⟩, l'.rt, l'.nx, fun ρ2 O2 σ2 B2 H2 h p2 e2 => ⟨ρ2, O2, B2, h, po.trans p2, e2⟩, l'.ex⟩
  · rintro σ' H' ⟨ρ', O', B', hI, po, hE'⟩
    exact l.nx _ _ _ B' H' (hd ρ' O' hI) po hE'
end
end Dz

namespace Dz
open PySem PySem.Spec PyProof.Rows L2 GxR
/-- the context of a def's body that lets no exception out -/
abbrev bx (P : Program) (w : World) (K : PySem.W.Frag) (mg : Str → Option Value) (base : Heap) (N : List Str) (qual : Str) (st : Stmt) (f : Addr) (cdv : Value) (A : Around) (outer : List PySem.Env) (s : Shared) (H : Hp) (E : XK) : Cx :=
  (cxOf CX0 P w K mg base N qual (defScope st) f cdv A outer s H E).nox
/-- .. that may -/
abbrev bxX (P : Program) (w : World) (K : PySem.W.Frag) (mg : Str → Option Value) (base : Heap) (N : List Str) (qual : Str) (st : Stmt) (f : Addr) (cdv : Value) (A : Around) (outer : List PySem.Env) (s : Shared) (H : Hp) (E : XK) : Cx :=
  cxOf (L2.CX P w) P w K mg base N qual (defScope st) f cdv A outer s H E
/-- a def with its code object's value told -/
structure FunC (K : PySem.W.Frag) (x qual : Str) (st : Stmt) (f : Addr) (fd : FuncData) (cdv : Value) : Prop where
  ex : ∃ (oc : Value) (od : Option Addr) (kV doc pm : Value) (an : Option Addr) (ct : Value) (osl : Array (Option Value)),
    fd = PySem.W.fnOf x qual (defArgs st) (defBody st) (defScope st) .none kV doc pm an cdv ct ∧ K.lookup f = some ⟨oc, od, .func fd, osl⟩ ∧ PySem.W.codeIn K cdv qual = true
  kp : PySem.W.keepIn K (.ref f) = true
section
variable {P : Program} {w : World} {K : PySem.W.Frag} {mg : Str → Option Value} {base : Heap} {T : List Addr} {CE : Addr}
theorem FunC.binds {x qual : Str} {st : Stmt} {f : Addr} {fd : FuncData} {ps : List Str} {cdv : Value} (F : FunC K x qual st f fd cdv)
    (h : ∀ (kV doc pm : Value) (an : Option Addr) (cdv ct : Value) (us : List Value), us.length = ps.length → bindArgs (PySem.W.fnOf x qual (defArgs st) (defBody st) (defScope st) .none kV doc pm an cdv ct) ⟨us, []⟩ = pure (ps.zip us)) : L2.Binds K fd ps [] := by
  obtain ⟨oc, od, kV, doc, pm, an, ct, osl, rfl, lk, hcd⟩ := F.ex
  exact .all (h kV doc pm an cdv ct)
/-- a def by its body, over data -/
theorem fn_ok {x qual : Str} {st : Stmt} {f : Addr} {fd : FuncData} {cdv : Value} {N ps : List Str} {k : Nat} {R : List Slot → OH → D → OH → Prop} (F : FunC K x qual st f fd cdv) (S : FnScope N ps (defScope st))
    (hlen : ∀ ss O d O', R ss O d O' → ss.length = ps.length)
    (body : ∀ (A : Around) (outer : List PySem.Env) (s : Shared) (H : Hp) (E : XK) (ss : List Slot) (O : OH) (d : D) (O' : OH), Room k (A.deeper (envOfC qual (defScope st) s.heap.objs.size f cdv)) → R ss O d O' →
      DS T (bx P w K mg base N qual st f cdv A outer s H E) CE (defBody st) (ss ++ List.replicate (N.length - ss.length) .no) O { nx := fun _ o => d = .non ∧ o = O', rt := fun s o => s = .dat d ∧ o = O' }) :
    FnOk P w K mg base CX0 (k + 1) f fd ps (spF T K R) := by
  obtain ⟨oc, od, kV, doc, pm, an, ct, osl, rfl, lk, hcd⟩ := F.ex
  refine fn_of lk hcd S (fun vs H Q E h => ?_) fun A outer s H vs Q E hr hsp => ?_
  · obtain ⟨ss, B, O, d, O', h1, h2, _⟩ := h
    rw [h2.length]
    exact hlen _ _ _ _ h1
  · obtain ⟨ss, B, O, d, O', h1, h2, h3, h4⟩ := hsp
    have hb := body A outer s H E ss O d O' hr h1
    refine ⟨WSs (bx P w K mg base N qual st f cdv A outer s H E) (defBody st), PSs.nox pss_wss, ?_⟩
    have e1 : L2.start N vs = vs.map some ++ List.replicate (N.length - ss.length) none := by
      unfold L2.start
      rw [h2.length]
    rw [e1]
    refine hb _ B H (Env.of_args _ h2) h3 _ (fun _ _ _ _ => False) takes0 ⟨fun ρ O2 σ B2 H2 q po _ => ?_, fun s' O2 v B2 H2 q po r => ?_, fun _ _ _ _ _ q => q.elim, fun _ _ _ _ _ q => q.elim, fun _ _ _ _ _ _ _ q => q.elim⟩
    · obtain ⟨q1, q2⟩ := q
      subst q1 q2
      exact h4 .non B2 H2 po .non
    · obtain ⟨q1, q2⟩ := q
      subst q1 q2
      exact h4 v B2 H2 po r
end
end Dz

/-! len(set(xs)): texts or ints, some of them twice -/
namespace DzS
open PySem PySem.Spec PyProof.Rows
section
variable {K : Type} [DecidableEq K]
/-- what a set of the first i items has, in the order met -/
def gm (kk : Nat → K) : Nat → List K
  | 0 => []
  | i + 1 => if kk i ∈ gm kk i then gm kk i else gm kk i ++ [kk i]
theorem gm_len (kk : Nat → K) : ∀ i, (gm kk i).length ≤ i
  | 0 => Nat.le_refl _
  | i + 1 => by
    have := gm_len kk i
    unfold gm
    split
    · omega
    · rw [List.length_append, List.length_singleton]; omega
theorem gm_mem (kk : Nat → K) (i : Nat) (k : K) : decide (k ∈ gm kk (i + 1)) = (decide (k ∈ gm kk i) || decide (k = kk i)) := by
  rw [gm]
  split
  · rename_i h
    by_cases e : k = kk i
    · subst e; simp [h]
    · simp [e]
  · simp only [List.mem_append, List.mem_singleton, Bool.decide_or]
theorem gm_succ_len (kk : Nat → K) (i : Nat) : (gm kk (i + 1)).length = if decide (kk i ∈ gm kk i) = true then (gm kk i).length else (gm kk i).length + 1 := by
  rw [gm]
  by_cases h : kk i ∈ gm kk i
  · rw [if_pos h, if_pos (decide_eq_true h)]
  · rw [if_neg h, if_neg (by simpa using h), List.length_append, List.length_singleton]
/-- the same by the list -/
def dd (xs : List K) : List K := xs.foldl (fun s x => if x ∈ s then s else s ++ [x]) []
theorem gm_dd (x0 : K) (xs : List K) : ∀ i, i ≤ xs.length → gm (fun j => xs.getD j x0) i = dd (xs.take i)
  | 0, _ => rfl
  | i + 1, h => by
    have hlt : i < xs.length := h
    rw [gm, gm_dd x0 xs i (Nat.le_of_lt hlt), List.take_add_one, List.getElem?_eq_getElem hlt]
    unfold dd
    rw [List.foldl_append]
    have e : xs.getD i x0 = xs[i] := by rw [List.getD_eq_getElem?_getD, List.getElem?_eq_getElem hlt]; rfl
    rw [e]
    rfl
variable {prog : Program} {w : World} {knd : KeyKind prog w K}
theorem setOf_congr {h : Heap} {a : Addr} {S S' : K → Bool} {n n' : Nat} (hS : h.SetOf knd a S n) (e : ∀ k, S k = S' k) (en : n = n') : h.SetOf knd a S' n' := by
  have : S = S' := funext e
  subst this; subst en; exact hS
variable {A : Around} {R : Result → Shared → Prop} {I : Addr} {fp wr : List Addr} {G : Array GenState → Array GenState → Prop} {n : Nat} {P : Nat → Value → Prop} {St : Nat → Shared → Prop}
theorem loopG (W : WalksS prog w A.in1 I fp wr G n P St) (S : Addr) (zSf : S ∉ fp) (kk : Nat → K) (hval : ∀ i v, P i v → knd.is (kk i) v = true ∧ v.scannable = true) (hb : n + 1 < scanBound) :
    ∀ (k i : Nat) (s : Shared), n - i = k → i ≤ n → St i s →
      s.heap.SetOf knd S (fun k' => decide (k' ∈ gm kk i)) (gm kk i).length →
      (∀ s', Moved (S :: wr) G s s' → s'.heap.SetOf knd S (fun k' => decide (k' ∈ gm kk n)) (gm kk n).length → R (.ok (.ret .none)) s') →
      codeAny (model prog w) A (.builtin "set.update.loop" ⟨[.ref S, .ref I], []⟩) R s := by
  have zSw : S ∉ wr := fun h => zSf (W.sub _ h)
  have qSub : ∀ b ∈ wr, b ∈ S :: wr := fun b hb => List.mem_cons_of_mem _ hb
  intro k
  induction k with
  | zero =>
    intro i s hk hi st1 hS hR
    have atN : i = n := by omega
    subst atN
    refine codeAny_builtin PyProof.Rows.F.entry_set_update_loop ?_
    rw [Around.under_plainId PyProof.Rows.F.plain_set_update_loop _]
    show wpAny _ A.in1 (pyNext (.ref I) >>= _) _ _ s
    refine wpAny_bind (W.done s _ _ st1 fun s' mv => ?_)
    show wpAny _ A.in1 (ret Value.none) _ _ s'
    obtain ⟨o, es, ep, t, ho, rest⟩ := hS
    exact wpAny_pure (hR s' (mv.mono qSub) ⟨o, es, ep, t, mv.heap S _ zSw ho, rest⟩)
  | succ k ih =>
    intro i s hk hi st1 hS hR
    have ltI : i < n := by omega
    refine codeAny_builtin PyProof.Rows.F.entry_set_update_loop ?_
    rw [Around.under_plainId PyProof.Rows.F.plain_set_update_loop _]
    show wpAny _ A.in1 (pyNext (.ref I) >>= _) _ _ s
    refine wpAny_bind (W.item i s _ _ ltI st1 fun v s' hPv st2 mv => ?_)
    obtain ⟨hv, hsc⟩ := hval i v hPv
    have nS' : s'.heap.SetOf knd S (fun k' => decide (k' ∈ gm kk i)) (gm kk i).length := by
      obtain ⟨o, es, ep, tb, ho, rest⟩ := hS
      exact ⟨o, es, ep, tb, mv.heap S _ zSw ho, rest⟩
    show wpAny _ A.in1 (holding [v] (setAdd S v) >>= _) _ _ s'
    refine wpAny_bind (wpAny_holding ?_)
    unfold setAdd
    refine wpAny_holding ?_
    refine wpAny_bind (knd.pyHash (k := kk i) hv ?_)
    have room : (gm kk i).length + 1 < scanBound := by have := gm_len kk i; omega
    refine wpAny_setAddHashed_of (knd := knd) (s := { s' with toks := s'.toks + 1 }) hv hsc nS' room fun h' sbe nS2 => ?_
    have nSi : h'.SetOf knd S (fun k' => decide (k' ∈ gm kk (i + 1))) (gm kk (i + 1)).length :=
      setOf_congr nS2 (fun k' => (gm_mem kk i k').symm) (gm_succ_len kk i).symm
    refine wpAny_pure ⟨plainId_quiet PyProof.Rows.F.plain_set_update_loop _, ih (i + 1) _ (by omega) ltI (W.frame _ s' _ _ st2 (Nat.le_succ _) fun b hb o e => ?_) nSi fun s'' mv2 nS4 => ?_⟩
    · rw [sbe.2 b (fun h : b = S => zSf (by rw [← h]; exact hb))]; exact e
    · refine hR s'' (Moved.trans W.gtrans ((mv.mono qSub).then_heap (Nat.le_succ _) fun b o hb e => ?_) mv2) nS4
      rw [sbe.2 b (fun h : b = S => hb (by rw [h]; exact List.mem_cons_self))]; exact e
end

section
variable {K : Type} [DecidableEq K] {prog : Program} {w : World} {knd : KeyKind prog w K} {A : Around} {E : Value → Shared → Prop} {s : Shared}
set_option maxHeartbeats 6400000 in
theorem call_set_seqG {l : Addr} {items : Array Value} {kk : Nat → K} {Q : Value → Shared → Prop}
    (hh : A.handled = none) (hl : s.heap.IsList l items ∨ s.heap.IsTuple l items) (hi : ∀ (i : Nat) (v : Value), items[i]? = some v → knd.is (kk i) v = true ∧ v.scannable = true) (hb : items.size + 1 < scanBound)
    (h : ∀ (h' : Heap) (tk : Nat), h'.SetOf knd s.heap.objs.size (fun k' => decide (k' ∈ gm kk items.size)) (gm kk items.size).length →
      (∀ b o, b < s.heap.objs.size → s.heap.get? b = some o → h'.get? b = some o) → Q (.ref s.heap.objs.size) { s with heap := h', toks := tk }) :
    wpAny (model prog w) A (call (.type "set") [.ref l]) Q E s := by
  obtain ⟨c, qTl, qMro⟩ := PySem.F.called_set.mro
  have qMade := PySem.F.called_set.made
  have qSub := PySem.F.called_set.sub
  refine wpAny_call (codeAny_of_tree ?_)
  show wpAny _ _ (callAny (.type "set") _) _ _ _
  refine wpAny_pure ⟨Code.quiet_builtin _ (by decide +kernel), codeAny_builtin PySem.F.entry_type_call ?_⟩
  rw [Around.under_plain (weight_type_call_type "set" [.ref l] []) rfl]
  have u1 := PySem.F.called_set.notType
  have u2 := PySem.F.called_set.canCreate
  have qTc := PySem.F.typeCall_set_1 (.ref l)
  repeat any_goals first | assumption | wp_step
  refine codeAny_mono (code_set_new_1 (.ref l) (E := E) (Q₁ := fun ob0 s₁ => ∃ lg : Bool, ob0 = .ref s.heap.objs.size ∧ s₁ = { s with heap := s.heap.push { cls := .type "set", dict := none, data := .set #[] 0 (.fresh 0 0 lg) } }) fun lg => ⟨lg, rfl, rfl⟩) fun r s₁ hr => ?_
  cases r with
  | error e => exact hr
  | ok fl =>
    cases fl with
    | ret ob0 =>
      obtain ⟨lg, rfl, rfl⟩ := hr
      have hS : (s.heap.push { cls := .type "set", dict := none, data := .set #[] 0 (.fresh 0 0 lg) }).get? s.heap.objs.size = some { cls := .type "set", dict := none, data := .set #[] 0 (.fresh 0 0 lg) } := Heap.get?_push_size _ rfl
      have zT : Shared.TypeIs { s with heap := s.heap.push { cls := .type "set", dict := none, data := .set #[] 0 (.fresh 0 0 lg) } } (.ref s.heap.objs.size) "set" := ⟨_, hS, rfl⟩
      have zLi := PySem.F.called_set.init.lookup
      have zBi := PySem.F.called_set.init.bind (.ref s.heap.objs.size)
      repeat any_goals first | assumption | wp_step
      refine codeAny_mono (codeAny_call_builtin (R := wants (fun r s₂ => r = .none ∧ ∃ h' tk, s₂ = { s with heap := h', toks := tk } ∧
          h'.SetOf knd s.heap.objs.size (fun k' => decide (k' ∈ gm kk items.size)) (gm kk items.size).length ∧
          (∀ b o, b < s.heap.objs.size → s.heap.get? b = some o → h'.get? b = some o)) E) PySem.F.called_set.init.plain PySem.F.entry_set_init (check_set_init_1 zT ?_)) fun r₂ s₂ hr₂ => ?_
      · have fin : ∀ (I : Addr) (it : Obj) (hI : I = (s.heap.push { cls := .type "set", dict := none, data := .set #[] 0 (.fresh 0 0 lg) }).objs.size) (A2 : Around) (R2 : Result → Shared → Prop)
            (fp : List Addr) (P2 : Nat → Value → Prop) (St2 : Nat → Shared → Prop)
            (W : WalksS prog w A2.in1 I fp [I] (fun g g' => g' = g) items.size P2 St2) (zSf : s.heap.objs.size ∉ fp) (hv : ∀ i v, P2 i v → items[i]? = some v)
            (st0 : St2 0 { s with heap := ((s.heap.push { cls := .type "set", dict := none, data := .set #[] 0 (.fresh 0 0 lg) }).push it) })
            (hR : ∀ h' tk', h'.SetOf knd s.heap.objs.size (fun k' => decide (k' ∈ gm kk items.size)) (gm kk items.size).length →
              (∀ b o, b < s.heap.objs.size → s.heap.get? b = some o → h'.get? b = some o) → R2 (.ok (.ret .none)) { s with heap := h', toks := tk' }),
            codeAny (model prog w) A2 (.builtin "set.update.loop" ⟨[.ref s.heap.objs.size, .ref I], []⟩) R2 { s with heap := ((s.heap.push { cls := .type "set", dict := none, data := .set #[] 0 (.fresh 0 0 lg) }).push it) } := by
          intro I it hI A2 R2 fp P2 St2 W zSf hv st0 hR
          refine loopG (knd := knd) W s.heap.objs.size zSf kk (fun i v hp => hi i v (hv i v hp)) hb (items.size - 0) 0 _ (by omega) (Nat.zero_le _) st0 ?_ ?_
          · have hget : ((s.heap.push { cls := .type "set", dict := none, data := .set #[] 0 (.fresh 0 0 lg) }).push it).get? s.heap.objs.size
                = some { cls := .type "set", dict := none, data := .set #[] 0 (.fresh 0 0 lg) } := Heap.get?_push_of_some _ hS
            exact setOf_congr ((PyProof.Rows.setObjOf_fresh (knd := knd) lg).setOf hget (by unfold scanBound; omega)) (fun _ => rfl) rfl
          · intro s' mv nS'
            obtain ⟨h', g', d', tk', os'⟩ := s'
            have yg : g' = s.gens := mv.gens
            have yd : d' = s.drawn := mv.drawn
            have yo : os' = s.os := mv.os
            subst yg; subst yd; subst yo
            refine hR h' tk' nS' fun b o hb e => ?_
            have y1 : b ≠ s.heap.objs.size := Nat.ne_of_lt hb
            have y2 : b ≠ I := by
              rw [hI, Heap.size_push]; exact Nat.ne_of_lt (Nat.lt_succ_of_lt hb)
            exact mv.heap b o (by simp only [List.mem_cons, List.mem_singleton, List.not_mem_nil, or_false, not_or]; exact ⟨y1, y2⟩) (Heap.get?_push_of_some _ (Heap.get?_push_of_some _ e))
        rcases hl with hl | hl
        · obtain ⟨wl, zOl, zCl, zNl, zDl⟩ := hl
          obtain ⟨oo1, oo2, oo3, oo4⟩ := wl
          simp only at zCl zDl
          subst zCl; subst zDl
          have zOl2 : (s.heap.push { cls := .type "set", dict := none, data := .set #[] 0 (.fresh 0 0 lg) }).get? l = some { cls := .type "list", dict := oo2, data := .seq items zNl, slots := oo4 } := Heap.get?_push_of_some _ zOl
          have zA1 := PySem.F.sub_list_set
          have zA2 := PySem.F.sub_list_frozenset
          have zNe : (Value.type "list" == Value.type "dict") = false := by decide
          have zL1 : (s.heap.push { cls := .type "set", dict := none, data := .set #[] 0 (.fresh 0 0 lg) }).IsList l items := ⟨_, zOl2, rfl, zNl, rfl⟩
          unfold Builtin.«set.__init__» noKeywords Builtin.Frozenset.updateFrom
          generalize zPi : pyIter = zP
          wp_walk
          subst zPi
          refine wpAny_pyIter_list zL1 ?_
          refine wpAny_bind (wpAny_runValue ?_)
          have zLs : l < s.heap.objs.size := Heap.lt_size zOl
          have zH3 : A.in1.in1.in1.handled = none := by simp [hh]
          have zNi : l ≠ (s.heap.push { cls := .type "set", dict := none, data := .set #[] 0 (.fresh 0 0 lg) }).objs.size := by
            rw [Heap.size_push]; exact Nat.ne_of_lt (Nat.lt_succ_of_lt zLs)
          have zSf : s.heap.objs.size ∉ [(s.heap.push { cls := .type "set", dict := none, data := .set #[] 0 (.fresh 0 0 lg) }).objs.size, l] := by
            rw [Heap.size_push]; simp only [List.mem_cons, List.mem_singleton, List.not_mem_nil, or_false, not_or]
            exact ⟨Nat.ne_of_lt (Nat.lt_succ_self _), Nat.ne_of_gt zLs⟩
          refine fin _ _ rfl _ _ _ _ _ ((Walks.list zH3 _ l zNi items).toS) zSf (fun i v h => h) ⟨⟨_, Heap.get?_push_size _ rfl, rfl, rfl⟩, (zL1.push _)⟩ fun h' tk' nS' hk' => ?_
          show wpAny _ _ _ _ _ _
          refine wpAny_pure ?_
          show wpAny _ _ (ret Value.none) _ _ _
          exact wpAny_pure ⟨rfl, h', tk', rfl, nS', hk'⟩
        · obtain ⟨wl, zOl, zCl, zNl, zDl⟩ := hl
          obtain ⟨oo1, oo2, oo3, oo4⟩ := wl
          simp only at zCl zDl
          subst zCl; subst zDl
          have zOl2 : (s.heap.push { cls := .type "set", dict := none, data := .set #[] 0 (.fresh 0 0 lg) }).get? l = some { cls := .type "tuple", dict := oo2, data := .seq items zNl, slots := oo4 } := Heap.get?_push_of_some _ zOl
          have zA1 := PySem.F.sub_tuple_set
          have zA2 := PySem.F.sub_tuple_frozenset
          have zNe : (Value.type "tuple" == Value.type "dict") = false := by decide
          have zL1 : (s.heap.push { cls := .type "set", dict := none, data := .set #[] 0 (.fresh 0 0 lg) }).IsTuple l items := ⟨_, zOl2, rfl, zNl, rfl⟩
          unfold Builtin.«set.__init__» noKeywords Builtin.Frozenset.updateFrom
          generalize zPi : pyIter = zP
          wp_walk
          subst zPi
          refine wpAny_pyIter_tuple zL1 ?_
          refine wpAny_bind (wpAny_runValue ?_)
          have zLs : l < s.heap.objs.size := Heap.lt_size zOl
          have zH3 : A.in1.in1.in1.handled = none := by simp [hh]
          have zNi : l ≠ (s.heap.push { cls := .type "set", dict := none, data := .set #[] 0 (.fresh 0 0 lg) }).objs.size := by
            rw [Heap.size_push]; exact Nat.ne_of_lt (Nat.lt_succ_of_lt zLs)
          have zSf : s.heap.objs.size ∉ [(s.heap.push { cls := .type "set", dict := none, data := .set #[] 0 (.fresh 0 0 lg) }).objs.size, l] := by
            rw [Heap.size_push]; simp only [List.mem_cons, List.mem_singleton, List.not_mem_nil, or_false, not_or]
            exact ⟨Nat.ne_of_lt (Nat.lt_succ_self _), Nat.ne_of_gt zLs⟩
          refine fin _ _ rfl _ _ _ _ _ ((Walks.tuple zH3 _ l zNi items).toS) zSf (fun i v h => h) ⟨⟨_, Heap.get?_push_size _ rfl, rfl, rfl⟩, (zL1.push _)⟩ fun h' tk' nS' hk' => ?_
          show wpAny _ _ _ _ _ _
          refine wpAny_pure ?_
          show wpAny _ _ (ret Value.none) _ _ _
          exact wpAny_pure ⟨rfl, h', tk', rfl, nS', hk'⟩
      · cases r₂ with
        | error e => exact hr₂
        | ok fl₂ =>
          cases fl₂ with
          | ret r =>
            obtain ⟨rfl, h', tk, rfl, nS', hk'⟩ := hr₂
            repeat any_goals first | assumption | wp_step
            exact h _ _ nS' hk'
          | _ => exact hr₂.elim
    | _ => exact hr.elim
end
end DzS

namespace Dz
open PySem PySem.Spec PyProof.Rows L2 GxR
section
variable {T : List Addr} {X : Cx} {ρ : List Slot} {O O1 O2 O3 : OH} {e a b c : Expr} {es rest : List Expr} {pos p0 : Pos} {d x y z : D} {s : Slot} {ss : List Slot} {ds ds' : List D}

/-- a built-in function's rule over data -/
def BOp (T : List Addr) (X : Cx) (r : List V → Hp → VK → Prop) (O : OH) (ss : List Slot) (d : D) : Prop := ∀ (vs : List V) (B H : Hp), At T X.K B O H → Args X.K B vs ss → ∀ Q : VK, (∀ u B' H', Post T X.K B O H B' O H' → Rp X.K B' u d → Q u H') → r vs H Q
theorem de_B {id : String} {n : Str} {r : List V → Hp → VK → Prop} (hc : CallR X (.builtin id) r) (ha : DA T X (e :: es) ρ O ss O1) (hr : BOp T X r O1 ss d) (hm : X.mg n = none) (hv : bootBuiltins n = some (.builtin id)) (hg : Gl X n := by rfl) (hn : n ≠ "__name__" := by decide) (hdb : (n == ("__debug__" : Str)) = false := by decide)
    (he : starEach (e :: es) X.env = (false, eval e X.env) :: starEach es X.env := by rfl) (hpl : (backTo pos (starEach es X.env)).any (·.1) = false := by rfl) : DE T X (.Call (.Name n p0) (e :: es) [] pos) ρ O d O1 :=
  de_of (pe_callB hc hg hm hv pa_wa hn hdb he hpl) fun σ B H hE hA Q q => ha σ B H hE hA _ fun vs B1 H1 p1 r1 => hr vs B1 H1 p1.at' r1 _ fun u B2 H2 p2 r2 => q u B2 H2 (p1.trans p2) r2
theorem de_Ty {id : String} {n : Str} {r : List V → Hp → VK → Prop} (hc : CallR X (.type id) r) (ha : DA T X (e :: es) ρ O ss O1) (hr : BOp T X r O1 ss d) (hm : X.mg n = none) (hv : bootBuiltins n = some (.type id)) (hg : Gl X n := by rfl) (hn : n ≠ "__name__" := by decide) (hdb : (n == ("__debug__" : Str)) = false := by decide)
    (he : starEach (e :: es) X.env = (false, eval e X.env) :: starEach es X.env := by rfl) (hpl : (backTo pos (starEach es X.env)).any (·.1) = false := by rfl) : DE T X (.Call (.Name n p0) (e :: es) [] pos) ρ O d O1 :=
  de_of (pe_callTy hc hg hm hv pa_wa hn hdb he hpl) fun σ B H hE hA Q q => ha σ B H hE hA _ fun vs B1 H1 p1 r1 => hr vs B1 H1 p1.at' r1 _ fun u B2 H2 p2 r2 => q u B2 H2 (p1.trans p2) r2
theorem args1 {K : PySem.W.Frag} {B : Hp} {vs : List V} {s : Slot} (h : Args K B vs [s]) : ∃ v, vs = [v] ∧ SlotOk K B (some v) s := by
  cases h with
  | cons h r =>
    cases r
    exact ⟨_, rfl, h⟩

/-! ### len, int, abs -/
abbrev LenR (X : Cx) : List V → Hp → VK → Prop := fun xs H Q => ∃ p ys, xs = [.ref p] ∧ (SqL X.K H p ys ∨ SqT X.K H p ys) ∧ Q (.int ys.length) H
theorem bop_lenL : BOp T X (LenR X) O [.dat (.lst ds)] (.int ds.length) := fun vs B H hA hv Q q => by
  obtain ⟨v, rfl, r⟩ := args1 hv
  cases (show Rp X.K B v (.lst ds) from r) with
  | lst h r => exact ⟨_, _, rfl, .inl (SqL.of (hA.base _ _ h)), by rw [r.length]; exact q _ B H (Post.refl hA) (.int _)⟩
theorem bop_lenK : BOp T X (LenR X) O [.dat (.kst ds)] (.int ds.length) := fun vs B H hA hv Q q => by
  obtain ⟨v, rfl, r⟩ := args1 hv
  cases (show Rp X.K B v (.kst ds) from r) with
  | kst h r => exact ⟨_, _, rfl, .inl (hA.base.seq h), by rw [r.length]; exact q _ B H (Post.refl hA) (.int _)⟩
theorem bop_lenT : BOp T X (LenR X) O [.dat (.tup ds)] (.int ds.length) := fun vs B H hA hv Q q => by
  obtain ⟨v, rfl, r⟩ := args1 hv
  cases (show Rp X.K B v (.tup ds) from r) with
  | tup h r => exact ⟨_, _, rfl, .inr (same_t hA.base h), by rw [r.length]; exact q _ B H (Post.refl hA) (.int _)⟩
theorem bop_lenO {p : Addr} (ho : O p = some (.lst ss)) : BOp T X (LenR X) O [.val (.ref p)] (.int ss.length) := fun vs B H hA hv Q q => by
  obtain ⟨v, rfl, r⟩ := args1 hv
  have ev : v = .ref p := r
  subst ev
  obtain ⟨_, u, hu, ok⟩ := hA.own p _ ho
  cases u <;> try exact ok.elim
  exact ⟨_, _, rfl, .inl (SqL.of hu), by rw [Args.length ok]; exact q _ B H (Post.refl hA) (.int _)⟩
section
variable (hm : X.mg "len" = none)
include hm
theorem de_lenL (ha : DE T X e ρ O (.lst ds) O1) (hg : Gl X "len" := by rfl) (he : starEach [e] X.env = (false, eval e X.env) :: starEach [] X.env := by rfl) : DE T X (.Call (.Name "len" p0) [e] [] pos) ρ O (.int ds.length) O1 := de_B call_len_seq (da_one ha.dv he) bop_lenL hm boot_len hg (by decide) (by decide) he
theorem de_lenK (ha : DE T X e ρ O (.kst ds) O1) (hg : Gl X "len" := by rfl) (he : starEach [e] X.env = (false, eval e X.env) :: starEach [] X.env := by rfl) : DE T X (.Call (.Name "len" p0) [e] [] pos) ρ O (.int ds.length) O1 := de_B call_len_seq (da_one ha.dv he) bop_lenK hm boot_len hg (by decide) (by decide) he
theorem de_lenT (ha : DE T X e ρ O (.tup ds) O1) (hg : Gl X "len" := by rfl) (he : starEach [e] X.env = (false, eval e X.env) :: starEach [] X.env := by rfl) : DE T X (.Call (.Name "len" p0) [e] [] pos) ρ O (.int ds.length) O1 := de_B call_len_seq (da_one ha.dv he) bop_lenT hm boot_len hg (by decide) (by decide) he
theorem de_lenO {p : Addr} (ha : DV T X e ρ O (.val (.ref p)) O1) (ho : O1 p = some (.lst ss)) (hg : Gl X "len" := by rfl) (he : starEach [e] X.env = (false, eval e X.env) :: starEach [] X.env := by rfl) : DE T X (.Call (.Name "len" p0) [e] [] pos) ρ O (.int ss.length) O1 := de_B call_len_seq (da_one ha he) (bop_lenO ho) hm boot_len hg (by decide) (by decide) he
end
theorem de_intI {i : Int} (hm : X.mg "int" = none) (ha : DE T X e ρ O (.int i) O1) (hg : Gl X "int" := by rfl) (he : starEach [e] X.env = (false, eval e X.env) :: starEach [] X.env := by rfl) : DE T X (.Call (.Name "int" p0) [e] [] pos) ρ O (.int i) O1 :=
  de_Ty call_int1 (da_one ha.dv he) (fun vs B H hA hv Q q => by
    obtain ⟨v, rfl, r⟩ := args1 hv
    cases (show Rp X.K B v (.int i) from r)
    exact .inl ⟨i, rfl, q _ B H (Post.refl hA) (.int i)⟩) hm boot_int hg (by decide) (by decide) he
theorem de_intB {k : Bool} (hm : X.mg "int" = none) (ha : DE T X e ρ O (.bl k) O1) (hg : Gl X "int" := by rfl) (he : starEach [e] X.env = (false, eval e X.env) :: starEach [] X.env := by rfl) : DE T X (.Call (.Name "int" p0) [e] [] pos) ρ O (.int (if k then 1 else 0)) O1 :=
  de_Ty call_int1 (da_one ha.dv he) (fun vs B H hA hv Q q => by
    obtain ⟨v, rfl, r⟩ := args1 hv
    cases (show Rp X.K B v (.bl k) from r)
    exact .inr ⟨k, rfl, q _ B H (Post.refl hA) (.int _)⟩) hm boot_int hg (by decide) (by decide) he
theorem de_abs {i : Int} (hm : X.mg "abs" = none) (ha : DE T X e ρ O (.int i) O1) (hg : Gl X "abs" := by rfl) (he : starEach [e] X.env = (false, eval e X.env) :: starEach [] X.env := by rfl) : DE T X (.Call (.Name "abs" p0) [e] [] pos) ρ O (.int (if i < 0 then -i else i)) O1 :=
  de_B call_abs (da_one ha.dv he) (fun vs B H hA hv Q q => by
    obtain ⟨v, rfl, r⟩ := args1 hv
    cases (show Rp X.K B v (.int i) from r)
    exact ⟨i, rfl, q _ B H (Post.refl hA) (.int _)⟩) hm boot_abs hg (by decide) (by decide) he

/-! ### list(x), tuple(x), sorted(x) -/
theorem de_listL (hm : X.mg "list" = none) (ha : DE T X e ρ O (.lst ds) O1) (hg : Gl X "list" := by rfl) (he : starEach [e] X.env = (false, eval e X.env) :: starEach [] X.env := by rfl) : DE T X (.Call (.Name "list" p0) [e] [] pos) ρ O (.lst ds) O1 :=
  de_Ty call_list_of (da_one ha.dv he) (fun vs B H hA hv Q q => by
    obtain ⟨v, rfl, r⟩ := args1 hv
    cases (show Rp X.K B v (.lst ds) from r) with
    | lst h r => exact ⟨_, _, rfl, .inl (SqL.of (hA.base _ _ h)), fun l hl => q _ _ _ (Post.made (o := .lst _) hA hl) (.lst upd_same (r.mono (Post.made (o := .lst _) hA hl).bb))⟩) hm boot_list hg (by decide) (by decide) he
theorem de_listT (hm : X.mg "list" = none) (ha : DE T X e ρ O (.tup ds) O1) (hg : Gl X "list" := by rfl) (he : starEach [e] X.env = (false, eval e X.env) :: starEach [] X.env := by rfl) : DE T X (.Call (.Name "list" p0) [e] [] pos) ρ O (.lst ds) O1 :=
  de_Ty call_list_of (da_one ha.dv he) (fun vs B H hA hv Q q => by
    obtain ⟨v, rfl, r⟩ := args1 hv
    cases (show Rp X.K B v (.tup ds) from r) with
    | tup h r => exact ⟨_, _, rfl, .inr (same_t hA.base h), fun l hl => q _ _ _ (Post.made (o := .lst _) hA hl) (.lst upd_same (r.mono (Post.made (o := .lst _) hA hl).bb))⟩) hm boot_list hg (by decide) (by decide) he
theorem de_tupleL (hm : X.mg "tuple" = none) (ha : DE T X e ρ O (.lst ds) O1) (hg : Gl X "tuple" := by rfl) (he : starEach [e] X.env = (false, eval e X.env) :: starEach [] X.env := by rfl) : DE T X (.Call (.Name "tuple" p0) [e] [] pos) ρ O (.tup ds) O1 :=
  de_Ty call_tuple_of (da_one ha.dv he) (fun vs B H hA hv Q q => by
    obtain ⟨v, rfl, r⟩ := args1 hv
    cases (show Rp X.K B v (.lst ds) from r) with
    | lst h r => exact ⟨_, _, rfl, .inl ⟨SqL.of (hA.base _ _ h), fun l hl => q _ _ _ (Post.made (o := .tup _) hA hl) (.tup (SqT.of upd_same) (r.mono (Post.made (o := .tup _) hA hl).bb))⟩⟩) hm boot_tuple hg (by decide) (by decide) he
theorem de_tupleT (hm : X.mg "tuple" = none) (ha : DE T X e ρ O (.tup ds) O1) (hg : Gl X "tuple" := by rfl) (he : starEach [e] X.env = (false, eval e X.env) :: starEach [] X.env := by rfl) : DE T X (.Call (.Name "tuple" p0) [e] [] pos) ρ O (.tup ds) O1 :=
  de_Ty call_tuple_of (da_one ha.dv he) (fun vs B H hA hv Q q => by
    obtain ⟨v, rfl, r⟩ := args1 hv
    cases (show Rp X.K B v (.tup ds) from r) with
    | tup h r => exact ⟨_, _, rfl, .inr ⟨same_t hA.base h, q _ B H (Post.refl hA) (.tup h r)⟩⟩) hm boot_tuple hg (by decide) (by decide) he
/-- ints in order -/
def srt (ns : List Int) : List Int := ns.mergeSort fun a b => decide (a ≤ b)
theorem srt_eq {ns ns' : List Int} (hp : ns'.Perm ns) (hs : ns'.Pairwise (· ≤ ·)) : ns' = srt ns := by
  refine List.Perm.eq_of_pairwise (le := fun a b : Int => a ≤ b) (fun a b _ _ h1 h2 => Int.le_antisymm h1 h2) hs ?_ (hp.trans (List.mergeSort_perm ns _).symm)
  have h := List.pairwise_mergeSort (le := fun a b : Int => decide (a ≤ b)) (fun a b c h1 h2 => decide_eq_true (Int.le_trans (of_decide_eq_true h1) (of_decide_eq_true h2))) (fun a b => by
    rcases Int.le_total a b with h | h
    · rw [decide_eq_true h]; rfl
    · rw [decide_eq_true h, Bool.or_true]) ns
  exact h.imp fun h => of_decide_eq_true h
theorem rp_ints {K : PySem.W.Frag} {B : Hp} : ∀ {vs : List V} {ns : List Int}, RpAll K B vs (ns.map .int) → vs = ns.map V.int
  | _, [], .nil => rfl
  | _, n :: ns, .cons h r => by
    cases h
    rw [rp_ints r]
    rfl
theorem rp_strs {K : PySem.W.Frag} {B : Hp} : ∀ {vs : List V} {ns : List Str}, RpAll K B vs (ns.map .str) → vs = ns.map V.str
  | _, [], .nil => rfl
  | _, n :: ns, .cons h r => by
    cases h
    rw [rp_strs r]
    rfl
theorem ints_rp {K : PySem.W.Frag} {B : Hp} (ns : List Int) : RpAll K B (ns.map V.int) (ns.map .int) := RpAll.map (fun i => .int i) ns
theorem de_sorted {ns : List Int} (hm : X.mg "sorted" = none) (ha : DE T X e ρ O (.lst (ns.map .int)) O1) (hv : bootBuiltins "sorted" = some (.builtin "sorted") := by decide +kernel) (hg : Gl X "sorted" := by rfl) (he : starEach [e] X.env = (false, eval e X.env) :: starEach [] X.env := by rfl) : DE T X (.Call (.Name "sorted" p0) [e] [] pos) ρ O (.lst ((srt ns).map .int)) O1 :=
  de_B cr_sortedI (da_one ha.dv he) (fun vs B H hA hv Q q => by
    obtain ⟨v, rfl, r⟩ := args1 hv
    cases (show Rp X.K B v (.lst (ns.map .int)) from r) with
    | lst h r =>
      have e := rp_ints r
      subst e
      refine ⟨_, ns, rfl, SqL.of (hA.base _ _ h), fun ns' l hp hs hl => ?_⟩
      have e := srt_eq hp hs
      subst e
      exact q _ _ _ (Post.made (o := .lst _) hA hl) (.lst upd_same (ints_rp _))) hm hv hg (by decide) (by decide) he

/-! ### isinstance -/
/-- the type of a data, told as the library does -/
inductive DTy : D → String → Prop
  | non : DTy .non "NoneType"
  | bl (b : Bool) : DTy (.bl b) "bool"
  | int (i : Int) : DTy (.int i) "int"
  | str (x : Str) : DTy (.str x) "str"
  | lst (ds : List D) : DTy (.lst ds) "list"
  | tup (ds : List D) : DTy (.tup ds) "tuple"
  | dic (kd : List (Key × D)) : DTy (.dic kd) "dict"
theorem Rp.tyX {K : PySem.W.Frag} {B H : Hp} {v : V} {d : D} {t : String} (e : Same B H) (r : Rp K B v d) (h : DTy d t) : TyX K H v (.type t) := by
  cases h with
  | non => cases r; exact .base .non
  | bl b => cases r; exact .base (.bl b)
  | int i => cases r; exact .base (.int i)
  | str x => cases r; exact .base (.str x)
  | lst ds => cases r with
    | lst h _ => exact .base (.lst (e _ _ h))
  | tup ds => cases r with
    | tup h _ =>
      rcases h with (h | ⟨o, h⟩) | ⟨o, its, n, h1, h2, _⟩
      · exact .base (.tup (e _ _ h))
      · exact .fTuple (e _ _ h)
      · exact .kTuple h1 h2
  | dic kd => cases r with
    | dic h _ => exact .base (.dK (e _ _ h))
theorem de_isi {t u : String} {n : Str} {k : Bool} {p1 : Pos} (hm : X.mg "isinstance" = none) (hm2 : X.mg n = none) (hu : bootBuiltins n = some (.type u)) (ha : DE T X e ρ O d O1) (ht : DTy d t) (hk : kitB t u = some k) (hv : bootBuiltins "isinstance" = some (.builtin "isinstance") := by decide +kernel) (hg : Gl X "isinstance" := by rfl) (hg2 : Gl X n := by rfl) (hn : n ≠ "__name__" := by decide) (hdb : (n == ("__debug__" : Str)) = false := by decide)
    (he : starEach [e, .Name n p1] X.env = (false, eval e X.env) :: starEach [.Name n p1] X.env := by rfl) (he2 : starEach [.Name n p1] X.env = (false, eval (.Name n p1) X.env) :: starEach [] X.env := by rfl) (hpl : (backTo pos (starEach [.Name n p1] X.env)).any (·.1) = false := by rfl) :
    DE T X (.Call (.Name "isinstance" p0) [e, .Name n p1] [] pos) ρ O (.bl k) O1 :=
  de_of (pe_callB call_isi hg hm hv (pa_cons pe_we (pa_cons (pe_bltn hg2 hm2 hu (show RelV (.ty u) (.type u) from rfl) hn hdb) pa_nil he2) he) (by decide) (by decide) he hpl) fun σ B H hE hA Q q => ha σ B H hE hA _ fun v B1 H1 p1 r1 =>
    ⟨v, .ty u, .type t, .type u, k, rfl, .ty u, r1.tyX p1.at'.base ht, kit_ty hk, q _ B1 H1 p1 (.bl k)⟩
/-- isinstance(x, (T, U)) -/
theorem de_isi2 {t u u' : String} {n n' : Str} {k : Bool} {p1 p2 p3 : Pos} {x1} (hm : X.mg "isinstance" = none) (hm2 : X.mg n = none) (hu : bootBuiltins n = some (.type u)) (hm3 : X.mg n' = none) (hu3 : bootBuiltins n' = some (.type u')) (ha : DE T X e ρ O d O1) (ht : DTy d t) {k1 k2 : Bool} (hk : kitB t u = some k1) (hk2 : kitB t u' = some k2) (hkk : (k1 || k2) = k)
    (hv : bootBuiltins "isinstance" = some (.builtin "isinstance") := by decide +kernel) (hg : Gl X "isinstance" := by rfl) (hg2 : Gl X n := by rfl) (hg3 : Gl X n' := by rfl) (hn : n ≠ "__name__" := by decide) (hdb : (n == ("__debug__" : Str)) = false := by decide) (hn3 : n' ≠ "__name__" := by decide) (hdb3 : (n' == ("__debug__" : Str)) = false := by decide)
    (he : starEach [e, .Tuple [.Name n p1, .Name n' p2] x1 p3] X.env = (false, eval e X.env) :: starEach [.Tuple [.Name n p1, .Name n' p2] x1 p3] X.env := by rfl) (he2 : starEach [.Tuple [.Name n p1, .Name n' p2] x1 p3] X.env = (false, eval (.Tuple [.Name n p1, .Name n' p2] x1 p3) X.env) :: starEach [] X.env := by rfl) (hpl : (backTo pos (starEach [.Tuple [.Name n p1, .Name n' p2] x1 p3] X.env)).any (·.1) = false := by rfl)
    (he3 : starEach [.Name n p1, .Name n' p2] X.env = (false, eval (.Name n p1) X.env) :: starEach [.Name n' p2] X.env := by rfl) (he4 : starEach [.Name n' p2] X.env = (false, eval (.Name n' p2) X.env) :: starEach [] X.env := by rfl) :
    DE T X (.Call (.Name "isinstance" p0) [e, .Tuple [.Name n p1, .Name n' p2] x1 p3] [] pos) ρ O (.bl k) O1 :=
  de_of (pe_callB call_isiT hg hm hv (pa_cons pe_we (pa_cons (pe_tup (pa_cons (pe_bltn hg2 hm2 hu (show RelV (.ty u) (.type u) from rfl) hn hdb) (pa_cons (pe_bltn hg3 hm3 hu3 (show RelV (.ty u') (.type u') from rfl) hn3 hdb3) pa_nil he4) he3)) pa_nil he2) he) (by decide) (by decide) he hpl) fun σ B H hE hA Q q => ha σ B H hE hA _ fun v B1 H1 p1 r1 => by
    refine ⟨(by show 2 ≤ sizeLine; decide), fun p hp => ?_⟩
    have po := Post.laid (o := .tup [.ty u, .ty u']) p1.at' hp
    refine ⟨v, p, _, .type t, [.type u, .type u'], k, rfl, upd_same, .cons (.ty u) (.cons (.ty u') .nil), r1.tyX po.at'.base ht, ?_, q _ B1 _ (p1.trans po) (.bl k)⟩
    subst hkk
    exact kitAny_cons (kit_ty hk) (fun z => by subst z; exact kitAny_cons (kit_ty hk2) (fun z => by subst z; exact kitAny_nil) (fun z => by subst z; rfl)) (fun z => by subst z; rfl)

/-! ### list + list, list * int, tuple + tuple, x[::-1] -/
theorem de_catL (ha : DE T X a ρ O (.lst ds) O1) (hb : DE T X b ρ O1 (.lst ds') O2) (hl : ds.length + ds'.length ≤ 100000) : DE T X (.BinOp a .Add b pos) ρ O (.lst (ds ++ ds')) O2 :=
  de_op op_cat ha hb fun v w B H hA rv rw' Q q => by
    cases rv with
    | lst h r =>
      cases rw' with
      | lst h' r' =>
        refine ⟨_, _, _, _, rfl, rfl, hA.base _ _ h, hA.base _ _ h', by rw [r.length, r'.length]; exact Nat.le_trans hl (by decide), fun p hp => ?_⟩
        exact q _ _ _ (Post.made (o := .lst _) hA hp) (.lst upd_same ((r.append r').mono (Post.made (o := .lst _) hA hp).bb))
theorem de_catT (ha : DE T X a ρ O (.tup ds) O1) (hb : DE T X b ρ O1 (.tup ds') O2) (h0 : ds ≠ []) (hl : ds.length + ds'.length ≤ 100000) : DE T X (.BinOp a .Add b pos) ρ O (.tup (ds ++ ds')) O2 :=
  de_op op_catT ha hb fun v w B H hA rv rw' Q q => by
    cases rv with
    | tup h r =>
      cases rw' with
      | tup h' r' =>
        refine ⟨_, _, _, _, rfl, rfl, same_t hA.base h, same_t hA.base h', fun z => h0 ?_, by rw [r.length, r'.length]; exact Nat.le_trans hl (by decide), fun z => ?_, fun z p hp => ?_⟩
        · subst z
          cases r
          rfl
        · subst z
          cases r'
          rw [List.append_nil] at q
          exact q _ B H (Post.refl hA) (.tup h r)
        · exact q _ _ _ (Post.made (o := .tup _) hA hp) (.tup (SqT.of upd_same) ((r.append r').mono (Post.made (o := .tup _) hA hp).bb))
/-- n times -/
def timesD (n : Nat) (ds : List D) : List D := (List.replicate n ds).flatten
theorem rp_times {K : PySem.W.Frag} {B : Hp} {vs : List V} {ds : List D} (r : RpAll K B vs ds) : ∀ n : Nat, RpAll K B (List.replicate n vs).flatten (timesD n ds)
  | 0 => .nil
  | n + 1 => by
    unfold timesD
    rw [List.replicate_succ, List.replicate_succ, List.flatten_cons, List.flatten_cons]
    exact r.append (rp_times r n)
theorem de_rep {k : Int} (ha : DE T X a ρ O (.lst ds) O1) (hb : DE T X b ρ O1 (.int k) O2) (hk : k ≤ 100000) (hk0 : 0 ≤ k) (hl : ds.length * k.toNat ≤ 100000) : DE T X (.BinOp a .Mult b pos) ρ O (.lst (timesD k.toNat ds)) O2 :=
  de_op op_rep ha hb fun v w B H hA rv rw' Q q => by
    cases rv with
    | lst h r =>
      cases rw'
      refine ⟨_, k, _, rfl, rfl, hA.base _ _ h, by omega, by omega, by rw [r.length]; exact Nat.le_trans hl (by decide), fun p hp => ?_⟩
      exact q _ _ _ (Post.made (o := .lst _) hA hp) (.lst upd_same ((rp_times r _).mono (Post.made (o := .lst _) hA hp).bb))
theorem de_rev {k : Nat} {p1 p2 p3 : Pos} (ha : DE T X e ρ O (.lst ds) O1) : DE T X (.Subscript e (.Slice none none (some (.UnaryOp .USub (.Constant (.int 1) k p1) p2)) p3) pos) ρ O (.lst ds.reverse) O1 :=
  de_of (pe_revL pe_we) fun σ B H hE hA Q q => ha σ B H hE hA _ fun v B1 H1 p1 r1 => by
    cases r1 with
    | lst h r => exact ⟨_, _, rfl, SqL.of (p1.at'.base _ _ h), fun p hp => q _ _ _ (p1.trans (Post.made (o := .lst _) p1.at' hp)) (.lst upd_same (r.reverse.mono (Post.made (o := .lst _) p1.at' hp).bb))⟩

end

/-! ### len(set(x)) -/
/-- how many a set of these would have -/
inductive SetLen : List V → Nat → Prop
  | int (ns : List Int) : SetLen (ns.map V.int) (DzS.dd ns).length
  | str (ns : List Str) : SetLen (ns.map V.str) (DzS.dd ns).length
def tLenSetG (K : PySem.W.Frag) (ta : TE) : TE := fun σ H Q => ta σ H fun x H1 => ∃ (l : Addr) (xs : List V) (n : Nat), x = .ref l ∧ (SqL K H1 l xs ∨ SqT K H1 l xs) ∧ SetLen xs n ∧ xs.length ≤ 4000 ∧ Q (.int (n : Nat)) H1
theorem pe_lenSetG {X : Cx} {a : Expr} {ta : TE} {p p2 q pos : Pos} (hg : Gl X "len") (hm : X.mg "len" = none) (hg2 : Gl X "set") (hm2 : X.mg "set" = none) (ha : PE X a ta) (hc : X.calm = true := by rfl)
    (na : starEach [a] X.env = (false, eval a X.env) :: starEach [] X.env := by rfl) : PE X (.Call (.Name "len" p) [.Call (.Name "set" p2) [a] [] q] [] pos) (tLenSetG X.K ta) := by
  refine ⟨fun pins s σ H Q I h => ?_⟩
  refine Call_ (ld_blt I hg hm boot_len ?_)
  refine PyProof.Rows.callWith_builtin1 (PyProof.Rows.args_cons ?_ rfl) rfl rfl
  refine Call_ (ld_blt I hg2 hm2 boot_set ?_)
  refine PyProof.Rows.callWith_type1 (PyProof.Rows.args_cons (thn (ha.run pins s σ H _ I h) fun v s1 ⟨x, H1, I1, r1, q1⟩ => PyProof.Rows.args_nil ?_) na) na rfl
  obtain ⟨l, xs, n, rfl, hq, hs, hl, q1⟩ := q1
  cases r1
  have any : ∀ (K : Type) (_ : DecidableEq K) (knd : KeyKind X.prog X.w K) (kk : Nat → K) (its : List Value), xs.length = its.length → (s1.heap.IsList l its.toArray ∨ s1.heap.IsTuple l its.toArray) → (DzS.gm kk its.length).length = n →
      (∀ (i : Nat) (v : Value), its[i]? = some v → knd.is (kk i) v = true ∧ v.scannable = true) →
      wpAny (model X.prog X.w) X.A (call (.type "set") [.ref l]) (fun v s₂ => wpAny (model X.prog X.w) X.A (spliced (backTo pos (starEach [] X.env))) (fun vs s₂ => wpAny (model X.prog X.w) X.A (call (.builtin "len") (v :: vs)) (EP X pins σ Q) X.xe s₂) X.xe s₂) X.xe s1 := by
    intro K _ knd kk its e1 hil en hk
    have hlen : its.toArray.size = its.length := List.size_toArray
    refine DzS.call_set_seqG (knd := knd) (kk := kk) (I1.ok.hd hc) hil (fun i v hv => hk i v (by simpa using hv)) (by rw [hlen, ← e1]; unfold scanBound; omega) fun h' tk hS hk' => ?_
    refine PyProof.Rows.args_nil ?_
    rw [hlen, en] at hS
    obtain ⟨o, es, ep, t, ho, hex, hd, _, _, hb, hf, hn⟩ := hS
    have I2 : Inv X pins σ H1 { s1 with heap := h', toks := tk } := I1.kept fun b o e => hk' b o (Heap.lt_size e) e
    have hn2 : n ≤ its.length := by rw [← en]; exact DzS.gm_len kk _
    exact call_len_set ho hex hd hf (by rw [hn] <;> omega) ⟨.int n, H1, I2.tok _, ⟨_, by rw [hn]⟩, q1⟩
  have both : ∃ its : List Value, Vals xs its ∧ (s1.heap.IsList l its.toArray ∨ s1.heap.IsTuple l its.toArray) := by
    rcases hq with hq | hq
    · obtain ⟨its, r, pl, hz⟩ := I1.list hq
      exact ⟨its, r, .inl pl.isList⟩
    · obtain ⟨its, r, pl, hz⟩ := I1.tuple hq
      exact ⟨its, r, .inr pl⟩
  obtain ⟨its, r, hil⟩ := both
  cases hs with
  | int ns =>
    have e1 : (ns.map V.int).length = its.length := r.length
    have e2 : ns.length = its.length := by rw [← e1, List.length_map]
    refine any Int _ (PySem.intKind X.prog X.w) (fun i => ns.getD i 0) its e1 hil (by rw [← e2, DzS.gm_dd _ _ _ (Nat.le_refl _), List.take_length]) fun i v hv => ?_
    obtain ⟨t, rfl⟩ := PyProof.Rows.IntsAre.int_at (RZ.intsAre_vals r) i v hv
    exact ⟨intKind_is _ _ _ _, rfl⟩
  | str ns =>
    have e1 : (ns.map V.str).length = its.length := r.length
    have e2 : ns.length = its.length := by rw [← e1, List.length_map]
    refine any Str _ (PySem.strKind X.prog X.w) (fun i => ns.getD i Str.empty) its e1 hil (by rw [← e2, DzS.gm_dd _ _ _ (Nat.le_refl _), List.take_length]) fun i v hv => ?_
    obtain ⟨t, rfl⟩ := SS.strs_at (strsAre_of r) i v hv
    exact ⟨strKind_is _ _ _ _, rfl⟩
section
variable {T : List Addr} {X : Cx} {ρ : List Slot} {O O1 O2 O3 : OH} {e : Expr} {p p2 q pos : Pos} {ds : List D}
/-- .. over data -/
inductive SetLenD : List D → Nat → Prop
  | int (ns : List Int) : SetLenD (ns.map .int) (DzS.dd ns).length
  | str (ns : List Str) : SetLenD (ns.map .str) (DzS.dd ns).length
theorem SetLenD.v {K : PySem.W.Frag} {B : Hp} {vs : List V} {ds : List D} {n : Nat} (h : SetLenD ds n) (r : RpAll K B vs ds) : SetLen vs n := by
  cases h with
  | int ns => rw [rp_ints r]; exact .int ns
  | str ns => rw [rp_strs r]; exact .str ns
theorem de_lenSetL {n : Nat} (hm : X.mg "len" = none) (hm2 : X.mg "set" = none) (ha : DE T X e ρ O (.lst ds) O1) (hs : SetLenD ds n) (hl : ds.length ≤ 4000) (hg : Gl X "len" := by rfl) (hg2 : Gl X "set" := by rfl) (hc : X.calm = true := by rfl) (na : starEach [e] X.env = (false, eval e X.env) :: starEach [] X.env := by rfl) :
    DE T X (.Call (.Name "len" p) [.Call (.Name "set" p2) [e] [] q] [] pos) ρ O (.int n) O1 :=
  de_of (pe_lenSetG hg hm hg2 hm2 pe_we hc na) fun σ B H hE hA Q k => ha σ B H hE hA _ fun v B1 H1 p1 r1 => by
    cases r1 with
    | lst h r => exact ⟨_, _, n, rfl, .inl (SqL.of (p1.at'.base _ _ h)), hs.v r, by rw [r.length]; exact hl, k _ B1 H1 p1 (.int _)⟩
theorem de_lenSetT {n : Nat} (hm : X.mg "len" = none) (hm2 : X.mg "set" = none) (ha : DE T X e ρ O (.tup ds) O1) (hs : SetLenD ds n) (hl : ds.length ≤ 4000) (hg : Gl X "len" := by rfl) (hg2 : Gl X "set" := by rfl) (hc : X.calm = true := by rfl) (na : starEach [e] X.env = (false, eval e X.env) :: starEach [] X.env := by rfl) :
    DE T X (.Call (.Name "len" p) [.Call (.Name "set" p2) [e] [] q] [] pos) ρ O (.int n) O1 :=
  de_of (pe_lenSetG hg hm hg2 hm2 pe_we hc na) fun σ B H hE hA Q k => ha σ B H hE hA _ fun v B1 H1 p1 r1 => by
    cases r1 with
    | tup h r => exact ⟨_, _, n, rfl, .inr (same_t p1.at'.base h), hs.v r, by rw [r.length]; exact hl, k _ B1 H1 p1 (.int _)⟩
end
end Dz

namespace Dz
open PySem PySem.Spec PyProof.Rows L2 GxR

/-! ### something new that is not owned yet -/
section
variable {T : List Addr} {K : PySem.W.Frag} {B B1 : Hp} {O O1 : OH} {H H1 : Hp} {a : Addr} {o u : HO}
theorem At.newT (h : At T K B O H) (n : H a = none) : a ∉ T := fun z => by
  obtain ⟨ps, e, _⟩ := h.tabs a z
  rw [e] at n
  cases n
/-- it is written -/
theorem Post.over (hA : At T K B O H) (n : H a = none) (p : Post T K B O H B1 O1 H1) (b1 : B1 a = none) (o1 : O1 a = none) : Post T K B O H B1 O1 (upd H1 a o) where
  at' :=
    { base := fun b u e => by
        have z : b ≠ a := fun z => by
          rw [z, b1] at e
          cases e
        rw [upd_ne z]
        exact p.at'.base b u e
      own := fun b u e => by
        have z : b ≠ a := fun z => by
          rw [z, o1] at e
          cases e
        obtain ⟨e1, v, e2, e3⟩ := p.at'.own b u e
        exact ⟨e1, v, by rw [upd_ne z]; exact e2, e3⟩
      nt := p.at'.nt
      tabs := fun P hP => by
        obtain ⟨ps, e, t⟩ := p.at'.tabs P hP
        have z : P ≠ a := fun z => hA.newT n (by rw [← z]; exact hP)
        exact ⟨ps, by rw [upd_ne z]; exact e, t⟩ }
  bb := p.bb
  new := p.new
  own := p.own
  fr := fun b u e ho ht => by
    rw [upd_ne (ne_of_none e n)]
    exact p.fr b u e ho ht
  dom := fun b hb => upd_dom (p.dom b hb)
/-- it is frozen -/
theorem Post.ice (hA : At T K B O H) (n : H a = none) (p : Post T K B O H B1 O1 H1) (b1 : B1 a = none) (o1 : O1 a = none) (e1 : H1 a = some o) : Post T K B O H (upd B1 a o) O1 H1 where
  at' :=
    { base := fun b u e => by
        by_cases z : b = a
        · subst z
          rw [upd_same] at e
          cases e
          exact e1
        · rw [upd_ne z] at e
          exact p.at'.base b u e
      own := fun b u e => by
        have z : b ≠ a := fun z => by
          rw [z, o1] at e
          cases e
        obtain ⟨q1, v, q2, q3⟩ := p.at'.own b u e
        refine ⟨by rw [upd_ne z]; exact q1, v, q2, q3.mono fun c w q => ?_⟩
        have zc : c ≠ a := fun zc => by
          rw [zc, b1] at q
          cases q
        rw [upd_ne zc]
        exact q
      nt := fun P hP => by
        have z : P ≠ a := fun z => hA.newT n (by rw [← z]; exact hP)
        rw [upd_ne z]
        exact p.at'.nt P hP
      tabs := p.at'.tabs }
  bb := p.bb.trans fun c w q => by
    have zc : c ≠ a := fun zc => by
      rw [zc, b1] at q
      cases q
    rw [upd_ne zc]
    exact q
  new := fun b hb ho => by
    rw [upd_ne (fun z => hb (by rw [z]; exact n))]
    exact p.new b hb ho
  own := p.own
  fr := p.fr
  dom := p.dom
end

/-! ### [e for x in xs if t] -/
/-- the list so far -/
def LcI (T : List Addr) (K : PySem.W.Frag) (B : Hp) (O : OH) (H : Hp) (a : Addr) (I : Nat → List D → OH → Prop) (j : Nat) (H' : Hp) : Prop :=
  ∃ B' O' acc xs, I j acc O' ∧ Post T K B O H B' O' H' ∧ B' a = none ∧ O' a = none ∧ H' a = some (.lst xs) ∧ RpAll K B' xs acc ∧ acc.length ≤ j
section
variable {T : List Addr} {K : PySem.W.Frag} {B : Hp} {O : OH} {H : Hp} {a : Addr} {I : Nat → List D → OH → Prop}
theorem LcI.start (hA : At T K B O H) (n : H a = none) (h : I 0 [] O) : LcI T K B O H a I 0 (upd H a (.lst [])) :=
  ⟨B, O, [], [], h, Post.over hA n (Post.refl hA) (hA.noB n) (hA.noO n), hA.noB n, hA.noO n, upd_same, .nil, Nat.le_refl _⟩
theorem LcI.fin {j : Nat} {H' : Hp} {Q : VK} {out : List D} {Oo : OH} (hA : At T K B O H) (n : H a = none) (h : LcI T K B O H a I j H') (ho : ∀ acc O', I j acc O' → acc = out ∧ O' = Oo)
    (q : ∀ v B' H', Post T K B O H B' Oo H' → Rp K B' v (.lst out) → Q v H') : Q (.ref a) H' := by
  obtain ⟨B', O', acc, xs, h1, h2, h3, h4, h5, h6, _⟩ := h
  obtain ⟨e1, e2⟩ := ho acc O' h1
  subst e1 e2
  have po := Post.ice hA n h2 h3 h4 h5
  exact q (.ref a) _ H' po (.lst upd_same (h6.mono fun c w q => by
    have zc : c ≠ a := fun zc => by
      rw [zc, h3] at q
      cases q
    rw [upd_ne zc]
    exact q))
end
/-- the slots of a block at its start -/
abbrev blkX (X : Cx) (scope : Scope) (s : Shared) (H : Hp) (C : Addr) (cl : List (Str × Addr)) (fp : List Addr) : Cx := X.blk s H scope (compEnvC scope cl C X.env) fp
/-- the judgements hold in the block, wherever it starts -/
def DEb (T : List Addr) (X : Cx) (scope : Scope) (e : Expr) (ρ : List Slot) (O : OH) (d : D) (O' : OH) : Prop := ∀ (s : Shared) (H : Hp) (C : Addr) (cl : List (Str × Addr)) (fp : List Addr), DE T (blkX X scope s H C cl fp) e ρ O d O'
/-- the tests of a comprehension -/
def DIfs (T : List Addr) (X : Cx) (scope : Scope) (ifs : List Expr) (ρ : List Slot) (O : OH) (b : Bool) (O' : OH) : Prop :=
  ∀ (σ : L2.St) (B H : Hp), Env X.K B σ ρ → At T X.K B O H → ∀ Q : Bool → Hp → Prop, (∀ B' H', Post T X.K B O H B' O' H' → Q b H') →
    ∀ (s0 : Shared) (H0 : Hp) (C : Addr) (cl : List (Str × Addr)) (fp : List Addr) (pins : List (Addr × Obj)) (s : Shared), L2.Inv (blkX X scope s0 H0 C cl fp) pins σ H s →
    wpAny (model X.prog X.w) X.A (forIn ifs true fun c r => if r = true then do let ok ← isTrue c (blkX X scope s0 H0 C cl fp).env (eval c (blkX X scope s0 H0 C cl fp).env); pure (ForInStep.yield ok) else pure (ForInStep.yield r)) (TP (blkX X scope s0 H0 C cl fp) pins σ Q) (fun _ _ => False) s
section
variable {T : List Addr} {X : Cx} {scope : Scope} {ρ : List Slot} {O O1 O2 : OH} {c elt iter : Expr} {ifs : List Expr} {b : Bool} {d : D}
theorem difs_nil : DIfs T X scope [] ρ O true O := fun σ B H hE hA Q q s0 H0 C cl fp pins s I => pts_nil.run pins s σ H Q I (q B H (Post.refl hA))
theorem difs_one (h : ∀ (s : Shared) (H : Hp) (C : Addr) (cl : List (Str × Addr)) (fp : List Addr), DT T (blkX X scope s H C cl fp) c ρ O b O1) : DIfs T X scope [c] ρ O b O1 := fun σ B H hE hA Q q s0 H0 C cl fp pins s I =>
  (pts_one pt_wt).run pins s σ H Q I (h s0 H0 C cl fp σ B H hE hA Q q)
/-- the readings of the parts, in every block -/
def TTb (X : Cx) (scope : Scope) (ifs : List Expr) : TT := fun σ H Q => ∀ (s0 : Shared) (H0 : Hp) (C : Addr) (cl : List (Str × Addr)) (fp : List Addr) (pins : List (Addr × Obj)) (s : Shared), L2.Inv (blkX X scope s0 H0 C cl fp) pins σ H s →
    wpAny (model X.prog X.w) X.A (forIn ifs true fun c r => if r = true then do let ok ← isTrue c (blkX X scope s0 H0 C cl fp).env (eval c (blkX X scope s0 H0 C cl fp).env); pure (ForInStep.yield ok) else pure (ForInStep.yield r)) (TP (blkX X scope s0 H0 C cl fp) pins σ Q) (fun _ _ => False) s
theorem ptsb (s : Shared) (H : Hp) (C : Addr) (cl : List (Str × Addr)) (fp : List Addr) : PTs (blkX X scope s H C cl fp) ifs (TTb X scope ifs) := ⟨fun pins s' σ H' Q I h => h s H C cl fp pins s' I⟩
def TEb (X : Cx) (scope : Scope) (e : Expr) : TE := fun σ H Q => ∀ (s0 : Shared) (H0 : Hp) (C : Addr) (cl : List (Str × Addr)) (fp : List Addr), WE (blkX X scope s0 H0 C cl fp) e σ H Q
theorem peb {e : Expr} (s : Shared) (H : Hp) (C : Addr) (cl : List (Str × Addr)) (fp : List Addr) : PE (blkX X scope s H C cl fp) e (TEb X scope e) := ⟨fun pins s' σ H' Q I h => h s H C cl fp pins s' I⟩

/-- a turn: the tests, then the element -/
def LcTurn (T : List Addr) (X : Cx) (scope : Scope) (ifs : List Expr) (elt : Expr) (I : Nat → List D → OH → Prop) (j : Nat) (ρ' : List Slot) (acc : List D) (O : OH) : Prop :=
  ∃ b O2, DIfs T X scope ifs ρ' O b O2 ∧ (b = true → ∃ y O3, DEb T X scope elt ρ' O2 y O3 ∧ I (j + 1) (acc ++ [y]) O3) ∧ (b = false → I (j + 1) acc O2)
variable {B H H0 : Hp} {a : Addr} {I : Nat → List D → OH → Prop}
theorem lc_turn {σ : L2.St} {j i : Nat} {v : V} {Hj : Hp} (hA : At T X.K B O H) (n : H a = none) (hj : j < 100000) (hE : Env X.K B σ ρ)
    (hv : ∀ B', Same B B' → Rp X.K B' v d)
    (ht : ∀ acc O', I j acc O' → LcTurn T X scope ifs elt I j (ρ.set i (.dat d)) acc O') (h : LcI T X.K B O H a I j Hj) :
    gName i v (wipe σ [i]) Hj fun σ2 H2 => wipe σ2 [i] = wipe σ [i] ∧ TTb X scope ifs σ2 H2 fun b H3 =>
      if b = true then TEb X scope elt σ2 H3 fun y H4 => ∃ acc, H4 a = some (.lst acc) ∧ acc.length < sizeLine ∧ LcI T X.K B O H a I (j + 1) (upd H4 a (.lst (acc ++ [y]))) else LcI T X.K B O H a I (j + 1) H3 := by
  obtain ⟨B', O', acc, xs, h1, h2, h3, h4, h5, h6, h7⟩ := h
  have e1 : wipe σ [i] = σ.set i none := rfl
  show wipe ((wipe σ [i]).set i (some v)) [i] = wipe σ [i] ∧ _
  have e2 : (wipe σ [i]).set i (some v) = σ.set i (some v) := by rw [e1, List.set_set]
  rw [e2]
  refine ⟨by show (σ.set i (some v)).set i none = σ.set i none; rw [List.set_set], ?_⟩
  have hE' : Env X.K B' (σ.set i (some v)) (ρ.set i (.dat d)) := (hE.mono h2.bb).set (o := some v) (s := .dat d) (hv B' h2.bb) i
  have ha : Hj a ≠ none := by rw [h5]; exact fun z => by cases z
  obtain ⟨b, O2, t1, t2, t3⟩ := ht acc O' h1
  refine t1 _ B' Hj hE' h2.at' _ fun B2 H2 p2 => ?_
  have k1 : B2 a = none := by rw [p2.new a ha h4]; exact h3
  have k2 : O2 a = none := p2.keepO ha h4
  have k3 : H2 a = some (.lst xs) := p2.fr a _ h5 h4 (hA.newT n)
  cases b with
  | false =>
    rw [if_neg (by decide)]
    exact ⟨B2, O2, acc, xs, t3 rfl, h2.trans p2, k1, k2, k3, h6.mono p2.bb, Nat.le_succ_of_le h7⟩
  | true =>
    rw [if_pos rfl]
    obtain ⟨y, O3, t4, t5⟩ := t2 rfl
    intro s0 H0 C cl fp
    refine t4 s0 H0 C cl fp _ B2 H2 (hE'.mono p2.bb) p2.at' _ fun w B3 H3 p3 r3 => ?_
    have ha2 : H2 a ≠ none := by rw [k3]; exact fun z => by cases z
    have m1 : B3 a = none := by rw [p3.new a ha2 k2]; exact k1
    have m2 : O3 a = none := p3.keepO ha2 k2
    have m3 : H3 a = some (.lst xs) := p3.fr a _ k3 k2 (hA.newT n)
    refine ⟨xs, m3, ?_, B3, O3, acc ++ [y], xs ++ [w], t5, Post.over hA n ((h2.trans p2).trans p3) m1 m2, m1, m2, upd_same, ((h6.mono p2.bb).mono p3.bb).append (.cons r3 .nil), ?_⟩
    · rw [h6.length]
      have : (100000 : Nat) ≤ sizeLine := by decide
      omega
    · rw [List.length_append, List.length_singleton]
      omega

variable {np pos : Pos} {ds out : List D} {n : Str} {own : List (Str × Nat)}
theorem de_lcL (i : Nat) (he : DE T X iter ρ O (.lst ds) O1) (I : Nat → List D → OH → Prop) (h0 : I 0 [] O1) (ht : ∀ j d acc O', ds[j]? = some d → I j acc O' → LcTurn T X scope ifs elt I j (ρ.set i (.dat d)) acc O') (hd : ∀ acc O', I ds.length acc O' → acc = out ∧ O' = O2)
    (hl : ds.length ≤ 100000) (hN : X.N.Nodup) (ok : BlkOk X.N X.env.scope scope [(n, i)]) (hi : X.N[i]? = some n := by rfl) (hx : ∀ (s : Shared) (H : Hp) (C : Addr) (cl : List (Str × Addr)) (fp : List Addr), Loc (blkX X scope s H C cl fp).env.scope n := by first | exact fun _ _ _ _ _ => Or.inl rfl | exact fun _ _ _ _ _ => Or.inr rfl)
    (hf : ∀ (s : Shared) (H : Hp) (C : Addr) (cl : List (Str × Addr)) (fp : List Addr), (blkX X scope s H C cl fp).fn n = true ∨ (blkX X scope s H C cl fp).env.scope.names.lookup n = some .local := by first | exact fun _ _ _ _ _ => .inl rfl | exact fun _ _ _ _ _ => .inr rfl) (hc : X.calm = true := by rfl) (hs : ∀ x, foldedSetIterable iter X.env x = pure x := by intro _; rfl) :
    DE T X (.ListComp elt [⟨.Name n np, iter, ifs, 0⟩] scope pos) ρ O (.lst out) O2 :=
  de_of (pe_lc hc hN (pi_list pe_we) ok (fun s H C cl fp => pg_name hN hi (hx s H C cl fp) (hf s H C cl fp)) ptsb peb hs) fun σ B H hE hA Q q => he σ B H hE hA _ fun v B1 H1 p1 r1 => by
    cases r1 with
    | lst hq r =>
      rename_i l xs
      refine ⟨l, rfl, ⟨xs, SqL.of (p1.at'.base _ _ hq)⟩, fun a na => ?_⟩
      have hA1 := p1.at'
      refine lc_list (K := X.K) (xs := xs) (a := l) (fun j H' => LcI T X.K B1 O1 H1 a I j H') (LcI.start hA1 na h0) (fun j H' _ h => ?_) (fun j x H' hj h => ?_) (fun H' h => ?_)
      · obtain ⟨B', _, _, _, _, h2, _⟩ := h
        exact SqL.of (h2.at'.base _ _ (h2.bb _ _ hq))
      · obtain ⟨d, hd1, hd2⟩ := r.getV hj
        have hjl : j < ds.length := by
          rw [← r.length]
          exact (List.getElem?_eq_some_iff.mp hj).1
        exact lc_turn hA1 na (Nat.lt_of_lt_of_le hjl hl) (hE.mono p1.bb) (fun B' sb => hd2.mono sb) (fun acc O' hI => ht j d acc O' hd1 hI) h
      · rw [r.length] at h
        exact LcI.fin hA1 na h hd fun v B2 H2 p2 r2 => q v B2 H2 (p1.trans p2) r2
theorem de_lcT (i : Nat) (he : DE T X iter ρ O (.tup ds) O1) (I : Nat → List D → OH → Prop) (h0 : I 0 [] O1) (ht : ∀ j d acc O', ds[j]? = some d → I j acc O' → LcTurn T X scope ifs elt I j (ρ.set i (.dat d)) acc O') (hd : ∀ acc O', I ds.length acc O' → acc = out ∧ O' = O2)
    (hl : ds.length ≤ 100000) (hN : X.N.Nodup) (ok : BlkOk X.N X.env.scope scope [(n, i)]) (hi : X.N[i]? = some n := by rfl) (hx : ∀ (s : Shared) (H : Hp) (C : Addr) (cl : List (Str × Addr)) (fp : List Addr), Loc (blkX X scope s H C cl fp).env.scope n := by first | exact fun _ _ _ _ _ => Or.inl rfl | exact fun _ _ _ _ _ => Or.inr rfl)
    (hf : ∀ (s : Shared) (H : Hp) (C : Addr) (cl : List (Str × Addr)) (fp : List Addr), (blkX X scope s H C cl fp).fn n = true ∨ (blkX X scope s H C cl fp).env.scope.names.lookup n = some .local := by first | exact fun _ _ _ _ _ => .inl rfl | exact fun _ _ _ _ _ => .inr rfl) (hc : X.calm = true := by rfl) (hs : ∀ x, foldedSetIterable iter X.env x = pure x := by intro _; rfl) :
    DE T X (.ListComp elt [⟨.Name n np, iter, ifs, 0⟩] scope pos) ρ O (.lst out) O2 :=
  de_of (pe_lc hc hN (pi_tup pe_we) ok (fun s H C cl fp => pg_name hN hi (hx s H C cl fp) (hf s H C cl fp)) ptsb peb hs) fun σ B H hE hA Q q => he σ B H hE hA _ fun v B1 H1 p1 r1 => by
    cases r1 with
    | tup hq r =>
      rename_i l xs
      refine ⟨l, rfl, ⟨xs, same_t p1.at'.base hq⟩, fun a na => ?_⟩
      have hA1 := p1.at'
      refine lc_tup (K := X.K) (xs := xs) (a := l) (fun j H' => LcI T X.K B1 O1 H1 a I j H') (LcI.start hA1 na h0) (fun j H' _ h => ?_) (fun j x H' hj h => ?_) (fun H' h => ?_)
      · obtain ⟨B', _, _, _, _, h2, _⟩ := h
        exact same_t h2.at'.base (same_t h2.bb hq)
      · obtain ⟨d, hd1, hd2⟩ := r.getV hj
        have hjl : j < ds.length := by
          rw [← r.length]
          exact (List.getElem?_eq_some_iff.mp hj).1
        exact lc_turn hA1 na (Nat.lt_of_lt_of_le hjl hl) (hE.mono p1.bb) (fun B' sb => hd2.mono sb) (fun acc O' hI => ht j d acc O' hd1 hI) h
      · rw [r.length] at h
        exact LcI.fin hA1 na h hd fun v B2 H2 p2 r2 => q v B2 H2 (p1.trans p2) r2
/-- over range(m) -/
theorem de_lcR (i : Nat) {m : Int} {rp : Pos} {pos' : Pos} {e : Expr} (he : DE T X e ρ O (.int m) O1) (I : Nat → List D → OH → Prop) (h0 : I 0 [] O1) (ht : ∀ (j : Nat) acc O', (j : Int) < m → I j acc O' → LcTurn T X scope ifs elt I j (ρ.set i (.dat (.int (j : Int)))) acc O') (hd : ∀ acc O', I m.toNat acc O' → acc = out ∧ O' = O2)
    (hl : m ≤ 100000) (hl0 : -100000 ≤ m) (hmg : X.mg "range" = none) (hN : X.N.Nodup) (ok : BlkOk X.N X.env.scope scope [(n, i)]) (hg : Gl X "range" := by rfl) (hi : X.N[i]? = some n := by rfl) (hx : ∀ (s : Shared) (H : Hp) (C : Addr) (cl : List (Str × Addr)) (fp : List Addr), Loc (blkX X scope s H C cl fp).env.scope n := by first | exact fun _ _ _ _ _ => Or.inl rfl | exact fun _ _ _ _ _ => Or.inr rfl)
    (hf : ∀ (s : Shared) (H : Hp) (C : Addr) (cl : List (Str × Addr)) (fp : List Addr), (blkX X scope s H C cl fp).fn n = true ∨ (blkX X scope s H C cl fp).env.scope.names.lookup n = some .local := by first | exact fun _ _ _ _ _ => .inl rfl | exact fun _ _ _ _ _ => .inr rfl) (hc : X.calm = true := by rfl) (h1 : starEach [e] X.env = [(false, eval e X.env)] := by rfl) (hs : ∀ x, foldedSetIterable (.Call (.Name "range" rp) [e] [] pos') X.env x = pure x := by intro _; rfl) :
    DE T X (.ListComp elt [⟨.Name n np, .Call (.Name "range" rp) [e] [] pos', ifs, 0⟩] scope pos) ρ O (.lst out) O2 :=
  de_of (pe_lc hc hN (pi_range1 hg hmg (pa_cons pe_we pa_nil h1) h1) ok (fun s H C cl fp => pg_name hN hi (hx s H C cl fp) (hf s H C cl fp)) ptsb peb hs) fun σ B H hE hA Q q => he σ B H hE hA _ fun v B1 H1 p1 r1 => by
    cases r1
    refine ⟨m, rfl, by omega, by omega, fun a na => ?_⟩
    have hA1 := p1.at'
    refine lc_range (fun j H' => LcI T X.K B1 O1 H1 a I j H') (LcI.start hA1 na h0) (fun j H' hj h => ?_) (fun H' h => ?_)
    · have e0 : (0 : Int) + (j : Int) = (j : Int) := Int.zero_add _
      rw [e0]
      exact lc_turn hA1 na (by omega) (hE.mono p1.bb) (fun B' sb => .int _) (fun acc O' hI => ht j acc O' (by omega) hI) h
    · exact LcI.fin hA1 na h hd fun v B2 H2 p2 r2 => q v B2 H2 (p1.trans p2) r2
/-- a list by a function of its items: f none leaves an item out -/
theorem lc_pure {i : Nat} {f : D → Option D} (h : ∀ d ∈ ds, (∃ y, f d = some y ∧ DIfs T X scope ifs (ρ.set i (.dat d)) O true O ∧ DEb T X scope elt (ρ.set i (.dat d)) O y O) ∨ (f d = none ∧ DIfs T X scope ifs (ρ.set i (.dat d)) O false O)) :
    ∀ j d acc O', ds[j]? = some d → (acc = (ds.take j).filterMap f ∧ O' = O) → LcTurn T X scope ifs elt (fun j acc O' => acc = (ds.take j).filterMap f ∧ O' = O) j (ρ.set i (.dat d)) acc O' := by
  rintro j d acc O' hj ⟨e1, e2⟩
  subst e2
  have et : ds.take (j + 1) = ds.take j ++ [d] := by rw [List.take_add_one, hj]; rfl
  rcases h d (List.mem_of_getElem? hj) with ⟨y, h1, h2, h3⟩ | ⟨h1, h2⟩
  · refine ⟨true, O', h2, (fun _ => ⟨y, O', h3, ?_, rfl⟩), fun z => by cases z⟩
    rw [et, List.filterMap_append, e1]
    simp [h1]
  · refine ⟨false, O', h2, (fun z => by cases z), fun _ => ⟨?_, rfl⟩⟩
    rw [et, List.filterMap_append, e1]
    simp [h1]
end
end Dz

namespace Dz
open PySem PySem.Spec PyProof.Rows L2 GxR
/-- the generator's item, wherever it runs -/
def DEg (T : List Addr) (X : Cx) (scope : Scope) (k : Nat) (e : Expr) (ρ : List Slot) (O : OH) (d : D) (O' : OH) : Prop :=
  ∀ (s : Shared) (H : Hp) (cl : List (Str × Addr)) (C : Addr) (code : Value) (fp : List Addr) (A' : Around), Room k A' → DE T (gcx X s H scope cl C code fp A') e ρ O d O'
def TEg (X : Cx) (scope : Scope) (k : Nat) (e : Expr) : TE := fun σ H Q => ∀ (s : Shared) (H0 : Hp) (cl : List (Str × Addr)) (C : Addr) (code : Value) (fp : List Addr) (A' : Around), Room k A' → WE (gcx X s H0 scope cl C code fp A') e σ H Q
section
variable {T : List Addr} {X : Cx} {scope : Scope} {ρ : List Slot} {O O1 O2 : OH} {elt iter : Expr} {ds : List D} {x : Str} {px p pos gpos : Pos} {k : Nat} {c P : Addr}
theorem peg {e : Expr} (s : Shared) (H : Hp) (cl : List (Str × Addr)) (C : Addr) (code : Value) (fp : List Addr) (A' : Around) (hr : Room k A') : PE (gcx X s H scope cl C code fp A') e (TEg X scope k e) := ⟨fun pins s' σ H' Q I h => h s H cl C code fp A' hr pins s' I⟩
theorem all_turn {σ : L2.St} {B H : Hp} {i j : Nat} {f : D → Bool} {d : D} {v : V} {Q : VK} {Hj : Hp} (hE : Env X.K B σ ρ) (hd1 : ds[j]? = some d) (hv : ∀ B', Same B B' → Rp X.K B' v d)
    (he : DEg T X scope k elt (ρ.set i (.dat d)) O (.bl (f d)) O) (q : ∀ v B' H', Post T X.K B O H B' O H' → Rp X.K B' v (.bl (ds.all f)) → Q v H')
    (w : ∃ B', Post T X.K B O H B' O Hj ∧ (ds.take j).all f = true) :
    TEg X scope k elt ((wipe σ [i]).set i (some v)) Hj fun v H3 => ∃ b, v = .bl b ∧ if b = true then (∃ B', Post T X.K B O H B' O H3 ∧ (ds.take (j + 1)).all f = true) else Q (.bl false) H3 := by
  obtain ⟨B', po, ha⟩ := w
  have e2 : (wipe σ [i]).set i (some v) = σ.set i (some v) := by show (σ.set i none).set i (some v) = _; rw [List.set_set]
  rw [e2]
  intro s0 H0 cl C code fp A' hr
  have hE' : Env X.K B' (σ.set i (some v)) (ρ.set i (.dat d)) := (hE.mono po.bb).set (o := some v) (s := .dat d) (hv B' po.bb) i
  refine he s0 H0 cl C code fp A' hr _ B' Hj hE' po.at' _ fun w B2 H2 p2 r2 => ?_
  cases r2
  refine ⟨f d, rfl, ?_⟩
  cases hf : f d with
  | true =>
    rw [if_pos rfl]
    refine ⟨B2, po.trans p2, ?_⟩
    rw [List.take_add_one, hd1, List.all_append, ha]
    simp [hf]
  | false =>
    rw [if_neg (by decide)]
    have e : ds.all f = false := by
      rw [Bool.eq_false_iff]
      intro z
      rw [List.all_eq_true] at z
      rw [z d (List.mem_of_getElem? hd1)] at hf
      cases hf
    exact q _ B2 H2 (po.trans p2) (by rw [e]; exact .bl false)
theorem de_allL (i : Nat) {f : D → Bool} (hr : Room (k + 1) X.A) (hP : P ∈ T) (TB : TabB X.base X.mg c P) (hcode : X.env.code = .ref c) (hN : X.N.Nodup) (hm : X.mg "all" = none) (ok : BlkOk X.N X.env.scope scope [(x, i)]) (go : GOk scope x)
    (hi : DE T X iter ρ O (.lst ds) O1) (he : ∀ d ∈ ds, DEg T X scope k elt (ρ.set i (.dat d)) O1 (.bl (f d)) O1) (hg : Gl X "all" := by rfl) (hc : X.calm = true := by rfl) (hs : ∀ v, genFold iter X.env v = pure v := by intro _; rfl)
    (hst : starEach [.GeneratorExp elt [⟨.Name x px, iter, [], 0⟩] scope gpos] X.env = (false, eval (.GeneratorExp elt [⟨.Name x px, iter, [], 0⟩] scope gpos) X.env) :: starEach [] X.env := by rfl) :
    DE T X (.Call (.Name "all" p) [.GeneratorExp elt [⟨.Name x px, iter, [], 0⟩] scope gpos] [] pos) ρ O (.bl (ds.all f)) O1 :=
  de_of (pe_allG hc hr hN hg hm TB hcode ok go (pi_list pe_we) peg hs hst) fun σ B H hE hA Q q => hi σ B H hE hA _ fun v B1 H1 p1 r1 => by
    cases r1 with
    | lst hq r =>
      rename_i l xs
      refine ⟨l, rfl, ⟨xs, SqL.of (p1.at'.base _ _ hq)⟩, p1.at'.tabs P hP, fun H2 tb => ?_⟩
      have p2 := Post.tabbed p1.at' hP tb
      refine ⟨ds.length, fun j H' => ∃ B', Post T X.K B1 O1 H1 B' O1 H' ∧ (ds.take j).all f = true, ⟨B1, p2, rfl⟩, fun j H' w => ⟨fun e => ?_, fun hj => ?_⟩⟩
      · obtain ⟨B', po, ha⟩ := w
        subst e
        rw [List.take_length] at ha
        have hq' := SqL.of (K := X.K) (po.at'.base _ _ (po.bb _ _ hq))
        exact ⟨⟨xs, hq', by rw [r.length]; exact Nat.le_refl _⟩, q _ B' H' (p1.trans po) (by rw [ha]; exact .bl true)⟩
      · obtain ⟨B', po, ha⟩ := w
        have hq' := SqL.of (K := X.K) (po.at'.base _ _ (po.bb _ _ hq))
        have hjx : j < xs.length := by rw [r.length]; exact hj
        refine ⟨⟨xs, xs[j], hq', List.getElem?_eq_getElem hjx⟩, fun y H'' hy => ?_⟩
        obtain ⟨e, hy⟩ := hy
        subst e
        obtain ⟨d, hd1, hd2⟩ := r.getV (hy xs hq')
        exact all_turn (hE.mono p1.bb) hd1 (fun B' sb => hd2.mono sb) (he d (List.mem_of_getElem? hd1)) (fun v B' H' p2 r2 => q v B' H' (p1.trans p2) r2) ⟨B', po, ha⟩
theorem de_allT (i : Nat) {f : D → Bool} (hr : Room (k + 1) X.A) (hP : P ∈ T) (TB : TabB X.base X.mg c P) (hcode : X.env.code = .ref c) (hN : X.N.Nodup) (hm : X.mg "all" = none) (ok : BlkOk X.N X.env.scope scope [(x, i)]) (go : GOk scope x)
    (hi : DE T X iter ρ O (.tup ds) O1) (he : ∀ d ∈ ds, DEg T X scope k elt (ρ.set i (.dat d)) O1 (.bl (f d)) O1) (hg : Gl X "all" := by rfl) (hc : X.calm = true := by rfl) (hs : ∀ v, genFold iter X.env v = pure v := by intro _; rfl)
    (hst : starEach [.GeneratorExp elt [⟨.Name x px, iter, [], 0⟩] scope gpos] X.env = (false, eval (.GeneratorExp elt [⟨.Name x px, iter, [], 0⟩] scope gpos) X.env) :: starEach [] X.env := by rfl) :
    DE T X (.Call (.Name "all" p) [.GeneratorExp elt [⟨.Name x px, iter, [], 0⟩] scope gpos] [] pos) ρ O (.bl (ds.all f)) O1 :=
  de_of (pe_allG hc hr hN hg hm TB hcode ok go (pi_tup pe_we) peg hs hst) fun σ B H hE hA Q q => hi σ B H hE hA _ fun v B1 H1 p1 r1 => by
    cases r1 with
    | tup hq r =>
      rename_i l xs
      refine ⟨l, rfl, ⟨xs, same_t p1.at'.base hq⟩, p1.at'.tabs P hP, fun H2 tb => ?_⟩
      have p2 := Post.tabbed p1.at' hP tb
      refine ⟨ds.length, fun j H' => ∃ B', Post T X.K B1 O1 H1 B' O1 H' ∧ (ds.take j).all f = true, ⟨B1, p2, rfl⟩, fun j H' w => ⟨fun e => ?_, fun hj => ?_⟩⟩
      · obtain ⟨B', po, ha⟩ := w
        subst e
        rw [List.take_length] at ha
        have hq' := same_t (K := X.K) po.at'.base (same_t po.bb hq)
        exact ⟨⟨xs, hq', by rw [r.length]; exact Nat.le_refl _⟩, q _ B' H' (p1.trans po) (by rw [ha]; exact .bl true)⟩
      · obtain ⟨B', po, ha⟩ := w
        have hq' := same_t (K := X.K) po.at'.base (same_t po.bb hq)
        have hjx : j < xs.length := by rw [r.length]; exact hj
        refine ⟨⟨xs, xs[j], hq', List.getElem?_eq_getElem hjx⟩, fun y H'' hy => ?_⟩
        obtain ⟨e, hy⟩ := hy
        subst e
        obtain ⟨d, hd1, hd2⟩ := r.getV (hy xs hq')
        exact all_turn (hE.mono p1.bb) hd1 (fun B' sb => hd2.mono sb) (he d (List.mem_of_getElem? hd1)) (fun v B' H' p2 r2 => q v B' H' (p1.trans p2) r2) ⟨B', po, ha⟩
end
end Dz

namespace Dz
open PySem PySem.Spec PyProof.Rows L2 GxR

section
variable {T : List Addr} {K : PySem.W.Frag} {B B1 : Hp} {O O1 : OH} {H H1 : Hp} {a : Addr}
theorem At.forget (h : At T K B O H) (a : Addr) : At T K B (cut O a) H where
  base := h.base
  own := fun b o e => by
    have z : b ≠ a := fun z => by
      rw [z, cut_same] at e
      cases e
    rw [cut_ne z] at e
    exact h.own b o e
  nt := fun P hP => ⟨(h.nt P hP).1, by
    by_cases z : P = a
    · rw [z, cut_same]
    · rw [cut_ne z]
      exact (h.nt P hP).2⟩
  tabs := h.tabs
theorem Post.forget (p : Post T K B O H B1 O1 H1) (a : Addr) : Post T K B O H B1 (cut O1 a) H1 where
  at' := p.at'.forget a
  bb := p.bb
  new := p.new
  own := fun b hb => by
    have z : b ≠ a := fun z => hb (by rw [z, cut_same])
    rw [cut_ne z] at hb
    exact p.own b hb
  fr := p.fr
  dom := p.dom
end

/-- a promise: from the arguments and what is owned to the answers, and the reasons of the program's own error -/
abbrev PR := List Slot → OH → (Slot → OH → Prop) → (D → OH → Prop) → Prop
def spX (T : List Addr) (K : PySem.W.Frag) (CE : Addr) (P : PR) : Sp := fun vs H Q E => ∃ ss B O Rn Rx, P ss O Rn Rx ∧ Args K B vs ss ∧ At T K B O H ∧
  (∀ s O' v B' H', Rn s O' → Post T K B O H B' O' H' → SlotOk K B' (some v) s → Q v H') ∧
  ∀ r O' v dd B' H', Rx r O' → Post T K B O H B' O' H' → H' dd = some (.xd [(("reason" : Str), v)]) → Rp K B' v r → E (.ref CE) (some dd) H'
/-- an expression that may let the program's own error out -/
def DVX (T : List Addr) (X : Cx) (CE : Addr) (e : Expr) (ρ : List Slot) (O : OH) (R : Slot → OH → Prop) (Rx : D → OH → Prop) : Prop := ∀ (σ : L2.St) (B H : Hp), Env X.K B σ ρ → At T X.K B O H → ∀ (Q : VK) (W : WX), Takes X W →
  (∀ s O' v B' H', R s O' → Post T X.K B O H B' O' H' → SlotOk X.K B' (some v) s → Q v H') →
  (∀ r O' v dd σ' B' H', Rx r O' → Post T X.K B O H B' O' H' → H' dd = some (.xd [(("reason" : Str), v)]) → Rp X.K B' v r → W (.ref CE) (some dd) σ' H') → WE X e σ H Q
theorem passF {P : Program} {w : World} {X : Cx} : Passes (L2.CX P w) X (fun _ _ _ => False) := fun _ _ _ _ _ _ _ h => by
  obtain ⟨_, _, _, _, _, _, _, _, _, _, _, _, z⟩ := h
  exact z.elim
section
variable {T : List Addr} {X : Cx} {CE : Addr} {ρ : List Slot} {O O1 O2 O3 : OH} {e a b c : Expr} {es rest : List Expr} {pos pos' p0 : Pos} {d x y z : D} {s : Slot} {ss : List Slot} {ds : List D} {E : DEn} {R : Slot → OH → Prop} {Rx : D → OH → Prop} {P : PR}
theorem DV.dvx (h : DV T X e ρ O s O1) (hr : R s O1) : DVX T X CE e ρ O R Rx := fun σ B H hE hA Q W tk q _ => h σ B H hE hA Q fun v B' H' po r => q s O1 v B' H' hr po r
/-- a call, whatever comes of it -/
theorem dvx_call {k : Nat} {f : Addr} {fd : FuncData} {ps : List Str} {n : Str} {p : Pos} (F : FnOk X.prog X.w X.K X.mg X.base (L2.CX X.prog X.w) k f fd ps (spX T X.K CE P)) (hr : Room k X.A) (hm : X.mg n = some (.ref f)) (hk : PySem.W.keepIn X.K (.ref f) = true) (hb : Binds X.K fd ps [])
    (ha : DA T X (e :: es) ρ O ss O1) (h : P ss O1 R Rx) (hg : Gl X n := by rfl) (hdb : (n == ("__debug__" : Str)) = false := by decide) (hs : starEach (e :: es) X.env = (false, eval e X.env) :: starEach es X.env := by rfl) (hpl : (backTo pos (starEach es X.env)).any (·.1) = false := by rfl) :
    DVX T X CE (.Call (.Name n p) (e :: es) [] pos) ρ O R Rx := fun σ B H hE hA Q W tk q qx =>
  we_of (pe_call (E := fun cls d H' => ∀ σ', W cls d σ' H') F hr hg hm hk hb .nil (passes_call tk fun cls d σ H h => h σ) pa_wa hdb hs hpl) (ha σ B H hE hA _ fun vs B1 H1 p1 r1 => by
    show spX T X.K CE P (vs ++ []) H1 Q _
    rw [List.append_nil]
    exact ⟨ss, B1, O1, R, Rx, h, r1, p1.at', fun s O' v B2 H2 h2 p2 r2 => q s O' v B2 H2 h2 (p1.trans p2) r2, fun r O' v dd B2 H2 h2 p2 e1 r2 σ' => qx r O' v dd σ' B2 H2 h2 (p1.trans p2) e1 r2⟩)
/-- a call that lets no error out, one answer -/
theorem dv_callX {k : Nat} {f : Addr} {fd : FuncData} {ps : List Str} {n : Str} {p : Pos} (F : FnOk X.prog X.w X.K X.mg X.base (L2.CX X.prog X.w) k f fd ps (spX T X.K CE P)) (hr : Room k X.A) (hm : X.mg n = some (.ref f)) (hk : PySem.W.keepIn X.K (.ref f) = true) (hb : Binds X.K fd ps [])
    (ha : DA T X (e :: es) ρ O ss O1) (h : P ss O1 (fun s' O' => s' = s ∧ O' = O2) (fun _ _ => False)) (hg : Gl X n := by rfl) (hdb : (n == ("__debug__" : Str)) = false := by decide) (hs : starEach (e :: es) X.env = (false, eval e X.env) :: starEach es X.env := by rfl) (hpl : (backTo pos (starEach es X.env)).any (·.1) = false := by rfl) :
    DV T X (.Call (.Name n p) (e :: es) [] pos) ρ O s O2 := .mk fun σ B H hE hA Q q =>
  we_of (pe_call (E := fun _ _ _ => False) F hr hg hm hk hb .nil passF pa_wa hdb hs hpl) (ha σ B H hE hA _ fun vs B1 H1 p1 r1 => by
    show spX T X.K CE P (vs ++ []) H1 Q _
    rw [List.append_nil]
    refine ⟨ss, B1, O1, _, _, h, r1, p1.at', fun s' O' v B2 H2 h2 p2 r2 => ?_, fun r O' v dd B2 H2 h2 _ _ _ => h2.elim⟩
    obtain ⟨h3, h4⟩ := h2
    subst h3 h4
    exact q v B2 H2 (p1.trans p2) r2)
/-- .. many answers -/
theorem dvn_call {k : Nat} {f : Addr} {fd : FuncData} {ps : List Str} {n : Str} {p : Pos} (F : FnOk X.prog X.w X.K X.mg X.base (L2.CX X.prog X.w) k f fd ps (spX T X.K CE P)) (hr : Room k X.A) (hm : X.mg n = some (.ref f)) (hk : PySem.W.keepIn X.K (.ref f) = true) (hb : Binds X.K fd ps [])
    (ha : DA T X (e :: es) ρ O ss O1) (h : P ss O1 R (fun _ _ => False)) (hg : Gl X n := by rfl) (hdb : (n == ("__debug__" : Str)) = false := by decide) (hs : starEach (e :: es) X.env = (false, eval e X.env) :: starEach es X.env := by rfl) (hpl : (backTo pos (starEach es X.env)).any (·.1) = false := by rfl) :
    DVX T X CE (.Call (.Name n p) (e :: es) [] pos) ρ O R Rx := fun σ B H hE hA Q W tk q _ =>
  we_of (pe_call (E := fun _ _ _ => False) F hr hg hm hk hb .nil passF pa_wa hdb hs hpl) (ha σ B H hE hA _ fun vs B1 H1 p1 r1 => by
    show spX T X.K CE P (vs ++ []) H1 Q _
    rw [List.append_nil]
    exact ⟨ss, B1, O1, _, _, h, r1, p1.at', fun s' O' v B2 H2 h2 p2 r2 => q s' O' v B2 H2 h2 (p1.trans p2) r2, fun r O' v dd B2 H2 h2 _ _ _ => h2.elim⟩)
/-- C(..), the object owned -/
theorem dvx_make {k : Nat} {f C : Addr} {fd : FuncData} {ps : List Str} {n : Str} {p : Pos} (M : Mk X.K C f) (F : FnOk X.prog X.w X.K X.mg X.base (L2.CX X.prog X.w) k f fd ps (spX T X.K CE P)) (hr : Room (k + 1) X.A) (hm : X.mg n = some (.ref C)) (hb : Binds X.K fd ps [])
    (ha : DA T X (e :: es) ρ O ss O1) (h : ∀ x, O1 x = none → ∃ Rn Rx', P (.val (.ref x) :: ss) (put O1 x (.ins C [])) Rn Rx' ∧ (∀ s O', Rn s O' → s = .dat .non ∧ R (.val (.ref x)) O') ∧ ∀ r O', Rx' r O' → Rx r (cut O' x))
    (hg : Gl X n := by rfl) (hdb : (n == ("__debug__" : Str)) = false := by decide) (hs : starEach (e :: es) X.env = (false, eval e X.env) :: starEach es X.env := by rfl) (hpl : (backTo pos (starEach es X.env)).any (·.1) = false := by rfl) :
    DVX T X CE (.Call (.Name n p) (e :: es) [] pos) ρ O R Rx := fun σ B H hE hA Q W tk q qx =>
  we_of (pe_make (E := fun cls d H' => ∀ σ', W cls d σ' H') M F hr hg hm hb .nil (passes_call tk fun cls d σ H h => h σ) pa_wa hdb hs hpl) (ha σ B H hE hA _ fun vs B1 H1 p1 r1 x dx nx ndx ne => by
    rw [List.append_nil]
    obtain ⟨Rn, Rx', h1, h2, h3⟩ := h x (p1.at'.noO nx)
    have q1 := Post.laid (o := .own x) p1.at' ndx
    have nx' : upd H1 dx (.own x) x = none := by rw [upd_ne (Ne.symm ne)]; exact nx
    have q2 := Post.madeO (o := .ins C dx []) (od := .ins C []) q1.at' nx' ⟨rfl, .nil⟩
    have q3 := (p1.trans q1).trans q2
    refine ⟨.val (.ref x) :: ss, B1, _, Rn, Rx', h1, .cons (show SlotOk X.K B1 (some (.ref x)) (.val (.ref x)) from rfl) r1, q2.at', fun s O' v B2 H2 k1 p2 r2 => ?_, fun r O' v dd B2 H2 k1 p2 e1 r2 σ' => ?_⟩
    · obtain ⟨e1, e2⟩ := h2 s O' k1
      subst e1
      cases (show Rp X.K B2 v .non from r2)
      exact ⟨rfl, q _ O' _ B2 H2 e2 (q3.trans p2) rfl⟩
    · exact qx r _ v dd σ' B2 H2 (h3 r O' k1) ((q3.trans p2).forget x) e1 r2)
/-- the made object, frozen -/
theorem dvx_makeF {k : Nat} {f C : Addr} {fd : FuncData} {ps : List Str} {n : Str} {p : Pos} (M : Mk X.K C f) (F : FnOk X.prog X.w X.K X.mg X.base (L2.CX X.prog X.w) k f fd ps (spX T X.K CE P)) (hr : Room (k + 1) X.A) (hm : X.mg n = some (.ref C)) (hb : Binds X.K fd ps [])
    (ha : DA T X (e :: es) ρ O ss O1) (h : ∀ x, O1 x = none → ∃ Rn Rx', P (.val (.ref x) :: ss) (put O1 x (.ins C [])) Rn Rx' ∧ (∀ s O', Rn s O' → s = .dat .non ∧ ∃ fs : List (Str × D), O' x = some (.ins C (fs.map fun p => (p.1, .dat p.2))) ∧ R (.dat (.ins C fs)) (cut O' x)) ∧ ∀ r O', Rx' r O' → Rx r (cut O' x))
    (hg : Gl X n := by rfl) (hdb : (n == ("__debug__" : Str)) = false := by decide) (hs : starEach (e :: es) X.env = (false, eval e X.env) :: starEach es X.env := by rfl) (hpl : (backTo pos (starEach es X.env)).any (·.1) = false := by rfl) :
    DVX T X CE (.Call (.Name n p) (e :: es) [] pos) ρ O R Rx := fun σ B H hE hA Q W tk q qx =>
  dvx_make (R := fun s O' => ∃ x fs, s = .val (.ref x) ∧ O' x = some (.ins C (List.map (fun p : Str × D => (p.1, Slot.dat p.2)) fs)) ∧ R (.dat (.ins C fs)) (cut O' x)) M F hr hm hb ha (fun x hx => by
    obtain ⟨Rn, Rx', h1, h2, h3⟩ := h x hx
    refine ⟨Rn, Rx', h1, fun s O' k1 => ?_, h3⟩
    obtain ⟨e1, fs, e2, e3⟩ := h2 s O' k1
    exact ⟨e1, x, fs, rfl, e2, e3⟩) hg hdb hs hpl σ B H hE hA Q W tk (fun s O' v B' H' h1 po r => by
      obtain ⟨x, fs, e1, e2, e3⟩ := h1
      subst e1
      have ev : v = .ref x := r
      subst ev
      obtain ⟨_, u, hu, ok⟩ := po.at'.own x _ e2
      cases u <;> try exact ok.elim
      rename_i C' dx vs
      obtain ⟨eC, ok⟩ := ok
      subst eC
      have pf := Post.freeze po.at' e2 hu
      exact q _ _ _ _ _ e3 (po.trans pf) (show Rp X.K _ (.ref x) (.ins C' fs) from .ins upd_same ((FsOk.all ok).mono pf.bb))) qx

/-! ### statements -/
theorem d1_setX (i : Nat) {n : Str} (he : DVX T X CE e ρ O R E.ex) (h : ∀ s O', R s O' → E.nx (ρ.set i s) O') (hN : X.N.Nodup) (hi : X.N[i]? = some n := by rfl) (hx : Loc X.env.scope n := by first | exact Or.inl rfl | exact Or.inr rfl) (hs : swapsWith e (some (.Name n pos')) pos.line X.env = pure false := by rfl)
    (hf : X.fn n = true ∨ X.env.scope.names.lookup n = some .local := by first | exact .inl rfl | exact .inr rfl) : D1 T X CE (.Assign [.Name n pos'] e pos) ρ O E :=
  .mk fun σ B H hE hA Dn W tk l => ws_of (ps_set hN hi hx pe_we hs hf) (he σ B H hE hA _ W tk (fun s O' v B1 H1 h1 p1 r1 => l.nx _ _ _ B1 H1 (h s O' h1) p1 ((hE.mono p1.bb).set r1 i)) fun r O' v dd σ' B1 H1 h1 p1 e1 r1 => l.ex r O' v dd σ' B1 H1 h1 p1 e1 r1)
theorem d1_retX (he : DVX T X CE e ρ O R E.ex) (h : ∀ s O', R s O' → E.rt s O') : D1 T X CE (.Return (some e) pos) ρ O E :=
  .mk fun σ B H hE hA Dn W tk l => ws_of (ps_ret pe_we) (he σ B H hE hA _ W tk (fun s O' v B1 H1 h1 p1 r1 => l.rt _ _ v B1 H1 (h s O' h1) p1 r1) fun r O' v dd σ' B1 H1 h1 p1 e1 r1 => l.ex r O' v dd σ' B1 H1 h1 p1 e1 r1)
theorem d1_exprX (he : DVX T X CE e ρ O R E.ex) (h : ∀ s O', R s O' → E.nx ρ O') (hs : swapsWith e none pos.line X.env = pure false := by rfl) : D1 T X CE (.Expr e pos) ρ O E :=
  .mk fun σ B H hE hA Dn W tk l => ws_of (ps_expr pe_we hs) (he σ B H hE hA _ W tk (fun s O' v B1 H1 h1 p1 r1 => l.nx _ _ _ B1 H1 (h s O' h1) p1 (hE.mono p1.bb)) fun r O' v dd σ' B1 H1 h1 p1 e1 r1 => l.ex r O' v dd σ' B1 H1 h1 p1 e1 r1)
/-- o.f = e, o an owned object -/
theorem d1_fst (i : Nat) {n f : Str} {a C : Addr} {npos apos : Pos} {fs : List (Str × Slot)} (cl : Cls X.K C) (na : NoAttr X.K C f) (hi : ρ[i]? = some (.val (.ref a))) (he : DV T X e ρ O s O1) (ho : O1 a = some (.ins C fs)) (h : E.nx ρ (put O1 a (.ins C (putS f s fs)))) (hl : fs.length < 1000 := by decide)
    (pn : PE X (.Name n npos) (tVar i) := by exact pv _) (hs : swapsWith e (some (.Attribute (.Name n npos) f apos)) pos.line X.env = pure false := by rfl) : D1 T X CE (.Assign [.Attribute (.Name n npos) f apos] e pos) ρ O E := .mk fun σ B H hE hA Dn W tk l => by
  refine ws_of (ps_fld pn pe_we hs) ?_
  refine he σ B H hE hA _ fun w B1 H1 p1 r1 => ?_
  obtain ⟨o, e1, e2⟩ := (hE.mono p1.bb).get hi
  cases o with
  | none => exact e2.elim
  | some v =>
    have ev : v = .ref a := e2
    subst ev
    refine ⟨_, e1, ?_⟩
    obtain ⟨_, u, hu, ok⟩ := p1.at'.own a _ ho
    cases u <;> try exact ok.elim
    rename_i C' dx vs
    obtain ⟨eC, ok⟩ := ok
    subst eC
    have po := Post.put (u := .ins C' dx (putF f w vs)) (od := .ins C' (putS f s fs)) p1.at' ho ⟨rfl, FsOk.put r1 ok⟩
    exact ⟨a, C', dx, vs, rfl, hu, cl, na, by rw [FsOk.length ok]; exact hl, l.nx _ _ _ B1 _ h (p1.trans po) (hE.mono p1.bb)⟩
/-- o.f, o an owned object -/
theorem dv_fldO {f : Str} {a C : Addr} {fs : List (Str × Slot)} (cl : Cls X.K C) (na : NoAttr X.K C f) (ha : DV T X e ρ O (.val (.ref a)) O1) (ho : O1 a = some (.ins C fs)) (h : fs.lookup f = some s) (hb : attributeBase e f X.env (eval e X.env) = eval e X.env := by rfl) : DV T X (.Attribute e f pos) ρ O s O1 := .mk fun σ B H hE hA Q q =>
  we_of (pe_fld pe_we hb) (ha σ B H hE hA _ fun v B1 H1 p1 r1 => by
    have ev : v = .ref a := r1
    subst ev
    obtain ⟨_, u, hu, ok⟩ := p1.at'.own a _ ho
    cases u <;> try exact ok.elim
    rename_i C' dx vs
    obtain ⟨eC, ok⟩ := ok
    subst eC
    obtain ⟨w, h1, h2⟩ := FsOk.get ok h
    exact ⟨a, C', dx, vs, w, rfl, hu, cl, na, h1, q w B1 H1 p1 h2⟩)
/-- the error's __init__ -/
def spI (C : Addr) : Sp := fun vs H Q _ => ∃ a v, vs = [.ref a, v] ∧ H a = some (exo a C none) ∧ ∀ dx, H dx = none → dx ≠ a → Q .non (upd (upd H dx (exd dx [(("reason" : Str), v)])) a (exo a C (some dx)))
/-- raise E(e) -/
theorem d1_raise {CX : CXT} {k : Nat} {fI : Addr} {fd : FuncData} {ps : List Str} {n : Str} {p : Pos} (Te : OexC X.K CE) (iC : PySem.W.findIn X.K (.ref CE) "__init__" = some (some (.ref fI))) (tI : PySem.W.typeIn X.K (.ref fI) = some (.type "function"))
    (F1 : FnOk X.prog X.w X.K X.mg X.base CX k fI fd ps (spI CE)) (hr : Room (k + 1) X.A) (hb : Binds X.K fd ps []) (hx : Passes CX X (fun _ _ _ => False)) (hm : X.mg n = some (.ref CE)) (ha : DE T X e ρ O d O1) (h : E.ex d O1)
    (hc : X.calm = true := by rfl) (hg : Gl X n := by rfl) (hdb : (n == ("__debug__" : Str)) = false := by decide) (hs : starEach [e] X.env = (false, eval e X.env) :: starEach [] X.env := by rfl) : D1 T X CE (.Raise (some (.Call (.Name n p) [e] [] p0)) none pos) ρ O E := .mk fun σ B H hE hA Dn W tk l => by
  refine ws_of (ps_raise hc tk (pmk_oex Te iC tI F1 hr hb .nil hx hg hm (pa_cons pe_we pa_nil hs) hdb hs)) ?_
  refine ha σ B H hE hA _ fun v B1 H1 p1 r1 => ⟨by show 1 ≤ 1000; decide, fun a na => ?_⟩
  refine ⟨a, v, rfl, upd_same, fun dx ndx ne => ⟨rfl, dx, [(("reason" : Str), v)], upd_same, ?_, ?_, ?_⟩⟩
  · rw [upd_ne ne, upd_same]
  · rw [upd_ne ne] at ndx
    exact ndx
  · have n1 : H1 dx = none := by
      rw [upd_ne ne] at ndx
      exact ndx
    have eH : upd (del (upd (upd (upd H1 a (exo a CE none)) dx (exd dx [(("reason" : Str), v)])) a (exo a CE (some dx))) a) dx (.xd [(("reason" : Str), v)]) = upd H1 dx (.xd [(("reason" : Str), v)]) := by
      funext b
      by_cases h1 : b = dx
      · rw [h1, upd_same, upd_same]
      · rw [upd_ne h1, upd_ne h1]
        by_cases h2 : b = a
        · rw [h2, del_same, na]
        · rw [del_ne h2, upd_ne h2, upd_ne h1, upd_ne h2]
    rw [eH]
    exact l.ex d O1 v dx σ B1 _ h (p1.trans (Post.laid p1.at' n1)) upd_same r1
theorem takes_len {X : Cx} {W : WX} (tk : Takes X W) : Takes X (fun c d σ H => σ.length = X.N.length → W c d σ H) := fun u s' ⟨a, B, sI, pins, σ, H, cls, d, e, I, nb, up, sky, na, os, ag, w⟩ =>
  tk u s' ⟨a, B, sI, pins, σ, H, cls, d, e, I, nb, up, sky, na, os, ag, w I.len⟩
/-- try: .. except E as n: return n.reason -/
theorem d1_try (i : Nat) {n x : Str} {np p1 p2 p3 : Pos} {body : List Stmt} (Xf : XfC X.K CE) (hno : PySem.W.findIn X.K (.ref CE) "reason" = some none) (hself : PySem.W.exmOne X.K (.ref CE) (.ref CE) = some true) (hm : X.mg x = some (.ref CE)) (hN : X.N.Nodup)
    (hb : ∀ (pn : List (Addr × Obj)) (xe : Value → Shared → Prop), PassesOwn (model X.prog X.w) X.A X.env xe → DS T (X.tr pn xe) CE body ρ O { E with ex := fun r O' => E.rt (.dat r) O' })
    (hs : X.stack = X.env :: X.outer := by rfl) (hf : X.env.frame = some X.env.locals := by rfl) (hi : X.N[i]? = some n := by rfl) (hln : X.env.kindOf n = some .local := by rfl) (hg : Gl X x := by rfl) (hdb : (x == ("__debug__" : Str)) = false := by decide)
    (hvis : Vis X.env.scope n := by first | exact Or.inl rfl | exact Or.inr (Or.inl rfl) | exact Or.inr (Or.inr rfl)) (hd : (n == ("__debug__" : Str)) = false := by decide) (hcd : (n == ("__classdict__" : Str)) = false := by decide)
    (hba : attributeBase (.Name n p1) "reason" X.env (eval (.Name n p1) X.env) = eval (.Name n p1) X.env := by rfl) :
    D1 T X CE (.Try body [.ExceptHandler (some (.Name x np)) (some n) [.Return (some (.Attribute (.Name n p1) "reason" p2)) p3] pos'] [] [] pos) ρ O E := .mk fun σ B H hE hA Dn W tk l => by
  refine ws_of (ps_try_as (i := i) hs hf hN hi hln ⟨hg, hdb, .inl hm⟩ tk (fun W' pn xe tk' pa => (⟨fun pins s σ2 H2 D2 I q => q pn xe tk' pa pins s I⟩ : PSs (X.tr pn xe) body (fun D2 σ2 H2 => ∀ pn xe, Takes (X.tr pn xe) W' → PassesOwn (model X.prog X.w) X.A X.env xe → WSs (X.tr pn xe) body D2 σ2 H2)))
    (fun a oe cls d pn hz hfl => pss_one (ps_ret (pe_xf Xf hno hz hfl (pe_var (i := i) hi hvis hd hcd) hba)))) ?_
  refine fun pn xe tk' pa => hb pn xe pa σ B H hE hA Dn _ (takes_len tk') ⟨l.nx, l.rt, l.bk, l.ct, fun r O' v dd σ' B' H' h1 po e1 r1 hlen => ?_⟩
  have hlen' : σ'.length = X.N.length := hlen
  have hilt : i < σ'.length := by rw [hlen']; exact (List.getElem?_eq_some_iff.mp hi).1
  refine ⟨true, hself, fun _ a na => ?_, fun z => by cases z⟩
  have q := l.rt (.dat r) O' v B' H' h1 po r1
  refine ⟨.ref a, ?_, rfl, rfl, dd, _, v, rfl, e1, by simp [List.lookup], q⟩
  rw [List.getElem?_set_self hilt]
end
end Dz


namespace DzS
open PySem PySem.Spec PyProof.Rows PySem.W PySem.Calls
section
variable {prog : Program} {w : World} {A : Around} {E : Value → Shared → Prop} {s : Shared} {env : Env} {elts : List Expr} {k : Nat} {pos : Pos}
theorem star_items {l : Addr} {items : Array Value} {n i : Nat} {Q : List Value → Shared → Prop} (hl : IsTup s.heap l items) (hh : A.handled = none) (hi : i < n) (hn : n ≤ items.size + 1) (hz : items.size ≤ 16384)
    (h : ∀ (h₂ : Heap) (tk : Nat), (∀ b o, s.heap.get? b = some o → h₂.get? b = some o) →
      Q (items.toList.take i ++ [.ref h₂.objs.size] ++ (items.toList.drop i).drop (items.size + 1 - n)) { s with heap := h₂.push { cls := .type "list", data := .seq ((items.toList.drop i).take (items.size + 1 - n)).toArray }, toks := tk }) : wpAny (model prog w) A (unpackItems (.ref l) n (some i)) Q E s := by
  have zLt : l ≠ s.heap.objs.size := by obtain ⟨o, ho, _⟩ := hl; exact Nat.ne_of_lt (Heap.lt_size ho)
  have zLl : l < s.heap.objs.size := by obtain ⟨o, ho, _⟩ := hl; exact Heap.lt_size ho
  unfold unpackItems
  refine wpAny_bind ?_
  unfold notIterableAtAll
  refine wpAny_bind (wpAny_specialOf hl.typeIs slot_tuple_iter.lookup ?_)
  refine wpAny_pure ?_
  simp only [Bool.false_eq_true, if_false]
  refine wpAny_bind (wpAny_holding (iter_tuple hl ?_))
  refine wpAny_bind (wpAny_holding (draw_tuple zLt i 0 _ _ ⟨_, Heap.get?_push_size _ rfl, rfl, rfl⟩ (hl.push _) (by omega) fun h₁ vI1 vS1 => ?_))
  have vL1 : IsTup h₁ l items := (hl.push _).extBut vS1.extBut zLt
  rw [Nat.zero_add] at vI1
  have vI2 := vI1
  obtain ⟨w1, vOi, _⟩ := vI2
  have vL2 := vL1
  obtain ⟨w2, vOl, _⟩ := vL2
  rw [List.drop_zero]
  have vFl : (items.toList.take i).length = i := by rw [List.length_take, Array.length_toList]; omega
  rw [if_neg (show ¬ ((items.toList.take i).length < i) by rw [vFl]; omega)]
  refine wpAny_bind (wpAny_holding (kun_collect (s := { s with heap := h₁ }) (T := "tuple_iterator") (.inr (.inr (.inr rfl))) (Walks.tuple (A := A.in1) hh s.heap.objs.size l zLt items) (fun j u st => st.1.typeIs) (k := i) (by omega) ⟨vI1, vL1⟩ (Heap.lt_size vOi) (Heap.lt_size vOl) (fun h₂ tk vK => ?_) (by rw [sizeLine_eq]; omega)))
  have vRl : (items.toList.drop i).length = items.size - i := by rw [List.length_drop, Array.length_toList]
  have vMd : (items.toList.drop i).length - (n - 1 - i) = items.size + 1 - n := by rw [vRl]; omega
  show wpAny _ _ (if (items.toList.drop i).length < n - 1 - i then _ else _) _ _ _
  rw [if_neg (by rw [vRl]; omega)]
  show wpAny _ _ (newList ((items.toList.drop i).take ((items.toList.drop i).length - (n - 1 - i))) >>= fun d => pure (items.toList.take i ++ [d] ++ (items.toList.drop i).drop ((items.toList.drop i).length - (n - 1 - i)))) _ _ _
  rw [vMd]
  have kp : ∀ b o, s.heap.get? b = some o → h₂.get? b = some o := fun b o e => by
    have hb : b ≠ s.heap.objs.size := Nat.ne_of_lt (Heap.lt_size e)
    exact vK b o hb ((vS1.2 b hb).trans (Heap.get?_push_of_some _ e))
  exact wpAny_bind (wpAny_newList (wpAny_pure (h _ tk kp)) (by rw [List.length_take, vRl, sizeLine_eq]; omega))
end
end DzS
namespace Dz
open PySem PySem.Spec PyProof.Rows L2 GxR
/-- (a, *b) = a tuple: the list behind -/
def gStar (K : PySem.W.Frag) (n i : Nat) (t : TGs) : TG := fun v σ H Q => ∃ a xs, v = .ref a ∧ SqT K H a xs ∧ n ≤ xs.length + 1 ∧ xs.length ≤ 10000 ∧ ∀ D, H D = none → t (xs.take i ++ [.ref D] ++ (xs.drop i).drop (xs.length + 1 - n)) σ (upd H D (.lst ((xs.drop i).take (xs.length + 1 - n)))) Q
theorem pg_star {X : Cx} {es : List Expr} {k : Nat} {t : TGs} {n i : Nat} {pos : Pos} (hc : X.calm = true) (h : PGs X es t) (hi : i < n)
    (hn : (assignEach es X.env).length = n := by rfl) (hst : (assignEach es X.env).findIdx? (·.1) = some i := by rfl) : PG X (.Tuple es k pos) (gStar X.K n i t) := by
  refine ⟨fun pins s σ H v u Q I r hw => ?_⟩
  obtain ⟨a, xs, e1, hq, hl, hz0, hw⟩ := hw
  subst e1
  cases r
  obtain ⟨its, rv, ht, hz⟩ := I.tuple hq
  have el : its.length = xs.length := rv.length.symm
  rw [assign_Tuple]
  refine wpAny_bind (wpAny_standAt ?_)
  unfold unpack
  rw [hn, hst]
  refine wpAny_bind (wpAny_holding (DzS.star_items (items := its.toArray) ht (I.ok.hd hc) hi (by rw [List.size_toArray, el]; exact hl) (by rw [List.size_toArray, el]; omega) fun h₂ tk kp => ?_))
  have I1 : Inv X pins σ H { s with heap := h₂, toks := tk } := I.kept (t' := tk) kp
  have e9 : its.toArray.size = xs.length := by rw [List.size_toArray, el]
  rw [e9]
  have I2 : Inv X pins σ (upd H h₂.objs.size (.lst ((xs.drop i).take (xs.length + 1 - n)))) { s with heap := h₂.push { cls := .type "list", data := .seq ((its.drop i).take (xs.length + 1 - n)).toArray }, toks := tk } :=
    I1.laid (t' := tk) (fun b o e => Heap.get?_push_of_some _ e) (Nat.le_refl _) (show ObjOk X.prog X.w _ _ _ (.lst _) from ⟨by rw [List.length_take, List.length_drop, sizeLine_eq]; omega, _, 0, (rv.drop i).take _, Heap.get?_push_size _ rfl⟩)
  exact h.run pins _ σ _ _ _ Q I2 (((rv.take i).append (.cons (show L2.RelV (V.ref h₂.objs.size) (Value.ref h₂.objs.size) from rfl) .nil)).append ((rv.drop i).drop _)) (hw _ (I1.hok.fresh (Nat.le_refl _)))

section
variable {T : List Addr} {X : Cx} {CE : Addr} {ρ : List Slot} {O O1 O2 O3 O4 : OH} {e a b c : Expr} {es rest : List Expr} {pos pos' p0 : Pos} {d x y z : D} {s : Slot} {ss : List Slot} {ds ds' : List D} {E : DEn} {R : Slot → OH → Prop} {body : List Stmt}
theorem DE.cast {d' : D} (h : DE T X e ρ O d O1) (q : d = d') : DE T X e ρ O d' O1 := q ▸ h
theorem DT.cast {p q : Bool} (h : DT T X e ρ O p O1) (k : p = q) : DT T X e ρ O q O1 := k ▸ h
/-- a, *b = e : two names -/
theorem d1_star2 {n1 n2 : Str} {q1 q2 q3 tp : Pos} {k i j : Nat} (he : DE T X e ρ O (.tup (d :: ds)) O1) (hl : ds.length < 9999) (h : E.nx ((ρ.set i (.dat d)).set j (.dat (.lst ds))) O1) (hN : X.N.Nodup) (hc : X.calm = true := by rfl) (hi : X.N[i]? = some n1 := by rfl) (hj : X.N[j]? = some n2 := by rfl)
    (hx : Loc X.env.scope n1 := by first | exact Or.inl rfl | exact Or.inr rfl) (hy : Loc X.env.scope n2 := by first | exact Or.inl rfl | exact Or.inr rfl) (hf : X.fn n1 = true ∨ X.env.scope.names.lookup n1 = some .local := by first | exact .inl rfl | exact .inr rfl) (hg : X.fn n2 = true ∨ X.env.scope.names.lookup n2 = some .local := by first | exact .inl rfl | exact .inr rfl)
    (g1 : (assignEach [.Name n1 q1, .Starred (.Name n2 q2) q3] X.env).length = 2 := by rfl) (g2 : (assignEach [.Name n1 q1, .Starred (.Name n2 q2) q3] X.env).findIdx? (·.1) = some 1 := by rfl)
    (g3 : (assignEach [.Name n1 q1, .Starred (.Name n2 q2) q3] X.env).map (·.2) = assign (.Name n1 q1) X.env :: (assignEach [.Name n2 q2] X.env).map (·.2) := by rfl) (g4 : (assignEach [.Name n2 q2] X.env).map (·.2) = assign (.Name n2 q2) X.env :: (assignEach [] X.env).map (·.2) := by rfl)
    (h1 : swapsWithSole [.Tuple [.Name n1 q1, .Starred (.Name n2 q2) q3] k tp] e pos.line X.env = pure false := by rfl) (h2 : swappedStores [.Tuple [.Name n1 q1, .Starred (.Name n2 q2) q3] k tp] e X.env = pure none := by rfl) (h3 : (assignEach [.Tuple [.Name n1 q1, .Starred (.Name n2 q2) q3] k tp] X.env).map (·.2) = [assign (.Tuple [.Name n1 q1, .Starred (.Name n2 q2) q3] k tp) X.env] := by rfl) :
    D1 T X CE (.Assign [.Tuple [.Name n1 q1, .Starred (.Name n2 q2) q3] k tp] e pos) ρ O E := .mk fun σ B H hE hA Dn W tk l => by
  have pgs : PGs X [.Name n1 q1, .Starred (.Name n2 q2) q3] (gCons (gName i) (gCons (gName j) gNil)) := by
    refine ⟨fun pins s σ H vs us Q I r h => ?_⟩
    obtain ⟨v, vr, e1, h⟩ := h
    subst e1
    cases r with
    | cons r rr =>
      rw [g3]
      refine assignInOrder_cons (thn ((pg_name hN hi hx hf).run pins s σ H _ _ _ I r h) fun _ s1 ⟨σ1, H1, I1, q1⟩ => ?_)
      exact (pgs_cons (pg_name hN hj hy hg) pgs_nil g4).run pins s1 σ1 H1 _ _ Q I1 rr q1
  refine ws_of (ps_asg pe_we (pg_star hc pgs (by decide) g1 g2) h1 h2 h3) ?_
  refine he σ B H hE hA _ fun w B1 H1 p1 r1 => ?_
  cases r1 with
  | tup hq r =>
    rename_i ad xs
    cases r with
    | cons r0 rr =>
      rename_i v vs
      have el : vs.length = ds.length := rr.length
      have eS : (v :: vs).length + 1 - 2 = vs.length := by rw [List.length_cons]; omega
      refine ⟨ad, v :: vs, rfl, same_t p1.at'.base hq, by rw [List.length_cons]; omega, by rw [List.length_cons]; omega, fun D hD => ?_⟩
      rw [eS]
      have e1 : ((v :: vs).drop 1).take vs.length = vs := by simp
      have e2 : (v :: vs).take 1 ++ [V.ref D] ++ ((v :: vs).drop 1).drop vs.length = [v, V.ref D] := by simp
      rw [e1, e2]
      have po := Post.made (o := .lst vs) p1.at' hD
      refine ⟨v, [V.ref D], rfl, V.ref D, [], rfl, rfl, ?_⟩
      refine l.nx _ _ _ _ _ h (p1.trans po) (((hE.mono (p1.trans po).bb).set (o := some v) (s := .dat d) (show SlotOk X.K _ (some v) (.dat d) from r0.mono po.bb) i).set (o := some (.ref D)) (s := .dat (.lst ds)) ?_ j)
      exact (show Rp X.K _ (.ref D) (.lst ds) from .lst upd_same (rr.mono po.bb))

/-! ### what stands in the written part -/
def all2 {α β : Type} (f : α → β → Bool) : List α → List β → Bool
  | [], [] => true
  | a :: as, b :: bs => f a b && all2 f as bs
  | _, _ => false
/-- the value is this data: constants and tuples -/
def kdB (K : PySem.W.Frag) : Nat → Value → D → Bool
  | _, .none, .non => true
  | _, .bool b, .bl c => b == c
  | _, .int i _, .int j => i == j
  | _, .str x _, .str y => x == y
  | n + 1, .ref a, .tup ds => match K.lookup a with
    | some ⟨.type t, _, .seq its _, _⟩ => decide (t = "tuple") && (decide (its.size ≤ 10000) && all2 (kdB K n) its.toList ds)
    | _ => false
  | _, _, _ => false
theorem all2_rp {K : PySem.W.Frag} {f : Value → D → Bool} (h : ∀ v d, f v d = true → ∃ x, RelV x v ∧ ∀ B : Hp, Rp K B x d) : ∀ (vs : List Value) (ds : List D), all2 f vs ds = true → ∃ xs, Vals xs vs ∧ ∀ B : Hp, RpAll K B xs ds
  | [], [], _ => ⟨[], .nil, fun _ => .nil⟩
  | v :: vs, d :: ds, q => by
    rw [all2, Bool.and_eq_true] at q
    obtain ⟨x, r, g⟩ := h v d q.1
    obtain ⟨xs, rs, gs⟩ := all2_rp h vs ds q.2
    exact ⟨x :: xs, .cons r rs, fun B => .cons (g B) (gs B)⟩
  | [], _ :: _, q => by simp [all2] at q
  | _ :: _, [], q => by simp [all2] at q
theorem kdB_ok {K : PySem.W.Frag} : ∀ (n : Nat) (v : Value) (d : D), kdB K n v d = true → ∃ x, RelV x v ∧ ∀ B : Hp, Rp K B x d := by
  intro n
  induction n with
  | zero =>
    intro v d h
    unfold kdB at h
    split at h <;> first | (exact absurd h Bool.false_ne_true) | skip
    · exact ⟨.non, rfl, fun _ => .non⟩
    · exact ⟨.bl _, rfl, fun _ => by rw [eq_of_beq h]; exact .bl _⟩
    · exact ⟨.int _, ⟨_, rfl⟩, fun _ => by rw [eq_of_beq h]; exact .int _⟩
    · exact ⟨.str _, ⟨_, rfl⟩, fun _ => by rw [eq_of_beq h]; exact .str _⟩
    · cases ‹0 = _ + 1›
  | succ n ih =>
    intro v d h
    unfold kdB at h
    split at h <;> first | (exact absurd h Bool.false_ne_true) | skip
    · exact ⟨.non, rfl, fun _ => .non⟩
    · exact ⟨.bl _, rfl, fun _ => by rw [eq_of_beq h]; exact .bl _⟩
    · exact ⟨.int _, ⟨_, rfl⟩, fun _ => by rw [eq_of_beq h]; exact .int _⟩
    · exact ⟨.str _, ⟨_, rfl⟩, fun _ => by rw [eq_of_beq h]; exact .str _⟩
    · rename_i n' a ds en
      cases en
      split at h
      · rename_i t dd its k sl hk
        rw [Bool.and_eq_true, Bool.and_eq_true] at h
        obtain ⟨h1, h2, h3⟩ := h
        have h1 := of_decide_eq_true h1
        subst h1
        obtain ⟨xs, rs, gs⟩ := all2_rp ih its.toList ds h3
        exact ⟨.ref a, rfl, fun B => .tup (.inr ⟨_, its, k, hk, rfl, rfl, Nat.le_trans (of_decide_eq_true h2) (by decide), rs⟩) (gs B)⟩
      · exact absurd h Bool.false_ne_true
/-- a module's constant -/
theorem de_gk {n : Nat} {x : Str} {u : Value} {p : Pos} (hm : X.mg x = some u) (hk : kdB X.K n u d = true) (hg : Gl X x := by rfl) (hd : (x == ("__debug__" : Str)) = false := by decide) : DE T X (.Name x p) ρ O d O := by
  obtain ⟨v, r, g⟩ := kdB_ok n u d hk
  exact de_glob hm r g hg hd
/-- an item of a module's dict -/
theorem de_kget {x t : Str} {ad : Addr} {v : V} {p : Pos} (hm : X.mg x = some (.ref ad)) (hk : KDct X.K X.w ad t v) (hr : ∀ B : Hp, Rp X.K B v d) (hb : DE T X b ρ O (.str t) O1) (hg : Gl X x := by rfl) (hd : (x == ("__debug__" : Str)) = false := by decide) (hs : PlainIx b := by intro _ _; rfl) :
    DE T X (.Subscript (.Name x p) b pos) ρ O d O1 :=
  de_of (pe_ix ix_kdict (pe_glob (v := .ref ad) hg hm rfl hd) pe_we hs) fun σ B H hE hA Q q => hb σ B H hE hA _ fun w B1 H1 p1 r1 => by
    cases r1
    exact ⟨ad, t, v, rfl, rfl, hk, q v B1 H1 p1 (hr B1)⟩

/-! ### a <= b <= c -/
theorem de_chain {op op' : CmpOp} {r r' : R2} {p q : Bool} (ho : OpR X (compareOp op) r) (ho' : OpR X (compareOp op') r') (ha : DE T X a ρ O x O1) (hb : DE T X b ρ O1 y O2) (hr : ROp T X r O2 x y (.bl p) O2) (hc : DE T X c ρ O2 z O2) (hr' : ROp T X r' O2 y z (.bl q) O2)
    (hm : lastMarks [op, op'] [b, c] = false := by with_unfolding_all rfl) : DE T X (.Compare a [op, op'] [b, c] pos) ρ O (.bl (p && q)) O2 :=
  de_of (pe_chain ho ho' pe_we pe_we pe_we hm) fun σ B H hE hA Q k => two ha hb hE hA fun v w B' H' p1 rv rw' => hr v w B' H' p1.at' rv rw' _ fun u B2 H2 p2 ru => by
    cases ru
    refine ⟨p, rfl, ?_⟩
    cases p with
    | false => exact k _ B2 H2 (p1.trans p2) (.bl false)
    | true =>
      have p12 := p1.trans p2
      exact hc σ B2 H2 (hE.mono p12.bb) p12.at' _ fun t B3 H3 p3 rt => hr' w t B3 H3 p3.at' ((rw'.mono p2.bb).mono p3.bb) rt _ fun u2 B4 H4 p4 r4 => k u2 B4 H4 ((p12.trans p3).trans p4) r4
theorem dt_chain {op op' : CmpOp} {r r' : R2} {p q : Bool} (ho : OpR X (compareOp op) r) (ho' : OpR X (compareOp op') r') (ha : DE T X a ρ O x O1) (hb : DE T X b ρ O1 y O2) (hr : ROp T X r O2 x y (.bl p) O2) (hc : DE T X c ρ O2 z O2) (hr' : ROp T X r' O2 y z (.bl q) O2)
    (hm : lastMarks [op, op'] [b, c] = false := by with_unfolding_all rfl) : DT T X (.Compare a [op, op'] [b, c] pos) ρ O (p && q) O2 :=
  .mk fun σ B H hE hA Q k => wt_of (pt_chain ho ho' pe_we pe_we pe_we hm) (two ha hb hE hA fun v w B' H' p1 rv rw' => hr v w B' H' p1.at' rv rw' _ fun u B2 H2 p2 ru => by
    cases ru
    refine ⟨p, rfl, ?_⟩
    cases p with
    | false => exact ⟨false, rfl, k B2 H2 (p1.trans p2)⟩
    | true =>
      have p12 := p1.trans p2
      exact hc σ B2 H2 (hE.mono p12.bb) p12.at' _ fun t B3 H3 p3 rt => hr' w t B3 H3 p3.at' ((rw'.mono p2.bb).mono p3.bb) rt _ fun u2 B4 H4 p4 r4 => by
        cases r4
        exact ⟨q, rfl, k B4 H4 ((p12.trans p3).trans p4)⟩)
end

/-! ### a def that may raise -/
theorem fn_okX {P : Program} {w : World} {K : PySem.W.Frag} {mg : Str → Option Value} {base : Heap} {T : List Addr} {CE : Addr} {x qual : Str} {st : Stmt} {f : Addr} {fd : FuncData} {cdv : Value} {N ps : List Str} {k : Nat} {R : PR} (F : FunC K x qual st f fd cdv) (S : FnScope N ps (defScope st))
    (hlen : ∀ ss O Rn Rx, R ss O Rn Rx → ss.length = ps.length)
    (body : ∀ (A : Around) (outer : List PySem.Env) (s : Shared) (H : Hp) (E : XK) (ss : List Slot) (O : OH) (Rn : Slot → OH → Prop) (Rx : D → OH → Prop), Room k (A.deeper (envOfC qual (defScope st) s.heap.objs.size f cdv)) → R ss O Rn Rx →
      DS T (bxX P w K mg base N qual st f cdv A outer s H E) CE (defBody st) (ss ++ List.replicate (N.length - ss.length) .no) O { nx := fun _ o => Rn (.dat .non) o, rt := Rn, ex := Rx }) :
    FnOk P w K mg base (L2.CX P w) (k + 1) f fd ps (spX T K CE R) := by
  obtain ⟨oc, od, kV, doc, pm, an, ct, osl, rfl, lk, hcd⟩ := F.ex
  refine fn_of lk hcd S (fun vs H Q E h => ?_) fun A outer s H vs Q E hr hsp => ?_
  · obtain ⟨ss, B, O, Rn, Rx, h1, h2, _⟩ := h
    rw [h2.length]
    exact hlen _ _ _ _ h1
  · obtain ⟨ss, B, O, Rn, Rx, h1, h2, h3, h4, h5⟩ := hsp
    have hb := body A outer s H E ss O Rn Rx hr h1
    refine ⟨WSs (bxX P w K mg base N qual st f cdv A outer s H E) (defBody st), pss_wss, ?_⟩
    have e1 : L2.start N vs = vs.map some ++ List.replicate (N.length - ss.length) none := by
      unfold L2.start
      rw [h2.length]
    rw [e1]
    refine hb _ B H (Env.of_args _ h2) h3 _ (fun cls d _ H => E cls d H) (takes_of rfl rfl rfl rfl) ⟨fun ρ O2 σ B2 H2 q po _ => ?_, fun s' O2 v B2 H2 q po r => ?_, fun _ _ _ _ _ q => q.elim, fun _ _ _ _ _ q => q.elim, fun r O2 v dd σ B2 H2 q po e1 e2 => ?_⟩
    · exact h4 (.dat .non) O2 .non B2 H2 q po .non
    · exact h4 s' O2 v B2 H2 q po r
    · exact h5 r O2 v dd B2 H2 q po e1 e2
end Dz

namespace Dz
open PySem PySem.Spec PyProof.Rows L2 GxR
/-- data whose type is told -/
inductive Pl : D → Prop
  | non : Pl .non
  | bl (b : Bool) : Pl (.bl b)
  | int (i : Int) : Pl (.int i)
  | str (x : Str) : Pl (.str x)
  | lst (ds : List D) : Pl (.lst ds)
  | tup (ds : List D) : Pl (.tup ds)
def D.ty : D → String
  | .non => "NoneType"
  | .bl _ => "bool"
  | .int _ => "int"
  | .str _ => "str"
  | .lst _ => "list"
  | .tup _ => "tuple"
  | _ => "dict"
theorem Pl.dty {d : D} (h : Pl d) : DTy d d.ty := by
  cases h <;> constructor
def isaInt : D → Bool
  | .int _ => true
  | .bl _ => true
  | _ => false
def isaBool : D → Bool
  | .bl _ => true
  | _ => false
def isaStr : D → Bool
  | .str _ => true
  | _ => false
def isaList : D → Bool
  | .lst _ => true
  | _ => false
def isaTup : D → Bool
  | .tup _ => true
  | _ => false
theorem kit_int {d : D} (h : Pl d) : kitB d.ty "int" = some (isaInt d) := by cases h <;> (simp only [D.ty, isaInt]; decide +kernel)
theorem kit_bool {d : D} (h : Pl d) : kitB d.ty "bool" = some (isaBool d) := by cases h <;> (simp only [D.ty, isaBool]; decide +kernel)
theorem kit_str {d : D} (h : Pl d) : kitB d.ty "str" = some (isaStr d) := by cases h <;> (simp only [D.ty, isaStr]; decide +kernel)
theorem kit_list {d : D} (h : Pl d) : kitB d.ty "list" = some (isaList d) := by cases h <;> (simp only [D.ty, isaList]; decide +kernel)
theorem kit_tuple {d : D} (h : Pl d) : kitB d.ty "tuple" = some (isaTup d) := by cases h <;> (simp only [D.ty, isaTup]; decide +kernel)
theorem bt_int : bootBuiltins "int" = some (.type "int") := by decide +kernel
theorem bt_bool : bootBuiltins "bool" = some (.type "bool") := by decide +kernel
theorem bt_str : bootBuiltins "str" = some (.type "str") := by decide +kernel
theorem bt_list : bootBuiltins "list" = some (.type "list") := by decide +kernel
theorem bt_tuple : bootBuiltins "tuple" = some (.type "tuple") := by decide +kernel
/-- what the built-ins' names mean -/
structure Blt (mg : Str → Option Value) : Prop where
  isinstance : mg "isinstance" = none
  int : mg "int" = none
  bool : mg "bool" = none
  str : mg "str" = none
  list : mg "list" = none
  tuple : mg "tuple" = none
  len : mg "len" = none
  set : mg "set" = none
  all : mg "all" = none
  sorted : mg "sorted" = none
  range : mg "range" = none
  abs : mg "abs" = none
section
variable {T : List Addr} {X : Cx} {ρ : List Slot} {O O1 O2 : OH} {e : Expr} {es : List Expr} {d : D} {ss : List Slot} {s : Slot}
theorem DA.cast {ss' : List Slot} (h : DA T X es ρ O ss O1) (q : ss = ss') : DA T X es ρ O ss' O1 := q ▸ h
/-- arguments that are data -/
theorem da_d (ha : DE T X e ρ O d O1) (hr : DA T X es ρ O1 ss O2) (hs : starEach (e :: es) X.env = (false, eval e X.env) :: starEach es X.env := by rfl) : DA T X (e :: es) ρ O (.dat d :: ss) O2 := da_cons ha.dv hr hs
theorem da_v (ha : DV T X e ρ O s O1) (hr : DA T X es ρ O1 ss O2) (hs : starEach (e :: es) X.env = (false, eval e X.env) :: starEach es X.env := by rfl) : DA T X (e :: es) ρ O (s :: ss) O2 := da_cons ha hr hs
end
section
variable {T : List Addr} {X : Cx} {ρ : List Slot} {O O1 O2 O3 : OH} {e a b c : Expr} {pos p0 p1 p2 p3 : Pos} {d x y z : D} {x1 : Nat} (L : Blt X.mg)
include L
theorem de_isInt (hx : Pl x) (ha : DE T X e ρ O x O1) (hg : Gl X "isinstance" := by rfl) (hg2 : Gl X "int" := by rfl) (he : starEach [e, .Name "int" p1] X.env = (false, eval e X.env) :: starEach [.Name "int" p1] X.env := by rfl) (he2 : starEach [.Name "int" p1] X.env = (false, eval (.Name "int" p1) X.env) :: starEach [] X.env := by rfl) (hpl : (backTo pos (starEach [.Name "int" p1] X.env)).any (·.1) = false := by rfl) :
    DE T X (.Call (.Name "isinstance" p0) [e, .Name "int" p1] [] pos) ρ O (.bl (isaInt x)) O1 := de_isi L.isinstance L.int bt_int ha hx.dty (kit_int hx) (by decide +kernel) hg hg2 (by decide) (by decide) he he2 hpl
theorem de_isBool (hx : Pl x) (ha : DE T X e ρ O x O1) (hg : Gl X "isinstance" := by rfl) (hg2 : Gl X "bool" := by rfl) (he : starEach [e, .Name "bool" p1] X.env = (false, eval e X.env) :: starEach [.Name "bool" p1] X.env := by rfl) (he2 : starEach [.Name "bool" p1] X.env = (false, eval (.Name "bool" p1) X.env) :: starEach [] X.env := by rfl) (hpl : (backTo pos (starEach [.Name "bool" p1] X.env)).any (·.1) = false := by rfl) :
    DE T X (.Call (.Name "isinstance" p0) [e, .Name "bool" p1] [] pos) ρ O (.bl (isaBool x)) O1 := de_isi L.isinstance L.bool bt_bool ha hx.dty (kit_bool hx) (by decide +kernel) hg hg2 (by decide) (by decide) he he2 hpl
theorem de_isStr (hx : Pl x) (ha : DE T X e ρ O x O1) (hg : Gl X "isinstance" := by rfl) (hg2 : Gl X "str" := by rfl) (he : starEach [e, .Name "str" p1] X.env = (false, eval e X.env) :: starEach [.Name "str" p1] X.env := by rfl) (he2 : starEach [.Name "str" p1] X.env = (false, eval (.Name "str" p1) X.env) :: starEach [] X.env := by rfl) (hpl : (backTo pos (starEach [.Name "str" p1] X.env)).any (·.1) = false := by rfl) :
    DE T X (.Call (.Name "isinstance" p0) [e, .Name "str" p1] [] pos) ρ O (.bl (isaStr x)) O1 := de_isi L.isinstance L.str bt_str ha hx.dty (kit_str hx) (by decide +kernel) hg hg2 (by decide) (by decide) he he2 hpl
theorem de_isList (hx : Pl x) (ha : DE T X e ρ O x O1) (hg : Gl X "isinstance" := by rfl) (hg2 : Gl X "list" := by rfl) (he : starEach [e, .Name "list" p1] X.env = (false, eval e X.env) :: starEach [.Name "list" p1] X.env := by rfl) (he2 : starEach [.Name "list" p1] X.env = (false, eval (.Name "list" p1) X.env) :: starEach [] X.env := by rfl) (hpl : (backTo pos (starEach [.Name "list" p1] X.env)).any (·.1) = false := by rfl) :
    DE T X (.Call (.Name "isinstance" p0) [e, .Name "list" p1] [] pos) ρ O (.bl (isaList x)) O1 := de_isi L.isinstance L.list bt_list ha hx.dty (kit_list hx) (by decide +kernel) hg hg2 (by decide) (by decide) he he2 hpl
theorem de_isTup (hx : Pl x) (ha : DE T X e ρ O x O1) (hg : Gl X "isinstance" := by rfl) (hg2 : Gl X "tuple" := by rfl) (he : starEach [e, .Name "tuple" p1] X.env = (false, eval e X.env) :: starEach [.Name "tuple" p1] X.env := by rfl) (he2 : starEach [.Name "tuple" p1] X.env = (false, eval (.Name "tuple" p1) X.env) :: starEach [] X.env := by rfl) (hpl : (backTo pos (starEach [.Name "tuple" p1] X.env)).any (·.1) = false := by rfl) :
    DE T X (.Call (.Name "isinstance" p0) [e, .Name "tuple" p1] [] pos) ρ O (.bl (isaTup x)) O1 := de_isi L.isinstance L.tuple bt_tuple ha hx.dty (kit_tuple hx) (by decide +kernel) hg hg2 (by decide) (by decide) he he2 hpl
/-- isinstance(x, (list, tuple)) -/
theorem de_isLT (hx : Pl x) (ha : DE T X e ρ O x O1)
    (hg : Gl X "isinstance" := by rfl) (hg2 : Gl X "list" := by rfl) (hg3 : Gl X "tuple" := by rfl)
    (he : starEach [e, .Tuple [.Name "list" p1, .Name "tuple" p2] x1 p3] X.env = (false, eval e X.env) :: starEach [.Tuple [.Name "list" p1, .Name "tuple" p2] x1 p3] X.env := by rfl) (he2 : starEach [.Tuple [.Name "list" p1, .Name "tuple" p2] x1 p3] X.env = (false, eval (.Tuple [.Name "list" p1, .Name "tuple" p2] x1 p3) X.env) :: starEach [] X.env := by rfl) (hpl : (backTo pos (starEach [.Tuple [.Name "list" p1, .Name "tuple" p2] x1 p3] X.env)).any (·.1) = false := by rfl)
    (he3 : starEach [.Name "list" p1, .Name "tuple" p2] X.env = (false, eval (.Name "list" p1) X.env) :: starEach [.Name "tuple" p2] X.env := by rfl) (he4 : starEach [.Name "tuple" p2] X.env = (false, eval (.Name "tuple" p2) X.env) :: starEach [] X.env := by rfl) :
    DE T X (.Call (.Name "isinstance" p0) [e, .Tuple [.Name "list" p1, .Name "tuple" p2] x1 p3] [] pos) ρ O (.bl (isaList x || isaTup x)) O1 :=
  de_isi2 L.isinstance L.list bt_list L.tuple bt_tuple ha hx.dty (kit_list hx) (kit_tuple hx) rfl (by decide +kernel) hg hg2 hg3 (by decide) (by decide) (by decide) (by decide) he he2 hpl he3 he4
end
end Dz

namespace Dz
open PySem PySem.Spec PyProof.Rows L2 GxR
/-! ### {'a': .., ..} -/
theorem mergeK_app : ∀ (kvs acc : List (Key × V)), ((acc ++ kvs).map (·.1)).Nodup → mergeK acc kvs = acc ++ kvs
  | [], acc, _ => by rw [List.append_nil]; rfl
  | (k, v) :: kvs, acc, h => by
    have e : acc ++ (k, v) :: kvs = (acc ++ [(k, v)]) ++ kvs := by rw [List.append_assoc]; rfl
    have hk : (acc.any fun kv => decide (kv.1 = k)) = false := by
      cases hq : acc.any fun kv => decide (kv.1 = k) with
      | false => rfl
      | true =>
        obtain ⟨y, hy, ey⟩ := List.any_eq_true.mp hq
        have ey : y.1 = k := of_decide_eq_true ey
        rw [List.map_append, List.nodup_append] at h
        exact absurd ey (h.2.2 y.1 (List.mem_map.mpr ⟨y, hy, rfl⟩) k (by simp))
    have hp : putK acc k v = acc ++ [(k, v)] := by
      unfold putK
      rw [hk]
      rfl
    show mergeK (putK acc k v) kvs = _
    rw [hp, mergeK_app kvs (acc ++ [(k, v)]) (by rw [← e]; exact h), e]
theorem RpKs.keys {K : PySem.W.Frag} {B : Hp} : ∀ {kvs : List (Key × V)} {kd : List (Key × D)}, RpKs K B kvs kd → kvs.map (·.1) = kd.map (·.1)
  | _, _, .nil => rfl
  | _, _, .cons _ r => by rw [List.map_cons, List.map_cons, RpKs.keys r]
theorem RpKs.length {K : PySem.W.Frag} {B : Hp} : ∀ {kvs : List (Key × V)} {kd : List (Key × D)}, RpKs K B kvs kd → kvs.length = kd.length
  | _, _, .nil => rfl
  | _, _, .cons _ r => congrArg Nat.succ (RpKs.length r)
/-- the pairs of a display -/
def DP (T : List Addr) (X : Cx) (pos : Pos) (keys : List (Option Expr)) (values : List Expr) (ρ : List Slot) (O : OH) (kd : List (Key × D)) (O' : OH) : Prop := ∃ trs, PPs X pos keys values trs ∧
  ∀ (σ : L2.St) (B H : Hp), Env X.K B σ ρ → At T X.K B O H → ∀ Q : List (V × V) → Hp → Prop, (∀ kvs B' H', Post T X.K B O H B' O' H' → RpKs X.K B' kvs kd → Q (kvs.map fun kv => (kV kv.1, kv.2)) H') → tPairs trs σ H Q
section
variable {T : List Addr} {X : Cx} {CE : Addr} {ρ : List Slot} {O O1 O2 O3 O4 : OH} {e a b e1 e2 : Expr} {pos p0 : Pos} {d d1 d2 : D} {ks : List (Option Expr)} {vs : List Expr} {kd : List (Key × D)} {E : DEn} {s : Slot} {ss : List Slot}
theorem dp_nil : DP T X pos [] [] ρ O [] O := ⟨[], pps_nil, fun σ B H hE hA Q q => q [] B H (Post.refl hA) .nil⟩
theorem dp_str {k : Str} {j : Nat} {kp : Pos} (he : DE T X e ρ O d O1) (hr : DP T X pos ks vs ρ O1 kd O2) : DP T X pos (some (.Constant (.str k) j kp) :: ks) (e :: vs) ρ O ((.inr k, d) :: kd) O2 := by
  obtain ⟨trs, hp, hq⟩ := hr
  refine ⟨(tC (.str k), WE X e) :: trs, pps_cons pe_str pe_we hp, fun σ B H hE hA Q q => ?_⟩
  show WE X e σ H fun y H2 => tPairs trs σ H2 fun ps H3 => Q ((.str k, y) :: ps) H3
  refine he σ B H hE hA _ fun v B1 H1 p1 r1 => hq σ B1 H1 (hE.mono p1.bb) p1.at' _ fun kvs B2 H2 p2 r2 => ?_
  exact q ((.inr k, v) :: kvs) B2 H2 (p1.trans p2) (.cons (r1.mono p2.bb) r2)
theorem de_dict (h : DP T X pos ks vs ρ O kd O1) (hn : (kd.map (·.1)).Nodup) (hl : kd.length ≤ 15) (hall : ks.all (·.isSome) = true := by rfl) (hkv : ks.length = vs.length := by rfl) (h0 : ks ≠ [] := by exact fun z => by cases z) (h15 : ks.length ≤ 15 := by decide) :
    DE T X (.Dict ks vs pos) ρ O (.dic kd) O1 := by
  obtain ⟨trs, hp, hq⟩ := h
  refine de_of (pe_disp hp hall hkv h0 h15) fun σ B H hE hA Q q p np => ?_
  have p0 := Post.laid (o := .dK []) hA np
  refine hq σ B _ hE p0.at' _ fun kvs B1 H1 p1 r1 => ?_
  have nb : B p = none := hA.noB np
  have no : O p = none := hA.noO np
  have hp1 : upd H p (.dK []) p ≠ none := by rw [upd_same]; exact fun z => by cases z
  have b1 : B1 p = none := (p1.new p hp1 no).trans nb
  have o1 : O1 p = none := p1.keepO hp1 no
  have h1 : H1 p = some (.dK []) := p1.fr p _ upd_same no (hA.newT np)
  refine ⟨h1, kvs, rfl, by rw [RpKs.length r1]; exact hl, ?_⟩
  have em : mergeK [] kvs = kvs := by rw [mergeK_app kvs [] (by rw [List.nil_append, RpKs.keys r1]; exact hn)]; rfl
  rw [em]
  have p2 := Post.over (o := .dK kvs) hA np (p0.trans p1) b1 o1
  have p3 := Post.ice hA np p2 b1 o1 upd_same
  exact q (.ref p) _ _ p3 (.dic upd_same (r1.mono fun c w q => by
    have zc : c ≠ p := fun zc => by
      rw [zc, b1] at q
      cases q
    rw [upd_ne zc]
    exact q))
/-- return [e1, e2, a + b], the lists owned -/
theorem d1_retCat {xs ys : List D} {bp lp : Pos} (h1 : DE T X e1 ρ O d1 O1) (h2 : DE T X e2 ρ O1 d2 O2) (ha : DE T X a ρ O2 (.lst xs) O3) (hb : DE T X b ρ O3 (.lst ys) O4) (hl : xs.length + ys.length ≤ 100000)
    (h : ∀ q p, O4 q = none → O4 p = none → p ≠ q → E.rt (.val (.ref p)) (put (put O4 q (.lst ((xs ++ ys).map .dat))) p (.lst [.dat d1, .dat d2, .val (.ref q)])))
    (s1 : starEach [e1, e2, .BinOp a .Add b bp] X.env = (false, eval e1 X.env) :: starEach [e2, .BinOp a .Add b bp] X.env := by rfl) (s2 : starEach [e2, .BinOp a .Add b bp] X.env = (false, eval e2 X.env) :: starEach [.BinOp a .Add b bp] X.env := by rfl) (s3 : starEach [.BinOp a .Add b bp] X.env = (false, eval (.BinOp a .Add b bp) X.env) :: starEach [] X.env := by rfl) :
    D1 T X CE (.Return (some (.List [e1, e2, .BinOp a .Add b bp] lp)) pos) ρ O E := .mk fun σ B H hE hA Dn W tk l => by
  refine ws_of (ps_ret (pe_lst (pa_cons pe_we (pa_cons pe_we (pa_cons (pe_op op_cat pe_we pe_we) pa_nil s3) s2) s1))) ?_
  refine h1 σ B H hE hA _ fun v1 B1 H1 p1 r1 => h2 σ B1 H1 (hE.mono p1.bb) p1.at' _ fun v2 B2 H2 p2 r2 => ?_
  have hE2 := (hE.mono p1.bb).mono p2.bb
  refine two ha hb hE2 p2.at' fun v w B4 H4 p4 rv rw' => ?_
  cases rv with
  | lst hv rv =>
    cases rw' with
    | lst hw rw' =>
      refine ⟨_, _, _, _, rfl, rfl, p4.at'.base _ _ hv, p4.at'.base _ _ hw, by rw [rv.length, rw'.length]; exact Nat.le_trans hl (by decide), fun q nq => ?_⟩
      have q1 := Post.madeO (o := .lst _) (od := .lst ((xs ++ ys).map .dat)) p4.at' nq (Args.of (rv.append rw'))
      refine ⟨by show 3 ≤ sizeLine; decide, fun p np => ?_⟩
      have ne : p ≠ q := fun z => by
        rw [z, upd_same] at np
        cases np
      have np4 : H4 p = none := by rw [upd_ne ne] at np; exact np
      have q2 := Post.madeO (o := .lst [v1, v2, .ref q]) (od := .lst [.dat d1, .dat d2, .val (.ref q)]) q1.at' np (.cons (show SlotOk X.K B4 (some v1) (.dat d1) from (r1.mono p2.bb).mono p4.bb) (.cons (show SlotOk X.K B4 (some v2) (.dat d2) from r2.mono p4.bb) (.cons (show SlotOk X.K B4 (some (.ref q)) (.val (.ref q)) from rfl) .nil)))
      exact l.rt _ _ (.ref p) B4 _ (h q p (p4.at'.noO nq) (p4.at'.noO np4) ne) (((p1.trans p2).trans p4).trans (q1.trans q2)) rfl
/-- x[k][i] = e, the inner list owned -/
theorem d1_setitemG {o ix : Expr} {c : Addr} {k : Int} {j : Nat} {spos : Pos} (he : DV T X e ρ O s O1) (ho : DV T X o ρ O1 (.val (.ref c)) O2) (hb : DE T X ix ρ O2 (.int k) O3) (hO : O3 c = some (.lst ss)) (hj : ixN ss.length k = some j) (h : E.nx ρ (put O3 c (.lst (ss.set j s))))
    (hsub : ∀ v, assign (.Subscript o ix spos) X.env v = (do
      let ov ← holding [v] (eval o X.env)
      let iv ← holding [v, ov] (eval ix X.env)
      standAt spos
      holding [v, ov, iv] (setItem ov iv v)
      release [v, ov, iv] []) := by intro _; rfl)
    (h1 : swapsWithSole [.Subscript o ix spos] e pos.line X.env = pure false := by rfl) (h2 : swappedStores [.Subscript o ix spos] e X.env = pure none := by rfl) (h3 : (assignEach [.Subscript o ix spos] X.env).map (·.2) = [assign (.Subscript o ix spos) X.env] := by rfl) :
    D1 T X CE (.Assign [.Subscript o ix spos] e pos) ρ O E := .mk fun σ B H hE hA Dn W tk l => by
  refine ws_of (ps_asg pe_we (pg_sub pe_we pe_we set_list hsub) h1 h2 h3) ?_
  refine he σ B H hE hA _ fun w B1 H1 p1 r1 => ho σ B1 H1 (hE.mono p1.bb) p1.at' _ fun ov B2 H2 p2 r2 => ?_
  have ev : ov = .ref c := r2
  subst ev
  have hE2 := (hE.mono p1.bb).mono p2.bb
  refine hb σ B2 H2 hE2 p2.at' _ fun iv B3 H3 p3 r3 => ?_
  cases r3
  obtain ⟨_, u, hu, ok⟩ := p3.at'.own c _ hO
  cases u <;> try exact ok.elim
  rename_i vs
  have lv : vs.length = ss.length := Args.length ok
  have po := Post.put (u := .lst (vs.set j w)) (od := .lst (ss.set j s)) p3.at' hO (Args.set ((r1.mono p2.bb).mono p3.bb) j ok)
  exact ⟨c, vs, k, j, rfl, rfl, hu, by rw [lv]; exact hj, l.nx _ _ _ B3 _ h (((p1.trans p2).trans p3).trans po) (hE2.mono p3.bb)⟩
end
/-- a list within an owned list is frozen -/
theorem ds_freezeIn {T : List Addr} {X : Cx} {CE : Addr} {ρ : List Slot} {O : OH} {E : DEn} {body : List Stmt} {a c : Addr} {ds : List D} {ss : List Slot} (j : Nat) (hc : O c = some (.lst (ds.map .dat))) (ha : O a = some (.lst ss)) (hj : ss[j]? = some (.val (.ref c))) (hne : a ≠ c)
    (h : DS T X CE body ρ (put (cut O c) a (.lst (ss.set j (.dat (.lst ds))))) E) : DS T X CE body ρ O E := .mk fun σ B H hE hA Dn W tk l => by
  obtain ⟨_, u, hu, ok⟩ := hA.own c _ hc
  cases u <;> try exact ok.elim
  rename_i vs
  have po := Post.freeze hA hc hu
  have ha' : cut O c a = some (.lst ss) := by rw [cut_ne hne]; exact ha
  obtain ⟨na, u2, hu2, ok2⟩ := po.at'.own a _ ha'
  cases u2 <;> try exact ok2.elim
  rename_i ws
  have ew : ws.set j (.ref c) = ws := by
    obtain ⟨w, e1, e2⟩ := Args.get ok2 hj
    have e2 : w = .ref c := e2
    subst e2
    exact set_same e1
  have ok3 : Args X.K (upd B c (.lst vs)) ws (ss.set j (.dat (.lst ds))) := by
    have q := Args.set (v := .ref c) (s := .dat (.lst ds)) (show SlotOk X.K (upd B c (.lst vs)) (some (.ref c)) (.dat (.lst ds)) from .lst upd_same ((Args.all ok).mono po.bb)) j ok2
    rw [ew] at q
    exact q
  have p2 := Post.put (u := .lst ws) (od := .lst (ss.set j (.dat (.lst ds)))) po.at' ha' ok3
  have eH : upd H a (.lst ws) = H := by
    funext b
    by_cases hb : b = a
    · rw [hb, upd_same, hu2]
    · rw [upd_ne hb]
  rw [eH] at p2
  have p3 := po.trans p2
  exact h σ _ H (hE.mono p3.bb) p3.at' Dn W tk (l.step p3)
end Dz

/-! enumerate(x), x a list or a tuple, walked by a for -/
namespace PySem
section
set_option maxHeartbeats 1000000 in
theorem dz_meets_enum {v : Value} {ob : Obj} {G : Heap → Prop} (B : Begins v ob G) :
    Meets (Builtin.«enumerate.__new__» ⟨[.type "enumerate", v], []⟩) (fun _ R s => G s.heap ∧
      R (.ok (.ret (.ref (s.heap.push ob).objs.size))) { s with heap := (s.heap.push ob).push { cls := .type "enumerate", data := .fields #[.none, .bool false, .ref s.heap.objs.size, rawInt 0, .none, .none] } }) :=
  .of_wp fun prog w A R s h => by
    obtain ⟨hp, g, dr, tk, os⟩ := s
    obtain ⟨h1, h⟩ := h
    have hsub := sub_enumerate
    have q1 : ∀ {A' : Around} {E' : Value → Shared → Prop} {Q : Value → Shared → Prop}, Q (.ref hp.objs.size) ⟨hp.push ob, g, dr, tk, os⟩ → wpAny (model prog w) A' (pyIter v) Q E' ⟨hp, g, dr, tk, os⟩ :=
      fun q => B.iter prog w _ _ ⟨hp, g, dr, tk, os⟩ _ h1 q
    wp_walk using q1
    refine wpAny_stack_any fun st => wpAny_pure ?_
    split
    · rename_i c _ _ _ _ _
      cases (c == Value.type "enumerate")
      · wp_walk using q1
        exact ⟨_, rfl, h⟩
      · wp_walk using q1
        exact ⟨_, rfl, h⟩
    · wp_walk using q1
      exact ⟨_, rfl, h⟩
variable {prog : Program} {w : World} {A : Around} {E : Value → Shared → Prop} {s : Shared}
theorem dz_call_enum {v : Value} {ob : Obj} {G : Heap → Prop} {Q : Value → Shared → Prop} (B : Begins v ob G) (h1 : G s.heap)
    (h : ∀ h', IsEnum h' (s.heap.objs.size + 1) s.heap.objs.size 0 .none → h'.get? s.heap.objs.size = some ob → h'.objs.size = s.heap.objs.size + 2 →
      (∀ b o, s.heap.get? b = some o → h'.get? b = some o) → Q (.ref (s.heap.objs.size + 1)) { s with heap := h' }) :
    wpAny (model prog w) A (call (.type "enumerate") [v]) Q E s := by
  refine callType_new F.called_enumerate (by decide) (F.typeCall_enumerate_1 _) (F.newCall_enumerate_1 _) (fun obj => F.args_object_init_2 obj _) F.entry_enumerate_new
    (dz_meets_enum B) ⟨h1, ?_⟩
  have hz : (s.heap.push ob).objs.size = s.heap.objs.size + 1 := Heap.size_push ..
  show _ ∧ _
  rw [hz]
  have he : IsEnum ((s.heap.push ob).push { cls := .type "enumerate", data := .fields #[.none, .bool false, .ref s.heap.objs.size, rawInt 0, .none, .none] }) (s.heap.objs.size + 1) s.heap.objs.size 0 .none := by
    have q := Heap.get?_push_size (s.heap.push ob) (o := { cls := .type "enumerate", data := .fields #[.none, .bool false, .ref s.heap.objs.size, rawInt 0, .none, .none] }) rfl
    rw [hz] at q
    exact q
  exact ⟨⟨_, he, rfl⟩, h _ he (Heap.get?_push_of_some _ (Heap.get?_push_size _ B.free)) (by rw [Heap.size_push, hz]) fun b o x => Heap.get?_push_of_some _ (Heap.get?_push_of_some _ x)⟩
end
end PySem
namespace Dz
open PySem PySem.Spec PyProof.Rows L2 GxR
/-- the tuple at a as it stands at each turn, each item in a new pair -/
def IteT (K : PySem.W.Frag) (a : Addr) : It :=
  ⟨fun i H => ∃ (xs : List V) (x : V), SqT K H a xs ∧ xs[i]? = some x, fun i H v H' => ∃ P x, v = .ref P ∧ H P = none ∧ H' = upd H P (.tup [.int (i : Nat), x]) ∧ ∀ xs, SqT K H a xs → xs[i]? = some x, fun i H => ∃ xs : List V, SqT K H a xs ∧ xs.length = i⟩
theorem turn_enumT {P : Program} {w : World} {K : PySem.W.Frag} {elts : List Expr} {kk : Nat} {tpos : Pos} (a e it : Addr) :
    Turn P w K (.Tuple elts kk tpos) (IteT K a) [e, it] e (fun i h => (∃ old, IsEnum h e it ((i : Nat) : Int) old) ∧ h.IsTupleIter it a i ∧ e ≠ it) where
  mem := by simp
  obj := fun i h st b hb => by
    obtain ⟨⟨old, he⟩, ⟨o, ho, hc, hd⟩, _⟩ := st
    have e' : b = e ∨ b = it := by simpa using hb
    rcases e' with z | z
    · rw [z]
      exact ⟨_, he, fun v q => nomatch q⟩
    · rw [z]
      exact ⟨o, ho, fun v q => by rw [hd] at q; cases q⟩
  keep := fun i h h' st k => by
    obtain ⟨⟨old, he⟩, hi, hne⟩ := st
    exact ⟨⟨old, k e (by simp) _ he⟩, hi.at fun o q => k it (by simp) o q, hne⟩
  item := by
    intro X hP hw hK hc i pins s σ H E I hf st hg
    subst hP hw hK
    obtain ⟨⟨old, he⟩, hit, hne⟩ := st
    obtain ⟨xs, x, hq, hx⟩ := hg
    obtain ⟨its, rv, p, hz⟩ := I.tuple hq
    obtain ⟨u, hu, ru⟩ := rv.get hx
    have hel : e < s.heap.objs.size := Heap.lt_size he
    have hil : it < s.heap.objs.size := by
      obtain ⟨_, q, _⟩ := hit
      exact Heap.lt_size q
    have hai : a ≠ it := fun z => by
      obtain ⟨o, ho, hcl, hd⟩ := id hit
      obtain ⟨o', ho', hcl', hd'⟩ := show s.heap.IsTuple a its.toArray from p
      rw [z, ho] at ho'
      cases ho'
      rw [hcl] at hcl'
      exact absurd (Value.type.inj hcl') (by decide)
    have hae : e ∉ [it, a] := fun z => by
      have z' : e = it ∨ e = a := by simpa using z
      rcases z' with z' | z'
      · exact hne z'
      · obtain ⟨o', ho', hcl', hd'⟩ := show s.heap.IsTuple a its.toArray from p
        rw [← z', he] at ho'
        cases ho'
        exact absurd (Value.type.inj hcl') (by decide)
    have hlt : i < its.toArray.size := by
      have := (List.getElem?_eq_some_iff.mp hu).1
      simpa using this
    refine wpAny_pyNext_enum_itemD (Draws.tuple (A := X.A.in1) (show X.A.in1.handled = none from I.ok.hd hc) it a hai its.toArray) he ⟨hit, p⟩ hlt hne hae fun y h' tk hy ho hs' hT hsz hk => ?_
    have ey : y = u := by
      have q : its.toArray[i]? = some u := by simpa using hu
      rw [q] at hy
      exact (Option.some.inj hy).symm
    subst ey
    refine ⟨_, rfl, wpAny_letOwnedTupleGo_enum (s := { s with heap := h', toks := tk + 1 }) ho fun h'' he' sb => ?_⟩
    have hT2 : h''.get? s.heap.objs.size = some { cls := .type "tuple", data := .seq #[.int i tk, y] } := (sb.2 _ (Nat.ne_of_gt hel)).trans hT
    have new : ObjOk X.prog X.w (upd H s.heap.objs.size (.tup [.int (i : Nat), x])) h'' s.heap.objs.size (.tup [.int (i : Nat), x]) :=
      ⟨by show 2 ≤ sizeLine; decide, [.int i tk, y], .cons ⟨_, rfl⟩ (.cons ru .nil), ⟨_, hT2, rfl, _, rfl⟩⟩
    have I1 : Inv X pins σ (upd H s.heap.objs.size (.tup [.int (i : Nat), x])) { s with heap := h'', toks := tk + 1 } :=
      I.turnedNew (ch := [e, it]) (fun b ob hb q => (sb.2 b (fun z => hb (by simp [z]))).trans (hk b ob (fun z => hb (by simp [z])) (fun z => hb (by simp [z])) q)) hf (Nat.le_refl _) new
    refine ⟨.ref s.heap.objs.size, _, I1, rfl, ⟨_, x, rfl, I.hok.fresh (Nat.le_refl _), rfl, fun ys hy => by rw [I.tuple_inj hy hq]; exact hx⟩, ⟨⟨y, ?_⟩, hs'.1.at fun o q => (sb.2 it (Ne.symm hne)).trans q, hne⟩, fun b hb => ?_⟩
    · have e1 : ((i + 1 : Nat) : Int) = (i : Int) + 1 := by omega
      rw [e1]
      exact he'
    · have hb' : b < s.heap.objs.size := by
        have e' : b = e ∨ b = it := by simpa using hb
        rcases e' with z | z
        · rw [z]
          exact hel
        · rw [z]
          exact hil
      rw [upd_ne (Nat.ne_of_lt hb')]
      exact (hf b hb).1
  done := by
    intro X hP hw hK hc i pins s σ H E I hf st hg
    subst hP hw hK
    obtain ⟨⟨old, he⟩, hit, hne⟩ := st
    obtain ⟨xs, hq, hx⟩ := hg
    obtain ⟨its, rv, p, hz⟩ := I.tuple hq
    obtain ⟨f0, f1, f2, f3, f4, f5⟩ := hf it (by simp)
    have hl := rv.length
    have ei : i = its.toArray.size := by rw [← hx, hl]; simp
    have hai : a ≠ it := fun z => by
      obtain ⟨o, ho, hcl, hd⟩ := id hit
      obtain ⟨o', ho', hcl', hd'⟩ := show s.heap.IsTuple a its.toArray from p
      rw [z, ho] at ho'
      cases ho'
      rw [hcl] at hcl'
      exact absurd (Value.type.inj hcl') (by decide)
    subst ei
    exact wpAny_pyNext_enum_endD (Draws.tuple (A := X.A.in1) (show X.A.in1.handled = none from I.ok.hd hc) it a hai its.toArray) he ⟨hit, p⟩ fun h' eb => ⟨rfl, I.turned (t' := s.toks) (fun b o hb q => eb b o hb q) f0 f1 f3 f4 f5⟩
  self := fun A i s Q E st h => by
    obtain ⟨⟨_, he⟩, _⟩ := st
    exact wpAny_pyIter_enum he h
def iEnumT (K : PySem.W.Frag) (ta : TA) : TI := fun σ H R => ta σ H fun vs H1 => ∃ a xs, vs = [.ref a] ∧ SqT K H1 a xs ∧ R (IteT K a) H1
theorem pi_enumT {X : Cx} {e : Expr} {ta : TA} {p pos tpos : Pos} {elts : List Expr} {kk : Nat} (hg : Gl X "enumerate") (hm : X.mg "enumerate" = none) (ha : PA X [e] ta) (hs : starEach [e] X.env = [(false, eval e X.env)] := by rfl) :
    PI X (.Tuple elts kk tpos) (.Call (.Name "enumerate" p) [e] [] pos) (iEnumT X.K ta) := by
  refine ⟨fun pins s σ H R I h => ?_⟩
  refine Call_ (ld_blt I hg hm boot_enumerate (PyProof.Rows.callWith_type1 (thn (ha.run pos pins s σ H _ I h) fun us s1 ⟨vs, H1, I1, r1, q1⟩ => ?_) hs rfl))
  obtain ⟨a, xs, ex, hq, q⟩ := q1
  subst ex
  cases r1 with
  | cons r rr =>
    cases rr
    cases r
    obtain ⟨its, rv, p', hz⟩ := I1.tuple hq
    refine dz_call_enum (begins_tuple a its.toArray) (show s1.heap.IsTuple a its.toArray from p') fun h' he hit hsz hk => wpAny_pyIter_enum he ?_
    have I2 : Inv X pins σ H1 { s1 with heap := h' } := I1.kept (t' := s1.toks) hk
    have hti : h'.IsTupleIter s1.heap.objs.size a 0 := ⟨_, hit, rfl, rfl⟩
    refine ⟨s1.heap.objs.size + 1, [s1.heap.objs.size + 1, s1.heap.objs.size], _, _, H1, rfl, I2, turn_enumT a (s1.heap.objs.size + 1) s1.heap.objs.size, ⟨⟨.none, he⟩, hti, Nat.succ_ne_self _⟩, fun b hb => ?_, q⟩
    have e' : b = s1.heap.objs.size + 1 ∨ b = s1.heap.objs.size := by simpa using hb
    have hle : s1.heap.objs.size ≤ b := by
      rcases e' with z | z
      · rw [z]
        exact Nat.le_succ _
      · rw [z]
        exact Nat.le_refl _
    exact I1.fpOk hle (I1.hok.fresh hle)
theorem walk_enumT {K : PySem.W.Frag} {a : Addr} {xs : List V} : Walk (IteT K a) xs.length (fun H => SqT K H a xs) (YPair (fun i => some (.int (i : Nat))) (fun i => xs[i]?)) := by
  refine ⟨fun i _ hi q => ⟨xs, xs[i], q, by simp [hi]⟩, fun _ q => ⟨xs, q, rfl⟩, fun i H v H' _ q y => ?_⟩
  obtain ⟨P, x, h1, h2, h3, h4⟩ := y
  exact ⟨P, .int (i : Nat), x, h1, h2, h3, rfl, h4 xs q⟩

section
variable {T : List Addr} {X : Cx} {CE : Addr} {ρ : List Slot} {O O1 : OH} {e : Expr} {es : List Expr} {pos pos' tp : Pos} {ds : List D} {E : DEn} {body : List Stmt}
/-- for a, b in enumerate(e) -/
theorem d1_forET {k i1 i2 : Nat} {p0 : Pos} (I : Nat → List Slot → OH → Prop) (he : DE T X e ρ O (.tup ds) O1) (h0 : I 0 ρ O1) (hN : X.N.Nodup) (hn : Names X es [i1, i2])
    (hs : ∀ (j : Nat) d ρ' O', ds[j]? = some d → I j ρ' O' → DS T X CE body ((ρ'.set i1 (.dat (.int (j : Int)))).set i2 (.dat d)) O' { E with nx := I (j + 1), ct := I (j + 1), bk := E.nx }) (hd : ∀ ρ' O', I ds.length ρ' O' → E.nx ρ' O')
    (hm : X.mg "enumerate" = none) (hp : PassesOwn (model X.prog X.w) X.A X.env X.xe) (hg : Gl X "enumerate" := by rfl) (hc : X.calm = true := by rfl) (g1 : (assignEach es X.env).length = 2 := by rfl) (g2 : (assignEach es X.env).findIdx? (·.1) = none := by rfl)
    (h1 : starEach [e] X.env = [(false, eval e X.env)] := by rfl) (hfold : ∀ x, foldedSetIterable (.Call (.Name "enumerate" p0) [e] [] pos') X.env x = pure x := by intro _; rfl) :
    D1 T X CE (.For (.Tuple es k tp) (.Call (.Name "enumerate" p0) [e] [] pos') body [] pos) ρ O E := .mk fun σ B H hE hA Dn W tk l => by
  refine ws_of (ps_for hp hc (pi_enumT hg hm (pa_cons pe_we pa_nil h1) h1) (pg_tup hc (pgs_names hN hn) g1 g2) pss_wss hfold) ?_
  refine he σ B H hE hA _ fun v B1 H1 p1 r1 => ?_
  cases r1 with
  | tup hq r =>
    rename_i a xs
    refine ⟨a, xs, rfl, same_t p1.at'.base hq, for_it (walk_enumT (K := X.K) (a := a) (xs := xs)) (fun j σ' H' => ∃ ρ' O' B', I j ρ' O' ∧ Post T X.K B O H B' O' H' ∧ Same B1 B' ∧ Env X.K B' σ' ρ') ⟨ρ, O1, B1, h0, p1, Same.refl _, hE.mono p1.bb⟩ (fun j σ' H' _ ⟨_, _, B', _, po, sb, _⟩ => same_t po.at'.base (same_t sb hq)) ?_ ?_⟩
    · rintro j y σ' H' H2 hj ⟨ρ', O', B', hI, po, sb, hE'⟩ ⟨P, x, z, ey, hP, eH, hx, hz⟩
      subst ey eH
      obtain ⟨d, hd1, hd2⟩ := r.getV hz
      cases hx
      have pm := Post.made (o := .tup [.int (j : Nat), z]) po.at' hP
      have po2 := po.trans pm
      refine ⟨P, _, rfl, SqT.of upd_same, rfl, rfl, ?_⟩
      show WSs X body _ ((σ'.set i1 (some (.int (j : Nat)))).set i2 (some z)) _
      have hE2 := ((hE'.mono pm.bb).set (o := some (.int (j : Nat))) (s := .dat (.int (j : Int))) (show SlotOk X.K _ (some (.int (j : Nat))) (.dat (.int (j : Int))) from .int _) i1).set (o := some z) (s := .dat d) (show SlotOk X.K _ (some z) (.dat d) from (hd2.mono sb).mono pm.bb) i2
      refine hs j d ρ' O' hd1 hI _ _ _ hE2 pm.at' _ W tk ?_
      have l' := l.step po2
      exact ⟨fun ρ2 O2 σ2 B2 H2 h p2 e2 => ⟨ρ2, O2, B2, h, po2.trans p2, (sb.trans pm.bb).trans p2.bb, e2⟩, l'.rt, l'.nx, fun ρ2 O2 σ2 B2 H2 h p2 e2 => ⟨ρ2, O2, B2, h, po2.trans p2, (sb.trans pm.bb).trans p2.bb, e2⟩, l'.ex⟩
    · rintro σ' H' ⟨ρ', O', B', hI, po, sb, hE'⟩
      rw [r.length] at hI
      exact l.nx _ _ _ B' H' (hd ρ' O' hI) po hE'
theorem d1_forEL {k i1 i2 : Nat} {p0 : Pos} (I : Nat → List Slot → OH → Prop) (he : DE T X e ρ O (.lst ds) O1) (h0 : I 0 ρ O1) (hN : X.N.Nodup) (hn : Names X es [i1, i2])
    (hs : ∀ (j : Nat) d ρ' O', ds[j]? = some d → I j ρ' O' → DS T X CE body ((ρ'.set i1 (.dat (.int (j : Int)))).set i2 (.dat d)) O' { E with nx := I (j + 1), ct := I (j + 1), bk := E.nx }) (hd : ∀ ρ' O', I ds.length ρ' O' → E.nx ρ' O')
    (hm : X.mg "enumerate" = none) (hp : PassesOwn (model X.prog X.w) X.A X.env X.xe) (hg : Gl X "enumerate" := by rfl) (hc : X.calm = true := by rfl) (g1 : (assignEach es X.env).length = 2 := by rfl) (g2 : (assignEach es X.env).findIdx? (·.1) = none := by rfl)
    (h1 : starEach [e] X.env = [(false, eval e X.env)] := by rfl) (hfold : ∀ x, foldedSetIterable (.Call (.Name "enumerate" p0) [e] [] pos') X.env x = pure x := by intro _; rfl) :
    D1 T X CE (.For (.Tuple es k tp) (.Call (.Name "enumerate" p0) [e] [] pos') body [] pos) ρ O E := .mk fun σ B H hE hA Dn W tk l => by
  refine ws_of (ps_for hp hc (pi_enum hg hm (pa_cons pe_we pa_nil h1) h1) (pg_tup hc (pgs_names hN hn) g1 g2) pss_wss hfold) ?_
  refine he σ B H hE hA _ fun v B1 H1 p1 r1 => ?_
  cases r1 with
  | lst hq r =>
    rename_i a xs
    refine ⟨a, xs, rfl, SqL.of (p1.at'.base _ _ hq), for_it (walk_enum (K := X.K) (a := a) (xs := xs)) (fun j σ' H' => ∃ ρ' O' B', I j ρ' O' ∧ Post T X.K B O H B' O' H' ∧ Same B1 B' ∧ Env X.K B' σ' ρ') ⟨ρ, O1, B1, h0, p1, Same.refl _, hE.mono p1.bb⟩ (fun j σ' H' _ ⟨_, _, B', _, po, sb, _⟩ => SqL.of (po.at'.base _ _ (sb _ _ hq))) ?_ ?_⟩
    · rintro j y σ' H' H2 hj ⟨ρ', O', B', hI, po, sb, hE'⟩ ⟨P, x, z, ey, hP, eH, hx, hz⟩
      subst ey eH
      obtain ⟨d, hd1, hd2⟩ := r.getV hz
      cases hx
      have pm := Post.made (o := .tup [.int (j : Nat), z]) po.at' hP
      have po2 := po.trans pm
      refine ⟨P, _, rfl, SqT.of upd_same, rfl, rfl, ?_⟩
      show WSs X body _ ((σ'.set i1 (some (.int (j : Nat)))).set i2 (some z)) _
      have hE2 := ((hE'.mono pm.bb).set (o := some (.int (j : Nat))) (s := .dat (.int (j : Int))) (show SlotOk X.K _ (some (.int (j : Nat))) (.dat (.int (j : Int))) from .int _) i1).set (o := some z) (s := .dat d) (show SlotOk X.K _ (some z) (.dat d) from (hd2.mono sb).mono pm.bb) i2
      refine hs j d ρ' O' hd1 hI _ _ _ hE2 pm.at' _ W tk ?_
      have l' := l.step po2
      exact ⟨fun ρ2 O2 σ2 B2 H2 h p2 e2 => ⟨ρ2, O2, B2, h, po2.trans p2, (sb.trans pm.bb).trans p2.bb, e2⟩, l'.rt, l'.nx, fun ρ2 O2 σ2 B2 H2 h p2 e2 => ⟨ρ2, O2, B2, h, po2.trans p2, (sb.trans pm.bb).trans p2.bb, e2⟩, l'.ex⟩
    · rintro σ' H' ⟨ρ', O', B', hI, po, sb, hE'⟩
      rw [r.length] at hI
      exact l.nx _ _ _ B' H' (hd ρ' O' hI) po hE'
end
end Dz

/-! sorted(x), x a list of tuples of small ints, any number of them -/
namespace DzR
open PySem PyProof.Rows Srt
theorem swo_rank (f : Value → Int) : SrtO.Swo fun v u => decide (f v < f u) := by
  refine ⟨fun x y h => ?_, fun x y z h1 h2 => ?_⟩
  · have a := of_decide_eq_true (p := f x < f y) h
    exact decide_eq_false (p := f y < f x) (by omega)
  · have a := of_decide_eq_false (p := f y < f x) h1
    have b := of_decide_eq_false (p := f z < f y) h2
    exact decide_eq_false (p := f z < f x) (by omega)
section
variable {prog : Program} {w : World} {A : Around} {E : Value → Shared → Prop} {s : Shared}
theorem tups_cmp {vs : List Value} {k : Value → List Int} {d : Nat} {B : Int} (hp : ∀ v ∈ vs, TS.TupInts s.heap v (k v) ∧ (k v).length = d ∧ TS.Bd B (k v)) :
    SrtO.Cmp prog w A s (tuples' true) (fun p => p.1 ∈ vs) (SrtO.lt2 fun v u => decide (TS.code B (k v) < TS.code B (k u))) := by
  intro p q hm hm'
  obtain ⟨t1, l1, b1⟩ := hp _ hm
  obtain ⟨t2, l2, b2⟩ := hp _ hm'
  show wpAny (model prog w) A (keyLt' (tuples' true) p.1 q.1) (fun r s' => s' = s ∧ r = decide (TS.code B (k p.1) < TS.code B (k q.1))) (fun _ _ => False) s
  generalize k p.1 = ns at t1 l1 b1 ⊢
  generalize k q.1 = ms at t2 l2 b2 ⊢
  obtain ⟨a, xs, e1, ⟨o, ho, hc, n, hdt⟩, i⟩ := t1
  obtain ⟨a', ys, e2, ⟨o', ho', hc', n', hdt'⟩, i'⟩ := t2
  rw [e1, e2]
  refine PySem.W.kat_lt ho hdt ho' hdt' ?_
  have sz : decide (xs.size < ys.size) = false := by
    have q1 := i.length
    have q2 := i'.length
    rw [Array.length_toList] at q1 q2
    exact decide_eq_false (by omega)
  rw [sz]
  exact TS.lex_ints 0 i i' (by omega) b1 b2 ⟨rfl, rfl⟩
theorem tups_sortable {a : Addr} {vs : List Value} {k : Value → List Int} {d : Nat} {B : Int} (hd : 1 ≤ d) (h2 : 2 ≤ vs.length) (hp : ∀ v ∈ vs, TS.TupInts s.heap v (k v) ∧ (k v).length = d ∧ TS.Bd B (k v)) (ha : ∀ o, s.heap.get? a = some o → o.cls ≠ .type "tuple") :
    SrtO.SortableO prog w A s a vs fun v u => decide (TS.code B (k v) < TS.code B (k u)) := by
  intro h' keep
  have hp' : ∀ v ∈ vs, TS.TupInts h' v (k v) ∧ (k v).length = d ∧ TS.Bd B (k v) := fun v hm => by
    obtain ⟨t1, l1, b1⟩ := hp v hm
    exact ⟨t1.keeps fun b o e c => keep b o (fun z => by subst z; exact ha o e c) e, l1, b1⟩
  have hx : TS.TupsOk h' d B vs := fun v hm => ⟨_, hp' v hm⟩
  obtain ⟨fs, q1, q2, q3⟩ := TS.firsts_of hd vs hx
  refine ⟨tuples' true, fun Q E' hq => ?_, tups_cmp (s := { s with heap := h' }) hp'⟩
  refine PySem.W.kat_kind (T := .type "int") q1 (by omega) (fun f hm => ?_) (by rfl) ?_
  · obtain ⟨x, t, rfl⟩ := q3 f hm
    exact PySem.W.Looks.now
  · have e : (Value.type "int" != Value.type "tuple") = true := by first | decide +kernel | rfl | decide
    rw [e]
    exact hq
end
end DzR
namespace Dz
open PySem PySem.Spec PyProof.Rows L2 GxR
/-- sorted(xs), xs tuples of d ints below B -/
def rSrtT (K : PySem.W.Frag) (d : Nat) (B : Int) : List V → Hp → VK → Prop := fun vs H Q => ∃ (a : Addr) (xs : List V), vs = [V.ref a] ∧ SqL K H a xs ∧ (∀ x ∈ xs, ∃ ns, TupI K H x ns ∧ ns.length = d ∧ TS.Bd B ns) ∧
  ∀ (ys : List V) (p : Addr), ys.Perm xs → ys.Pairwise (fun x y => ∀ n m, TupI K H x n → TupI K H y m → TS.code B n ≤ TS.code B m) → H p = none → Q (.ref p) (upd H p (.lst ys))
theorem cr_srtT {X : Cx} {d : Nat} {B : Int} (hd : 1 ≤ d) : CallR X (.builtin "sorted") (rSrtT X.K d B) := by
  intro pins s σ H vs us Q I r h
  obtain ⟨a, xs, rfl, hs, hx, q⟩ := h
  obtain ⟨its, rv, hl, hz⟩ := I.list hs
  rw [Vals.ref1 r]
  obtain ⟨e1, e2⟩ := bkV_refs rv fun x m => by
    obtain ⟨ns, ⟨t, e, _⟩, _⟩ := hx x m
    exact ⟨t, e⟩
  have hk : ∀ v ∈ its, TS.TupInts s.heap v (TS.intsOf s.heap v) ∧ (TS.intsOf s.heap v).length = d ∧ TS.Bd B (TS.intsOf s.heap v) := fun v hv => by
    obtain ⟨t, rfl⟩ := e2 v hv
    have hm : V.ref t ∈ xs := by
      rw [e1]
      exact List.mem_map.mpr ⟨_, hv, rfl⟩
    obtain ⟨ns, ⟨t', e, ht⟩, hn, hb⟩ := hx _ hm
    cases e
    have ti := tupI_raw I ht
    rw [ti.ints]
    exact ⟨ti, hn, hb⟩
  refine SrtO.sorted_ord (DzR.swo_rank fun v => TS.code B (TS.intsOf s.heap v)) hl.isList (by rw [← rv.length]; exact hz) (fun h2 h₁ a' ha kk => ?_) fun out h1 h2 => ?_
  · refine DzR.tups_sortable (s := { s with heap := h₁ }) hd h2 (fun v hm => ?_) fun o e => ?_
    · obtain ⟨t1, l1, b1⟩ := hk v hm
      exact ⟨t1.keeps fun b o e _ => (kk b o e).2, l1, b1⟩
    · have e' : some o = some (seqObj "list" its.toArray 0) := e.symm.trans ha
      cases e'
      intro c
      exact absurd (Value.type.inj c) (by decide)
  · obtain ⟨ep, he'⟩ := PyProof.Rows.sortedAll_at s.heap its out.toArray
    have h3 : ∀ u ∈ out, ∃ a, u = Value.ref a := fun u hu => e2 u (h2.perm.mem_iff.mp hu)
    have hp : (out.map bkV).Perm xs := by
      rw [e1]
      exact h2.perm.map bkV
    have hlen : (out.map bkV).length ≤ sizeLine := by
      rw [hp.length_eq]
      exact hz
    have hval : Vals (out.map bkV) out := bkV_vals h3
    refine ⟨.ref _, upd H (s.heap.objs.size + 1) (.lst (out.map bkV)), I.laid (t' := s.toks) (fun _ _ => PyProof.Rows.sortedAll_old) (Nat.le_succ _) ⟨hlen, out, ep, hval, by simpa using he'⟩, rfl, q _ _ hp ?_ (I.hok.fresh (Nat.le_succ _))⟩
    rw [List.pairwise_map]
    refine List.Pairwise.imp (fun {u v} huv n m hn hm => ?_) h1
    obtain ⟨t, et, ht⟩ := hn
    obtain ⟨t', et', ht'⟩ := hm
    have eu := bkV_ref et
    have ev := bkV_ref et'
    have i1 : TS.intsOf s.heap u = n := by
      rw [eu]
      exact (tupI_raw I ht).ints
    have i2 : TS.intsOf s.heap v = m := by
      rw [ev]
      exact (tupI_raw I ht').ints
    have z := of_decide_eq_false huv
    rw [i1, i2] at z
    omega
/-- a tuple of ints -/
def tI (ns : List Int) : D := .tup (ns.map .int)
/-- such lists in order -/
def srtT (B : Int) (nss : List (List Int)) : List (List Int) := nss.mergeSort fun a b => decide (TS.code B a ≤ TS.code B b)
theorem code_inj {B : Int} : ∀ {r q : List Int}, r.length = q.length → TS.Bd B r → TS.Bd B q → TS.code B r = TS.code B q → r = q
  | [], [], _, _, _, _ => rfl
  | d :: r, e :: q, hl, h1, h2, h => by
    have hl' : r.length = q.length := by simpa using hl
    rcases Int.lt_trichotomy d e with z | z | z
    · have := TS.code_lt hl' h1.tail h2.tail z
      omega
    · subst z
      have q1 : ¬ TS.code B r < TS.code B q := fun z => by
        have := (TS.code_same (d := d) hl').mpr z
        omega
      have q2 : ¬ TS.code B q < TS.code B r := fun z => by
        have := (TS.code_same (d := d) hl'.symm).mpr z
        omega
      rw [code_inj hl' h1.tail h2.tail (by omega)]
    · have := TS.code_lt hl'.symm h2.tail h1.tail z
      omega
  | [], _ :: _, hl, _, _, _ => by simp at hl
  | _ :: _, [], hl, _, _, _ => by simp at hl
theorem srtT_perm (B : Int) (nss : List (List Int)) : (srtT B nss).Perm nss := List.mergeSort_perm _ _
theorem srtT_sorted (B : Int) (nss : List (List Int)) : (srtT B nss).Pairwise fun a b => TS.code B a ≤ TS.code B b := by
  have h := List.pairwise_mergeSort (le := fun a b : List Int => decide (TS.code B a ≤ TS.code B b)) (fun a b c h1 h2 => decide_eq_true (Int.le_trans (of_decide_eq_true h1) (of_decide_eq_true h2))) (fun a b => by
    rcases Int.le_total (TS.code B a) (TS.code B b) with h | h
    · rw [decide_eq_true h]; rfl
    · rw [decide_eq_true h, Bool.or_true]) nss
  exact h.imp fun h => of_decide_eq_true h
/-- sorted lists of the same tuples are one -/
theorem srt_uniq {d : Nat} {B : Int} {l m : List (List Int)} (hb : ∀ ns ∈ m, ns.length = d ∧ TS.Bd B ns) (hp : l.Perm m) (h1 : l.Pairwise fun a b => TS.code B a ≤ TS.code B b) (h2 : m.Pairwise fun a b => TS.code B a ≤ TS.code B b) : l = m := by
  refine List.Perm.eq_of_pairwise (le := fun a b : List Int => TS.code B a ≤ TS.code B b) (fun a b ha hb' q1 q2 => ?_) h1 h2 hp
  obtain ⟨a1, a2⟩ := hb a (hp.mem_iff.mp ha)
  obtain ⟨b1, b2⟩ := hb b hb'
  exact code_inj (a1.trans b1.symm) a2 b2 (Int.le_antisymm q1 q2)
theorem srtT_eq {d : Nat} {B : Int} {l m : List (List Int)} (hb : ∀ ns ∈ m, ns.length = d ∧ TS.Bd B ns) (hp : l.Perm m) (h1 : l.Pairwise fun a b => TS.code B a ≤ TS.code B b) : l = srtT B m :=
  srt_uniq (fun ns hn => hb ns ((srtT_perm B m).mem_iff.mp hn)) (hp.trans (srtT_perm B m).symm) h1 (srtT_sorted B m)
theorem srtT_congr {d : Nat} {B : Int} {l m : List (List Int)} (hb : ∀ ns ∈ m, ns.length = d ∧ TS.Bd B ns) (hp : l.Perm m) : srtT B l = srtT B m :=
  srtT_eq hb ((srtT_perm B l).trans hp) (srtT_sorted B l)
theorem RpAll.permL {K : PySem.W.Frag} {H : Hp} {vs ws : List V} (hp : ws.Perm vs) : ∀ {ds : List D}, RpAll K H vs ds → ∃ es, es.Perm ds ∧ RpAll K H ws es := by
  induction hp with
  | nil =>
    intro ds r
    exact ⟨ds, .refl _, r⟩
  | cons x _ ih =>
    intro ds r
    cases r with
    | cons h r =>
      obtain ⟨es, p, r'⟩ := ih r
      exact ⟨_ :: es, p.cons _, .cons h r'⟩
  | swap x y l =>
    intro ds r
    cases r with
    | cons h r =>
      cases r with
      | cons h' r => exact ⟨_ :: _ :: _, .swap _ _ _, .cons h' (.cons h r)⟩
  | trans _ _ ih1 ih2 =>
    intro ds r
    obtain ⟨es, p, r'⟩ := ih2 r
    obtain ⟨es', p', r''⟩ := ih1 r'
    exact ⟨es', p'.trans p, r''⟩
theorem rp_tI {K : PySem.W.Frag} {H H' : Hp} (e : Same H H') {v : V} {ns : List Int} (r : Rp K H v (tI ns)) : TupI K H' v ns := by
  cases (show Rp K H v (.tup (ns.map .int)) from r) with
  | tup h r =>
    have q := rp_ints r
    subst q
    exact ⟨_, rfl, same_t e h⟩
theorem of_map_perm {α β : Type} {f : α → β} {l : List β} {m : List α} (h : l.Perm (m.map f)) : ∃ k : List α, k.Perm m ∧ l = k.map f := by
  generalize hn : m.map f = n at h
  induction h generalizing m with
  | nil =>
    cases m with
    | nil => exact ⟨[], .refl _, rfl⟩
    | cons a m => cases hn
  | cons x _ ih =>
    cases m with
    | nil => cases hn
    | cons a m =>
      rw [List.map_cons] at hn
      injection hn with h1 h2
      obtain ⟨k, p, e⟩ := ih h2
      exact ⟨a :: k, p.cons a, by rw [List.map_cons, h1, e]⟩
  | swap x y l =>
    cases m with
    | nil => cases hn
    | cons a m =>
      cases m with
      | nil => cases hn
      | cons b m =>
        rw [List.map_cons, List.map_cons] at hn
        injection hn with h1 h2
        injection h2 with h2 h3
        exact ⟨b :: a :: m, .swap _ _ _, by rw [List.map_cons, List.map_cons, h1, h2, h3]⟩
  | trans _ _ ih1 ih2 =>
    obtain ⟨k, p, e⟩ := ih2 hn
    obtain ⟨k', p', e'⟩ := ih1 e.symm
    exact ⟨k', p'.trans p, e'⟩
section
variable {T : List Addr} {X : Cx} {ρ : List Slot} {O O1 : OH} {e : Expr} {pos p0 : Pos}
theorem pw_tI {K : PySem.W.Frag} {H H' : Hp} {B : Int} (e : Same H H') : ∀ {ys : List V} {nss : List (List Int)}, RpAll K H ys (nss.map tI) → ys.Pairwise (fun x y => ∀ n m, TupI K H' x n → TupI K H' y m → TS.code B n ≤ TS.code B m) → nss.Pairwise fun a b => TS.code B a ≤ TS.code B b
  | _, [], _, _ => .nil
  | y :: ys, n :: nss, .cons h r, hp => by
    obtain ⟨h1, h2⟩ := List.pairwise_cons.mp hp
    refine List.pairwise_cons.mpr ⟨fun m hm => ?_, pw_tI e r h2⟩
    obtain ⟨j, hj⟩ := List.getElem?_of_mem hm
    have hj' : (nss.map tI)[j]? = some (tI m) := by rw [List.getElem?_map, hj]; rfl
    obtain ⟨v, hv, rv⟩ := r.get hj'
    exact h1 v (List.mem_of_getElem? hv) n m (rp_tI e h) (rp_tI e rv)
theorem de_srtT {d : Nat} {B : Int} {nss : List (List Int)} (hd : 1 ≤ d) (hm : X.mg "sorted" = none) (hb : ∀ ns ∈ nss, ns.length = d ∧ TS.Bd B ns) (ha : DE T X e ρ O (.lst (nss.map tI)) O1) (hv : bootBuiltins "sorted" = some (.builtin "sorted") := by decide +kernel) (hg : Gl X "sorted" := by rfl) (he : starEach [e] X.env = (false, eval e X.env) :: starEach [] X.env := by rfl) :
    DE T X (.Call (.Name "sorted" p0) [e] [] pos) ρ O (.lst ((srtT B nss).map tI)) O1 :=
  de_B (cr_srtT (d := d) (B := B) hd) (da_one ha.dv he) (fun vs C H hA hv Q q => by
    obtain ⟨v, rfl, r⟩ := args1 hv
    cases (show Rp X.K C v (.lst (nss.map tI)) from r) with
    | lst h r =>
      refine ⟨_, _, rfl, SqL.of (hA.base _ _ h), fun x hx => ?_, fun ys l hp hs hl => ?_⟩
      · obtain ⟨j, hj⟩ := List.getElem?_of_mem hx
        obtain ⟨dd, h1, h2⟩ := r.getV hj
        rw [List.getElem?_map] at h1
        cases hn : nss[j]? with
        | none => rw [hn] at h1; cases h1
        | some ns =>
          rw [hn] at h1
          cases h1
          exact ⟨ns, rp_tI hA.base h2, hb ns (List.mem_of_getElem? hn)⟩
      · obtain ⟨es, p, r'⟩ := RpAll.permL hp r
        obtain ⟨nss', p', rfl⟩ := of_map_perm p
        have hs' := pw_tI hA.base r' hs
        have e := srtT_eq hb p' hs'
        subst e
        exact q _ _ _ (Post.made (o := .lst _) hA hl) (.lst upd_same (r'.mono (Post.made (o := .lst _) hA hl).bb))) hm hv hg (by decide) (by decide) he
end
end Dz

/-! more rules over data: dicts with int keys, two for in a comprehension, tuple.index, insert, copies that are owned, is of bools -/
namespace Dz
open PySem PySem.Spec PyProof.Rows L2 GxR
section
variable {T : List Addr} {X : Cx} {CE : Addr} {ρ : List Slot} {O O1 O2 O3 : OH} {e a b : Expr} {pos pos' p0 : Pos} {d x y : D} {s : Slot} {ss : List Slot} {ds : List D} {E : DEn} {body : List Stmt} {ks : List (Option Expr)} {vs : List Expr} {kd : List (Key × D)}
/-! ### what is owned is forgotten -/
theorem ds_forget (c : Addr) (h : DS T X CE body ρ (cut O c) E) : DS T X CE body ρ O E := .mk fun σ B H hE hA Dn W tk l => by
  have p : Post T X.K B O H B (cut O c) H := (Post.refl hA).forget c
  exact h σ B H hE p.at' Dn W tk (l.step p)
/-! ### is, is not of bools -/
theorem de_isB {p q : Bool} (ha : DE T X a ρ O (.bl p) O1) (hb : DE T X b ρ O1 (.bl q) O2) : DE T X (.Compare a [.Is] [b] pos) ρ O (.bl (decide (p = q))) O2 :=
  de_cmp op_isBl (nomark _) ha hb fun v w B H hA rv rw' Q k => by
    cases rv
    cases rw'
    exact ⟨p, q, rfl, rfl, k _ B H (Post.refl hA) (.bl _)⟩
theorem dt_isB {p q : Bool} (ha : DE T X a ρ O (.bl p) O1) (hb : DE T X b ρ O1 (.bl q) O2) : DT T X (.Compare a [.Is] [b] pos) ρ O (decide (p = q)) O2 :=
  dt_cmp op_isBl (nomark _) ha hb fun v w B H hA rv rw' Q k => by
    cases rv
    cases rw'
    exact ⟨p, q, rfl, rfl, k _ B H (Post.refl hA) (.bl _)⟩
theorem dt_isnotB {p q : Bool} (ha : DE T X a ρ O (.bl p) O1) (hb : DE T X b ρ O1 (.bl q) O2) : DT T X (.Compare a [.IsNot] [b] pos) ρ O (!decide (p = q)) O2 :=
  dt_cmp op_notBl (nomark _) ha hb fun v w B H hA rv rw' Q k => by
    cases rv
    cases rw'
    exact ⟨p, q, rfl, rfl, k _ B H (Post.refl hA) (.bl _)⟩
/-! ### dicts -/
/-- a key told by any expression -/
theorem dp_key {k : Key} {kx : D} (hk : ∀ B v, Rp X.K B v kx → v = kV k) (h1 : DE T X a ρ O kx O1) (he : DE T X e ρ O1 d O2) (hr : DP T X pos ks vs ρ O2 kd O3) : DP T X pos (some a :: ks) (e :: vs) ρ O ((k, d) :: kd) O3 := by
  obtain ⟨trs, hp, hq⟩ := hr
  refine ⟨(WE X a, WE X e) :: trs, pps_cons pe_we pe_we hp, fun σ B H hE hA Q q => ?_⟩
  show WE X a σ H fun y H1 => WE X e σ H1 fun z H2 => tPairs trs σ H2 fun ps H3 => Q ((y, z) :: ps) H3
  refine h1 σ B H hE hA _ fun u B0 H0 p0 r0 => ?_
  have eu := hk B0 u r0
  subst eu
  refine he σ B0 H0 (hE.mono p0.bb) p0.at' _ fun v B1 H1 p1 r1 => hq σ B1 H1 ((hE.mono p0.bb).mono p1.bb) p1.at' _ fun kvs B2 H2 p2 r2 => ?_
  exact q ((k, v) :: kvs) B2 H2 ((p0.trans p1).trans p2) (.cons (r1.mono p2.bb) r2)
theorem keyI {K : PySem.W.Frag} {i : Int} : ∀ (B : Hp) (v : V), Rp K B v (.int i) → v = kV (.inl i) := fun B v r => by
  cases r
  rfl
theorem keyS {K : PySem.W.Frag} {i : Str} : ∀ (B : Hp) (v : V), Rp K B v (.str i) → v = kV (.inr i) := fun B v r => by
  cases r
  rfl
theorem KsOk.of {K : PySem.W.Frag} {B : Hp} : ∀ {kvs : List (Key × V)} {kd : List (Key × D)}, RpKs K B kvs kd → KsOk K B kvs (kd.map fun q => (q.1, .dat q.2))
  | _, _, .nil => .nil
  | _, _, .cons h r => .cons h (KsOk.of r)
/-- a dict display given to a name, owned -/
theorem d1_ownDic (i : Nat) {n : Str} (hd : DP T X pos ks vs ρ O kd O1) (h : ∀ p, O1 p = none → E.nx (ρ.set i (.val (.ref p))) (put O1 p (.dic (kd.map fun q => (q.1, .dat q.2))))) (hN : X.N.Nodup) (hn : (kd.map (·.1)).Nodup) (hl : kd.length ≤ 15) (hall : ks.all (·.isSome) = true := by rfl) (hkv : ks.length = vs.length := by rfl) (h0 : ks ≠ [] := by exact fun z => by cases z) (h15 : ks.length ≤ 15 := by decide)
    (hi : X.N[i]? = some n := by rfl) (hx : Loc X.env.scope n := by first | exact Or.inl rfl | exact Or.inr rfl) (hs : swapsWith (.Dict ks vs pos) (some (.Name n p0)) pos'.line X.env = pure false := by rfl)
    (hf : X.fn n = true ∨ X.env.scope.names.lookup n = some .local := by first | exact .inl rfl | exact .inr rfl) : D1 T X CE (.Assign [.Name n p0] (.Dict ks vs pos) pos') ρ O E := by
  obtain ⟨trs, hp, hq⟩ := hd
  refine .mk fun σ B H hE hA Dn W tk l => ws_of (ps_set hN hi hx (pe_disp hp hall hkv h0 h15) hs hf) ?_
  intro p np
  have q0 := Post.laid (o := .dK []) hA np
  refine hq σ B _ hE q0.at' _ fun kvs B1 H1 p1 r1 => ?_
  have nb : B p = none := hA.noB np
  have no : O p = none := hA.noO np
  have hp1 : upd H p (.dK []) p ≠ none := by rw [upd_same]; exact fun z => by cases z
  have b1 : B1 p = none := (p1.new p hp1 no).trans nb
  have o1 : O1 p = none := p1.keepO hp1 no
  have h1 : H1 p = some (.dK []) := p1.fr p _ upd_same no (hA.newT np)
  refine ⟨h1, kvs, rfl, by rw [RpKs.length r1]; exact hl, ?_⟩
  have em : mergeK [] kvs = kvs := by rw [mergeK_app kvs [] (by rw [List.nil_append, RpKs.keys r1]; exact hn)]; rfl
  rw [em]
  have p2 := Post.over (o := .dK kvs) hA np (q0.trans p1) b1 o1
  have hpo : Post T X.K B O H B1 (put O1 p (.dic (kd.map fun q => (q.1, .dat q.2)))) (upd H1 p (.dK kvs)) :=
    { at' :=
        { base := p2.at'.base
          own := fun c o e => by
            by_cases z : c = p
            · subst z
              rw [put_same] at e
              cases e
              exact ⟨b1, _, upd_same, KsOk.of r1⟩
            · rw [put_ne z] at e
              exact p2.at'.own c o e
          nt := fun P hP => by
            have z : P ≠ p := fun z => hA.newT np (by rw [← z]; exact hP)
            rw [put_ne z]
            exact p2.at'.nt P hP
          tabs := p2.at'.tabs }
      bb := p2.bb
      new := p2.new
      own := fun c hc => by
        by_cases z : c = p
        · subst z
          exact .inr np
        · rw [put_ne z] at hc
          exact p2.own c hc
      fr := p2.fr
      dom := p2.dom }
  exact l.nx _ _ _ B1 _ (h p o1) hpo ((hE.mono p2.bb).set (s := .val (.ref p)) (show SlotOk X.K B1 (some (.ref p)) (.val (.ref p)) from rfl) i)
/-- a key's slot stored -/
def putKS (ss : List (Key × Slot)) (k : Key) (s : Slot) : List (Key × Slot) :=
  if (ss.any fun kv => decide (kv.1 = k)) = true then ss.map (fun kv => if kv.1 = k then (kv.1, s) else kv) else ss ++ [(k, s)]
theorem KsOk.any {K : PySem.W.Frag} {B : Hp} (k : Key) : ∀ {kvs : List (Key × V)} {ss : List (Key × Slot)}, KsOk K B kvs ss → (kvs.any fun kv => decide (kv.1 = k)) = ss.any fun kv => decide (kv.1 = k)
  | _, _, .nil => rfl
  | _, _, .cons _ r => by
    rw [List.any_cons, List.any_cons, KsOk.any k r]
theorem KsOk.map {K : PySem.W.Frag} {B : Hp} {k : Key} {v : V} {s : Slot} (h : SlotOk K B (some v) s) : ∀ {kvs : List (Key × V)} {ss : List (Key × Slot)}, KsOk K B kvs ss → KsOk K B (kvs.map fun kv => if kv.1 = k then (kv.1, v) else kv) (ss.map fun kv => if kv.1 = k then (kv.1, s) else kv)
  | _, _, .nil => .nil
  | _, _, .cons (f := f) q r => by
    rw [List.map_cons, List.map_cons]
    by_cases z : f = k
    · rw [if_pos z, if_pos z]
      exact .cons h (KsOk.map h r)
    · rw [if_neg z, if_neg z]
      exact .cons q (KsOk.map h r)
theorem KsOk.snoc {K : PySem.W.Frag} {B : Hp} {k : Key} {v : V} {s : Slot} (h : SlotOk K B (some v) s) : ∀ {kvs : List (Key × V)} {ss : List (Key × Slot)}, KsOk K B kvs ss → KsOk K B (kvs ++ [(k, v)]) (ss ++ [(k, s)])
  | _, _, .nil => .cons h .nil
  | _, _, .cons q r => .cons q (KsOk.snoc h r)
theorem KsOk.put {K : PySem.W.Frag} {B : Hp} {k : Key} {v : V} {s : Slot} (h : SlotOk K B (some v) s) {kvs : List (Key × V)} {ss : List (Key × Slot)} (r : KsOk K B kvs ss) : KsOk K B (putK kvs k v) (putKS ss k s) := by
  unfold putK putKS
  rw [KsOk.any k r]
  split
  · exact KsOk.map h r
  · exact KsOk.snoc h r
/-- x[b] = e, x an owned dict -/
theorem d1_dput (i : Nat) {n : Str} {c : Addr} {k : Key} {kx : D} {j : Nat} {so : List (Key × Slot)} {npos spos : Pos} (hr : Room j X.A) (hi : ρ[i]? = some (.val (.ref c))) (he : DV T X e ρ O s O1) (hb : DE T X b ρ O1 kx O2) (hk : ∀ B v, Rp X.K B v kx → v = kV k) (ho : O2 c = some (.dic so)) (hl : so.length < 10000) (h : E.nx ρ (put O2 c (.dic (putKS so k s))))
    (pn : PE X (.Name n npos) (tVar i) := by exact pv _) (hs : swapsWith e (some (.Subscript (.Name n npos) b spos)) pos.line X.env = pure false := by rfl) : D1 T X CE (.Assign [.Subscript (.Name n npos) b spos] e pos) ρ O E := .mk fun σ B H hE hA Dn W tk l => by
  refine ws_of (ps_dput (hu_of hr) pn pe_we pe_we hs) ?_
  refine he σ B H hE hA _ fun w B1 H1 p1 r1 => ?_
  obtain ⟨o, e1, e2⟩ := (hE.mono p1.bb).get hi
  cases o with
  | none => exact e2.elim
  | some v =>
    have ev : v = .ref c := e2
    subst ev
    refine ⟨_, e1, ?_⟩
    refine hb σ B1 H1 (hE.mono p1.bb) p1.at' _ fun iv B2 H2 p2 r2 => ?_
    have ei := hk B2 iv r2
    subst ei
    obtain ⟨_, u, hu, ok⟩ := p2.at'.own c _ ho
    cases u <;> try exact ok.elim
    rename_i kvs
    have ok' : KsOk X.K B2 kvs so := ok
    have po := Post.put (u := .dK (putK kvs k w)) (od := .dic (putKS so k s)) p2.at' ho (KsOk.put (r1.mono p2.bb) ok')
    exact ⟨c, _, rfl, DPut.k hu (by rw [ok'.length]; exact Nat.lt_of_lt_of_le hl (by decide)), l.nx _ _ _ B2 _ h ((p1.trans p2).trans po) ((hE.mono p1.bb).mono p2.bb)⟩
/-- the owned dict becomes data -/
theorem ds_freezeDic (i : Nat) {c : Addr} (hi : ρ[i]? = some (.val (.ref c))) (ho : O c = some (.dic (kd.map fun q => (q.1, .dat q.2)))) (h : DS T X CE body (ρ.set i (.dat (.dic kd))) (cut O c) E) : DS T X CE body ρ O E := .mk fun σ B H hE hA Dn W tk l => by
  obtain ⟨_, u, hu, ok⟩ := hA.own c _ ho
  cases u <;> try exact ok.elim
  rename_i kvs
  have po := Post.freeze hA ho hu
  obtain ⟨o, e1, e2⟩ := hE.get hi
  have hE' := (hE.mono po.bb).set (o := some (.ref c)) (s := .dat (.dic kd)) (show SlotOk X.K (upd B c (.dK kvs)) (some (.ref c)) (.dat (.dic kd)) from .dic upd_same (RpKs.mono po.bb (KsOk.all ok))) i
  have eo : o = some (.ref c) := by
    cases o with
    | none => exact e2.elim
    | some v => exact congrArg some e2
  subst eo
  have es : σ.set i (some (.ref c)) = σ := set_same e1
  rw [es] at hE'
  exact h σ _ H hE' po.at' Dn W tk (l.step po)
theorem de_dgetI {k : Nat} {i : Int} (hr : Room k X.A) (ha : DE T X a ρ O (.dic kd) O1) (hb : DE T X b ρ O1 (.int i) O2) (h : (kd.find? fun kv => decide (kv.1 = (.inl i : Key))).map (·.2) = some d) (hs : NoSl b := by intro _ _; rfl) : DE T X (.Subscript a b pos) ρ O d O2 :=
  de_dget hr ha hb keyI h hs
/-! ### tuple.index of texts, a module's constant -/
def ndB (K : PySem.W.Frag) : Value → Bool
  | .ref c => match K.lookup c with
    | some ⟨.type t, none, _, _⟩ => decide (t = "tuple")
    | _ => false
  | _ => false
abbrev rTI (K : PySem.W.Frag) : V → List V → Hp → VK → Prop := fun x xs H Q => ∃ p, ∃ ys : List Str, ∃ z j, x = .ref p ∧ xs = [.str z] ∧ SqT K H p (ys.map V.str) ∧ ys[j]? = some z ∧ (∀ m, m < j → ys[m]? ≠ some z) ∧ Q (.int (j : Nat)) H
theorem de_tindex {ws : List Str} {z : Str} {j n : Nat} {nm : Str} {c : Addr} {apos npos : Pos} (hm : X.mg nm = some (.ref c)) (hk : kdB X.K (n + 1) (.ref c) (.tup (ws.map .str)) = true) (hn : ndB X.K (.ref c) = true) (hb : DE T X b ρ O (.str z) O2) (hj : ws[j]? = some z) (hno : ∀ m, m < j → ws[m]? ≠ some z) (hg : Gl X nm := by rfl) (hd : (nm == ("__debug__" : Str)) = false := by decide)
    (pe : PE X (.Call (.Attribute (.Name nm npos) "index" apos) [b] [] pos) (tBM X.K "tuple" (rTI X.K) (tC (.ref c)) (tCons (WE X b) tNil)) := by exact pe_bm PySem.F.plainAttrs_tuple PySem.F.slot_tuple_index PySem.F.type_tuple_index mt_tup_index (pe_glob (by rfl) (by assumption) (show RelV (.ref _) (.ref _) from rfl) (by decide)) (pa_cons pe_we pa_nil)) :
    DE T X (.Call (.Attribute (.Name nm npos) "index" apos) [b] [] pos) ρ O (.int (j : Int)) O2 := by
  obtain ⟨v, r, g⟩ := kdB_ok _ _ _ hk
  unfold ndB at hn
  dsimp only at hn
  split at hn
  · rename_i t dt sl hkl
    have ht := of_decide_eq_true hn
    subst ht
    have ev : v = .ref c := by
      cases (g (fun _ => none)) with
      | tup h0 r0 => cases r; rfl
    subst ev
    refine de_of pe fun σ B H hE hA Q q => ?_
    refine ⟨.inr (.inl ⟨rfl, _, hkl, rfl, rfl⟩), ?_⟩
    refine hb σ B H hE hA _ fun w B2 H2 p2 r2 => ?_
    cases r2
    cases (g B2) with
    | tup h r =>
      have e := rp_strs r
      subst e
      exact ⟨_, ws, z, j, rfl, rfl, same_t p2.at'.base h, hj, hno, q _ B2 H2 p2 (.int _)⟩
  · cases hn
/-! ### x.insert(k, e), x owned -/
abbrev rIns : V → List V → Hp → VK → Prop := fun x vs H Q => ∃ (l : Addr) (xs : List V) (i : Int) (y : V), x = .ref l ∧ vs = [.int i, y] ∧ H l = some (.lst xs) ∧ xs.length < sizeLine ∧ 0 ≤ i ∧ i < 2 ^ 63 ∧ Q .non (upd H l (.lst (xs.take i.toNat ++ [y] ++ xs.drop i.toNat)))
theorem d1_insert (i : Nat) {n : Str} {c : Addr} {k : Nat} {apos npos : Pos} (hi : ρ[i]? = some (.val (.ref c))) (h0 : O c = some (.lst ss)) (hb : DE T X b ρ O (.int (k : Int)) O) (he : DV T X e ρ O s O1) (ho : O1 c = some (.lst ss)) (hk : k < 1000) (hl : ss.length < 100000) (h : E.nx ρ (put O1 c (.lst (ss.take k ++ [s] ++ ss.drop k))))
    (pe : PE X (.Call (.Attribute (.Name n npos) "insert" apos) [b, e] [] pos) (tBM X.K "list" rIns (tVar i) (tCons (WE X b) (tCons (WE X e) tNil))) := by exact pe_bm PySem.F.plainAttrs_list PySem.F.slot_list_insert PySem.F.type_list_insert mt_insert (pv _) (pa_cons pe_we (pa_cons pe_we pa_nil)))
    (hs : swapsWith (.Call (.Attribute (.Name n npos) "insert" apos) [b, e] [] pos) none pos'.line X.env = pure false := by rfl) :
    D1 T X CE (.Expr (.Call (.Attribute (.Name n npos) "insert" apos) [b, e] [] pos) pos') ρ O E := .mk fun σ B H hE hA Dn W tk l => by
  refine ws_of (ps_expr pe hs) ?_
  obtain ⟨o, e1, e2⟩ := hE.get hi
  cases o with
  | none => exact e2.elim
  | some v =>
    have ev : v = .ref c := e2
    subst ev
    obtain ⟨_, u0, hu0, ok0⟩ := hA.own c _ h0
    cases u0 <;> try exact ok0.elim
    refine ⟨_, e1, .inl ⟨rfl, _, SqL.of hu0⟩, ?_⟩
    refine hb σ B H hE hA _ fun iv B1 H1 p1 r1 => ?_
    cases r1
    refine he σ B1 H1 (hE.mono p1.bb) p1.at' _ fun w B2 H2 p2 r2 => ?_
    obtain ⟨_, u, hu, ok⟩ := p2.at'.own c _ ho
    cases u <;> try exact ok.elim
    rename_i vs
    have ok' : Args X.K B2 vs ss := ok
    have lv : vs.length = ss.length := Args.length ok'
    have tk1 : ∀ (m : Nat) {vs : List V} {ss : List Slot}, Args X.K B2 vs ss → Args X.K B2 (vs.take m) (ss.take m) ∧ Args X.K B2 (vs.drop m) (ss.drop m) := by
      intro m
      induction m with
      | zero => intro vs ss a; exact ⟨.nil, a⟩
      | succ m ih =>
        intro vs ss a
        cases a with
        | nil => exact ⟨.nil, .nil⟩
        | cons h r => exact ⟨.cons h (ih r).1, (ih r).2⟩
    obtain ⟨t1, t2⟩ := tk1 k ok'
    have po := Post.put (u := .lst (vs.take k ++ [w] ++ vs.drop k)) (od := .lst (ss.take k ++ [s] ++ ss.drop k)) p2.at' ho (Args.append (Args.append t1 (.cons r2 .nil)) t2)
    exact ⟨c, vs, (k : Int), w, rfl, rfl, hu, by rw [lv]; exact Nat.lt_of_lt_of_le hl (by decide), by omega, by omega, l.nx _ _ _ B2 _ h ((p1.trans p2).trans po) ((hE.mono p1.bb).mono p2.bb)⟩
/-! ### x = list(e), owned -/
theorem d1_ownList (i : Nat) {n : Str} (hm : X.mg "list" = none) (he : DE T X e ρ O x O1) (hx : x = .lst ds ∨ x = .tup ds) (h : ∀ p, O1 p = none → E.nx (ρ.set i (.val (.ref p))) (put O1 p (.lst (ds.map .dat)))) (hN : X.N.Nodup) (hi : X.N[i]? = some n := by rfl) (hl : Loc X.env.scope n := by first | exact Or.inl rfl | exact Or.inr rfl) (hg : Gl X "list" := by rfl)
    (hst : starEach [e] X.env = (false, eval e X.env) :: starEach [] X.env := by rfl) (hpl : (backTo pos (starEach [] X.env)).any (·.1) = false := by rfl)
    (hf : X.fn n = true ∨ X.env.scope.names.lookup n = some .local := by first | exact .inl rfl | exact .inr rfl) {pos2 : Pos} (hs2 : swapsWith (.Call (.Name "list" p0) [e] [] pos) (some (.Name n pos')) pos2.line X.env = pure false := by rfl) : D1 T X CE (.Assign [.Name n pos'] (.Call (.Name "list" p0) [e] [] pos) pos2) ρ O E := .mk fun σ B H hE hA Dn W tk l => by
  refine ws_of (ps_set hN hi hl (pe_callTy call_list_of hg hm boot_list (pa_cons pe_we pa_nil hst) (by decide) (by decide) hst hpl) hs2 hf) ?_
  refine he σ B H hE hA _ fun v B1 H1 p1 r1 => ?_
  have go : ∀ {c : Addr} {xs : List V}, (SqL X.K H1 c xs ∨ SqT X.K H1 c xs) → RpAll X.K B1 xs ds → v = .ref c → ∃ p items, [v] = [V.ref p] ∧ (SqL X.K H1 p items ∨ SqT X.K H1 p items) ∧ ∀ q, H1 q = none → Dn.nx (σ.set i (some (.ref q))) (upd H1 q (.lst items)) := by
    intro c xs hq r ev
    subst ev
    refine ⟨c, xs, rfl, hq, fun q nq => ?_⟩
    have po := Post.madeO (o := .lst xs) (od := .lst (ds.map .dat)) p1.at' nq (Args.of r)
    exact l.nx _ _ _ B1 _ (h q (p1.at'.noO nq)) (p1.trans po) ((hE.mono p1.bb).set (s := .val (.ref q)) (show SlotOk X.K B1 (some (.ref q)) (.val (.ref q)) from rfl) i)
  rcases hx with rfl | rfl
  · cases r1 with
    | lst hq r => exact go (.inl (SqL.of (p1.at'.base _ _ hq))) r rfl
  · cases r1 with
    | tup hq r => exact go (.inr (same_t p1.at'.base hq)) r rfl
end
end Dz

/-! [e for a, b in x for c in range(n)], pure -/
namespace Dz
open PySem PySem.Spec PyProof.Rows L2 GxR
theorem wipe_get {σ : L2.St} {vs : List Nat} (j : Nat) : (wipe σ vs)[j]? = if j ∈ vs then (if j < σ.length then some none else none) else σ[j]? := by
  induction vs with
  | nil => rfl
  | cons v vs ih =>
    show ((wipe σ vs).set v none)[j]? = _
    rw [List.getElem?_set]
    by_cases h : v = j
    · subst h
      rw [if_pos rfl, wipe_length, if_pos List.mem_cons_self]
    · rw [if_neg h, ih]
      have e : (j ∈ v :: vs) ↔ j ∈ vs := ⟨fun z => (List.mem_cons.mp z).resolve_left (fun q => h q.symm), List.mem_cons_of_mem _⟩
      by_cases hj : j ∈ vs
      · rw [if_pos hj, if_pos (e.mpr hj)]
      · rw [if_neg hj, if_neg (fun z => hj (e.mp z))]
theorem wipe_set {σ : L2.St} {vs : List Nat} {i : Nat} {x : Option V} (h : i ∈ vs) : wipe (σ.set i x) vs = wipe σ vs := by
  refine List.ext_getElem? fun j => ?_
  rw [wipe_get, wipe_get, List.length_set]
  by_cases hj : j ∈ vs
  · rw [if_pos hj, if_pos hj]
  · rw [if_neg hj, if_neg hj, List.getElem?_set_ne (fun z => hj (by rw [← z]; exact h))]
theorem wipe_wipe {σ : L2.St} {vs ws : List Nat} (h : ∀ i ∈ ws, i ∈ vs) : wipe (wipe σ ws) vs = wipe σ vs := by
  refine List.ext_getElem? fun j => ?_
  rw [wipe_get, wipe_get, wipe_get, wipe_length]
  by_cases hj : j ∈ vs
  · rw [if_pos hj, if_pos hj]
  · rw [if_neg hj, if_neg hj, if_neg (fun z => hj (h j z))]
/-- the list so far, nothing else changed -/
def LcE (T : List Addr) (K : PySem.W.Frag) (B : Hp) (O : OH) (H : Hp) (a : Addr) (acc : List D) (H' : Hp) : Prop :=
  ∃ B' xs, Post T K B O H B' O H' ∧ B' a = none ∧ O a = none ∧ H' a = some (.lst xs) ∧ RpAll K B' xs acc
/-- .. and Bs stands -/
def LcS (T : List Addr) (K : PySem.W.Frag) (B : Hp) (O : OH) (H : Hp) (Bs : Hp) (a : Addr) (acc : List D) (H' : Hp) : Prop :=
  ∃ B' xs, Same Bs B' ∧ Post T K B O H B' O H' ∧ B' a = none ∧ O a = none ∧ H' a = some (.lst xs) ∧ RpAll K B' xs acc
section
variable {T : List Addr} {X : Cx} {scope : Scope} {ρ : List Slot} {O O1 : OH} {elt iter e1 : Expr} {ds : List D} {es : List Expr} {np pos tp rp pos' : Pos} {n1 n2 n3 : Str} {i1 i2 i3 k : Nat}
theorem LcE.start {K : PySem.W.Frag} {B H : Hp} {a : Addr} (hA : At T K B O H) (n : H a = none) : LcE T K B O H a [] (upd H a (.lst [])) :=
  ⟨B, [], Post.over hA n (Post.refl hA) (hA.noB n) (hA.noO n), hA.noB n, hA.noO n, upd_same, .nil⟩
theorem LcE.fin {K : PySem.W.Frag} {B H H' : Hp} {a : Addr} {out : List D} {Q : VK} (hA : At T K B O H) (n : H a = none) (h : LcE T K B O H a out H') (q : ∀ v B' H', Post T K B O H B' O H' → Rp K B' v (.lst out) → Q v H') : Q (.ref a) H' := by
  obtain ⟨B', xs, h2, h3, h4, h5, h6⟩ := h
  have po := Post.ice hA n h2 h3 h4 h5
  exact q (.ref a) _ H' po (.lst upd_same (h6.mono fun c w q => by
    have zc : c ≠ a := fun zc => by
      rw [zc, h3] at q
      cases q
    rw [upd_ne zc]
    exact q))
/-- a piece within the block, that owns nothing new -/
theorem LcE.piece {K : PySem.W.Frag} {B H H' H2 B' B2 : Hp} {a : Addr} {xs : List V} {acc : List D} (hA : At T K B O H) (n : H a = none) (h2 : Post T K B O H B' O H') (h3 : B' a = none) (h4 : O a = none) (h5 : H' a = some (.lst xs)) (h6 : RpAll K B' xs acc) (p2 : Post T K B' O H' B2 O H2) : B2 a = none ∧ H2 a = some (.lst xs) ∧ RpAll K B2 xs acc := by
  have ha : H' a ≠ none := by rw [h5]; exact fun z => by cases z
  exact ⟨by rw [p2.new a ha h4]; exact h3, p2.fr a _ h5 h4 (hA.newT n), h6.mono p2.bb⟩
theorem de_lc2 (F : D → D → Nat → D) (m : Nat) (hm : m ≤ 1000) (hl : ds.length ≤ 100) (he : DE T X iter ρ O (.lst ds) O1) (hpair : ∀ d ∈ ds, ∃ x y, d = .tup [x, y]) (hN : X.N.Nodup) (ok : BlkOk X.N X.env.scope scope [(n1, i1), (n2, i2), (n3, i3)])
    (hnm : ∀ (s : Shared) (H : Hp) (C : Addr) (cl : List (Str × Addr)) (fp : List Addr), Names (blkX X scope s H C cl fp) es [i1, i2])
    (hr1 : ∀ x y, .tup [x, y] ∈ ds → DEb T X scope e1 ((((((ρ.set i3 .no).set i2 .no).set i1 .no).set i1 (.dat x)).set i2 (.dat y))) O1 (.int (m : Int)) O1)
    (hel : ∀ x y j, .tup [x, y] ∈ ds → j < m → DEb T X scope elt ((((((((ρ.set i3 .no).set i2 .no).set i1 .no).set i1 (.dat x)).set i2 (.dat y)).set i3 .no)).set i3 (.dat (.int (j : Int)))) O1 (F x y j) O1)
    (hmg : X.mg "range" = none) (hd : i1 ≠ i2 ∧ i1 ≠ i3 ∧ i2 ≠ i3 := by decide) (hi : X.N[i3]? = some n3 := by rfl)
    (hgl : ∀ (s : Shared) (H : Hp) (C : Addr) (cl : List (Str × Addr)) (fp : List Addr), Gl (blkX X scope s H C cl fp) "range" := by exact fun _ _ _ _ _ => rfl)
    (hx : ∀ (s : Shared) (H : Hp) (C : Addr) (cl : List (Str × Addr)) (fp : List Addr), Loc (blkX X scope s H C cl fp).env.scope n3 := by first | exact fun _ _ _ _ _ => Or.inl rfl | exact fun _ _ _ _ _ => Or.inr rfl)
    (hf : ∀ (s : Shared) (H : Hp) (C : Addr) (cl : List (Str × Addr)) (fp : List Addr), (blkX X scope s H C cl fp).fn n3 = true ∨ (blkX X scope s H C cl fp).env.scope.names.lookup n3 = some .local := by first | exact fun _ _ _ _ _ => .inl rfl | exact fun _ _ _ _ _ => .inr rfl)
    (hst : ∀ (s : Shared) (H : Hp) (C : Addr) (cl : List (Str × Addr)) (fp : List Addr), starEach [e1] (blkX X scope s H C cl fp).env = [(false, eval e1 (blkX X scope s H C cl fp).env)] := by exact fun _ _ _ _ _ => rfl)
    (g1 : ∀ (s : Shared) (H : Hp) (C : Addr) (cl : List (Str × Addr)) (fp : List Addr), (assignEach es (blkX X scope s H C cl fp).env).length = 2 := by exact fun _ _ _ _ _ => rfl) (g2 : ∀ (s : Shared) (H : Hp) (C : Addr) (cl : List (Str × Addr)) (fp : List Addr), (assignEach es (blkX X scope s H C cl fp).env).findIdx? (·.1) = none := by exact fun _ _ _ _ _ => rfl)
    (hc : X.calm = true := by rfl) (hs : ∀ x, foldedSetIterable iter X.env x = pure x := by intro _; rfl) (hs1 : ∀ env x, foldedSetIterable (.Call (.Name "range" rp) [e1] [] pos') env x = pure x := by intro _ _; rfl) :
    DE T X (.ListComp elt [⟨.Tuple es k tp, iter, [], 0⟩, ⟨.Name n3 np, .Call (.Name "range" rp) [e1] [] pos', [], 0⟩] scope pos) ρ O (.lst (ds.flatMap fun d => match d with | .tup [x, y] => (List.range m).map (F x y) | _ => [])) O1 := by
  refine de_of (pe_lc2 (own := [(n1, i1), (n2, i2), (n3, i3)]) (vs1 := [i3]) (g := gTup X.K 2 fun vs σ H Q => vs.length = [i1, i2].length ∧ Q (List.foldl (fun σ (p : Nat × V) => σ.set p.1 (some p.2)) σ ([i1, i2].zip vs)) H) hc hN (pi_list pe_we) ok (by simp) (fun s H C cl fp => pg_tup (X := blkX X scope s H C cl fp) hc (pgs_names (X := blkX X scope s H C cl fp) hN (hnm s H C cl fp)) (g1 s H C cl fp) (g2 s H C cl fp)) (fun s H C cl fp => pts_nil)
    (fun s H C cl fp => pi_range1 (X := blkX X scope s H C cl fp) (hgl s H C cl fp) hmg (pa_cons (peb s H C cl fp) pa_nil (hst s H C cl fp)) (hst s H C cl fp)) (fun s H C cl fp => pg_name (X := blkX X scope s H C cl fp) hN hi (hx s H C cl fp) (hf s H C cl fp)) (fun s H C cl fp => pts_nil) peb hs hs1) fun σ B H hE hA Q q => ?_
  refine he σ B H hE hA _ fun v B1 H1 p1 r1 => ?_
  obtain ⟨d12, d13, d23⟩ := hd
  cases r1 with
  | lst hq r =>
    rename_i l xs
    have hA1 := p1.at'
    refine ⟨l, rfl, ⟨xs, SqL.of (hA1.base _ _ hq)⟩, fun a na => ?_⟩
    let G : D → List D := fun d => match d with | .tup [x, y] => (List.range m).map (F x y) | _ => []
    have lenG : ∀ d, (G d).length ≤ m := fun d => by
      show (match d with | .tup [x, y] => (List.range m).map (F x y) | _ => []).length ≤ m
      split
      · simp
      · simp
    have lenF : ∀ ds' : List D, (ds'.flatMap G).length ≤ ds'.length * m := by
      intro ds'
      induction ds' with
      | nil => simp
      | cons d ds' ih =>
        rw [List.flatMap_cons, List.length_append, List.length_cons, Nat.add_mul, Nat.one_mul]
        have := lenG d
        omega
    refine ⟨fun i mm H' => mm = ds.length - i ∧ i ≤ ds.length ∧ LcE T X.K B1 O1 H1 a ((ds.take i).flatMap G) H', ⟨ds.length, by simp, Nat.zero_le _, LcE.start hA1 na⟩, ?_⟩
    rintro i mm Hc ⟨rfl, hile, hl'⟩
    have hl0 := hl'
    obtain ⟨B', ys, h2, h3, h4, h5, h6⟩ := hl'
    have hql : SqL X.K Hc l xs := SqL.of (h2.at'.base _ _ (h2.bb _ _ hq))
    by_cases hlt : i < ds.length
    · refine .inr ⟨⟨xs, xs[i]'(by rw [r.length]; exact hlt), hql, by simp [r.length, hlt]⟩, fun H'' => LcE T X.K B1 O1 H1 a ((ds.take (i + 1)).flatMap G) H'', fun H'' h => ⟨ds.length - (i + 1), by omega, rfl, hlt, h⟩, fun y H'' hy => ?_⟩
      obtain ⟨eH, hy⟩ := hy
      subst eH
      obtain ⟨d, hd1, hd2⟩ := r.getV (hy xs hql)
      have hdm := List.mem_of_getElem? hd1
      obtain ⟨u, w, rfl⟩ := hpair d hdm
      have et : (ds.take (i + 1)).flatMap G = (ds.take i).flatMap G ++ G (.tup [u, w]) := by
        rw [List.take_add_one, hd1, List.flatMap_append]
        simp
      cases hd2 with
      | tup ht rt =>
        rename_i tt ts
        cases rt with
        | cons ru rt =>
          cases rt with
          | cons rw' rt =>
            cases rt
            rename_i vu vw
            refine ⟨tt, [vu, vw], rfl, same_t h2.at'.base (same_t h2.bb ht), rfl, rfl, ?_⟩
            show wipe (((wipe σ [i1, i2, i3]).set i1 (some vu)).set i2 (some vw)) [i1, i2, i3] = wipe σ [i1, i2, i3] ∧ _
            refine ⟨by rw [wipe_set (by simp), wipe_set (by simp), wipe_wipe fun _ h => h], ?_⟩
            have hE0 : Env X.K B1 (wipe σ [i1, i2, i3]) (((ρ.set i3 .no).set i2 .no).set i1 .no) := (((hE.mono p1.bb).wipe1 i3).wipe1 i2).wipe1 i1
            have hE2 : Env X.K B' (((wipe σ [i1, i2, i3]).set i1 (some vu)).set i2 (some vw)) (((((ρ.set i3 .no).set i2 .no).set i1 .no).set i1 (.dat u)).set i2 (.dat w)) :=
              ((hE0.mono h2.bb).set (o := some vu) (s := .dat u) (show SlotOk X.K B' (some vu) (.dat u) from ru.mono h2.bb) i1).set (o := some vw) (s := .dat w) (show SlotOk X.K B' (some vw) (.dat w) from rw'.mono h2.bb) i2
            dsimp only [tYes]
            rw [if_pos rfl]
            show TEb X scope e1 (((wipe σ [i1, i2, i3]).set i1 (some vu)).set i2 (some vw)) _ _
            generalize eσ : ((wipe σ [i1, i2, i3]).set i1 (some vu)).set i2 (some vw) = σ2 at hE2 ⊢
            show TEb X scope e1 σ2 _ _
            have h1 := hr1 u w hdm
            intro s0 H0 C cl fp
            refine h1 s0 H0 C cl fp _ B' _ hE2 h2.at' _ fun vr B3 H3 p3 r3 => ?_
            cases r3
            obtain ⟨k3, k5, k6⟩ := LcE.piece hA1 na h2 h3 h4 h5 h6 p3
            have h23 := h2.trans p3
            refine ⟨(m : Int), rfl, by omega, by omega, ?_⟩
            refine ⟨fun j kk H'' => kk = m - j ∧ j ≤ m ∧ LcS T X.K B1 O1 H1 B' a ((ds.take i).flatMap G ++ (List.range j).map (F u w)) H'', ⟨m, by simp, Nat.zero_le _, B3, ys, p3.bb, h23, k3, h4, k5, by simpa using k6⟩, ?_⟩
            rintro j kk H4 ⟨rfl, hjm, hj⟩
            have hm0 : (m : Int).toNat = m := by omega
            by_cases hjl : j < m
            · refine .inr ⟨by show j < (m : Int).toNat; omega, fun H5 => LcS T X.K B1 O1 H1 B' a ((ds.take i).flatMap G ++ (List.range (j + 1)).map (F u w)) H5, fun H5 h => ⟨m - (j + 1), by omega, rfl, hjl, h⟩, fun yv H5 hy => ?_⟩
              obtain ⟨eH, ey⟩ := hy
              subst eH ey
              obtain ⟨B5, zs, sbb, j2, j3, j4, j5, j6⟩ := hj
              have e0 : (0 : Int) + (j : Int) = (j : Int) := Int.zero_add _
              refine ⟨?_, ?_⟩
              · show wipe ((wipe (((wipe σ [i1, i2, i3]).set i1 (some vu)).set i2 (some vw)) [i3]).set i3 (some (.int (0 + (j : Int))))) [i3] = wipe (((wipe σ [i1, i2, i3]).set i1 (some vu)).set i2 (some vw)) [i3]
                rw [wipe_set (by simp), wipe_wipe fun _ h => h]
              rw [if_pos rfl]
              show TEb X scope elt ((wipe (((wipe σ [i1, i2, i3]).set i1 (some vu)).set i2 (some vw)) [i3]).set i3 (some (.int (0 + (j : Int))))) _ _
              rw [e0, eσ]
              have hE5 : Env X.K B5 ((wipe σ2 [i3]).set i3 (some (.int (j : Int)))) ((((((((ρ.set i3 .no).set i2 .no).set i1 .no).set i1 (.dat u)).set i2 (.dat w)).set i3 .no)).set i3 (.dat (.int (j : Int)))) :=
                ((hE2.mono sbb).wipe1 i3).set (o := some (.int (j : Int))) (s := .dat (.int (j : Int))) (show SlotOk X.K B5 (some (.int (j : Int))) (.dat (.int (j : Int))) from .int _) i3
              intro s0 H0 C cl fp
              refine hel u w j hdm hjl s0 H0 C cl fp _ B5 _ hE5 j2.at' _ fun ve B6 H6 p6 r6 => ?_
              obtain ⟨l3, l5, l6⟩ := LcE.piece hA1 na j2 j3 j4 j5 j6 p6
              refine ⟨zs, l5, ?_, ?_⟩
              · rw [l6.length, List.length_append, List.length_map, List.length_range]
                have q1 := lenF (ds.take i)
                have q2 : (ds.take i).length ≤ 100 := by rw [List.length_take]; omega
                have q3 : (ds.take i).length * m ≤ 100 * 1000 := Nat.mul_le_mul q2 hm
                have q4 : 200000 < sizeLine := by decide
                omega
              · have er : (List.range (j + 1)).map (F u w) = (List.range j).map (F u w) ++ [F u w j] := by rw [List.range_succ, List.map_append]; rfl
                rw [er, ← List.append_assoc]
                exact ⟨B6, zs ++ [ve], sbb.trans p6.bb, Post.over hA1 na (j2.trans p6) l3 j4, l3, j4, upd_same, l6.append (.cons r6 .nil)⟩
            · have ej : j = m := by omega
              subst ej
              refine .inl ⟨by show (j : Int).toNat ≤ j; omega, ?_⟩
              show LcE T X.K B1 O1 H1 a ((ds.take (i + 1)).flatMap G) H4
              rw [et]
              obtain ⟨B5, zs, _, j2, j3, j4, j5, j6⟩ := hj
              exact ⟨B5, zs, j2, j3, j4, j5, j6⟩
    · have ei : i = ds.length := by omega
      subst ei
      rw [List.take_length] at hl0
      refine .inl ⟨⟨xs, hql, by rw [r.length]; exact Nat.le_refl _⟩, LcE.fin hA1 na hl0 fun v B2 H2 p2 r2 => q v B2 H2 (p1.trans p2) r2⟩
end
end Dz

/-! x = [e for y in z if t], the list owned -/
namespace Dz
open PySem PySem.Spec PyProof.Rows L2 GxR
theorem grabO {T : List Addr} {K : PySem.W.Frag} {B H B1 H1 : Hp} {O O1 : OH} {a : Addr} {u : HO} {od : OD} (hA : At T K B O H) (n : H a = none) (p : Post T K B O H B1 O1 H1) (b1 : B1 a = none) (h1 : H1 a = some u) (ok : OdOk K B1 u od) : Post T K B O H B1 (put O1 a od) H1 where
  at' :=
    { base := p.at'.base
      own := fun c o e => by
        by_cases z : c = a
        · subst z
          rw [put_same] at e
          cases e
          exact ⟨b1, _, h1, ok⟩
        · rw [put_ne z] at e
          exact p.at'.own c o e
      nt := fun P hP => by
        have z : P ≠ a := fun z => hA.newT n (by rw [← z]; exact hP)
        rw [put_ne z]
        exact p.at'.nt P hP
      tabs := p.at'.tabs }
  bb := p.bb
  new := p.new
  own := fun c hc => by
    by_cases z : c = a
    · subst z
      exact .inr n
    · rw [put_ne z] at hc
      exact p.own c hc
  fr := p.fr
  dom := p.dom
section
variable {T : List Addr} {X : Cx} {CE : Addr} {scope : Scope} {ρ : List Slot} {O O1 O2 : OH} {elt iter : Expr} {ifs : List Expr} {ds out : List D} {np pos py spos : Pos} {n y : Str} {E : DEn}
theorem d1_ownLc (i i0 : Nat) (he : DE T X iter ρ O (.lst ds) O1) (I : Nat → List D → OH → Prop) (h0 : I 0 [] O1) (ht : ∀ j d acc O', ds[j]? = some d → I j acc O' → LcTurn T X scope ifs elt I j (ρ.set i (.dat d)) acc O') (hd : ∀ acc O', I ds.length acc O' → acc = out ∧ O' = O2)
    (hk : ∀ p, O2 p = none → E.nx (ρ.set i0 (.val (.ref p))) (put O2 p (.lst (out.map .dat))))
    (hl : ds.length ≤ 100000) (hN : X.N.Nodup) (ok : BlkOk X.N X.env.scope scope [(n, i)]) (hi : X.N[i]? = some n := by rfl) (hx : ∀ (s : Shared) (H : Hp) (C : Addr) (cl : List (Str × Addr)) (fp : List Addr), Loc (blkX X scope s H C cl fp).env.scope n := by first | exact fun _ _ _ _ _ => Or.inl rfl | exact fun _ _ _ _ _ => Or.inr rfl)
    (hf : ∀ (s : Shared) (H : Hp) (C : Addr) (cl : List (Str × Addr)) (fp : List Addr), (blkX X scope s H C cl fp).fn n = true ∨ (blkX X scope s H C cl fp).env.scope.names.lookup n = some .local := by first | exact fun _ _ _ _ _ => .inl rfl | exact fun _ _ _ _ _ => .inr rfl) (hc : X.calm = true := by rfl) (hs : ∀ x, foldedSetIterable iter X.env x = pure x := by intro _; rfl)
    (hy : X.N[i0]? = some y := by rfl) (hyl : X.env.scope.names.lookup y = some .local := by rfl) (hsw : swapsWith (.ListComp elt [⟨.Name n np, iter, ifs, 0⟩] scope pos) (some (.Name y py)) spos.line X.env = pure true := by exact sw_true rfl rfl rfl (by decide +kernel)) :
    D1 T X CE (.Assign [.Name y py] (.ListComp elt [⟨.Name n np, iter, ifs, 0⟩] scope pos) spos) ρ O E := .mk fun σ B H hE hA Dn W tk l => by
  refine ws_of (ps_setLc (own := [(n, i)]) (tt := TTb X scope ifs) (te := TEb X scope elt) (g := gName i) hc hN hy hyl hsw (pi_list pe_we) ok (fun s H C cl fp => pg_name (X := blkX X scope s H C cl fp) hN hi (hx s H C cl fp) (hf s H C cl fp)) ptsb peb hs) ?_
  refine he σ B H hE hA _ fun v B1 H1 p1 r1 => ?_
  cases r1 with
  | lst hq r =>
    rename_i c xs
    refine ⟨c, rfl, ⟨xs, SqL.of (p1.at'.base _ _ hq)⟩, fun a na => ?_⟩
    have hA1 := p1.at'
    refine lc_list (K := X.K) (xs := xs) (a := c) (fun j H' => LcI T X.K B1 O1 H1 a I j H') (LcI.start hA1 na h0) (fun j H' _ h => ?_) (fun j x H' hj h => ?_) (fun H' h => ?_)
    · obtain ⟨B', _, _, _, _, h2, _⟩ := h
      exact SqL.of (h2.at'.base _ _ (h2.bb _ _ hq))
    · obtain ⟨d, hd1, hd2⟩ := r.getV hj
      have hjl : j < ds.length := by
        rw [← r.length]
        exact (List.getElem?_eq_some_iff.mp hj).1
      exact lc_turn hA1 na (Nat.lt_of_lt_of_le hjl hl) (hE.mono p1.bb) (fun B' sb => hd2.mono sb) (fun acc O' hI => ht j d acc O' hd1 hI) h
    · rw [r.length] at h
      obtain ⟨B', O', acc, zs, h1, h2, h3, h4, h5, h6, _⟩ := h
      obtain ⟨e1, e2⟩ := hd acc O' h1
      subst e1 e2
      have po := grabO (od := .lst (acc.map .dat)) hA1 na h2 h3 h5 (Args.of h6)
      exact l.nx _ _ _ B' H' (hk a h4) (p1.trans po) (((hE.mono p1.bb).mono h2.bb).set (s := .val (.ref a)) (show SlotOk X.K B' (some (.ref a)) (.val (.ref a)) from rfl) i0)
/-- a comprehension without draws: f none leaves an item out -/
theorem d1_ownLcP (i i0 : Nat) {f : D → Option D} (he : DE T X iter ρ O (.lst ds) O1) (h : ∀ d ∈ ds, (∃ y, f d = some y ∧ DIfs T X scope ifs (ρ.set i (.dat d)) O1 true O1 ∧ DEb T X scope elt (ρ.set i (.dat d)) O1 y O1) ∨ (f d = none ∧ DIfs T X scope ifs (ρ.set i (.dat d)) O1 false O1))
    (hk : ∀ p, O1 p = none → E.nx (ρ.set i0 (.val (.ref p))) (put O1 p (.lst ((ds.filterMap f).map .dat))))
    (hl : ds.length ≤ 100000) (hN : X.N.Nodup) (ok : BlkOk X.N X.env.scope scope [(n, i)]) (hi : X.N[i]? = some n := by rfl) (hx : ∀ (s : Shared) (H : Hp) (C : Addr) (cl : List (Str × Addr)) (fp : List Addr), Loc (blkX X scope s H C cl fp).env.scope n := by first | exact fun _ _ _ _ _ => Or.inl rfl | exact fun _ _ _ _ _ => Or.inr rfl)
    (hf : ∀ (s : Shared) (H : Hp) (C : Addr) (cl : List (Str × Addr)) (fp : List Addr), (blkX X scope s H C cl fp).fn n = true ∨ (blkX X scope s H C cl fp).env.scope.names.lookup n = some .local := by first | exact fun _ _ _ _ _ => .inl rfl | exact fun _ _ _ _ _ => .inr rfl) (hc : X.calm = true := by rfl) (hs : ∀ x, foldedSetIterable iter X.env x = pure x := by intro _; rfl)
    (hy : X.N[i0]? = some y := by rfl) (hyl : X.env.scope.names.lookup y = some .local := by rfl) (hsw : swapsWith (.ListComp elt [⟨.Name n np, iter, ifs, 0⟩] scope pos) (some (.Name y py)) spos.line X.env = pure true := by exact sw_true rfl rfl rfl (by decide +kernel)) :
    D1 T X CE (.Assign [.Name y py] (.ListComp elt [⟨.Name n np, iter, ifs, 0⟩] scope pos) spos) ρ O E :=
  d1_ownLc (out := ds.filterMap f) (O2 := O1) i i0 he (fun j acc O' => acc = (ds.take j).filterMap f ∧ O' = O1) ⟨rfl, rfl⟩ (lc_pure h) (fun acc O' q => by
    rw [List.take_length] at q
    exact q) hk hl hN ok hi hx hf hc hs hy hyl hsw
/-- the owned list is frozen at once -/
theorem d1_ice {st : Stmt} (i : Nat) (h : D1 T X CE st ρ O { E with nx := fun ρ' O' => ∃ p, O1 p = none ∧ ρ' = ρ.set i (.val (.ref p)) ∧ O' = put O1 p (.lst (out.map .dat)) }) (k : E.nx (ρ.set i (.dat (.lst out))) O1) (hi : ∀ p, (ρ.set i (.val (.ref p)))[i]? = some (.val (.ref p)) := by intro _; rfl) : D1 T X CE st ρ O E :=
  .mk fun σ B H hE hA Dn W tk l => h σ B H hE hA Dn W tk ⟨fun ρ' O' σ' B' H' q po hE' => by
    obtain ⟨p, hp, e1, e2⟩ := q
    subst e1 e2
    obtain ⟨_, u, hu, ok⟩ := po.at'.own p _ put_same
    cases u <;> try exact ok.elim
    rename_i vs
    have pf := Post.freeze po.at' put_same hu
    rw [cut_put hp] at pf
    obtain ⟨o, f1, f2⟩ := hE'.get (hi p)
    have eo : o = some (.ref p) := by
      cases o with
      | none => exact f2.elim
      | some v => exact congrArg some f2
    subst eo
    have hE2 := (hE'.mono pf.bb).set (o := some (.ref p)) (s := .dat (.lst out)) (show SlotOk X.K (upd B' p (.lst vs)) (some (.ref p)) (.dat (.lst out)) from .lst upd_same ((Args.all ok).mono pf.bb)) i
    rw [set_same f1, List.set_set] at hE2
    exact l.nx _ _ σ' _ H' k (po.trans pf) hE2, l.rt, l.bk, l.ct, l.ex⟩
end
end Dz

/-! for over a list of tuples, several names at once -/
namespace Dz
open PySem PySem.Spec PyProof.Rows L2 GxR
section
variable {T : List Addr} {X : Cx} {CE : Addr} {ρ : List Slot} {O O1 O2 : OH} {e : Expr} {es : List Expr} {body : List Stmt} {pos tp : Pos} {ds : List D} {E : DEn}
theorem d1_forLP {k : Nat} {is : List Nat} (I : Nat → List Slot → OH → Prop) (he : DE T X e ρ O (.lst ds) O1) (h0 : I 0 ρ O1) (hN : X.N.Nodup) (hn : Names X es is) (hd2 : ∀ d ∈ ds, ∃ cs, d = .tup cs ∧ cs.length = is.length)
    (hs : ∀ (j : Nat) cs ρ' O', ds[j]? = some (.tup cs) → I j ρ' O' → DS T X CE body (setAll ρ' is (cs.map .dat)) O' { E with nx := I (j + 1), ct := I (j + 1), bk := E.nx }) (hd : ∀ ρ' O', I ds.length ρ' O' → E.nx ρ' O')
    (hp : PassesOwn (model X.prog X.w) X.A X.env X.xe) (hc : X.calm = true := by rfl) (g1 : (assignEach es X.env).length = is.length := by rfl) (g2 : (assignEach es X.env).findIdx? (·.1) = none := by rfl)
    (hfold : ∀ x, foldedSetIterable e X.env x = pure x := by intro _; rfl) :
    D1 T X CE (.For (.Tuple es k tp) e body [] pos) ρ O E := .mk fun σ B H hE hA Dn W tk l => by
  refine ws_of (ps_for hp hc (pi_list pe_we) (pg_tup hc (pgs_names hN hn) g1 g2) pss_wss hfold) ?_
  refine he σ B H hE hA _ fun v B1 H1 p1 r1 => ?_
  cases r1 with
  | lst hq r =>
    rename_i a xs
    refine ⟨a, rfl, ⟨xs, SqL.of (p1.at'.base _ _ hq)⟩, for_list (K := X.K) (a := a) (xs := xs) (fun j σ' H' => ∃ ρ' O' B', I j ρ' O' ∧ Post T X.K B O H B' O' H' ∧ Same B1 B' ∧ Env X.K B' σ' ρ') ⟨ρ, O1, B1, h0, p1, Same.refl _, hE.mono p1.bb⟩ (fun j σ' H' _ ⟨_, _, B', _, po, sb, _⟩ => SqL.of (po.at'.base _ _ (sb _ _ hq))) ?_ ?_⟩
    · rintro j y σ' H' hj ⟨ρ', O', B', hI, po, sb, hE'⟩
      obtain ⟨d, hd1, hd3⟩ := r.getV hj
      obtain ⟨cs, rfl, hl⟩ := hd2 d (List.mem_of_getElem? hd1)
      have hd4 := hd3.mono sb
      cases hd4 with
      | tup hq2 r2 =>
        rename_i a2 ys
        have e1 : ys.length = is.length := r2.length.trans hl
        refine ⟨a2, ys, rfl, same_t po.at'.base hq2, e1, e1, ?_⟩
        refine hs j cs ρ' O' hd1 hI _ B' H' (Env.setAll is hE' (Args.of r2)) po.at' _ W tk ?_
        have l' := l.step po
        exact ⟨fun ρ2 O2 σ2 B2 H2 h p2 e2 => ⟨ρ2, O2, B2, h, po.trans p2, sb.trans p2.bb, e2⟩, l'.rt, l'.nx, fun ρ2 O2 σ2 B2 H2 h p2 e2 => ⟨ρ2, O2, B2, h, po.trans p2, sb.trans p2.bb, e2⟩, l'.ex⟩
    · rintro σ' H' ⟨ρ', O', B', hI, po, sb, hE'⟩
      rw [r.length] at hI
      exact l.nx _ _ _ B' H' (hd ρ' O' hI) po hE'
end
end Dz

/-! an owned dict of owned lists: reads by any expression, appends, the display that a def returns -/
namespace Dz
open PySem PySem.Spec PyProof.Rows L2 GxR
theorem KsOk.get {K : PySem.W.Frag} {H : Hp} {k : Key} {d : Slot} : ∀ {fs : List (Key × V)} {fd : List (Key × Slot)}, KsOk K H fs fd → (fd.find? fun kv => decide (kv.1 = k)).map (·.2) = some d → ∃ v, valV fs k = some v ∧ SlotOk K H (some v) d
  | _, _, .cons (f := g) (v := v) h r, e => by
    by_cases hb : g = k
    · rw [List.find?_cons_of_pos (by simpa using hb)] at e
      cases e
      exact ⟨_, valV_pos hb, h⟩
    · rw [List.find?_cons_of_neg (by simpa using hb)] at e
      obtain ⟨w, h1, h2⟩ := KsOk.get r e
      exact ⟨w, (valV_neg hb).trans h1, h2⟩
section
variable {T : List Addr} {X : Cx} {CE : Addr} {ρ : List Slot} {O O1 O2 O3 : OH} {e a b o : Expr} {es : List Expr} {pos pos' p0 : Pos} {d x y kx : D} {s : Slot} {ss : List Slot} {ds : List D} {E : DEn} {ks : List (Option Expr)} {vs : List Expr} {c : Addr}
/-- a[b], a an owned dict -/
theorem dv_dgetO {k : Nat} {so : List (Key × Slot)} (hr : Room k X.A) {key : Key} (ha : DV T X a ρ O (.val (.ref c)) O1) (hb : DE T X b ρ O1 kx O2) (hk : ∀ B v, Rp X.K B v kx → v = kV key) (ho : O2 c = some (.dic so)) (h : (so.find? fun kv => decide (kv.1 = key)).map (·.2) = some s) (hs : NoSl b := by intro _ _; rfl) :
    DV T X (.Subscript a b pos) ρ O s O2 := .mk fun σ B H hE hA Q q => by
  refine we_of (pe_dget (hu_of hr) pe_we pe_we hs) ?_
  refine ha σ B H hE hA _ fun v B1 H1 p1 r1 => ?_
  have ev : v = .ref c := r1
  subst ev
  refine hb σ B1 H1 (hE.mono p1.bb) p1.at' _ fun iv B2 H2 p2 r2 => ?_
  have ei := hk B2 iv r2
  subst ei
  obtain ⟨_, u, hu, ok⟩ := p2.at'.own c _ ho
  cases u <;> try exact ok.elim
  rename_i kvs
  obtain ⟨w, h1, h2⟩ := KsOk.get (show KsOk X.K B2 kvs so from ok) h
  refine ⟨_, w, rfl, ?_, q w B2 H2 (p1.trans p2) h2⟩
  rw [← h1]
  exact DGet.k hu
/-- a[b], a an owned list told by any expression -/
theorem dv_ixOG {k : Int} (ha : DV T X a ρ O (.val (.ref c)) O1) (hb : DE T X b ρ O1 (.int k) O2) (ho : O2 c = some (.lst ss)) (h : atI ss k = some s) (hs : PlainIx b := by intro _ _; rfl) : DV T X (.Subscript a b pos) ρ O s O2 := .mk fun σ B H hE hA Q q => by
  refine we_of (pe_ix ix_list pe_we pe_we hs) ?_
  refine ha σ B H hE hA _ fun v B1 H1 p1 r1 => ?_
  have ev : v = .ref c := r1
  subst ev
  refine hb σ B1 H1 (hE.mono p1.bb) p1.at' _ fun iv B2 H2 p2 r2 => ?_
  cases r2
  obtain ⟨_, u, hu, ok⟩ := p2.at'.own c _ ho
  cases u <;> try exact ok.elim
  rename_i vs
  unfold atI at h
  cases ek : ixN ss.length k with
  | none =>
    rw [ek] at h
    cases h
  | some j =>
    rw [ek] at h
    obtain ⟨w, h1, h2⟩ := Args.get ok h
    refine ⟨c, vs, k, w, rfl, rfl, SqL.of hu, ?_, q w B2 H2 (p1.trans p2) h2⟩
    unfold atI
    rw [Args.length ok, ek]
    exact h1
/-- o.append(e), o an owned list told by any expression -/
theorem d1_appG {apos : Pos} {acc : List D} (ho : DV T X o ρ O (.val (.ref c)) O1) (h0 : O1 c = some (.lst (acc.map .dat))) (he : DE T X e ρ O1 d O1) (hl : acc.length < 100000) (h : E.nx ρ (put O1 c (.lst ((acc ++ [d]).map .dat))))
    (pe : PE X (.Call (.Attribute o "append" apos) [e] [] pos) (tBM X.K "list" rAppend (WE X o) (tCons (WE X e) tNil)) := by exact pe_bm PySem.F.plainAttrs_list PySem.F.slot_list_append PySem.F.type_list_append mt_append pe_we (pa_cons pe_we pa_nil)) (hs : swapsWith (.Call (.Attribute o "append" apos) [e] [] pos) none pos'.line X.env = pure false := by rfl) :
    D1 T X CE (.Expr (.Call (.Attribute o "append" apos) [e] [] pos) pos') ρ O E := .mk fun σ B H hE hA Dn W tk l => by
  refine ws_of (ps_expr pe hs) ?_
  refine ho σ B H hE hA _ fun v B1 H1 p1 r1 => ?_
  have ev : v = .ref c := r1
  subst ev
  obtain ⟨_, u0, hu0, ok0⟩ := p1.at'.own c _ h0
  cases u0 <;> try exact ok0.elim
  refine ⟨.inl ⟨rfl, _, SqL.of hu0⟩, ?_⟩
  refine he.dv σ B1 H1 (hE.mono p1.bb) p1.at' _ fun w B2 H2 p2 r2 => ?_
  obtain ⟨_, u, hu, ok⟩ := p2.at'.own c _ h0
  cases u <;> try exact ok.elim
  rename_i vs
  have lv : vs.length = (acc.map Slot.dat).length := Args.length ok
  have po := Post.put (u := .lst (vs ++ [w])) (od := .lst (acc.map Slot.dat ++ [Slot.dat d])) p2.at' h0 (show Args X.K B2 (vs ++ [w]) (acc.map Slot.dat ++ [Slot.dat d]) from Args.append (show Args X.K B2 vs (acc.map Slot.dat) from ok) (.cons r2 .nil))
  have em : (acc ++ [d]).map Slot.dat = acc.map .dat ++ [.dat d] := by rw [List.map_append]; rfl
  rw [em] at h
  exact ⟨c, vs, w, rfl, rfl, hu, by rw [lv, List.length_map]; exact Nat.lt_of_lt_of_le hl (by decide), l.nx _ _ _ B2 _ h ((p1.trans p2).trans po) ((hE.mono p1.bb).mono p2.bb)⟩
/-! ### return {..}, the values owned -/
def trsOf (X : Cx) : List (Str × Expr) → List (TE × TE)
  | [] => []
  | (k, e) :: r => (tC (.str k), WE X e) :: trsOf X r
def DPS (T : List Addr) (X : Cx) (ρ : List Slot) (O : OH) (kes : List (Str × Expr)) (R : List (Key × Slot) → OH → Prop) : Prop :=
  ∀ (σ : L2.St) (B H : Hp), Env X.K B σ ρ → At T X.K B O H → ∀ Q : List (V × V) → Hp → Prop, (∀ ss O' kvs B' H', R ss O' → Post T X.K B O H B' O' H' → KsOk X.K B' kvs ss → Q (kvs.map fun kv => (kV kv.1, kv.2)) H') → tPairs (trsOf X kes) σ H Q
theorem dps_nil {R : List (Key × Slot) → OH → Prop} (h : R [] O) : DPS T X ρ O [] R := fun σ B H hE hA Q q => q [] O [] B H h (Post.refl hA) .nil
theorem dps_cons {k : Str} {kes : List (Str × Expr)} {R1 : Slot → OH → Prop} {R : List (Key × Slot) → OH → Prop} (he : DVX T X CE e ρ O R1 (fun _ _ => False)) (hr : ∀ s O1, R1 s O1 → DPS T X ρ O1 kes (fun ss O' => R ((.inr k, s) :: ss) O')) : DPS T X ρ O ((k, e) :: kes) R := fun σ B H hE hA Q q => by
  show WE X e σ H fun y H2 => tPairs (trsOf X kes) σ H2 fun ps H3 => Q ((.str k, y) :: ps) H3
  refine he σ B H hE hA _ (fun _ _ _ _ => False) takes0 (fun s O1 v B1 H1 h1 p1 r1 => ?_) (fun _ _ _ _ _ _ _ h => h.elim)
  refine hr s O1 h1 σ B1 H1 (hE.mono p1.bb) p1.at' _ fun ss O' kvs B2 H2 hR p2 r2 => ?_
  exact q ((.inr k, s) :: ss) O' ((.inr k, v) :: kvs) B2 H2 hR (p1.trans p2) (.cons (r1.mono p2.bb) r2)
theorem dvx_dv (h : DV T X e ρ O s O1) : DVX T X CE e ρ O (fun s' O' => s' = s ∧ O' = O1) (fun _ _ => False) := fun σ B H hE hA Q W tk q _ => h σ B H hE hA Q fun v B' H' p r => q s O1 v B' H' ⟨rfl, rfl⟩ p r
/-- [..], owned at once -/
theorem dvx_lst {lp : Pos} (ha : DA T X es ρ O ss O1) (hl : ss.length ≤ 10000 := by decide) : DVX T X CE (.List es lp) ρ O (fun s' O' => ∃ p, O1 p = none ∧ s' = .val (.ref p) ∧ O' = put O1 p (.lst ss)) (fun _ _ => False) := fun σ B H hE hA Q W tk q _ => by
  refine we_of (pe_lst pa_wa) ?_
  refine ha σ B H hE hA _ fun vs B1 H1 p1 r1 => ⟨by rw [r1.length]; exact Nat.le_trans hl (by decide), fun p hp => ?_⟩
  have po := Post.madeO (o := .lst vs) (od := .lst ss) p1.at' hp r1
  exact q _ _ (.ref p) B1 _ ⟨p, p1.at'.noO hp, rfl, rfl⟩ (p1.trans po) rfl
theorem d1_retDic {kes : List (Str × Expr)} {R : List (Key × Slot) → OH → Prop} (hp : PPs X p0 ks vs (trsOf X kes)) (hd : DPS T X ρ O kes R) (h : ∀ ss O1 p, R ss O1 → O1 p = none → E.rt (.val (.ref p)) (put O1 p (.dic ss))) (hk : ∀ ss O1, R ss O1 → (ss.map (·.1)).Nodup ∧ ss.length ≤ 15) (hall : ks.all (·.isSome) = true := by rfl) (hkv : ks.length = vs.length := by rfl) (h0 : ks ≠ [] := by exact fun z => by cases z) (h15 : ks.length ≤ 15 := by decide) :
    D1 T X CE (.Return (some (.Dict ks vs p0)) pos) ρ O E := .mk fun σ B H hE hA Dn W tk l => by
  refine ws_of (ps_ret (pe_disp hp hall hkv h0 h15)) ?_
  intro p np
  have q0 := Post.laid (o := .dK []) hA np
  refine hd σ B _ hE q0.at' _ fun ss O1 kvs B1 H1 hR p1 r1 => ?_
  have nb : B p = none := hA.noB np
  have no : O p = none := hA.noO np
  have hp1 : upd H p (.dK []) p ≠ none := by rw [upd_same]; exact fun z => by cases z
  have b1 : B1 p = none := (p1.new p hp1 no).trans nb
  have o1 : O1 p = none := p1.keepO hp1 no
  have h1 : H1 p = some (.dK []) := p1.fr p _ upd_same no (hA.newT np)
  obtain ⟨kn, kl⟩ := hk ss O1 hR
  have e1 : kvs.map (·.1) = ss.map (·.1) := by
    clear kn kl h1 o1 b1 hp1 no nb hR
    induction r1 with
    | nil => rfl
    | cons _ _ ih => rw [List.map_cons, List.map_cons, ih]
  refine ⟨h1, kvs, rfl, by rw [r1.length]; exact kl, ?_⟩
  have em : mergeK [] kvs = kvs := by rw [mergeK_app kvs [] (by rw [List.nil_append, e1]; exact kn)]; rfl
  rw [em]
  have p2 := Post.over (o := .dK kvs) hA np (q0.trans p1) b1 o1
  have hpo : Post T X.K B O H B1 (put O1 p (.dic ss)) (upd H1 p (.dK kvs)) :=
    { at' :=
        { base := p2.at'.base
          own := fun c o e => by
            by_cases z : c = p
            · subst z
              rw [put_same] at e
              cases e
              exact ⟨b1, _, upd_same, r1⟩
            · rw [put_ne z] at e
              exact p2.at'.own c o e
          nt := fun P hP => by
            have z : P ≠ p := fun z => hA.newT np (by rw [← z]; exact hP)
            rw [put_ne z]
            exact p2.at'.nt P hP
          tabs := p2.at'.tabs }
      bb := p2.bb
      new := p2.new
      own := fun c hc => by
        by_cases z : c = p
        · subst z
          exact .inr np
        · rw [put_ne z] at hc
          exact p2.own c hc
      fr := p2.fr
      dom := p2.dom }
  exact l.rt _ _ (.ref p) B1 _ (h ss O1 p hR o1) hpo rfl
end
end Dz

/-! a name = [.. for i in range(m) if ..] -/
namespace Dz
open PySem PySem.Spec PyProof.Rows L2 GxR
section
variable {T : List Addr} {X : Cx} {CE : Addr} {scope : Scope} {ρ : List Slot} {O O1 O2 : OH} {elt e : Expr} {ifs : List Expr} {ds out : List D} {np pos py spos rp pos' : Pos} {n y : Str} {E : DEn}
theorem d1_ownLcR (i i0 : Nat) {m : Int} (he : DE T X e ρ O (.int m) O1) (I : Nat → List D → OH → Prop) (h0 : I 0 [] O1) (ht : ∀ (j : Nat) acc O', (j : Int) < m → I j acc O' → LcTurn T X scope ifs elt I j (ρ.set i (.dat (.int (j : Int)))) acc O') (hd : ∀ acc O', I m.toNat acc O' → acc = out ∧ O' = O2)
    (hk : ∀ p, O2 p = none → E.nx (ρ.set i0 (.val (.ref p))) (put O2 p (.lst (out.map .dat))))
    (hl : m ≤ 100000) (hl0 : -100000 ≤ m) (hmg : X.mg "range" = none) (hN : X.N.Nodup) (ok : BlkOk X.N X.env.scope scope [(n, i)]) (hg : Gl X "range" := by rfl) (hi : X.N[i]? = some n := by rfl) (hx : ∀ (s : Shared) (H : Hp) (C : Addr) (cl : List (Str × Addr)) (fp : List Addr), Loc (blkX X scope s H C cl fp).env.scope n := by first | exact fun _ _ _ _ _ => Or.inl rfl | exact fun _ _ _ _ _ => Or.inr rfl)
    (hf : ∀ (s : Shared) (H : Hp) (C : Addr) (cl : List (Str × Addr)) (fp : List Addr), (blkX X scope s H C cl fp).fn n = true ∨ (blkX X scope s H C cl fp).env.scope.names.lookup n = some .local := by first | exact fun _ _ _ _ _ => .inl rfl | exact fun _ _ _ _ _ => .inr rfl) (hc : X.calm = true := by rfl) (h1 : starEach [e] X.env = [(false, eval e X.env)] := by rfl) (hs : ∀ x, foldedSetIterable (.Call (.Name "range" rp) [e] [] pos') X.env x = pure x := by intro _; rfl)
    (hy : X.N[i0]? = some y := by rfl) (hyl : X.env.scope.names.lookup y = some .local := by rfl) (hsw : swapsWith (.ListComp elt [⟨.Name n np, .Call (.Name "range" rp) [e] [] pos', ifs, 0⟩] scope pos) (some (.Name y py)) spos.line X.env = pure true := by exact sw_true rfl rfl rfl (by decide +kernel)) :
    D1 T X CE (.Assign [.Name y py] (.ListComp elt [⟨.Name n np, .Call (.Name "range" rp) [e] [] pos', ifs, 0⟩] scope pos) spos) ρ O E := .mk fun σ B H hE hA Dn W tk l => by
  refine ws_of (ps_setLc (own := [(n, i)]) (tt := TTb X scope ifs) (te := TEb X scope elt) (g := gName i) hc hN hy hyl hsw (pi_range1 hg hmg (pa_cons pe_we pa_nil h1) h1) ok (fun s H C cl fp => pg_name (X := blkX X scope s H C cl fp) hN hi (hx s H C cl fp) (hf s H C cl fp)) ptsb peb hs) ?_
  refine he σ B H hE hA _ fun v B1 H1 p1 r1 => ?_
  cases r1
  refine ⟨m, rfl, by omega, by omega, fun a na => ?_⟩
  have hA1 := p1.at'
  refine lc_range (fun j H' => LcI T X.K B1 O1 H1 a I j H') (LcI.start hA1 na h0) (fun j H' hj h => ?_) (fun H' h => ?_)
  · have e0 : (0 : Int) + (j : Int) = (j : Int) := Int.zero_add _
    rw [e0]
    exact lc_turn hA1 na (by omega) (hE.mono p1.bb) (fun B' sb => .int _) (fun acc O' hI => ht j acc O' (by omega) hI) h
  · obtain ⟨B', O', acc, zs, h1, h2, h3, h4, h5, h6, _⟩ := h
    obtain ⟨e1, e2⟩ := hd acc O' h1
    subst e1 e2
    have po := grabO (od := .lst (acc.map .dat)) hA1 na h2 h3 h5 (Args.of h6)
    exact l.nx _ _ _ B' H' (hk a h4) (p1.trans po) (((hE.mono p1.bb).mono h2.bb).set (s := .val (.ref a)) (show SlotOk X.K B' (some (.ref a)) (.val (.ref a)) from rfl) i0)
/-- the items by a function, none leaves one out -/
theorem lc_pureRF {i : Nat} {F : Nat → Option D} {m : Int} (h : ∀ j : Nat, (j : Int) < m → (∃ y, F j = some y ∧ DIfs T X scope ifs (ρ.set i (.dat (.int (j : Int)))) O true O ∧ DEb T X scope elt (ρ.set i (.dat (.int (j : Int)))) O y O) ∨ (F j = none ∧ DIfs T X scope ifs (ρ.set i (.dat (.int (j : Int)))) O false O)) :
    ∀ (j : Nat) acc O', (j : Int) < m → (acc = (List.range j).filterMap F ∧ O' = O) → LcTurn T X scope ifs elt (fun j acc O' => acc = (List.range j).filterMap F ∧ O' = O) j (ρ.set i (.dat (.int (j : Int)))) acc O' := by
  rintro j acc O' hj ⟨e1, e2⟩
  subst e2
  rcases h j hj with ⟨y, h1, h2, h3⟩ | ⟨h1, h2⟩
  · refine ⟨true, O', h2, (fun _ => ⟨y, O', h3, ?_, rfl⟩), fun z => by cases z⟩
    rw [List.range_succ, List.filterMap_append, e1]
    simp [h1]
  · refine ⟨false, O', h2, (fun z => by cases z), fun _ => ⟨?_, rfl⟩⟩
    rw [List.range_succ, List.filterMap_append, e1]
    simp [h1]
end
end Dz

/-! a = b = e; n += e of ints -/
namespace Dz
open PySem PySem.Spec PyProof.Rows L2 GxR
section
variable {T : List Addr} {X : Cx} {CE : Addr} {ρ : List Slot} {O O1 : OH} {e : Expr} {pos p1 p2 : Pos} {d : D} {s : Slot} {E : DEn} {n m : Str}
theorem d1_set2 (i j : Nat) (he : DV T X e ρ O s O1) (h : E.nx ((ρ.set i s).set j s) O1) (hN : X.N.Nodup) (hi : X.N[i]? = some n := by rfl) (hj : X.N[j]? = some m := by rfl) (hx : Loc X.env.scope n := by first | exact Or.inl rfl | exact Or.inr rfl) (hy : Loc X.env.scope m := by first | exact Or.inl rfl | exact Or.inr rfl)
    (hf : X.fn n = true ∨ X.env.scope.names.lookup n = some .local := by first | exact .inl rfl | exact .inr rfl) (hg : X.fn m = true ∨ X.env.scope.names.lookup m = some .local := by first | exact .inl rfl | exact .inr rfl)
    (ha : (assignEach [.Name n p1, .Name m p2] X.env).map (·.2) = [assign (.Name n p1) X.env, assign (.Name m p2) X.env] := by rfl) (hw : swappedStores [.Name n p1, .Name m p2] e X.env = pure none := by rfl) : D1 T X CE (.Assign [.Name n p1, .Name m p2] e pos) ρ O E :=
  .mk fun σ B H hE hA Dn W tk l => ws_of (ps_asg2 pe_we (pg_name hN hi hx hf) (pg_name hN hj hy hg) ha hw) (he σ B H hE hA _ fun v B1 H1 p1 r1 => l.nx _ _ _ B1 H1 h p1 (((hE.mono p1.bb).set r1 i).set r1 j))
theorem d1_augI (i : Nat) {k j : Int} (hi0 : ρ[i]? = some (.dat (.int k))) (he : DE T X e ρ O (.int j) O1) (h : E.nx (ρ.set i (.dat (.int (k + j)))) O1) (hN : X.N.Nodup) (hi : X.N[i]? = some n := by rfl) (hx : Loc X.env.scope n := by first | exact Or.inl rfl | exact Or.inr rfl)
    (hf : X.fn n = true ∨ X.env.scope.names.lookup n = some .local := by first | exact .inl rfl | exact .inr rfl) : D1 T X CE (.AugAssign (.Name n p1) .Add e pos) ρ O E :=
  .mk fun σ B H hE hA Dn W tk l => by
    refine ws_of (ps_aug hN hi hx pe_we ip_add hf) ?_
    obtain ⟨o, e1, e2⟩ := hE.get hi0
    cases o with
    | none => exact e2.elim
    | some v =>
      have e2 : Rp X.K B v (.int k) := e2
      cases e2
      refine ⟨_, e1, ?_⟩
      refine he σ B H hE hA _ fun w B1 H1 q1 r1 => ?_
      cases r1
      refine ⟨k, j, rfl, rfl, ?_⟩
      exact l.nx _ _ _ B1 H1 h q1 ((hE.mono q1.bb).set (s := .dat (.int (k + j))) (show SlotOk X.K B1 (some (.int (k + j))) (.dat (.int (k + j))) from .int _) i)
end
end Dz

/-! methods of owned objects; while; pop; fields as targets; slices of tuples; dicts of the module; comprehensions over what is owned -/
namespace Dz
open PySem PySem.Spec PyProof.Rows L2 GxR
theorem FsOk.lkN {K : PySem.W.Frag} {B : Hp} {f : Str} : ∀ {fs : List (Str × V)} {ss : List (Str × Slot)}, FsOk K B fs ss → ss.lookup f = none → fs.lookup f = none
  | _, _, .nil, _ => rfl
  | _, _, .cons (f := g) h r, e => by
    rw [List.lookup_cons] at e ⊢
    cases hb : f == g with
    | true =>
      rw [hb] at e
      cases e
    | false =>
      rw [hb] at e
      exact r.lkN e
section
variable {T : List Addr} {X : Cx} {CE : Addr} {ρ : List Slot} {O O1 O2 O3 : OH} {e a b c o : Expr} {es rest : List Expr} {pos pos' p0 apos : Pos} {d x y z : D} {s : Slot} {ss : List Slot} {ds : List D} {E : DEn} {R : Slot → OH → Prop} {Rx : D → OH → Prop} {P : PR} {body : List Stmt}
/-! ### o.m(..) -/
theorem dvx_meth {pl : Sem Bool} {k : Nat} {f C ad : Addr} {fd : FuncData} {ps : List Str} {m : Str} {fs : List (Str × Slot)} (cl : Cls X.K C) (hm : Meth X.K C m f) (F : FnOk X.prog X.w X.K X.mg X.base (L2.CX X.prog X.w) k f fd ps (spX T X.K CE P)) (hr : Room k X.A) (hb : Binds X.K fd ps [])
    (ho : DV T X o ρ O (.val (.ref ad)) O1) (hO : O1 ad = some (.ins C fs)) (hn : fs.lookup m = none) (ha : DA T X (e :: es) ρ O1 ss O2) (h : P (.val (.ref ad) :: ss) O2 R Rx)
    (hst : starEach (e :: es) X.env = (false, eval e X.env) :: starEach es X.env := by rfl) (hpl : (backTo pos (starEach es X.env)).any (·.1) = false := by rfl)
    (ht : eval (.Call (.Attribute o m apos) (e :: es) [] pos) X.env = (do
      let ov ← eval o X.env
      standAt apos.atName
      let (f, first) ← holding [ov] (getMethod ov m pl)
      callWith pos f first (backTo pos (starEach (e :: es) X.env)) (backToKw pos (keywordEach [] X.env))) := by rfl) :
    DVX T X CE (.Call (.Attribute o m apos) (e :: es) [] pos) ρ O R Rx := fun σ B H hE hA Q W tk q qx =>
  we_of (pe_meth (pl := pl) (E := fun cls d H' => ∀ σ', W cls d σ' H') pe_we cl hm F hr hb .nil (passes_call tk fun cls d σ H h => h σ) pa_wa hst hpl ht) (ho σ B H hE hA _ fun v B1 H1 p1 r1 => by
    have ev : v = .ref ad := r1
    subst ev
    obtain ⟨_, u, hu, ok⟩ := p1.at'.own ad _ hO
    cases u <;> try exact ok.elim
    rename_i C' dx vs
    obtain ⟨eC, ok⟩ := ok
    subst eC
    refine ⟨ad, dx, vs, rfl, hu, ok.lkN hn, ?_⟩
    refine ha σ B1 H1 (hE.mono p1.bb) p1.at' _ fun ws B2 H2 p2 r2 => ?_
    rw [List.append_nil]
    exact ⟨.val (.ref ad) :: ss, B2, O2, R, Rx, h, .cons (show SlotOk X.K B2 (some (.ref ad)) (.val (.ref ad)) from rfl) r2, p2.at', fun s O' v B3 H3 h3 p3 r3 => q s O' v B3 H3 h3 ((p1.trans p2).trans p3) r3, fun r O' v dd B3 H3 h3 p3 e1 r3 σ' => qx r O' v dd σ' B3 H3 h3 ((p1.trans p2).trans p3) e1 r3⟩)
/-- a method that lets no error out and gives data -/
theorem de_meth {pl : Sem Bool} {k : Nat} {f C ad : Addr} {fd : FuncData} {ps : List Str} {m : Str} {fs : List (Str × Slot)} {P : List Slot → OH → D → OH → Prop} (cl : Cls X.K C) (hm : Meth X.K C m f) (F : FnOk X.prog X.w X.K X.mg X.base CX0 k f fd ps (spF T X.K P)) (hr : Room k X.A) (hb : Binds X.K fd ps [])
    (ho : DV T X o ρ O (.val (.ref ad)) O1) (hO : O1 ad = some (.ins C fs)) (hn : fs.lookup m = none) (ha : DA T X (e :: es) ρ O1 ss O2) (h : P (.val (.ref ad) :: ss) O2 d O3)
    (hst : starEach (e :: es) X.env = (false, eval e X.env) :: starEach es X.env := by rfl) (hpl : (backTo pos (starEach es X.env)).any (·.1) = false := by rfl)
    (ht : eval (.Call (.Attribute o m apos) (e :: es) [] pos) X.env = (do
      let ov ← eval o X.env
      standAt apos.atName
      let (f, first) ← holding [ov] (getMethod ov m pl)
      callWith pos f first (backTo pos (starEach (e :: es) X.env)) (backToKw pos (keywordEach [] X.env))) := by rfl) :
    DE T X (.Call (.Attribute o m apos) (e :: es) [] pos) ρ O d O3 :=
  de_of (pe_meth (pl := pl) (E := fun _ _ _ => False) pe_we cl hm F hr hb .nil pass0 pa_wa hst hpl ht) fun σ B H hE hA Q q => ho σ B H hE hA _ fun v B1 H1 p1 r1 => by
    have ev : v = .ref ad := r1
    subst ev
    obtain ⟨_, u, hu, ok⟩ := p1.at'.own ad _ hO
    cases u <;> try exact ok.elim
    rename_i C' dx vs
    obtain ⟨eC, ok⟩ := ok
    subst eC
    refine ⟨ad, dx, vs, rfl, hu, ok.lkN hn, ?_⟩
    refine ha σ B1 H1 (hE.mono p1.bb) p1.at' _ fun ws B2 H2 p2 r2 => ?_
    rw [List.append_nil]
    exact ⟨.val (.ref ad) :: ss, B2, O2, d, O3, h, .cons (show SlotOk X.K B2 (some (.ref ad)) (.val (.ref ad)) from rfl) r2, p2.at', fun v B3 H3 p3 r3 => q v B3 H3 ((p1.trans p2).trans p3) r3⟩
theorem de_meth0 {pl : Sem Bool} {k : Nat} {f C ad : Addr} {fd : FuncData} {ps : List Str} {m : Str} {fs : List (Str × Slot)} {P : List Slot → OH → D → OH → Prop} (cl : Cls X.K C) (hm : Meth X.K C m f) (F : FnOk X.prog X.w X.K X.mg X.base CX0 k f fd ps (spF T X.K P)) (hr : Room k X.A) (hb : Binds X.K fd ps [])
    (ho : DV T X o ρ O (.val (.ref ad)) O1) (hO : O1 ad = some (.ins C fs)) (hn : fs.lookup m = none) (h : P [.val (.ref ad)] O1 d O3)
    (ht : eval (.Call (.Attribute o m apos) [] [] pos) X.env = (do
      let ov ← eval o X.env
      standAt apos.atName
      let (f, first) ← holding [ov] (getMethod ov m pl)
      callWith pos f first (backTo pos (starEach [] X.env)) (backToKw pos (keywordEach [] X.env))) := by rfl) :
    DE T X (.Call (.Attribute o m apos) [] [] pos) ρ O d O3 :=
  de_of (pe_meth0 (pl := pl) (E := fun _ _ _ => False) pe_we cl hm F hr hb .nil pass0 ht) fun σ B H hE hA Q q => ho σ B H hE hA _ fun v B1 H1 p1 r1 => by
    have ev : v = .ref ad := r1
    subst ev
    obtain ⟨_, u, hu, ok⟩ := p1.at'.own ad _ hO
    cases u <;> try exact ok.elim
    rename_i C' dx vs
    obtain ⟨eC, ok⟩ := ok
    subst eC
    refine ⟨ad, dx, vs, rfl, hu, ok.lkN hn, ?_⟩
    show spF T X.K P (.ref ad :: ([] ++ [])) H1 Q (fun _ _ _ => False)
    exact ⟨[.val (.ref ad)], B1, O1, d, O3, h, .cons (show SlotOk X.K B1 (some (.ref ad)) (.val (.ref ad)) from rfl) .nil, p1.at', fun v B3 H3 p3 r3 => q v B3 H3 (p1.trans p3) r3⟩
/-! ### o.f = e, e with many answers -/
theorem d1_fstX (i : Nat) {n f : Str} {ad C : Addr} {npos apos : Pos} (cl : Cls X.K C) (na : NoAttr X.K C f) (hi : ρ[i]? = some (.val (.ref ad))) (he : DVX T X CE e ρ O R E.ex)
    (h : ∀ s O', R s O' → ∃ fs, O' ad = some (.ins C fs) ∧ fs.length < 1000 ∧ E.nx ρ (put O' ad (.ins C (putS f s fs))))
    (pn : PE X (.Name n npos) (tVar i) := by exact pv _) (hs : swapsWith e (some (.Attribute (.Name n npos) f apos)) pos.line X.env = pure false := by rfl) : D1 T X CE (.Assign [.Attribute (.Name n npos) f apos] e pos) ρ O E := .mk fun σ B H hE hA Dn W tk l => by
  refine ws_of (ps_fld pn pe_we hs) ?_
  refine he σ B H hE hA _ W tk (fun s O' w B1 H1 h1 p1 r1 => ?_) fun r O' v dd σ' B1 H1 h1 p1 e1 r1 => l.ex r O' v dd σ' B1 H1 h1 p1 e1 r1
  obtain ⟨fs, hO, hl, hn⟩ := h s O' h1
  obtain ⟨ov, e1, e2⟩ := (hE.mono p1.bb).get hi
  cases ov with
  | none => exact e2.elim
  | some v =>
    have ev : v = .ref ad := e2
    subst ev
    obtain ⟨_, u, hu, ok⟩ := p1.at'.own ad _ hO
    cases u <;> try exact ok.elim
    rename_i C' dx vs
    obtain ⟨eC, ok⟩ := ok
    subst eC
    have po := Post.put (u := .ins C' dx (putF f w vs)) (od := .ins C' (putS f s fs)) p1.at' hO ⟨rfl, FsOk.put r1 ok⟩
    exact ⟨_, e1, ad, C', dx, vs, rfl, hu, cl, na, by rw [ok.length]; exact hl, l.nx _ _ _ B1 _ hn (p1.trans po) (hE.mono p1.bb)⟩
/-! ### while -/
theorem d1_while (I : Nat → List Slot → OH → Prop) (n : Nat) (h0 : I n ρ O) (hs : ∀ m ρ' O', I m ρ' O' → ∃ p O2, DT T X c ρ' O' p O2 ∧
      (p = true → DS T X CE body ρ' O2 { E with nx := fun ρ2 O3 => ∃ m', m' < m ∧ I m' ρ2 O3, ct := fun ρ2 O3 => ∃ m', m' < m ∧ I m' ρ2 O3, bk := E.nx }) ∧ (p = false → E.nx ρ' O2)) (hp : PassesOwn (model X.prog X.w) X.A X.env X.xe) : D1 T X CE (.While c body [] pos) ρ O E := .mk fun σ B H hE hA Dn W tk l => by
  refine ws_of (ps_while hp pt_wt pss_wss) ⟨fun m σ' H' => ∃ ρ' O' B', I m ρ' O' ∧ Post T X.K B O H B' O' H' ∧ Env X.K B' σ' ρ', ⟨n, ρ, O, B, h0, Post.refl hA, hE⟩, ?_⟩
  rintro m σ' H' ⟨ρ', O', B', hI, po, hE'⟩
  obtain ⟨p, O2, t1, t2, t3⟩ := hs m ρ' O' hI
  refine t1 σ' B' H' hE' po.at' _ fun B2 H2 p2 => ?_
  have po2 := po.trans p2
  cases p with
  | true =>
    rw [if_pos rfl]
    refine ⟨fun σ3 H3 => ∃ m', m' < m ∧ ∃ ρ3 O3 B3, I m' ρ3 O3 ∧ Post T X.K B O H B3 O3 H3 ∧ Env X.K B3 σ3 ρ3, fun σ3 H3 q => q, ?_⟩
    refine t2 rfl σ' B2 H2 (hE'.mono p2.bb) p2.at' _ W tk ?_
    have l' := l.step po2
    exact ⟨fun ρ3 O3 σ3 B3 H3 ⟨m', h1, h2⟩ p3 e3 => ⟨m', h1, ρ3, O3, B3, h2, po2.trans p3, e3⟩, l'.rt, l'.nx, fun ρ3 O3 σ3 B3 H3 ⟨m', h1, h2⟩ p3 e3 => ⟨m', h1, ρ3, O3, B3, h2, po2.trans p3, e3⟩, l'.ex⟩
  | false =>
    rw [if_neg (by decide)]
    exact l.nx _ _ _ B2 _ (t3 rfl) po2 (hE'.mono p2.bb)
/-! ### pop -/
theorem dv_pop {ad : Addr} (ho : DV T X o ρ O (.val (.ref ad)) O1) (hO : O1 ad = some (.lst ss)) (hs : ss[ss.length - 1]? = some s)
    (pe : PE X (.Call (.Attribute o "pop" apos) [] [] pos) (tBM X.K "list" rPop (WE X o) tNil) := by exact pe_bm0 PySem.F.plainAttrs_list PySem.F.slot_list_pop PySem.F.type_list_pop mt_pop pe_we) : DV T X (.Call (.Attribute o "pop" apos) [] [] pos) ρ O s (put O1 ad (.lst ss.dropLast)) := .mk fun σ B H hE hA Q q => by
  refine we_of pe ?_
  refine ho σ B H hE hA _ fun v B1 H1 p1 r1 => ?_
  have ev : v = .ref ad := r1
  subst ev
  obtain ⟨_, u, hu, ok⟩ := p1.at'.own ad _ hO
  cases u <;> try exact ok.elim
  rename_i vs
  have ok' : Args X.K B1 vs ss := ok
  obtain ⟨w, h1, h2⟩ := ok'.get hs
  refine ⟨.inl ⟨rfl, vs, SqL.of hu⟩, ?_⟩
  refine ⟨ad, vs, w, rfl, rfl, hu, by rw [ok'.length]; exact h1, ?_⟩
  have po := Post.put (u := .lst vs.dropLast) (od := .lst ss.dropLast) p1.at' hO (show Args X.K B1 vs.dropLast ss.dropLast from ok'.dropLast)
  exact q w B1 _ (p1.trans po) h2
/-! ### a field among the targets -/
def gFld (K : PySem.W.Frag) (ta : TE) (f : Str) : TG := fun v σ H Q => ta σ H fun x H2 => ∃ a C dx fs, x = .ref a ∧ H2 a = some (.ins C dx fs) ∧ Cls K C ∧ NoAttr K C f ∧ fs.length < 1000 ∧ Q σ (upd H2 a (.ins C dx (putF f v fs)))
theorem pg_fld {o : Expr} {f : Str} {ta : TE} {p : Pos} (ha : PE X o ta) : PG X (.Attribute o f p) (gFld X.K ta f) := by
  refine ⟨fun pins s σ H v u Q I r h => ?_⟩
  rw [PySem.assign_Attribute]
  refine wpAny_bind (wpAny_holding (thn (ha.run pins s σ H _ I h) fun ov s1 ⟨x, H1, I1, rx, a, C, dx, fs, ex, ea, c, n, l, q⟩ => ?_))
  subst ex
  obtain rfl : ov = Value.ref a := rx
  exact wpAny_bind (wpAny_standAt (wpAny_bind (wpAny_holding (setattr_ok I1 ea c n l r fun s3 I3 => wpAny_release ⟨σ, _, I3, q⟩))))
/-- x, o.f = e, e a pair -/
theorem d1_unpackF (i j : Nat) {n m f : Str} {ad C : Addr} {k : Nat} {tp p1 p2 p3 : Pos} {fs : List (Str × Slot)} (cl : Cls X.K C) (na : NoAttr X.K C f) (he : DE T X e ρ O (.tup [x, y]) O1) (hj : (ρ.set i (.dat x))[j]? = some (.val (.ref ad))) (hO : O1 ad = some (.ins C fs)) (hl : fs.length < 1000)
    (h : E.nx (ρ.set i (.dat x)) (put O1 ad (.ins C (putS f (.dat y) fs)))) (hN : X.N.Nodup) (hc : X.calm = true := by rfl)
    (hi : X.N[i]? = some n := by rfl) (hx : Loc X.env.scope n := by first | exact Or.inl rfl | exact Or.inr rfl) (hf : X.fn n = true ∨ X.env.scope.names.lookup n = some .local := by first | exact .inl rfl | exact .inr rfl)
    (pn : PE X (.Name m p2) (tVar j) := by exact pv _)
    (q1 : (assignEach [.Name n p1, .Attribute (.Name m p2) f p3] X.env).map (·.2) = assign (.Name n p1) X.env :: (assignEach [.Attribute (.Name m p2) f p3] X.env).map (·.2) := by rfl) (q2 : (assignEach [.Attribute (.Name m p2) f p3] X.env).map (·.2) = assign (.Attribute (.Name m p2) f p3) X.env :: (assignEach [] X.env).map (·.2) := by rfl)
    (g1 : (assignEach [.Name n p1, .Attribute (.Name m p2) f p3] X.env).length = 2 := by rfl) (g2 : (assignEach [.Name n p1, .Attribute (.Name m p2) f p3] X.env).findIdx? (·.1) = none := by rfl) (h1 : swapsWithSole [.Tuple [.Name n p1, .Attribute (.Name m p2) f p3] k tp] e pos.line X.env = pure false := by rfl) (h2 : swappedStores [.Tuple [.Name n p1, .Attribute (.Name m p2) f p3] k tp] e X.env = pure none := by rfl) (h3 : (assignEach [.Tuple [.Name n p1, .Attribute (.Name m p2) f p3] k tp] X.env).map (·.2) = [assign (.Tuple [.Name n p1, .Attribute (.Name m p2) f p3] k tp) X.env] := by rfl) :
    D1 T X CE (.Assign [.Tuple [.Name n p1, .Attribute (.Name m p2) f p3] k tp] e pos) ρ O E := .mk fun σ B H hE hA Dn W tk l => by
  refine ws_of (ps_asg pe_we (pg_tup hc (pgs_cons (pg_name hN hi hx hf) (pgs_cons (pg_fld pn) pgs_nil q2) q1) g1 g2) h1 h2 h3) ?_
  refine he σ B H hE hA _ fun v B1 H1 p1 r1 => ?_
  cases r1 with
  | tup hq r =>
    cases r with
    | cons ra r =>
      cases r with
      | cons rb r =>
        cases r
        rename_i aa va vb
        refine ⟨aa, _, rfl, same_t p1.at'.base hq, rfl, va, _, rfl, vb, _, rfl, ?_⟩
        have hE1 := (hE.mono p1.bb).set (o := some va) (s := .dat x) (show SlotOk X.K B1 (some va) (.dat x) from ra) i
        obtain ⟨ov, e1, e2⟩ := hE1.get hj
        cases ov with
        | none => exact e2.elim
        | some v =>
          have ev : v = .ref ad := e2
          subst ev
          obtain ⟨_, u, hu, ok⟩ := p1.at'.own ad _ hO
          cases u <;> try exact ok.elim
          rename_i C' dx vs
          obtain ⟨eC, ok⟩ := ok
          subst eC
          have po := Post.put (u := .ins C' dx (putF f vb vs)) (od := .ins C' (putS f (.dat y) fs)) p1.at' hO ⟨rfl, FsOk.put (show SlotOk X.K B1 (some vb) (.dat y) from rb) ok⟩
          exact ⟨_, e1, ad, C', dx, vs, rfl, hu, cl, na, by rw [ok.length]; exact hl, rfl, l.nx _ _ _ B1 _ h (p1.trans po) hE1⟩
/-- a, b, .. = e, e a list that is owned -/
theorem d1_unpackO {k : Nat} {tp : Pos} {is : List Nat} {ad : Addr} (he : DV T X e ρ O (.val (.ref ad)) O1) (hO : O1 ad = some (.lst ss)) (hl : ss.length = is.length) (hn : Names X es is) (h : E.nx (setAll ρ is ss) O1) (hN : X.N.Nodup) (hc : X.calm = true := by rfl)
    (g1 : (assignEach es X.env).length = is.length := by rfl) (g2 : (assignEach es X.env).findIdx? (·.1) = none := by rfl) (h1 : swapsWithSole [.Tuple es k tp] e pos.line X.env = pure false := by rfl) (h2 : swappedStores [.Tuple es k tp] e X.env = pure none := by rfl) (h3 : (assignEach [.Tuple es k tp] X.env).map (·.2) = [assign (.Tuple es k tp) X.env] := by rfl) :
    D1 T X CE (.Assign [.Tuple es k tp] e pos) ρ O E := .mk fun σ B H hE hA Dn W tk l => by
  refine ws_of (ps_asg pe_we (pg_unl hc (pgs_names hN hn) g1 g2) h1 h2 h3) ?_
  refine he σ B H hE hA _ fun v B1 H1 p1 r1 => ?_
  have ev : v = .ref ad := r1
  subst ev
  obtain ⟨_, u, hu, ok⟩ := p1.at'.own ad _ hO
  cases u <;> try exact ok.elim
  rename_i vs
  have ok' : Args X.K B1 vs ss := ok
  have e1 : vs.length = is.length := by rw [ok'.length]; exact hl
  exact ⟨ad, vs, rfl, SqL.of hu, e1, e1, l.nx _ _ _ B1 H1 h p1 (Env.setAll is (hE.mono p1.bb) ok')⟩
/-! ### slices of tuples -/
theorem de_takeT {i : Int} {p2 : Pos} (ha : DE T X a ρ O (.tup ds) O1) (hb : DE T X b ρ O1 (.int i) O2) (h0 : 0 ≤ i) (h1 : i ≤ ds.length) (hz : ds.length ≤ 100000) : DE T X (.Subscript a (.Slice none (some b) none p2) pos) ρ O (.tup (ds.take i.toNat)) O2 :=
  de_of (pe_slice sl_tupA pe_we po_none (po_some pe_we)) fun σ B H hE hA Q q => ha σ B H hE hA _ fun v B1 H1 p1 r1 => by
    refine hb σ B1 H1 (hE.mono p1.bb) p1.at' _ fun w B2 H2 p2 r2 => ?_
    cases r2
    refine ⟨i, rfl, ?_⟩
    have po := p1.trans p2
    cases r1.mono p2.bb with
    | tup hq r =>
      rename_i l xs
      have hx : xs.length = ds.length := r.length
      have s0 : HT.sIx xs.length 0 none = 0 := rfl
      have s1 : HT.sIx xs.length xs.length (some i) = i.toNat := by
        unfold HT.sIx
        simp only [h0]
        first | omega | (split <;> omega) | simp <;> omega
      refine ⟨l, xs, rfl, same_t po.at'.base hq, fun hw => ?_, fun hw p np => ?_⟩
      · rw [s1] at hw
        exact q _ B2 H2 po (by rw [show ds.take i.toNat = ds from List.take_of_length_le (by rw [← hx]; omega)]; exact .tup hq r)
      · have ec : cutV xs none (some i) = xs.take i.toNat := by
          unfold cutV
          rw [s0, s1, List.drop_zero, Nat.sub_zero]
        rw [ec]
        have pm := Post.made (o := .tup (xs.take i.toNat)) p2.at' np
        exact q _ _ _ (po.trans pm) (.tup (SqT.of upd_same) ((r.take i.toNat).mono pm.bb))
theorem de_dropT {i : Int} {p2 : Pos} (ha : DE T X a ρ O (.tup ds) O1) (hb : DE T X b ρ O1 (.int i) O2) (h0 : 0 ≤ i) (h1 : i ≤ ds.length) (hz : ds.length ≤ 100000) : DE T X (.Subscript a (.Slice (some b) none none p2) pos) ρ O (.tup (ds.drop i.toNat)) O2 :=
  de_of (pe_slice sl_tupA pe_we (po_some pe_we) po_none) fun σ B H hE hA Q q => ha σ B H hE hA _ fun v B1 H1 p1 r1 => by
    refine hb σ B1 H1 (hE.mono p1.bb) p1.at' _ fun w B2 H2 p2 r2 => ?_
    cases r2
    refine ⟨i, rfl, ?_⟩
    have po := p1.trans p2
    cases r1.mono p2.bb with
    | tup hq r =>
      rename_i l xs
      have hx : xs.length = ds.length := r.length
      have s0 : HT.sIx xs.length xs.length none = xs.length := rfl
      have s1 : HT.sIx xs.length 0 (some i) = i.toNat := by
        unfold HT.sIx
        simp only [h0]
        first | omega | (split <;> omega) | simp <;> omega
      refine ⟨l, xs, rfl, same_t po.at'.base hq, fun hw => ?_, fun hw p np => ?_⟩
      · rw [s1] at hw
        exact q _ B2 H2 po (by rw [show ds.drop i.toNat = ds from by rw [hw.1]; rfl]; exact .tup hq r)
      · have ec : cutV xs (some i) none = xs.drop i.toNat := by
          unfold cutV
          rw [s0, s1]
          exact List.take_of_length_le (by rw [List.length_drop]; omega)
        rw [ec]
        have pm := Post.made (o := .tup (xs.drop i.toNat)) p2.at' np
        exact q _ _ _ (po.trans pm) (.tup (SqT.of upd_same) ((r.drop i.toNat).mono pm.bb))
/-! ### a dict of the module -/
theorem de_inKD {n : Str} {z : Str} {ad : Addr} {es : Array DictEntry} {m : Nat} {r : Option Value} {p : Pos} (hm : X.mg n = some (.ref ad)) (D : KDict X.K X.w ad es m) (hk : PySem.W.nsIn X.K ad z = some r) (ha : DE T X a ρ O (.str z) O1) (hg : Gl X n := by rfl) (hd : (n == ("__debug__" : Str)) = false := by decide) (hi : behindInMarks .In (.Name n p) = false := by rfl) :
    DT T X (.Compare a [.In] [.Name n p] pos) ρ O r.isSome O1 :=
  dt_of (pt_cmpR (op_in_kd D) pe_we (pe_glob (v := .ref ad) hg hm rfl hd) hi) fun σ B H hE hA Q q => ha σ B H hE hA _ fun v B1 H1 p1 r1 => by
    cases r1
    exact ⟨z, r, rfl, rfl, hk, _, rfl, q B1 H1 p1⟩
theorem de_ninKD {n : Str} {z : Str} {ad : Addr} {es : Array DictEntry} {m : Nat} {r : Option Value} {p : Pos} (hm : X.mg n = some (.ref ad)) (D : KDict X.K X.w ad es m) (hk : PySem.W.nsIn X.K ad z = some r) (ha : DE T X a ρ O (.str z) O1) (hg : Gl X n := by rfl) (hd : (n == ("__debug__" : Str)) = false := by decide) (hi : behindInMarks .NotIn (.Name n p) = false := by rfl) :
    DT T X (.Compare a [.NotIn] [.Name n p] pos) ρ O (!r.isSome) O1 :=
  dt_of (pt_cmpR (op_notIn_kd D) pe_we (pe_glob (v := .ref ad) hg hm rfl hd) hi) fun σ B H hE hA Q q => ha σ B H hE hA _ fun v B1 H1 p1 r1 => by
    cases r1
    exact ⟨z, r, rfl, rfl, hk, _, rfl, q B1 H1 p1⟩
/-! ### new lists -/
/-- list(e), e an owned list: a new one, owned -/
theorem dvx_listO {ad : Addr} (hm : X.mg "list" = none) (ho : DV T X e ρ O (.val (.ref ad)) O1) (hO : O1 ad = some (.lst ss)) (hg : Gl X "list" := by rfl) (he : starEach [e] X.env = (false, eval e X.env) :: starEach [] X.env := by rfl) :
    DVX T X CE (.Call (.Name "list" p0) [e] [] pos) ρ O (fun s' O' => ∃ p, O1 p = none ∧ s' = .val (.ref p) ∧ O' = put O1 p (.lst ss)) (fun _ _ => False) := fun σ B H hE hA Q W tk q _ =>
  we_of (pe_callTy call_list_of hg hm boot_list (pa_cons pe_we pa_nil he) (by decide) (by decide) he) (ho σ B H hE hA _ fun v B1 H1 p1 r1 => by
    have ev : v = .ref ad := r1
    subst ev
    obtain ⟨_, u, hu, ok⟩ := p1.at'.own ad _ hO
    cases u <;> try exact ok.elim
    rename_i vs
    have ok' : Args X.K B1 vs ss := ok
    refine ⟨ad, vs, rfl, .inl (SqL.of hu), fun l hl => ?_⟩
    have pm := Post.madeO (o := .lst vs) (od := .lst ss) p1.at' hl ok'
    exact q _ _ (.ref l) B1 _ ⟨l, p1.at'.noO hl, rfl, rfl⟩ (p1.trans pm) rfl)
/-- x = [e, ..], e with many answers -/
theorem d1_ownX (i : Nat) {n : Str} {lp : Pos} (he : DVX T X CE e ρ O R (fun _ _ => False)) (h : ∀ s O1, R s O1 → ∃ ss O2, DA T X es ρ O1 ss O2 ∧ ss.length < 1000 ∧ ∀ p, O2 p = none → E.nx (ρ.set i (.val (.ref p))) (put O2 p (.lst (s :: ss)))) (hN : X.N.Nodup) (hi : X.N[i]? = some n := by rfl) (hx : Loc X.env.scope n := by first | exact Or.inl rfl | exact Or.inr rfl)
    (hs : swapsWith (.List (e :: es) lp) (some (.Name n pos')) pos.line X.env = pure false := by rfl) (hf : X.fn n = true ∨ X.env.scope.names.lookup n = some .local := by first | exact .inl rfl | exact .inr rfl) (hst : starEach (e :: es) X.env = (false, eval e X.env) :: starEach es X.env := by rfl) : D1 T X CE (.Assign [.Name n pos'] (.List (e :: es) lp) pos) ρ O E :=
  .mk fun σ B H hE hA Dn W tk l => ws_of (ps_set hN hi hx (pe_lst (pa_cons pe_we pa_wa hst)) hs hf) (he σ B H hE hA _ W tk (fun s O1 v B1 H1 h1 p1 r1 => by
    obtain ⟨ss, O2, ha, hl, hk⟩ := h s O1 h1
    refine ha σ B1 H1 (hE.mono p1.bb) p1.at' _ fun vs B2 H2 p2 r2 => ?_
    refine ⟨?_, fun p hp => ?_⟩
    · rw [List.length_cons, r2.length]
      have : (100000 : Nat) ≤ sizeLine := by decide
      omega
    · have ok : Args X.K B2 (v :: vs) (s :: ss) := .cons (r1.mono p2.bb) r2
      have pm := Post.madeO (o := .lst (v :: vs)) (od := .lst (s :: ss)) p2.at' hp ok
      exact l.nx _ _ _ B2 _ (hk p (p2.at'.noO hp)) ((p1.trans p2).trans pm) (((hE.mono p1.bb).mono p2.bb).set (s := .val (.ref p)) (show SlotOk X.K B2 (some (.ref p)) (.val (.ref p)) from rfl) i)) fun _ _ _ _ _ _ _ z _ _ _ => z.elim)
/-- [e], e with many answers, all of them data -/
theorem dvx_lst1 {lp : Pos} (he : DVX T X CE e ρ O R Rx) (hd : ∀ s O', R s O' → ∃ d, s = .dat d) (hst : starEach [e] X.env = (false, eval e X.env) :: starEach [] X.env := by rfl) : DVX T X CE (.List [e] lp) ρ O (fun s' O' => ∃ d, R (.dat d) O' ∧ s' = .dat (.lst [d])) Rx := fun σ B H hE hA Q W tk q qx =>
  we_of (pe_lst (pa_cons pe_we pa_nil hst)) (he σ B H hE hA _ W tk (fun s O1 v B1 H1 h1 p1 r1 => by
    obtain ⟨d, rfl⟩ := hd s O1 h1
    refine ⟨by show 1 ≤ sizeLine; decide, fun p hp => ?_⟩
    have pm := Post.made (o := .lst [v]) p1.at' hp
    exact q _ O1 (.ref p) _ _ ⟨d, h1, rfl⟩ (p1.trans pm) (show Rp X.K _ (.ref p) (.lst [d]) from .lst upd_same (.cons (Rp.mono pm.bb r1) .nil))) qx)
/-- x = {} -/
theorem d1_ownDic0 (i : Nat) {n : Str} {dp : Pos} (h : ∀ p, O p = none → E.nx (ρ.set i (.val (.ref p))) (put O p (.dic []))) (hN : X.N.Nodup) (hi : X.N[i]? = some n := by rfl) (hx : Loc X.env.scope n := by first | exact Or.inl rfl | exact Or.inr rfl)
    (hs : swapsWith (.Dict [] [] dp) (some (.Name n pos')) pos.line X.env = pure false := by rfl) (hf : X.fn n = true ∨ X.env.scope.names.lookup n = some .local := by first | exact .inl rfl | exact .inr rfl) : D1 T X CE (.Assign [.Name n pos'] (.Dict [] [] dp) pos) ρ O E :=
  .mk fun σ B H hE hA Dn W tk l => ws_of (ps_set hN hi hx pe_dnewK hs hf) (fun p hp => by
    have pm := Post.madeO (o := .dK []) (od := .dic []) hA hp (show KsOk X.K B [] [] from .nil)
    exact l.nx _ _ _ B _ (h p (hA.noO hp)) pm (hE.set (s := .val (.ref p)) (show SlotOk X.K B (some (.ref p)) (.val (.ref p)) from rfl) i))
end
end Dz

/-! comprehensions over lists that are owned -/
namespace Dz
open PySem PySem.Spec PyProof.Rows L2 GxR
section
variable {T : List Addr} {X : Cx} {scope : Scope} {ρ ρ1 : List Slot} {O O1 O2 : OH} {c elt iter : Expr} {ifs : List Expr} {b : Bool} {d : D} {B H : Hp} {a : Addr} {I : Nat → List D → OH → Prop} {s : Slot} {ss : List Slot} {ds out : List D} {np pos tp : Pos} {n n1 n2 : Str}
/-- what is owned at l is given back behind a piece that did not touch it -/
theorem Post.regain {T : List Addr} {K : PySem.W.Frag} {B H B1 H1 : Hp} {O O1 : OH} {l : Addr} {od : OD} (hA : At T K B O H) (ho : O l = some od) (p : Post T K B (cut O l) H B1 O1 H1) : Post T K B O H B1 (Dz.put O1 l od) H1 := by
  obtain ⟨b0, u, hu, ok⟩ := hA.own l od ho
  have hT := hA.notT ho
  have h1 : H1 l = some u := p.fr l u hu cut_same hT
  have b1 : B1 l = none := (p.new l (ne_some hu) cut_same).trans b0
  have cn : ∀ {c : Addr}, O c = none → cut O l c = none := fun {c} h => by
    unfold cut
    split
    · rfl
    · exact h
  exact
    { at' :=
        { base := p.at'.base
          own := fun c o e => by
            by_cases z : c = l
            · subst z
              rw [put_same] at e
              cases e
              exact ⟨b1, u, h1, ok.mono p.bb⟩
            · rw [put_ne z] at e
              exact p.at'.own c o e
          nt := fun P hP => by
            have z : P ≠ l := fun z => hT (by rw [← z]; exact hP)
            rw [put_ne z]
            exact p.at'.nt P hP
          tabs := p.at'.tabs }
      bb := p.bb
      new := fun c h1 h2 => p.new c h1 (cn h2)
      own := fun c h => by
        by_cases z : c = l
        · subst z
          exact .inl (ne_some ho)
        · rw [put_ne z] at h
          rcases p.own c h with q | q
          · rw [cut_ne z] at q
            exact .inl q
          · exact .inr q
      fr := fun c o h1 h2 h3 => p.fr c o h1 (cn h2) h3
      dom := p.dom }
theorem put_cut {O : OH} {l : Addr} {o : OD} (h : O l = some o) : put (cut O l) l o = O := by
  funext c
  unfold put cut
  by_cases z : c = l
  · subst z
    simp [h]
  · simp [z]
/-- the tests and the element, wherever the names stand -/
theorem lc_turnS {σ σ1 : L2.St} {j : Nat} {Hj : Hp} {is : List Nat} (hA : At T X.K B O H) (n : H a = none) (hj : j < 100000)
    (hw : wipe σ1 is = wipe σ is) (hE : ∀ B', Same B B' → Env X.K B' σ1 ρ1) (ht : ∀ acc O', I j acc O' → LcTurn T X scope ifs elt I j ρ1 acc O') (h : LcI T X.K B O H a I j Hj) :
    wipe σ1 is = wipe σ is ∧ TTb X scope ifs σ1 Hj fun b H3 =>
      if b = true then TEb X scope elt σ1 H3 fun y H4 => ∃ acc, H4 a = some (.lst acc) ∧ acc.length < sizeLine ∧ LcI T X.K B O H a I (j + 1) (upd H4 a (.lst (acc ++ [y]))) else LcI T X.K B O H a I (j + 1) H3 := by
  obtain ⟨B', O', acc, xs, h1, h2, h3, h4, h5, h6, h7⟩ := h
  refine ⟨hw, ?_⟩
  have hE' := hE B' h2.bb
  have ha : Hj a ≠ none := by rw [h5]; exact fun z => by cases z
  obtain ⟨b, O2, t1, t2, t3⟩ := ht acc O' h1
  refine t1 _ B' Hj hE' h2.at' _ fun B2 H2 p2 => ?_
  have k1 : B2 a = none := by rw [p2.new a ha h4]; exact h3
  have k2 : O2 a = none := p2.keepO ha h4
  have k3 : H2 a = some (.lst xs) := p2.fr a _ h5 h4 (hA.newT n)
  cases b with
  | false =>
    rw [if_neg (by decide)]
    exact ⟨B2, O2, acc, xs, t3 rfl, h2.trans p2, k1, k2, k3, h6.mono p2.bb, Nat.le_succ_of_le h7⟩
  | true =>
    rw [if_pos rfl]
    obtain ⟨y, O3, t4, t5⟩ := t2 rfl
    intro s0 H0 C cl fp
    refine t4 s0 H0 C cl fp _ B2 H2 (hE'.mono p2.bb) p2.at' _ fun w B3 H3 p3 r3 => ?_
    have ha2 : H2 a ≠ none := by rw [k3]; exact fun z => by cases z
    have m1 : B3 a = none := by rw [p3.new a ha2 k2]; exact k1
    have m2 : O3 a = none := p3.keepO ha2 k2
    have m3 : H3 a = some (.lst xs) := p3.fr a _ k3 k2 (hA.newT n)
    refine ⟨xs, m3, ?_, B3, O3, acc ++ [y], xs ++ [w], t5, Post.over hA n ((h2.trans p2).trans p3) m1 m2, m1, m2, upd_same, ((h6.mono p2.bb).mono p3.bb).append (.cons r3 .nil), ?_⟩
    · rw [h6.length]
      have : (100000 : Nat) ≤ sizeLine := by decide
      omega
    · rw [List.length_append, List.length_singleton]
      omega
/-- [e for x in xs], xs owned -/
theorem de_lcO (i : Nat) {l : Addr} (he : DV T X iter ρ O (.val (.ref l)) O1) (hO : O1 l = some (.lst ss)) (I : Nat → List D → Prop) (h0 : I 0 []) (ht : ∀ j s acc, ss[j]? = some s → I j acc → LcTurn T X scope ifs elt (fun j acc O' => I j acc ∧ O' = cut O1 l) j ((ρ.set i .no).set i s) acc (cut O1 l)) (hd : ∀ acc, I ss.length acc → acc = out)
    (hl : ss.length ≤ 100000) (hN : X.N.Nodup) (ok : BlkOk X.N X.env.scope scope [(n, i)]) (hi : X.N[i]? = some n := by rfl) (hx : ∀ (s : Shared) (H : Hp) (C : Addr) (cl : List (Str × Addr)) (fp : List Addr), Loc (blkX X scope s H C cl fp).env.scope n := by first | exact fun _ _ _ _ _ => Or.inl rfl | exact fun _ _ _ _ _ => Or.inr rfl)
    (hf : ∀ (s : Shared) (H : Hp) (C : Addr) (cl : List (Str × Addr)) (fp : List Addr), (blkX X scope s H C cl fp).fn n = true ∨ (blkX X scope s H C cl fp).env.scope.names.lookup n = some .local := by first | exact fun _ _ _ _ _ => .inl rfl | exact fun _ _ _ _ _ => .inr rfl) (hc : X.calm = true := by rfl) (hs : ∀ x, foldedSetIterable iter X.env x = pure x := by intro _; rfl) :
    DE T X (.ListComp elt [⟨.Name n np, iter, ifs, 0⟩] scope pos) ρ O (.lst out) O1 :=
  de_of (pe_lc hc hN (pi_list pe_we) ok (fun s H C cl fp => pg_name hN hi (hx s H C cl fp) (hf s H C cl fp)) ptsb peb hs) fun σ B H hE hA Q q => he σ B H hE hA _ fun v B1 H1 p1 r1 => by
    have ev : v = .ref l := r1
    subst ev
    have hA0 := p1.at'
    obtain ⟨_, u, hu, ok'⟩ := hA0.own l _ hO
    cases u <;> try exact ok'.elim
    rename_i xs
    have okA : Args X.K B1 xs ss := ok'
    refine ⟨l, rfl, ⟨xs, SqL.of hu⟩, fun a na => ?_⟩
    have hA1 : At T X.K B1 (cut O1 l) H1 := hA0.forget l
    refine lc_list (K := X.K) (xs := xs) (a := l) (fun j H' => LcI T X.K B1 (cut O1 l) H1 a (fun j acc O' => I j acc ∧ O' = cut O1 l) j H') (LcI.start hA1 na ⟨h0, rfl⟩) (fun j H' _ h => ?_) (fun j x H' hj h => ?_) (fun H' h => ?_)
    · obtain ⟨B', _, _, _, _, h2, _⟩ := h
      exact SqL.of (h2.fr l _ hu cut_same (hA0.notT hO))
    · have hjl : j < ss.length := by
        rw [← okA.length]
        exact (List.getElem?_eq_some_iff.mp hj).1
      have hsj : ss[j]? = some ss[j] := List.getElem?_eq_getElem hjl
      obtain ⟨x', e1, e2⟩ := okA.get hsj
      have ex : x' = x := by rw [hj] at e1; exact (Option.some.inj e1).symm
      subst ex
      exact lc_turnS (σ := σ) (σ1 := (wipe σ [i]).set i (some x')) (ρ1 := (ρ.set i .no).set i ss[j]) (is := [i]) hA1 na (Nat.lt_of_lt_of_le hjl hl) ((wipe_set (List.mem_singleton.mpr rfl)).trans (wipe_wipe fun _ h => h)) (fun B' sb => (((hE.mono p1.bb).mono sb).wipe1 i).set (o := some x') (s := ss[j]) (e2.mono sb) i) (fun acc O' hI => by
        obtain ⟨hI, rfl⟩ := hI
        exact ht j _ acc hsj hI) h
    · rw [okA.length] at h
      exact LcI.fin (out := out) (Oo := cut O1 l) hA1 na h (fun acc O' hI => ⟨hd acc hI.1, hI.2⟩) fun v B2 H2 p2 r2 => q v B2 H2 (p1.trans (by have z := Post.regain hA0 hO p2; rw [put_cut hO] at z; exact z)) r2
/-- [e for x, y in xs], xs owned, of pairs -/
theorem de_lcO2 (i1 i2 : Nat) {l : Addr} {k : Nat} {p1' p2' : Pos} (he : DV T X iter ρ O (.val (.ref l)) O1) (hO : O1 l = some (.lst (ds.map .dat))) (hds : ∀ d ∈ ds, ∃ x y, d = .tup [x, y]) (I : Nat → List D → Prop) (h0 : I 0 []) (ht : ∀ j x y acc, ds[j]? = some (.tup [x, y]) → I j acc → LcTurn T X scope ifs elt (fun j acc O' => I j acc ∧ O' = cut O1 l) j ((((ρ.set i2 .no).set i1 .no).set i1 (.dat x)).set i2 (.dat y)) acc (cut O1 l)) (hd : ∀ acc, I ds.length acc → acc = out)
    (hl : ds.length ≤ 100000) (hN : X.N.Nodup) (ok : BlkOk X.N X.env.scope scope [(n1, i1), (n2, i2)]) (hn : ∀ (s : Shared) (H : Hp) (C : Addr) (cl : List (Str × Addr)) (fp : List Addr), Names (blkX X scope s H C cl fp) [.Name n1 p1', .Name n2 p2'] [i1, i2])
    (g1 : ∀ (s : Shared) (H : Hp) (C : Addr) (cl : List (Str × Addr)) (fp : List Addr), (assignEach [.Name n1 p1', .Name n2 p2'] (blkX X scope s H C cl fp).env).length = 2 := by intro _ _ _ _ _; rfl) (g2 : ∀ (s : Shared) (H : Hp) (C : Addr) (cl : List (Str × Addr)) (fp : List Addr), (assignEach [.Name n1 p1', .Name n2 p2'] (blkX X scope s H C cl fp).env).findIdx? (·.1) = none := by intro _ _ _ _ _; rfl)
    (hc2 : ∀ (s : Shared) (H : Hp) (C : Addr) (cl : List (Str × Addr)) (fp : List Addr), (blkX X scope s H C cl fp).calm = true := by intro _ _ _ _ _; rfl) (hc : X.calm = true := by rfl) (hs : ∀ x, foldedSetIterable iter X.env x = pure x := by intro _; rfl) :
    DE T X (.ListComp elt [⟨.Tuple [.Name n1 p1', .Name n2 p2'] k tp, iter, ifs, 0⟩] scope pos) ρ O (.lst out) O1 :=
  de_of (pe_lc (g := gTup X.K 2 (fun vs σ H Q => vs.length = [i1, i2].length ∧ Q (List.foldl (fun σ (p : Nat × V) => σ.set p.1 (some p.2)) σ ([i1, i2].zip vs)) H)) hc hN (pi_list pe_we) ok (fun s H C cl fp => pg_tup (hc2 s H C cl fp) (pgs_names (X := blkX X scope s H C cl fp) hN (hn s H C cl fp)) (g1 s H C cl fp) (g2 s H C cl fp)) ptsb peb hs) fun σ B H hE hA Q q => he σ B H hE hA _ fun v B1 H1 p1 r1 => by
    have ev : v = .ref l := r1
    subst ev
    have hA0 := p1.at'
    obtain ⟨_, u, hu, ok'⟩ := hA0.own l _ hO
    cases u <;> try exact ok'.elim
    rename_i xs
    have okA : RpAll X.K B1 xs ds := Args.all ok'
    refine ⟨l, rfl, ⟨xs, SqL.of hu⟩, fun a na => ?_⟩
    have hA1 : At T X.K B1 (cut O1 l) H1 := hA0.forget l
    refine lc_list (K := X.K) (xs := xs) (a := l) (fun j H' => LcI T X.K B1 (cut O1 l) H1 a (fun j acc O' => I j acc ∧ O' = cut O1 l) j H') (LcI.start hA1 na ⟨h0, rfl⟩) (fun j H' _ h => ?_) (fun j x H' hj h => ?_) (fun H' h => ?_)
    · obtain ⟨B', _, _, _, _, h2, _⟩ := h
      exact SqL.of (h2.fr l _ hu cut_same (hA0.notT hO))
    · have hjl : j < ds.length := by
        rw [← okA.length]
        exact (List.getElem?_eq_some_iff.mp hj).1
      obtain ⟨d, hsj, e2⟩ := okA.getV hj
      obtain ⟨dx, dy, rfl⟩ := hds d (List.mem_of_getElem? hsj)
      have sb0 : ∃ B', Same B1 B' ∧ At T X.K B' (cut O1 l) H' := by
        obtain ⟨B', O', _, _, ⟨_, rfl⟩, h2, _⟩ := h
        exact ⟨B', h2.bb, h2.at'⟩
      obtain ⟨B', sb, hAt⟩ := sb0
      cases e2 with
      | tup hq r =>
        cases r with
        | cons ra r =>
          cases r with
          | cons rb r =>
            cases r
            rename_i aa va vb
            refine ⟨aa, _, rfl, same_t hAt.base (same_t sb hq), rfl, rfl, ?_⟩
            exact lc_turnS (σ := σ) (σ1 := ((wipe σ [i1, i2]).set i1 (some va)).set i2 (some vb)) (ρ1 := (((ρ.set i2 .no).set i1 .no).set i1 (.dat dx)).set i2 (.dat dy)) (is := [i1, i2]) hA1 na (Nat.lt_of_lt_of_le hjl hl) ((wipe_set (by simp)).trans ((wipe_set (by simp)).trans (wipe_wipe fun _ h => h))) (fun B' sb => (((((hE.mono p1.bb).mono sb).wipe1 i2).wipe1 i1).set (o := some va) (s := .dat dx) (Rp.mono sb ra) i1).set (o := some vb) (s := .dat dy) (Rp.mono sb rb) i2) (fun acc O' hI => by
              obtain ⟨hI, rfl⟩ := hI
              exact ht j _ _ acc hsj hI) h
    · rw [okA.length] at h
      exact LcI.fin (out := out) (Oo := cut O1 l) hA1 na h (fun acc O' hI => ⟨hd acc hI.1, hI.2⟩) fun v B2 H2 p2 r2 => q v B2 H2 (p1.trans (by have z := Post.regain hA0 hO p2; rw [put_cut hO] at z; exact z)) r2
end
end Dz

/-! dicts whose keys are tuples within tuples: what the evaluator does with them -/
namespace Dz
open PySem PySem.Spec PyProof.Rows L2 GxR

mutual
/-- the value is the key, in the heap H -/
inductive Nk (K : PySem.W.Frag) (H : Hp) : V → NestedKey → Prop
  | non : Nk K H .non .none
  | bl (b : Bool) : Nk K H (.bl b) (.num (if b = true then 1 else 0))
  | int (i : Int) : Nk K H (.int i) (.num i)
  | str (x : Str) : Nk K H (.str x) (.text x)
  | tup {a : Addr} {xs : List V} {ks : List NestedKey} : SqT K H a xs → Nks K H xs ks → Nk K H (.ref a) (.tup ks)
inductive Nks (K : PySem.W.Frag) (H : Hp) : List V → List NestedKey → Prop
  | nil : Nks K H [] []
  | cons {v : V} {k : NestedKey} {vs : List V} {ks : List NestedKey} : Nk K H v k → Nks K H vs ks → Nks K H (v :: vs) (k :: ks)
end
section
variable {K : PySem.W.Frag} {B H : Hp}
mutual
theorem Rp.nk (s : Same B H) : ∀ {v : V} {d : D} {k : NestedKey}, Rp K B v d → nkD d = some k → Nk K H v k
  | _, _, _, .non, e => by
    rw [nkD] at e
    cases e
    exact .non
  | _, _, _, .bl b, e => by
    rw [nkD] at e
    cases e
    exact .bl b
  | _, _, _, .int i, e => by
    rw [nkD] at e
    cases e
    exact .int i
  | _, _, _, .str x, e => by
    rw [nkD] at e
    cases e
    exact .str x
  | _, .tup ds, k, .tup h r, e => by
    rw [nkD] at e
    cases q : nkDs ds with
    | none =>
      rw [q] at e
      cases e
    | some ks =>
      rw [q] at e
      cases e
      exact .tup (same_t s h) (RpAll.nks s r q)
  | _, _, _, .lst h r, e => by
    rw [nkD] at e
    cases e
  | _, _, _, .kst h r, e => by
    rw [nkD] at e
    cases e
  | _, _, _, .ins h r, e => by
    rw [nkD] at e
    cases e
  | _, _, _, .dic h r, e => by
    rw [nkD] at e
    cases e
  | _, _, _, .dicN h r, e => by
    rw [nkD] at e
    cases e
theorem RpAll.nks (s : Same B H) : ∀ {vs : List V} {ds : List D} {ks : List NestedKey}, RpAll K B vs ds → nkDs ds = some ks → Nks K H vs ks
  | _, _, _, .nil, e => by
    rw [nkDs] at e
    cases e
    exact .nil
  | _, d :: ds, ks, .cons h r, e => by
    rw [nkDs] at e
    cases q : nkD d with
    | none =>
      rw [q] at e
      cases e
    | some k =>
      cases q2 : nkDs ds with
      | none =>
        rw [q, q2] at e
        cases e
      | some ks' =>
        rw [q, q2] at e
        cases e
        exact .cons (Rp.nk s h q) (RpAll.nks s r q2)
end
end
mutual
theorem Nk.is {X : Cx} {pins : List (Addr × Obj)} {σ : L2.St} {H : Hp} {s : Shared} (I : Inv X pins σ H s) : ∀ {v : V} {k : NestedKey} {u : Value}, Nk X.K H v k → RelV v u → NestedIs s.heap k u
  | _, _, _, .non, r => by
    cases r
    exact .none
  | _, _, _, .bl b, r => by
    cases r
    exact .bool rfl
  | _, _, _, .int i, r => by
    obtain ⟨t, rfl⟩ := r
    exact .int i t
  | _, _, _, .str x, r => by
    obtain ⟨t, rfl⟩ := r
    exact .text x t
  | .ref a, _, _, .tup (xs := xs) (ks := ks) h n, r => by
    cases r
    obtain ⟨its, rv, ⟨o, h1, h2, m, h3⟩, _⟩ := I.tuple h
    exact .tup h1 h2 h3 (by
      have q : NestedAll s.heap ks its := Nks.is I n rv
      simpa using q)
theorem Nks.is {X : Cx} {pins : List (Addr × Obj)} {σ : L2.St} {H : Hp} {s : Shared} (I : Inv X pins σ H s) : ∀ {vs : List V} {ks : List NestedKey} {us : List Value}, Nks X.K H vs ks → Vals vs us → NestedAll s.heap ks us
  | _, _, _, .nil, r => by
    cases r
    exact .nil
  | _, _, _, .cons h n, r => by
    cases r with
    | cons r1 r2 => exact .cons (Nk.is I h r1) (Nks.is I n r2)
end

/-! ### entries -/
abbrev Kx := List (V × NestedKey × V)
def getN (kx : Kx) (k : NestedKey) : Option V := (kx.find? fun p => decide (p.2.1 = k)).map (·.2.2)
def putN (kx : Kx) (y : V) (k : NestedKey) (v : V) : Kx := if (getN kx k).isSome = true then kx.map (fun p => if p.2.1 = k then (p.1, p.2.1, v) else p) else kx ++ [(y, k, v)]
/-- every key is a tuple -/
def RefK (K : PySem.W.Frag) (H : Hp) (kx : Kx) : Prop := ∀ p ∈ kx, (∃ b, p.1 = .ref b) ∧ Nk K H p.1 p.2.1 ∧ p.2.1.depth ≤ 8
/-- the heap's entries -/
def EX (kx : Kx) (xs : List (NestedKey × Addr × Value)) : Prop := Paired (fun (p : V × NestedKey × V) (q : NestedKey × Addr × Value) => q.1 = p.2.1 ∧ p.1 = .ref q.2.1 ∧ RelV p.2.2 q.2.2) kx xs
theorem ex_get {kx : Kx} {xs : List (NestedKey × Addr × Value)} (e : EX kx xs) (k : NestedKey) : RelO (getN kx k) ((atKey xs k).map (·.2)) := by
  unfold EX at e
  induction e with
  | nil => exact True.intro
  | @cons p q kx xs h _ ih =>
    obtain ⟨h1, h2, h3⟩ := h
    unfold getN atKey at ih ⊢
    by_cases z : p.2.1 = k
    · rw [List.find?_cons_of_pos (by simpa using z), List.find?_cons_of_pos (by rw [h1]; simpa using z)]
      exact h3
    · rw [List.find?_cons_of_neg (by simpa using z), List.find?_cons_of_neg (by rw [h1]; simpa using z)]
      exact ih
theorem ex_some {kx : Kx} {xs : List (NestedKey × Addr × Value)} (e : EX kx xs) (k : NestedKey) : (atKey xs k).isSome = (getN kx k).isSome := by
  have q := (ex_get e k).isSome_eq
  rw [Option.isSome_map] at q
  exact q.symm
theorem ex_map {k : NestedKey} {v : V} {u : Value} (r : RelV v u) {kx : Kx} {xs : List (NestedKey × Addr × Value)} (e : EX kx xs) : EX (kx.map fun p => if p.2.1 = k then (p.1, p.2.1, v) else p) (xs.map (putAt k u)) := by
  unfold EX at e ⊢
  induction e with
  | nil => exact .nil
  | @cons p q kx xs h _ ih =>
    obtain ⟨h1, h2, h3⟩ := h
    rw [List.map_cons, List.map_cons]
    refine .cons ?_ ih
    unfold putAt
    by_cases z : p.2.1 = k
    · rw [if_pos z, if_pos (h1.trans z)]
      exact ⟨h1, h2, r⟩
    · rw [if_neg z, if_neg (fun w => z (h1.symm.trans w))]
      exact ⟨h1, h2, h3⟩
theorem paired_app {α β : Type} {F : α → β → Prop} {l1 m1 : List α} {l2 m2 : List β} (a : Paired F l1 l2) (b : Paired F m1 m2) : Paired F (l1 ++ m1) (l2 ++ m2) := by
  induction a with
  | nil => exact b
  | cons h _ ih => exact .cons h ih
theorem ex_put {k : NestedKey} {b : Addr} {v : V} {u : Value} (r : RelV v u) {kx : Kx} {xs : List (NestedKey × Addr × Value)} (e : EX kx xs) : EX (putN kx (.ref b) k v) (storedH xs k b u) := by
  unfold putN storedH
  rw [ex_some e]
  cases (getN kx k).isSome with
  | true => exact ex_map r e
  | false => exact paired_app e (.cons ⟨rfl, rfl, r⟩ .nil)
theorem putN_length (kx : Kx) (y : V) (k : NestedKey) (v : V) : (putN kx y k v).length ≤ kx.length + 1 := by
  unfold putN
  split
  · rw [List.length_map]; omega
  · rw [List.length_append]; exact Nat.le_refl _
section
variable {X : Cx} {pins : List (Addr × Obj)} {σ : L2.St} {H : Hp} {s : Shared} {a b : Addr} {kx : Kx} {k : NestedKey} {y v : V} {u r : Value} {A : Around} {E : Value → Shared → Prop}
theorem nd_at (I : Inv X pins σ H s) (e : Rd H a (ndO X.w a kx)) : NdAt X.w a kx s.heap := (show ObjOk X.prog X.w H s.heap a (ndO X.w a kx) from e.ok I.hok).1
theorem nd_dict (I : Inv X pins σ H s) (e : Rd H a (ndO X.w a kx)) (rk : RefK X.K H kx) : kx.length ≤ sizeLine ∧ (a == sysModules) = false ∧ ∃ xs, EX kx xs ∧ s.heap.DictOfH (nestedKind X.prog X.w) a xs := by
  obtain ⟨h1, h2, o, es, ep, h3, h4, h5, pr, nd⟩ := nd_at I e
  refine ⟨h1, h2, ?_⟩
  have key : ∀ {kx : Kx} {l : List DictEntry}, Paired (NdE X.w) kx l → RefK X.K H kx → ∃ xs, EX kx xs ∧ l = xs.map (entryOfKey (nestedKind X.prog X.w)) ∧ ∀ x ∈ xs, (nestedKind X.prog X.w).is s.heap x.1 x.2.1 := by
    intro kx l q
    induction q with
    | nil => exact fun _ => ⟨[], .nil, rfl, fun x hx => nomatch hx⟩
    | @cons p en kx l h t ih =>
      intro rk
      obtain ⟨xs, e1, e2, e3⟩ := ih fun p hp => rk p (List.mem_cons_of_mem _ hp)
      obtain ⟨⟨b, hb⟩, hn, hd⟩ := rk p (List.mem_cons_self ..)
      obtain ⟨g1, g2, g3⟩ := h
      have ek : en.key = .ref b := by
        rw [hb] at g2
        exact g2
      refine ⟨(p.2.1, b, en.val) :: xs, .cons ⟨rfl, hb, g3⟩ e1, ?_, fun x hx => ?_⟩
      · rw [List.map_cons, ← e2]
        congr 1
        cases en with
        | mk eh ek' ev =>
          cases ek
          cases g1
          rfl
      · rcases List.mem_cons.mp hx with z | hx
        · subst z
          refine ⟨?_, hd⟩
          have q := hn.is I g2
          rw [ek] at q
          exact q
        · exact e3 x hx
  obtain ⟨xs, e1, e2, e3⟩ := key pr rk
  refine ⟨xs, e1, o, es, ep, h3, h4, h5, e2, e3, ?_⟩
  have em : xs.map (·.1) = kx.map (·.2.1) := by
    clear e2 e3 pr nd rk e h1
    unfold EX at e1
    induction e1 with
    | nil => rfl
    | @cons p q kx xs h t ih => rw [List.map_cons, List.map_cons, ih, h.1]
  rw [em]
  exact nd
theorem nd_new {h' : Heap} {xs : List (NestedKey × Addr × Value)} {H' : Hp} (hz : kx.length ≤ sizeLine) (hd : (a == sysModules) = false) (e : EX kx xs) (dd : h'.DictOfH (nestedKind X.prog X.w) a xs) : ObjOk X.prog X.w H' h' a (ndO X.w a kx) := by
  obtain ⟨o, es, ep, h1, h2, h3, h4, h6, h5⟩ := dd
  clear h6
  have pr : Paired (NdE X.w) kx es.toList := by
    rw [h4]
    clear h4 h5 hz
    unfold EX at e
    induction e with
    | nil => exact .nil
    | @cons p q kx xs h t ih =>
      obtain ⟨g1, g2, g3⟩ := h
      rw [List.map_cons]
      refine .cons ⟨?_, ?_, g3⟩ ih
      · show q.1.hash X.w = p.2.1.hash X.w
        rw [g1]
      · rw [g2]
        rfl
  have em : xs.map (·.1) = kx.map (·.2.1) := by
    clear h4 h5 pr hz
    unfold EX at e
    induction e with
    | nil => rfl
    | @cons p q kx xs h t ih => rw [List.map_cons, List.map_cons, ih, h.1]
  rw [em] at h5
  exact ⟨⟨hz, hd, o, es, ep, h1, h2, h3, pr, h5⟩, ⟨o, h1⟩, fun g1 g2 x k => by
    obtain ⟨z1, z2, o', es', ep', z3, z4⟩ := x
    exact ⟨z1, z2, o', es', ep', k _ z3, z4⟩⟩
theorem nd_empty {P : Program} {w : World} {H : Hp} (h : Heap) (hb : sysModules < h.objs.size) : ObjOk P w H (h.push { cls := .type "dict", data := .dict #[] }) h.objs.size (ndO w h.objs.size []) :=
  ⟨⟨Nat.zero_le _, beq_eq_false_iff_ne.mpr (Ne.symm (Nat.ne_of_lt hb)), _, #[], 0, Heap.get?_push_size _ rfl, ⟨rfl, rfl, rfl⟩, rfl, .nil, List.nodup_nil⟩, ⟨_, Heap.get?_push_size _ rfl⟩, fun g1 g2 x k => by
    obtain ⟨z1, z2, o', es', ep', z3, z4⟩ := x
    exact ⟨z1, z2, o', es', ep', k _ z3, z4⟩⟩
/-- the value y is the key k, a tuple -/
def KeyR (K : PySem.W.Frag) (H : Hp) (y : V) (k : NestedKey) : Prop := (∃ b, y = .ref b) ∧ Nk K H y k ∧ k.depth ≤ 8
theorem KeyR.is (I : Inv X pins σ H s) (h : KeyR X.K H y k) (r : RelV y u) : ∃ b, y = .ref b ∧ u = .ref b ∧ (nestedKind X.prog X.w).is s.heap k b := by
  obtain ⟨⟨b, rfl⟩, h2, h3⟩ := h
  cases r
  exact ⟨b, rfl, rfl, h2.is I rfl, h3⟩
theorem n_getItem {Q : Value → Shared → Prop} (hu : A.units + 9 < cLine) (I : Inv X pins σ H s) (e : Rd H a (ndO X.w a kx)) (rk : RefK X.K H kx) (hk : KeyR X.K H y k) (hv : getN kx k = some v) (ry : RelV y u) (h : ∀ w' s', Inv X pins σ H s' → RelV v w' → Q w' s') :
    wpAny (model X.prog X.w) A (getItem (.ref a) u) Q E s := by
  obtain ⟨b, rfl, rfl, hb⟩ := hk.is I ry
  obtain ⟨_, hd, xs, ex, dd⟩ := nd_dict I e rk
  have q := ex_get ex k
  rw [hv] at q
  cases ha : atKey xs k with
  | none =>
    rw [ha] at q
    exact q.elim
  | some p =>
    rw [ha] at q
    exact wpAny_getItem_heap (show A.in1.units + 8 < cLine by show A.units + 1 + 8 < cLine; omega) hb dd ha (h p.2 _ (I.tok _) q)
theorem n_in {Q : Value → Shared → Prop} (hu : A.units + 9 < cLine) (I : Inv X pins σ H s) (e : Rd H a (ndO X.w a kx)) (rk : RefK X.K H kx) (hk : KeyR X.K H y k) (ry : RelV y u) (h : ∀ s', Inv X pins σ H s' → Q (.bool (getN kx k).isSome) s') :
    wpAny (model X.prog X.w) A (compareOp .In u (.ref a)) Q E s := by
  obtain ⟨b, rfl, rfl, hb⟩ := hk.is I ry
  obtain ⟨_, hd, xs, ex, dd⟩ := nd_dict I e rk
  refine wpAny_in_heap (show A.in1.units + 8 < cLine by show A.units + 1 + 8 < cLine; omega) hb hd dd ?_
  rw [ex_some ex]
  exact h _ (I.tok _)
theorem n_notIn {Q : Value → Shared → Prop} (hu : A.units + 9 < cLine) (I : Inv X pins σ H s) (e : Rd H a (ndO X.w a kx)) (rk : RefK X.K H kx) (hk : KeyR X.K H y k) (ry : RelV y u) (h : ∀ s', Inv X pins σ H s' → Q (.bool (!(getN kx k).isSome)) s') :
    wpAny (model X.prog X.w) A (compareOp .NotIn u (.ref a)) Q E s := by
  obtain ⟨b, rfl, rfl, hb⟩ := hk.is I ry
  obtain ⟨_, hd, xs, ex, dd⟩ := nd_dict I e rk
  refine wpAny_notIn_heap (show A.in1.units + 8 < cLine by show A.units + 1 + 8 < cLine; omega) hb hd dd ?_
  rw [ex_some ex]
  exact h _ (I.tok _)
theorem n_write {h' : Heap} {tk : Nat} {xs : List (NestedKey × Addr × Value)} {kx' : Kx} (I : Inv X pins σ H s) (e : H a = some (ndO X.w a kx)) (hz : kx'.length ≤ sizeLine) (hd : (a == sysModules) = false) (ex : EX kx' xs) (dd : h'.DictOfH (nestedKind X.prog X.w) a xs) (hs : Heap.SameBut a s.heap h') :
    Inv X pins σ (upd H a (ndO X.w a kx')) { s with heap := h', toks := tk } := by
  obtain ⟨o, es, ep, ho, _⟩ := id dd
  exact d_write I (by rw [e]; exact True.intro) hs ⟨o, ho⟩ (nd_new hz hd ex dd)
theorem n_setItem {Q : Unit → Shared → Prop} (hu : A.units + 9 < cLine) (I : Inv X pins σ H s) (e : H a = some (ndO X.w a kx)) (rk : RefK X.K H kx) (hk : KeyR X.K H y k) (hl : kx.length < sizeLine) (ry : RelV y u) (rv : RelV v r) (h : ∀ s', Inv X pins σ (upd H a (ndO X.w a (putN kx y k v))) s' → Q () s') :
    wpAny (model X.prog X.w) A (setItem (.ref a) u r) Q E s := by
  obtain ⟨b, rfl, rfl, hb⟩ := hk.is I ry
  obtain ⟨hz, hd, xs, ex, dd⟩ := nd_dict I (.inl e) rk
  have lx : xs.length ≤ sizeLine := by rw [← Paired.length ex]; exact hz
  refine wpAny_setItem_heap (hsz := lx) (show A.in1.units + 8 < cLine by show A.units + 1 + 8 < cLine; omega) hb dd fun h' dd' hs => h _ ?_
  exact n_write I e (Nat.le_trans (putN_length ..) hl) hd (ex_put rv ex) dd' hs
theorem n_dictSet {Q : Unit → Shared → Prop} (hu : A.units + 9 < cLine) (I : Inv X pins σ H s) (e : H a = some (ndO X.w a kx)) (rk : RefK X.K H kx) (hk : KeyR X.K H y k) (hl : kx.length < sizeLine) (ry : RelV y u) (rv : RelV v r) (h : ∀ s', Inv X pins σ (upd H a (ndO X.w a (putN kx y k v))) s' → Q () s') :
    wpAny (model X.prog X.w) A (dictSet a u r) Q E s := by
  obtain ⟨b, rfl, rfl, hb⟩ := hk.is I ry
  obtain ⟨hz, hd, xs, ex, dd⟩ := nd_dict I (.inl e) rk
  have lx : xs.length ≤ sizeLine := by rw [← Paired.length ex]; exact hz
  refine wpAny_dictSet_heap (hsz := lx) (show A.units + 8 < cLine by omega) hb dd fun h' dd' hs => h _ ?_
  exact n_write I e (Nat.le_trans (putN_length ..) hl) hd (ex_put rv ex) dd' hs
theorem n_setd {Q : Value → Shared → Prop} (hu : A.units + 9 < cLine) (I : Inv X pins σ H s) (e : H a = some (ndO X.w a kx)) (rk : RefK X.K H kx) (hk : KeyR X.K H y k) (hl : kx.length < sizeLine) (ry : RelV y u) (rv : RelV v r)
    (h1 : ∀ x, getN kx k = some x → ∀ w' s', Inv X pins σ H s' → RelV x w' → Q w' s') (h2 : getN kx k = none → ∀ w' s', Inv X pins σ (upd H a (ndO X.w a (putN kx y k v))) s' → RelV v w' → Q w' s') :
    wpAny (model X.prog X.w) A (call (.builtin "dict.setdefault") [.ref a, u, r]) Q E s := by
  obtain ⟨b, rfl, rfl, hb⟩ := hk.is I ry
  obtain ⟨hz, hd, xs, ex, dd⟩ := nd_dict I (.inl e) rk
  have lx : xs.length ≤ sizeLine := by rw [← Paired.length ex]; exact hz
  refine call_setdefault_heap (hsz := lx) (show A.in1.units + 8 < cLine by show A.units + 1 + 8 < cLine; omega) hb hd dd (fun p hp => ?_) fun hn h' dd' hs => ?_
  · have q := ex_get ex k
    rw [hp] at q
    cases hg : getN kx k with
    | none =>
      rw [hg] at q
      exact q.elim
    | some x =>
      rw [hg] at q
      exact h1 x hg _ _ (I.tok _) q
  · have q := ex_some ex k
    rw [hn] at q
    have hg : getN kx k = none := by
      cases hg : getN kx k with
      | none => rfl
      | some x =>
        rw [hg] at q
        cases q
    exact h2 hg _ _ (n_write I e (Nat.le_trans (putN_length ..) hl) hd (ex_put rv ex) dd' hs) rv
end
end Dz

/-! walks over a known dict of tuple keys; what expressions and statements do with such dicts -/
namespace Dz
open PySem PySem.Spec PyProof.Rows L2 GxR
section
variable {X : Cx} {pins : List (Addr × Obj)} {σ : L2.St} {H : Hp} {s : Shared} {d : Addr} {o : Obj} {kx : Kx}
theorem nd_frz (I : Inv X pins σ H s) (h : H d = some (.frz o (ndO X.w d kx))) :
    (d == sysModules) = false ∧ s.heap.get? d = some o ∧ o.ExactDict ∧ ∃ (es : Array DictEntry) (ep : Nat), o.data = .dict es ep ∧ es.size = kx.length ∧
      ∀ (i : Nat) (p : V × NestedKey × V), kx[i]? = some p → ∃ (en : DictEntry), es[i]? = some en ∧ RelV p.1 en.key ∧ RelV p.2.2 en.val := by
  obtain ⟨hd, q⟩ := I.hok d _ h
  obtain ⟨z, hs, o', es, ep, ho, hx, hdt, pr, _⟩ := q.1
  rw [hd] at ho
  cases ho
  refine ⟨hs, hd, hx, es, ep, hdt, ?_, fun i p e => ?_⟩
  · have l := Paired.length pr
    rw [Array.length_toList] at l
    exact l.symm
  · obtain ⟨en, h1, _, h2, h3⟩ := paired_get pr e
    exact ⟨en, by rw [← Array.getElem?_toList]; exact h1, h2, h3⟩
end
def ItNk (w : World) (d : Addr) (o : Obj) (kx : Kx) : It :=
  ⟨fun i H => H d = some (.frz o (ndO w d kx)) ∧ i < kx.length, fun i H x H' => H' = H ∧ ∃ p, kx[i]? = some p ∧ x = p.1, fun i H => H d = some (.frz o (ndO w d kx)) ∧ kx.length ≤ i⟩
def ItNv (w : World) (d : Addr) (o : Obj) (kx : Kx) : It :=
  ⟨fun i H => H d = some (.frz o (ndO w d kx)) ∧ i < kx.length, fun i H x H' => H' = H ∧ ∃ p, kx[i]? = some p ∧ x = p.2.2, fun i H => H d = some (.frz o (ndO w d kx)) ∧ kx.length ≤ i⟩
def ItNi (w : World) (d : Addr) (o : Obj) (kx : Kx) : It :=
  ⟨fun i H => H d = some (.frz o (ndO w d kx)) ∧ i < kx.length, fun i H x H' => ∃ T p, kx[i]? = some p ∧ x = .ref T ∧ H T = none ∧ H' = upd H T (.tup [p.1, p.2.2]), fun i H => H d = some (.frz o (ndO w d kx)) ∧ kx.length ≤ i⟩
section
variable {P : Program} {w : World} {K : PySem.W.Frag} {tg : Expr} {d : Addr} {o : Obj} {es : Array DictEntry} {ep : Nat} {kx : Kx}
theorem turn_nk (it : Addr) (hod : o.data = .dict es ep) : Turn P w K tg (ItNk w d o kx) [it] it (fun i h => h.IsKeyIter it d i kx.length ep) where
  mem := by simp
  obj := fun i h st b hb => by
    have e : b = it := by simpa using hb
    subst e
    obtain ⟨oi, e, c, dd⟩ := st
    exact ⟨oi, e, fun v z => by rw [dd] at z; cases z⟩
  keep := fun i h h' st k => st.at fun oi e => k it (by simp) oi e
  item := by
    intro X hP hw hK hc i pins s σ H E I hf st hg
    subst hP hw hK
    obtain ⟨hd, hi⟩ := hg
    obtain ⟨f0, f1, f2, f3, f4, f5⟩ := hf it (by simp)
    obtain ⟨hs, hgd, hx, es', ep', hdt, hsz, ent⟩ := nd_frz I hd
    obtain ⟨rfl, rfl⟩ := dict_ep hod hdt
    obtain ⟨p, hp⟩ : ∃ p, kx[i]? = some p := ⟨kx[i], List.getElem?_eq_getElem hi⟩
    obtain ⟨en, hen, hk, hv⟩ := ent i p hp
    refine next_key_item st hgd hdt hsz hen fun h' st' sb => ?_
    have I1 : Inv X pins σ H { s with heap := h' } := I.turned (t' := s.toks) (fun b ob hb e => (sb.2 b hb).trans e) f0 f1 f3 f4 f5
    obtain ⟨oi, e, c, dd⟩ := id st'
    exact ⟨en.key, rfl, go_of (s := { s with heap := h' }) e c dd (by decide) ⟨p.1, H, I1, hk, ⟨rfl, p, hp, rfl⟩, st', fun b hb => (hf b hb).1⟩⟩
  done := by
    intro X hP hw hK hc i pins s σ H E I hf st hg
    subst hP hw hK
    obtain ⟨hd, hi⟩ := hg
    obtain ⟨f0, f1, f2, f3, f4, f5⟩ := hf it (by simp)
    obtain ⟨hs, hgd, hx, es', ep', hdt, hsz, ent⟩ := nd_frz I hd
    obtain ⟨rfl, rfl⟩ := dict_ep hod hdt
    exact next_key_end (I.ok.hd hc) st hgd hdt hsz hi fun h' eb => ⟨rfl, I.turned (t' := s.toks) (fun b ob hb e => eb b ob hb e) f0 f1 f3 f4 f5⟩
  self := fun A i s Q E st h => by
    refine wpAny_pyIter_slot st.typeIs F.slot_dict_keyiterator_iter (wpAny_call_entry F.slot_dict_keyiterator_iter st.typeIs F.entry_dict_keyiterator_iter ?_ (F.args_dict_keyiterator_iter_1 _))
    show wpAny _ _ (ret (.ref it)) _ _ s
    exact wpAny_pure ⟨_, rfl, "dict_keyiterator", _, st.typeIs, F.slot_dict_keyiterator_next.lookup, h⟩
theorem turn_nv (it : Addr) (hod : o.data = .dict es ep) : Turn P w K tg (ItNv w d o kx) [it] it (fun i h => h.IsValIter it d i kx.length ep) where
  mem := by simp
  obj := fun i h st b hb => by
    have e : b = it := by simpa using hb
    subst e
    obtain ⟨oi, e, c, dd⟩ := st
    exact ⟨oi, e, fun v z => by rw [dd] at z; cases z⟩
  keep := fun i h h' st k => st.at fun oi e => k it (by simp) oi e
  item := by
    intro X hP hw hK hc i pins s σ H E I hf st hg
    subst hP hw hK
    obtain ⟨hd, hi⟩ := hg
    obtain ⟨f0, f1, f2, f3, f4, f5⟩ := hf it (by simp)
    obtain ⟨hs, hgd, hx, es', ep', hdt, hsz, ent⟩ := nd_frz I hd
    obtain ⟨rfl, rfl⟩ := dict_ep hod hdt
    obtain ⟨p, hp⟩ : ∃ p, kx[i]? = some p := ⟨kx[i], List.getElem?_eq_getElem hi⟩
    obtain ⟨en, hen, hk, hv⟩ := ent i p hp
    rw [← hsz] at st hi
    have ev : es'[i] = en := by
      rw [Array.getElem?_eq_getElem hi] at hen
      exact Option.some.inj hen
    refine wpAny_pyNext_values_item_raw st ⟨o, hgd, hx, hdt⟩ hi fun h' st' sb => ?_
    have I1 : Inv X pins σ H { s with heap := h' } := I.turned (t' := s.toks) (fun b ob hb e => (sb.2 b hb).trans e) f0 f1 f3 f4 f5
    obtain ⟨oi, e, c, dd⟩ := id st'
    refine ⟨_, rfl, go_of (s := { s with heap := h' }) e c dd (by decide) ⟨p.2.2, H, I1, by rw [ev]; exact hv, ⟨rfl, p, hp, rfl⟩, ?_, fun b hb => (hf b hb).1⟩⟩
    show h'.IsValIter it d (i + 1) kx.length _
    rw [← hsz]
    exact st'
  done := by
    intro X hP hw hK hc i pins s σ H E I hf st hg
    subst hP hw hK
    obtain ⟨hd, hi⟩ := hg
    obtain ⟨f0, f1, f2, f3, f4, f5⟩ := hf it (by simp)
    obtain ⟨hs, hgd, hx, es', ep', hdt, hsz, ent⟩ := nd_frz I hd
    obtain ⟨rfl, rfl⟩ := dict_ep hod hdt
    rw [← hsz] at st hi
    exact wpAny_pyNext_values_end_raw (I.ok.hd hc) st ⟨o, hgd, hx, hdt⟩ hi fun h' eb => ⟨rfl, I.turned (t' := s.toks) (fun b ob hb e => eb b ob hb e) f0 f1 f3 f4 f5⟩
  self := fun A i s Q E st h => wpAny_pyIter_valiter st h
theorem turn_ni {elts : List Expr} {kk : Nat} {tpos : Pos} (it : Addr) (hod : o.data = .dict es ep) : Turn P w K (.Tuple elts kk tpos) (ItNi w d o kx) [it] it (fun i h => ∃ ok ov, IsItemIter h it d i kx.length ep ok ov) where
  mem := by simp
  obj := fun i h st b hb => by
    have e : b = it := by simpa using hb
    subst e
    obtain ⟨ok, ov, e⟩ := st
    exact ⟨_, e, fun v z => nomatch z⟩
  keep := fun i h h' st k => let ⟨ok, ov, e⟩ := st; ⟨ok, ov, k it (by simp) _ e⟩
  item := by
    intro X hP hw hK hc i pins s σ H E I hf st hg
    subst hP hw hK
    obtain ⟨hd, hi⟩ := hg
    obtain ⟨hs, hgd, hx, es', ep', hdt, hsz, ent⟩ := nd_frz I hd
    obtain ⟨rfl, rfl⟩ := dict_ep hod hdt
    obtain ⟨p, hp⟩ : ∃ p, kx[i]? = some p := ⟨kx[i], List.getElem?_eq_getElem hi⟩
    obtain ⟨en, hen, hk, hv⟩ := ent i p hp
    obtain ⟨ok, ov, he⟩ := st
    rw [← hsz] at he hi
    have ev : es'[i] = en := by
      rw [Array.getElem?_eq_getElem hi] at hen
      exact Option.some.inj hen
    have hlt : it < s.heap.objs.size := Heap.lt_size he
    refine wpAny_pyNext_items_item_raw he ⟨o, hgd, hx, hdt⟩ hi fun h' ho hT hz hk' => ?_
    refine ⟨_, rfl, wpAny_letOwnedTupleGo_items (s := { s with heap := h' }) ho fun h'' he' sb => ?_⟩
    rw [ev] at hT he'
    have hT2 : h''.get? s.heap.objs.size = some { cls := .type "tuple", data := .seq #[en.key, en.val] } := (sb.2 _ (Nat.ne_of_gt hlt)).trans hT
    have new : ObjOk X.prog X.w (upd H s.heap.objs.size (.tup [p.1, p.2.2])) h'' s.heap.objs.size (.tup [p.1, p.2.2]) :=
      ⟨by show 2 ≤ sizeLine; decide, [en.key, en.val], .cons hk (.cons hv .nil), ⟨_, hT2, rfl, _, rfl⟩⟩
    have I1 : Inv X pins σ (upd H s.heap.objs.size (.tup [p.1, p.2.2])) { s with heap := h'' } :=
      I.turnedNew (t' := s.toks) (ch := [it]) (fun b ob hb e => (sb.2 b (by simpa using hb)).trans (hk' b ob (by simpa using hb) e)) hf (Nat.le_refl _) new
    refine ⟨.ref s.heap.objs.size, _, I1, rfl, ⟨_, p, hp, rfl, I.hok.fresh (Nat.le_refl _), rfl⟩, ⟨en.key, en.val, ?_⟩, fun b hb => ?_⟩
    · rw [← hsz]
      exact he'
    · have e : b = it := by simpa using hb
      rw [e, upd_ne (Nat.ne_of_lt hlt)]
      exact (hf it (by simp)).1
  done := by
    intro X hP hw hK hc i pins s σ H E I hf st hg
    subst hP hw hK
    obtain ⟨hd, hi⟩ := hg
    obtain ⟨f0, f1, f2, f3, f4, f5⟩ := hf it (by simp)
    obtain ⟨hs, hgd, hx, es', ep', hdt, hsz, ent⟩ := nd_frz I hd
    obtain ⟨rfl, rfl⟩ := dict_ep hod hdt
    obtain ⟨ok, ov, he⟩ := st
    rw [← hsz] at he hi
    exact wpAny_pyNext_items_end_raw (I.ok.hd hc) he ⟨o, hgd, hx, hdt⟩ hi fun h' eb => ⟨rfl, I.turned (t' := s.toks) (fun b ob hb e => eb b ob hb e) f0 f1 f3 f4 f5⟩
  self := fun A i s Q E st h => let ⟨_, _, e⟩ := st; PySem.W.kcp_self e h
end
/-! ### what is walked -/
def iNk (w : World) (td : TE) : TI := fun σ H R => td σ H fun x H1 => ∃ d o kx, x = .ref d ∧ H1 d = some (.frz o (ndO w d kx)) ∧ R (ItNk w d o kx) H1
def iNv (w : World) (td : TE) : TI := fun σ H R => td σ H fun x H1 => ∃ d o kx, x = .ref d ∧ H1 d = some (.frz o (ndO w d kx)) ∧ R (ItNv w d o kx) H1
def iNi (w : World) (td : TE) : TI := fun σ H R => td σ H fun x H1 => ∃ d o kx, x = .ref d ∧ H1 d = some (.frz o (ndO w d kx)) ∧ R (ItNi w d o kx) H1
section
variable {X : Cx} {tg e : Expr} {td : TE} {apos cpos : Pos}
theorem pi_nk (he : PE X e td) : PI X tg e (iNk X.w td) := by
  refine ⟨fun pins s σ H R I h => ?_⟩
  refine thn (he.run pins s σ H _ I h) fun u s1 ⟨x, H1, I1, rx, d, o, kx, ex, hd, q⟩ => ?_
  subst ex
  obtain rfl : u = Value.ref d := rx
  obtain ⟨hs, hgd, hx, es, ep, hdt, hsz, ent⟩ := nd_frz I1 hd
  refine iter_keys hs hgd hx hdt (pi_one (tk := s1.toks) I1 _ (turn_nk _ hdt) ⟨_, Heap.get?_push_size _ rfl, rfl, ?_⟩ q)
  rw [hsz] <;> rfl
theorem pi_nv (he : PE X e td) (hbase : attributeBase e "values" X.env (eval e X.env) = eval e X.env := by rfl) (hline : (apos.endLine == cpos.line) = true := by rfl) : PI X tg (.Call (.Attribute e "values" apos) [] [] cpos) (iNv X.w td) := by
  refine ⟨fun pins s σ H R I h => ?_⟩
  refine wpAny_Call_method (T := "dict") (id := "dict.values") hbase rfl hline F.plainAttrs_dict F.slot_dict_values F.type_dict_values (thn (he.run pins s σ H _ I h) fun u s1 ⟨x, H1, I1, rx, d, o, kx, ex, hd, q⟩ => ?_)
  subst ex
  obtain rfl : u = Value.ref d := rx
  obtain ⟨hs, hgd, hx, es, ep, hdt, hsz, ent⟩ := nd_frz I1 hd
  have dr : s1.heap.DictRaw d es ep := ⟨o, hgd, hx, hdt⟩
  refine ⟨dr.typeIs, fun b z => ?_, ?_⟩
  · cases z
    exact ⟨o, hgd, hx.2.1⟩
  have I2 : Inv X pins σ H1 { s1 with heap := s1.heap.push { cls := .type "dict_values", data := .fields #[.ref d] } } := I1.kept (t' := s1.toks) fun b ob q => Heap.get?_push_of_some _ q
  have fin : wpAny (model X.prog X.w) X.A (pyIter (.ref s1.heap.objs.size)) (PIE X pins σ tg R) X.xe { s1 with heap := s1.heap.push { cls := .type "dict_values", data := .fields #[.ref d] } } := by
    refine wpAny_pyIter_values_raw (d := d) ⟨_, Heap.get?_push_size _ rfl, rfl, rfl⟩ (dr.at fun ob z => Heap.get?_push_of_some _ z) (pi_one (tk := s1.toks) I2 _ (turn_nv _ hdt) ⟨_, Heap.get?_push_size _ rfl, rfl, ?_⟩ q)
    rw [hsz] <;> rfl
  show wpAny _ _ (callWith cpos (.builtin "dict.values") [.ref d] [] []) _ X.xe s1
  exact method_meetsIn F.slot_dict_values F.entry_dict_values rfl (PySem.evalArgs_none ⟨rfl, dr.typeIs, F.args_dict_values_1 _, _, meets_dict_values_raw d hs, ⟨es, ep, dr⟩, fin⟩)
theorem pi_ni {elts : List Expr} {kk : Nat} {tpos : Pos} (he : PE X e td) (hbase : attributeBase e "items" X.env (eval e X.env) = eval e X.env := by rfl) (hline : (apos.endLine == cpos.line) = true := by rfl) :
    PI X (.Tuple elts kk tpos) (.Call (.Attribute e "items" apos) [] [] cpos) (iNi X.w td) := by
  refine ⟨fun pins s σ H R I h => ?_⟩
  refine wpAny_Call_method (T := "dict") (id := "dict.items") hbase rfl hline F.plainAttrs_dict F.slot_dict_items F.type_dict_items (thn (he.run pins s σ H _ I h) fun u s1 ⟨x, H1, I1, rx, d, o, kx, ex, hd, q⟩ => ?_)
  subst ex
  obtain rfl : u = Value.ref d := rx
  obtain ⟨hs, hgd, hx, es, ep, hdt, hsz, ent⟩ := nd_frz I1 hd
  have dr : s1.heap.DictRaw d es ep := ⟨o, hgd, hx, hdt⟩
  refine ⟨dr.typeIs, fun b z => ?_, ?_⟩
  · cases z
    exact ⟨o, hgd, hx.2.1⟩
  have I2 : Inv X pins σ H1 { s1 with heap := s1.heap.push { cls := .type "dict_items", data := .fields #[.ref d] } } := I1.kept (t' := s1.toks) fun b ob q => Heap.get?_push_of_some _ q
  have fin : wpAny (model X.prog X.w) X.A (pyIter (.ref s1.heap.objs.size)) (PIE X pins σ (.Tuple elts kk tpos) R) X.xe { s1 with heap := s1.heap.push { cls := .type "dict_items", data := .fields #[.ref d] } } := by
    refine wpAny_pyIter_items_raw (d := d) ⟨_, Heap.get?_push_size _ rfl, rfl, rfl⟩ (dr.at fun ob z => Heap.get?_push_of_some _ z) (pi_one (tk := s1.toks) I2 _ (turn_ni _ hdt) ⟨.none, .none, ?_⟩ q)
    rw [← hsz]
    exact Heap.get?_push_size _ rfl
  show wpAny _ _ (callWith cpos (.builtin "dict.items") [.ref d] [] []) _ X.xe s1
  exact method_meetsIn F.slot_dict_items F.entry_dict_items rfl (PySem.evalArgs_none ⟨rfl, dr.typeIs, F.args_dict_items_1 _, _, meets_dict_items_raw d hs, ⟨es, ep, dr⟩, fin⟩)
end
section
variable {d : Addr} {o : Obj} {w : World} {kx : Kx}
theorem walk_nk : Walk (ItNk w d o kx) kx.length (fun H => H d = some (.frz o (ndO w d kx))) (YAt (kx.map (·.1))) :=
  ⟨fun _ _ hi q => ⟨q, hi⟩, fun _ q => ⟨q, Nat.le_refl _⟩, fun i H x H' _ _ y => by
    obtain ⟨e, p, hp, ex⟩ := y
    exact ⟨e, by rw [List.getElem?_map, hp, ex]; rfl⟩⟩
theorem walk_nv : Walk (ItNv w d o kx) kx.length (fun H => H d = some (.frz o (ndO w d kx))) (YAt (kx.map (·.2.2))) :=
  ⟨fun _ _ hi q => ⟨q, hi⟩, fun _ q => ⟨q, Nat.le_refl _⟩, fun i H x H' _ _ y => by
    obtain ⟨e, p, hp, ex⟩ := y
    exact ⟨e, by rw [List.getElem?_map, hp, ex]; rfl⟩⟩
theorem walk_ni : Walk (ItNi w d o kx) kx.length (fun H => H d = some (.frz o (ndO w d kx))) (YPair (fun i => kx[i]?.map (·.1)) (fun i => kx[i]?.map (·.2.2))) :=
  ⟨fun _ _ hi q => ⟨q, hi⟩, fun _ q => ⟨q, Nat.le_refl _⟩, fun i H x H' _ _ y => by
    obtain ⟨T, p, h1, h2, h3, h4⟩ := y
    exact ⟨T, p.1, p.2.2, h2, h3, h4, by simp [h1], by simp [h1]⟩⟩
end
/-! ### expressions, statements -/
def tNGet (X : Cx) (td ty : TE) : TE := fun σ H Q => td σ H fun x H1 => ty σ H1 fun y H2 => ∃ a kx k v, x = .ref a ∧ Rd H2 a (ndO X.w a kx) ∧ RefK X.K H2 kx ∧ KeyR X.K H2 y k ∧ getN kx k = some v ∧ Q v H2
def tNIn (X : Cx) (neg : Bool) (ty td : TE) : TE := fun σ H Q => ty σ H fun y H1 => td σ H1 fun x H2 => ∃ a kx k, x = .ref a ∧ Rd H2 a (ndO X.w a kx) ∧ RefK X.K H2 kx ∧ KeyR X.K H2 y k ∧ Q (.bl (if neg = true then !(getN kx k).isSome else (getN kx k).isSome)) H2
def sNPut (X : Cx) (td ty tv : TE) : TS := fun D σ H => tv σ H fun v H1 => td σ H1 fun x H2 => ty σ H2 fun y H3 => ∃ a kx k, x = .ref a ∧ H3 a = some (ndO X.w a kx) ∧ RefK X.K H3 kx ∧ KeyR X.K H3 y k ∧ kx.length < sizeLine ∧ D.nx σ (upd H3 a (ndO X.w a (putN kx y k v)))
def tNSetd (X : Cx) (td ty tx : TE) : TE := fun σ H Q => td σ H fun x H1 => ∃ a, x = .ref a ∧ (∃ kx, H1 a = some (ndO X.w a kx)) ∧ ty σ H1 fun y H2 => tx σ H2 fun z H3 => ∃ kx k, H3 a = some (ndO X.w a kx) ∧ RefK X.K H3 kx ∧ KeyR X.K H3 y k ∧ kx.length < sizeLine ∧
  (∀ v, getN kx k = some v → Q v H3) ∧ (getN kx k = none → Q z (upd H3 a (ndO X.w a (putN kx y k z))))
def tNNew (X : Cx) : TE := fun _ H Q => ∀ p, H p = none → Q (.ref p) (upd H p (ndO X.w p []))
section
variable {X : Cx} {o i e f value : Expr} {pos pos' tpos apos cpos : Pos} {td ty tv tx : TE}
theorem pe_nget (hu : X.A.units + 9 < cLine) (ho : PE X o td) (hi : PE X i ty) (hs : NoSl i) : PE X (.Subscript o i pos) (tNGet X td ty) := by
  refine ⟨fun pins s σ H Q I h => ?_⟩
  refine subD_of PySem.F.slot_dict_getitem.lookup hs (thn (ho.run pins s σ H _ I h) fun u s1 ⟨x, H1, I1, rx, q1⟩ => thn (hi.run pins s1 σ H1 _ I1 q1) fun iv s2 ⟨y, H2, I2, ry, a, kx, k, v, ex, e, rk, hk, hv, q2⟩ => ?_)
  subst ex
  obtain rfl : u = Value.ref a := rx
  obtain ⟨_, _, ob, _, _, h1, h2, _⟩ := nd_at I2 e
  exact ⟨⟨ob, h1, h2.1⟩, n_getItem hu I2 e rk hk hv ry fun w' s3 I3 rw' => ⟨v, H2, I3, rw', q2⟩⟩
theorem pc_nin (hu : X.A.units + 9 < cLine) (hi : PE X i ty) (ho : PE X o td) : PC X .In i o (tNIn X false ty td) := by
  refine ⟨fun pins s σ H Q I h => ?_⟩
  refine thn (hi.run pins s σ H _ I h) fun iv s1 ⟨y, H1, I1, ry, q1⟩ => thn (ho.run pins s1 σ H1 _ I1 q1) fun u s2 ⟨x, H2, I2, rx, a, kx, k, ex, e, rk, hk, q2⟩ => ?_
  subst ex
  obtain rfl : u = Value.ref a := rx
  exact n_in hu I2 e rk hk ry fun s3 I3 => ⟨.bl _, H2, I3, rfl, q2⟩
theorem pc_nnin (hu : X.A.units + 9 < cLine) (hi : PE X i ty) (ho : PE X o td) : PC X .NotIn i o (tNIn X true ty td) := by
  refine ⟨fun pins s σ H Q I h => ?_⟩
  refine thn (hi.run pins s σ H _ I h) fun iv s1 ⟨y, H1, I1, ry, q1⟩ => thn (ho.run pins s1 σ H1 _ I1 q1) fun u s2 ⟨x, H2, I2, rx, a, kx, k, ex, e, rk, hk, q2⟩ => ?_
  subst ex
  obtain rfl : u = Value.ref a := rx
  exact n_notIn hu I2 e rk hk ry fun s3 I3 => ⟨.bl _, H2, I3, rfl, q2⟩
theorem ps_nput (hu : X.A.units + 9 < cLine) (ho : PE X o td) (hi : PE X i ty) (hv : PE X value tv) (hs : swapsWith value (some (.Subscript o i pos')) pos.line X.env = pure false) :
    PS X (.Assign [.Subscript o i pos'] value pos) (sNPut X td ty tv) := by
  refine ⟨fun pins s σ H D I h => ?_⟩
  refine wpAny_Assign_Subscript (thn (hv.run pins s σ H _ I h) fun r s1 ⟨v, H1, I1, rv, q1⟩ => thn (ho.run pins s1 σ H1 _ I1 q1) fun u s2 ⟨x, H2, I2, rx, q2⟩ => thn (hi.run pins s2 σ H2 _ I2 q2) fun iv s3 ⟨y, H3, I3, ry, a, kx, k, ex, e, rk, hk, hl, q3⟩ => ?_) hs
  subst ex
  obtain rfl : u = Value.ref a := rx
  exact n_setItem hu I3 e rk hk hl ry rv fun s4 I4 => ⟨σ, _, I4, q3⟩
theorem pe_nsetd (hu : X.A.units + 9 < cLine) (ho : PE X o td) (he : PE X e ty) (hf : PE X f tx) (m : M2 X o "setdefault" apos e f cpos) : PE X (.Call (.Attribute o "setdefault" apos) [e, f] [] cpos) (tNSetd X td ty tx) := by
  refine ⟨fun pins s σ H Q I h => ?_⟩
  refine wpAny_Call_method m.base m.few m.line PySem.F.plainAttrs_dict PySem.F.slot_dict_setdefault PySem.F.type_dict_setdefault (thn (ho.run pins s σ H _ I h) fun u s1 ⟨x, H1, I1, rx, a, ex, ⟨kx1, d⟩, q1⟩ => ?_)
  subst ex
  obtain rfl : u = Value.ref a := rx
  obtain ⟨_, _, ob, _, _, h1, h2, _⟩ := nd_at I1 (.inl d)
  refine ⟨⟨ob, h1, h2.1⟩, fun b z => ?_, ?_⟩
  · cases z
    exact ⟨ob, h1, h2.2.1⟩
  rw [m.trees]
  refine Calls.callWith_builtin rfl (Calls.evalArgs_plain (Calls.spliced_cons (thn (he.run pins s1 σ H1 _ I1 q1) fun iv s2 ⟨y, H2, I2, ry, q2⟩ =>
    Calls.spliced_cons (thn (hf.run pins s2 σ H2 _ I2 q2) fun fv s3 ⟨z, H3, I3, rz, kx, k, ea, rk, hk, hl, q3, q4⟩ => Calls.spliced_nil ?_))))
  exact n_setd hu I3 ea rk hk hl ry rz (fun v hv w' s4 I4 rw' => ⟨v, _, I4, rw', q3 v hv⟩) fun hn w' s4 I4 rw' => ⟨z, _, I4, rw', q4 hn⟩
theorem pe_nnew : PE X (.Dict [] [] pos) (tNNew X) := ⟨fun pins s σ H Q I h =>
  wpAny_Dict_empty ⟨.ref s.heap.objs.size, _, I.laid (a := s.heap.objs.size) (o := ndO X.w s.heap.objs.size []) (t' := s.toks) (fun _ _ q => Heap.get?_push_of_some _ q) (Nat.le_refl _) (nd_empty s.heap I.big), rfl, h _ (I.hok.fresh (Nat.le_refl _))⟩⟩
end
end Dz

/-! what is walked, told once for loops and comprehensions -/
namespace Dz
open PySem PySem.Spec PyProof.Rows L2 GxR
/-- J walks the data ds, while B1 stands -/
structure Wk (T : List Addr) (K : PySem.W.Frag) (B1 : Hp) (J : It) (ds : List D) : Prop where
  go : ∀ (B' : Hp) (O' : OH) (H' : Hp) (j : Nat), Same B1 B' → At T K B' O' H' → j < ds.length → J.go j H'
  stop : ∀ (B' : Hp) (O' : OH) (H' : Hp), Same B1 B' → At T K B' O' H' → J.stop ds.length H'
  yld : ∀ (B' : Hp) (O' : OH) (H' : Hp) (j : Nat) (x : V) (H2 : Hp), Same B1 B' → At T K B' O' H' → j < ds.length → J.yld j H' x H2 → ∃ B2 d, ds[j]? = some d ∧ Post T K B' O' H' B2 O' H2 ∧ Rp K B2 x d
/-- the iterable's own wish -/
def WI (X : Cx) (tg iter : Expr) : TI := fun σ H R => ∀ (pins : List (Addr × Obj)) (s : Shared), L2.Inv X pins σ H s → wpAny (model X.prog X.w) X.A (eval iter X.env) (fun v s1 => wpAny (model X.prog X.w) X.A (pyIter v) (PIE X pins σ tg R) X.xe s1) X.xe s
theorem pi_wi {X : Cx} {tg iter : Expr} : PI X tg iter (WI X tg iter) := ⟨fun pins s σ H R I h => h pins s I⟩
theorem wi_of {X : Cx} {tg iter : Expr} {wi : TI} (h : PI X tg iter wi) {σ : L2.St} {H : Hp} {R : It → Hp → Prop} (q : wi σ H R) : WI X tg iter σ H R := fun pins s I => h.run pins s σ H R I q
structure Src (T : List Addr) (X : Cx) (tg iter : Expr) (ρ : List Slot) (O : OH) (ds : List D) (O1 : OH) : Prop where
  run : ∀ (σ : L2.St) (B H : Hp), Env X.K B σ ρ → At T X.K B O H → ∀ R : It → Hp → Prop, (∀ J B1 H1, Post T X.K B O H B1 O1 H1 → Wk T X.K B1 J ds → R J H1) → WI X tg iter σ H R
/-- a target: the slots is get the parts of the data by f -/
structure Tg (K : PySem.W.Frag) (g : TG) (is : List Nat) (f : D → Option (List D)) : Prop where
  run : ∀ (T : List Addr) (B : Hp) (O : OH) (H : Hp) (σ : L2.St) (x : V) (d : D) (cs : List D) (Q : L2.St → Hp → Prop), At T K B O H → Rp K B x d → f d = some cs → (∀ vs, RpAll K B vs cs → Q (List.foldl (fun σ (p : Nat × V) => σ.set p.1 (some p.2)) σ (is.zip vs)) H) → g x σ H Q
def one1 (d : D) : Option (List D) := some [d]
def parts (n : Nat) (d : D) : Option (List D) := match d with
  | .tup ds => if ds.length = n then some ds else none
  | _ => none
theorem parts_tup {n : Nat} {ds : List D} (h : ds.length = n := by rfl) : parts n (.tup ds) = some ds := if_pos h
theorem tg_name {K : PySem.W.Frag} (i : Nat) : Tg K (gName i) [i] one1 := ⟨fun T B O H σ x d cs Q hA r e q => by
  cases e
  exact q [x] (.cons r .nil)⟩
theorem tg_tup {K : PySem.W.Frag} (is : List Nat) : Tg K (gTup K is.length fun vs σ H Q => vs.length = is.length ∧ Q (List.foldl (fun σ (p : Nat × V) => σ.set p.1 (some p.2)) σ (is.zip vs)) H) is (parts is.length) := ⟨fun T B O H σ x d cs Q hA r e q => by
  cases r with
  | tup hq r =>
    rename_i ds'
    have e' : (if ds'.length = is.length then some ds' else none) = some cs := e
    by_cases hl : ds'.length = is.length
    · rw [if_pos hl] at e'
      cases e'
      exact ⟨_, _, rfl, same_t hA.base hq, r.length.trans hl, r.length.trans hl, q _ r⟩
    · rw [if_neg hl] at e'
      cases e'
  | _ => cases e⟩
/-! ### the slots at a block's start -/
def wipS (ρ : List Slot) : List Nat → List Slot
  | [] => ρ
  | v :: vs => (wipS ρ vs).set v .no
theorem Env.wipes {K : PySem.W.Frag} {B : Hp} {σ : L2.St} {ρ : List Slot} (e : Env K B σ ρ) : ∀ vs : List Nat, Env K B (wipe σ vs) (wipS ρ vs)
  | [] => e
  | v :: vs => Env.wipe1 v (Env.wipes e vs)
theorem wipe_fold {vs : List Nat} : ∀ {is : List Nat} {xs : List V} {σ : L2.St}, (∀ i ∈ is, i ∈ vs) → wipe (List.foldl (fun σ (p : Nat × V) => σ.set p.1 (some p.2)) σ (is.zip xs)) vs = wipe σ vs
  | [], xs, σ, _ => by rw [List.zip_nil_left]; rfl
  | i :: is, [], σ, _ => by rw [List.zip_nil_right]; rfl
  | i :: is, x :: xs, σ, h => by
    show wipe (List.foldl _ (σ.set i (some x)) (is.zip xs)) vs = wipe σ vs
    rw [wipe_fold fun k hk => h k (List.mem_cons_of_mem _ hk), wipe_set (h i List.mem_cons_self)]
section
variable {T : List Addr} {X : Cx} {CE : Addr} {scope : Scope} {ρ : List Slot} {O O1 O2 : OH} {tg iter elt : Expr} {ifs : List Expr} {body : List Stmt} {pos np spos py : Pos} {ds : List D} {E : DEn} {g : TG} {is : List Nat} {f : D → Option (List D)} {own : List (Str × Nat)} {out : List D}
/-! ### for -/
theorem d1_forW (I : Nat → List Slot → OH → Prop) (hsrc : Src T X tg iter ρ O ds O1) (hg : PG X tg g) (ht : Tg X.K g is f) (h0 : I 0 ρ O1) (hf : ∀ d ∈ ds, ∃ cs, f d = some cs)
    (hs : ∀ j d cs ρ' O', ds[j]? = some d → f d = some cs → I j ρ' O' → DS T X CE body (setAll ρ' is (cs.map .dat)) O' { E with nx := I (j + 1), ct := I (j + 1), bk := E.nx }) (hd : ∀ ρ' O', I ds.length ρ' O' → E.nx ρ' O')
    (hp : PassesOwn (model X.prog X.w) X.A X.env X.xe) (hc : X.calm = true := by rfl) (hfold : ∀ x, foldedSetIterable iter X.env x = pure x := by intro _; rfl) :
    D1 T X CE (.For tg iter body [] pos) ρ O E := .mk fun σ B H hE hA Dn W tk l => by
  refine ws_of (ps_for hp hc pi_wi hg pss_wss hfold) ?_
  refine hsrc.run σ B H hE hA _ fun J B1 H1 p1 wk => ?_
  refine ⟨fun j m σ' H' => m = ds.length - j ∧ j ≤ ds.length ∧ ∃ ρ' O' B', I j ρ' O' ∧ Post T X.K B O H B' O' H' ∧ Same B1 B' ∧ Env X.K B' σ' ρ', ⟨ds.length, by simp, Nat.zero_le _, ρ, O1, B1, h0, p1, Same.refl _, hE.mono p1.bb⟩, ?_⟩
  rintro j m σ' H' ⟨rfl, hj, ρ', O', B', hI, po, sb, hE'⟩
  by_cases hlt : j < ds.length
  · refine .inr ⟨wk.go B' O' H' j sb po.at' hlt, fun σ2 H2 => ∃ ρ' O' B', I (j + 1) ρ' O' ∧ Post T X.K B O H B' O' H2 ∧ Same B1 B' ∧ Env X.K B' σ2 ρ', fun σ2 H2 h => ⟨ds.length - (j + 1), by omega, rfl, hlt, h⟩, fun x H2 hy => ?_⟩
    obtain ⟨B2, d, hd1, pm, rd⟩ := wk.yld B' O' H' j x H2 sb po.at' hlt hy
    obtain ⟨cs, hcs⟩ := hf d (List.mem_of_getElem? hd1)
    refine ht.run T B2 O' H2 σ' x d cs _ pm.at' rd hcs fun vs rv => ?_
    refine hs j d cs ρ' O' hd1 hcs hI _ B2 H2 (Env.setAll is (hE'.mono pm.bb) (Args.of rv)) pm.at' _ W tk ?_
    have po2 := po.trans pm
    have l' := l.step po2
    exact ⟨fun ρ2 O2 σ2 B3 H3 h p2 e2 => ⟨ρ2, O2, B3, h, po2.trans p2, (sb.trans pm.bb).trans p2.bb, e2⟩, l'.rt, l'.nx, fun ρ2 O2 σ2 B3 H3 h p2 e2 => ⟨ρ2, O2, B3, h, po2.trans p2, (sb.trans pm.bb).trans p2.bb, e2⟩, l'.ex⟩
  · have ej : j = ds.length := by omega
    subst ej
    exact .inl ⟨wk.stop B' O' H' sb po.at', l.nx _ _ _ B' H' (hd ρ' O' hI) po hE'⟩
/-! ### [e for .. in ..] -/
/-- the block's names -/
abbrev PGb (X : Cx) (scope : Scope) (tg : Expr) (g : TG) : Prop := ∀ (s : Shared) (H : Hp) (C : Addr) (cl : List (Str × Addr)) (fp : List Addr), PG (blkX X scope s H C cl fp) tg g
theorem lc_run {σ : L2.St} {B1 H1 : Hp} {J : It} {I : Nat → List D → OH → Prop} (wk : Wk T X.K B1 J ds) (hA : At T X.K B1 O1 H1) (hE : Env X.K B1 σ ρ) (ht : Tg X.K g is f) (his : ∀ i ∈ is, i ∈ own.map (·.2)) (hf : ∀ d ∈ ds, ∃ cs, f d = some cs) (hl : ds.length ≤ 100000)
    (hs : ∀ j d cs acc O', ds[j]? = some d → f d = some cs → I j acc O' → LcTurn T X scope ifs elt I j (setAll (wipS ρ (own.map (·.2))) is (cs.map .dat)) acc O') {a : Addr} (na : H1 a = none) (h0 : I 0 [] O1) {Qd : Hp → Prop} (hd : ∀ H', LcI T X.K B1 O1 H1 a I ds.length H' → Qd H') :
    ∃ W : Nat → Nat → Hp → Prop, (∃ m, W 0 m (upd H1 a (.lst []))) ∧ ∀ i m H, W i m H →
      (J.stop i H ∧ Qd H) ∨ (J.go i H ∧ ∃ Nx : Hp → Prop, (∀ H', Nx H' → ∃ m', m' < m ∧ W (i + 1) m' H') ∧ ∀ x H', J.yld i H x H' → g x (wipe σ (own.map (·.2))) H' fun σ2 H2 => wipe σ2 (own.map (·.2)) = wipe σ (own.map (·.2)) ∧ TTb X scope ifs σ2 H2 fun b H3 =>
        if b = true then TEb X scope elt σ2 H3 fun y H4 => ∃ acc, H4 a = some (.lst acc) ∧ acc.length < sizeLine ∧ Nx (upd H4 a (.lst (acc ++ [y]))) else Nx H3) := by
  refine ⟨fun j m H' => m = ds.length - j ∧ j ≤ ds.length ∧ LcI T X.K B1 O1 H1 a I j H', ⟨ds.length, by simp, Nat.zero_le _, LcI.start hA na h0⟩, ?_⟩
  rintro j m H' ⟨rfl, hj, hI⟩
  have hI0 := hI
  obtain ⟨B', O', acc, xs, h1, h2, h3, h4, h5, h6, h7⟩ := hI
  by_cases hlt : j < ds.length
  · refine .inr ⟨wk.go B' O' H' j h2.bb h2.at' hlt, LcI T X.K B1 O1 H1 a I (j + 1), fun H2 h => ⟨ds.length - (j + 1), by omega, rfl, hlt, h⟩, fun x H2 hy => ?_⟩
    obtain ⟨B2, d, hd1, pm, rd⟩ := wk.yld B' O' H' j x H2 h2.bb h2.at' hlt hy
    obtain ⟨cs, hcs⟩ := hf d (List.mem_of_getElem? hd1)
    refine ht.run T B2 O' H2 _ x d cs _ pm.at' rd hcs fun vs rv => ?_
    have ha : H' a ≠ none := by rw [h5]; exact fun z => by cases z
    have k1 : B2 a = none := by rw [pm.new a ha h4]; exact h3
    have k3 : H2 a = some (.lst xs) := pm.fr a _ h5 h4 (hA.newT na)
    refine ⟨wipe_fold his |>.trans (wipe_wipe fun _ h => h), ?_⟩
    have hE2 : Env X.K B2 (List.foldl (fun σ (p : Nat × V) => σ.set p.1 (some p.2)) (wipe σ (own.map (·.2))) (is.zip vs)) (setAll (wipS ρ (own.map (·.2))) is (cs.map .dat)) := Env.setAll is ((((hE.mono h2.bb).mono pm.bb)).wipes _) (Args.of rv)
    obtain ⟨b, O2, t1, t2, t3⟩ := hs j d cs acc O' hd1 hcs h1
    refine t1 _ B2 H2 hE2 pm.at' _ fun B3 H3 p3 => ?_
    have ha2 : H2 a ≠ none := by rw [k3]; exact fun z => by cases z
    have m1 : B3 a = none := by rw [p3.new a ha2 h4]; exact k1
    have m2 : O2 a = none := p3.keepO ha2 h4
    have m3 : H3 a = some (.lst xs) := p3.fr a _ k3 h4 (hA.newT na)
    cases b with
    | false =>
      rw [if_neg (by decide)]
      exact ⟨B3, O2, acc, xs, t3 rfl, (h2.trans pm).trans p3, m1, m2, m3, (h6.mono pm.bb).mono p3.bb, Nat.le_succ_of_le h7⟩
    | true =>
      rw [if_pos rfl]
      obtain ⟨y, O3, t4, t5⟩ := t2 rfl
      intro s0 H0 C cl fp
      refine t4 s0 H0 C cl fp _ B3 H3 (hE2.mono p3.bb) p3.at' _ fun w B4 H4 p4 r4 => ?_
      have ha3 : H3 a ≠ none := by rw [m3]; exact fun z => by cases z
      have n1 : B4 a = none := by rw [p4.new a ha3 m2]; exact m1
      have n2 : O3 a = none := p4.keepO ha3 m2
      have n3 : H4 a = some (.lst xs) := p4.fr a _ m3 m2 (hA.newT na)
      refine ⟨xs, n3, ?_, B4, O3, acc ++ [y], xs ++ [w], t5, Post.over hA na (((h2.trans pm).trans p3).trans p4) n1 n2, n1, n2, upd_same, (((h6.mono pm.bb).mono p3.bb).mono p4.bb).append (.cons r4 .nil), ?_⟩
      · rw [h6.length]
        have : (100000 : Nat) ≤ sizeLine := by decide
        omega
      · rw [List.length_append, List.length_singleton]
        omega
  · have ej : j = ds.length := by omega
    subst ej
    exact .inl ⟨wk.stop B' O' H' h2.bb h2.at', hd H' hI0⟩
theorem de_lcW (hsrc : Src T X tg iter ρ O ds O1) (hg : PGb X scope tg g) (ht : Tg X.K g is f) (I : Nat → List D → OH → Prop) (h0 : I 0 [] O1) (his : ∀ i ∈ is, i ∈ own.map (·.2)) (hf : ∀ d ∈ ds, ∃ cs, f d = some cs) (hl : ds.length ≤ 100000)
    (hs : ∀ j d cs acc O', ds[j]? = some d → f d = some cs → I j acc O' → LcTurn T X scope ifs elt I j (setAll (wipS ρ (own.map (·.2))) is (cs.map .dat)) acc O') (hd : ∀ acc O', I ds.length acc O' → acc = out ∧ O' = O2)
    (hN : X.N.Nodup) (ok : BlkOk X.N X.env.scope scope own) (hc : X.calm = true := by rfl) (hfold : ∀ x, foldedSetIterable iter X.env x = pure x := by intro _; rfl) :
    DE T X (.ListComp elt [⟨tg, iter, ifs, 0⟩] scope pos) ρ O (.lst out) O2 :=
  de_of (pe_lc hc hN pi_wi ok hg ptsb peb hfold) fun σ B H hE hA Q q => hsrc.run σ B H hE hA _ fun J B1 H1 p1 wk => fun a na =>
    lc_run wk p1.at' (hE.mono p1.bb) ht his hf hl hs na h0 fun H' h => LcI.fin p1.at' na h hd fun v B2 H2 p2 r2 => q v B2 H2 (p1.trans p2) r2
/-- x = [e for ..], the list owned -/
theorem d1_ownLcW {y : Str} (i0 : Nat) (hsrc : Src T X tg iter ρ O ds O1) (hg : PGb X scope tg g) (ht : Tg X.K g is f) (I : Nat → List D → OH → Prop) (h0 : I 0 [] O1) (his : ∀ i ∈ is, i ∈ own.map (·.2)) (hf : ∀ d ∈ ds, ∃ cs, f d = some cs) (hl : ds.length ≤ 100000)
    (hs : ∀ j d cs acc O', ds[j]? = some d → f d = some cs → I j acc O' → LcTurn T X scope ifs elt I j (setAll (wipS ρ (own.map (·.2))) is (cs.map .dat)) acc O') (hd : ∀ acc O', I ds.length acc O' → acc = out ∧ O' = O2)
    (hk : ∀ p, O2 p = none → E.nx (ρ.set i0 (.val (.ref p))) (put O2 p (.lst (out.map .dat))))
    (hN : X.N.Nodup) (ok : BlkOk X.N X.env.scope scope own) (hc : X.calm = true := by rfl) (hfold : ∀ x, foldedSetIterable iter X.env x = pure x := by intro _; rfl)
    (hy : X.N[i0]? = some y := by rfl) (hyl : X.env.scope.names.lookup y = some .local := by rfl) (hsw : swapsWith (.ListComp elt [⟨tg, iter, ifs, 0⟩] scope pos) (some (.Name y py)) spos.line X.env = pure true := by exact sw_true rfl rfl rfl (by decide +kernel)) :
    D1 T X CE (.Assign [.Name y py] (.ListComp elt [⟨tg, iter, ifs, 0⟩] scope pos) spos) ρ O E := .mk fun σ B H hE hA Dn W tk l => by
  refine ws_of (ps_setLc hc hN hy hyl hsw pi_wi ok hg ptsb peb hfold) ?_
  refine hsrc.run σ B H hE hA _ fun J B1 H1 p1 wk => fun a na => lc_run wk p1.at' (hE.mono p1.bb) ht his hf hl hs na h0 fun H' h => ?_
  obtain ⟨B', O', acc, zs, h1, h2, h3, h4, h5, h6, _⟩ := h
  obtain ⟨e1, e2⟩ := hd acc O' h1
  subst e1 e2
  have po := grabO (od := .lst (acc.map .dat)) p1.at' na h2 h3 h5 (Args.of h6)
  exact l.nx _ _ _ B' H' (hk a h4) (p1.trans po) (((hE.mono p1.bb).mono h2.bb).set (s := .val (.ref a)) (show SlotOk X.K B' (some (.ref a)) (.val (.ref a)) from rfl) i0)
/-- x = [e for ..], the list as data -/
theorem d1_setLcW {y : Str} (i0 : Nat) (hsrc : Src T X tg iter ρ O ds O1) (hg : PGb X scope tg g) (ht : Tg X.K g is f) (I : Nat → List D → OH → Prop) (h0 : I 0 [] O1) (his : ∀ i ∈ is, i ∈ own.map (·.2)) (hf : ∀ d ∈ ds, ∃ cs, f d = some cs) (hl : ds.length ≤ 100000)
    (hs : ∀ j d cs acc O', ds[j]? = some d → f d = some cs → I j acc O' → LcTurn T X scope ifs elt I j (setAll (wipS ρ (own.map (·.2))) is (cs.map .dat)) acc O') (hd : ∀ acc O', I ds.length acc O' → acc = out ∧ O' = O2)
    (hk : E.nx (ρ.set i0 (.dat (.lst out))) O2)
    (hN : X.N.Nodup) (ok : BlkOk X.N X.env.scope scope own) (hc : X.calm = true := by rfl) (hfold : ∀ x, foldedSetIterable iter X.env x = pure x := by intro _; rfl)
    (hy : X.N[i0]? = some y := by rfl) (hyl : X.env.scope.names.lookup y = some .local := by rfl) (hsw : swapsWith (.ListComp elt [⟨tg, iter, ifs, 0⟩] scope pos) (some (.Name y py)) spos.line X.env = pure true := by exact sw_true rfl rfl rfl (by decide +kernel)) :
    D1 T X CE (.Assign [.Name y py] (.ListComp elt [⟨tg, iter, ifs, 0⟩] scope pos) spos) ρ O E := .mk fun σ B H hE hA Dn W tk l => by
  refine ws_of (ps_setLc hc hN hy hyl hsw pi_wi ok hg ptsb peb hfold) ?_
  refine hsrc.run σ B H hE hA _ fun J B1 H1 p1 wk => fun a na => lc_run wk p1.at' (hE.mono p1.bb) ht his hf hl hs na h0 fun H' h => ?_
  refine LcI.fin p1.at' na h hd (Q := fun v H' => Dn.nx (σ.set i0 (some v)) H') fun v B2 H2 p2 r2 => ?_
  exact l.nx _ _ _ B2 H2 hk (p1.trans p2) (((hE.mono p1.bb).mono p2.bb).set (o := some v) (s := .dat (.lst out)) r2 i0)
/-- by a function of the parts, none leaves one out -/
theorem lcW_pure {F : List D → Option D} {ρw : List Slot} (h : ∀ d ∈ ds, ∀ cs, f d = some cs → (∃ y, F cs = some y ∧ DIfs T X scope ifs (setAll ρw is (cs.map .dat)) O true O ∧ DEb T X scope elt (setAll ρw is (cs.map .dat)) O y O) ∨ (F cs = none ∧ DIfs T X scope ifs (setAll ρw is (cs.map .dat)) O false O)) :
    ∀ j d cs acc O', ds[j]? = some d → f d = some cs → (acc = (ds.take j).filterMap (fun d => (f d).bind F) ∧ O' = O) → LcTurn T X scope ifs elt (fun j acc O' => acc = (ds.take j).filterMap (fun d => (f d).bind F) ∧ O' = O) j (setAll ρw is (cs.map .dat)) acc O' := by
  rintro j d cs acc O' hj hcs ⟨e1, e2⟩
  subst e2
  have et : ds.take (j + 1) = ds.take j ++ [d] := by rw [List.take_add_one, hj]; rfl
  rcases h d (List.mem_of_getElem? hj) cs hcs with ⟨y, h1, h2, h3⟩ | ⟨h1, h2⟩
  · refine ⟨true, O', h2, (fun _ => ⟨y, O', h3, ?_, rfl⟩), fun z => by cases z⟩
    rw [et, List.filterMap_append, e1]
    simp [h1, hcs]
  · refine ⟨false, O', h2, (fun z => by cases z), fun _ => ⟨?_, rfl⟩⟩
    rw [et, List.filterMap_append, e1]
    simp [h1, hcs]
end
end Dz

/-! what can be walked -/
namespace Dz
open PySem PySem.Spec PyProof.Rows L2 GxR
theorem wk_at {T : List Addr} {K : PySem.W.Frag} {B1 : Hp} {J : It} {ds : List D} {G : Hp → Prop} {xs : List V} (w : Walk J xs.length G (YAt xs)) (r : RpAll K B1 xs ds) (hG : ∀ B' O' H', Same B1 B' → At T K B' O' H' → G H') : Wk T K B1 J ds where
  go := fun B' O' H' j sb hA hj => w.goes j H' (by rw [r.length]; exact hj) (hG B' O' H' sb hA)
  stop := fun B' O' H' sb hA => by
    have q := w.stops H' (hG B' O' H' sb hA)
    rw [r.length] at q
    exact q
  yld := fun B' O' H' j x H2 sb hA hj y => by
    obtain ⟨e, hx⟩ := w.yields j H' x H2 (by rw [r.length]; exact hj) (hG B' O' H' sb hA) y
    subst e
    obtain ⟨d, h1, h2⟩ := r.getV hx
    exact ⟨B', d, h1, Post.refl hA, h2.mono sb⟩
/-- the pairs of places and items -/
def enD : Nat → List D → List D
  | _, [] => []
  | k, d :: ds => .tup [.int (k : Int), d] :: enD (k + 1) ds
theorem enD_get : ∀ {k : Nat} {ds : List D} {j : Nat} {d : D}, ds[j]? = some d → (enD k ds)[j]? = some (.tup [.int ((k + j : Nat) : Int), d])
  | k, _ :: ds, 0, d, e => by
    cases e
    rfl
  | k, _ :: ds, j + 1, d, e => by
    have q := enD_get (k := k + 1) (ds := ds) (j := j) (d := d) (by simpa using e)
    have e2 : k + 1 + j = k + (j + 1) := by omega
    rw [e2] at q
    simpa [enD] using q
theorem enD_length : ∀ {k : Nat} {ds : List D}, (enD k ds).length = ds.length
  | _, [] => rfl
  | k, _ :: ds => by
    show (enD (k + 1) ds).length + 1 = ds.length + 1
    rw [enD_length]
/-- the pairs of keys and values -/
def itD (kd : List (D × D)) : List D := kd.map fun p => .tup [p.1, p.2]
theorem wk_en {T : List Addr} {K : PySem.W.Frag} {B1 : Hp} {J : It} {ds : List D} {G : Hp → Prop} {xs : List V} (w : Walk J xs.length G (YPair (fun i => some (.int (i : Nat))) (fun i => xs[i]?))) (r : RpAll K B1 xs ds) (hG : ∀ B' O' H', Same B1 B' → At T K B' O' H' → G H') : Wk T K B1 J (enD 0 ds) where
  go := fun B' O' H' j sb hA hj => w.goes j H' (by rw [r.length]; rw [enD_length] at hj; exact hj) (hG B' O' H' sb hA)
  stop := fun B' O' H' sb hA => by
    have q := w.stops H' (hG B' O' H' sb hA)
    rw [r.length] at q
    rw [enD_length]
    exact q
  yld := fun B' O' H' j x H2 sb hA hj y => by
    rw [enD_length] at hj
    obtain ⟨P, u, z, ex, hP, eH, hu, hz⟩ := w.yields j H' x H2 (by rw [r.length]; exact hj) (hG B' O' H' sb hA) y
    subst ex eH
    cases hu
    obtain ⟨d, h1, h2⟩ := r.getV hz
    have pm := Post.made (o := .tup [.int (j : Nat), z]) hA hP
    have q := enD_get (k := 0) h1
    rw [Nat.zero_add] at q
    exact ⟨_, _, q, pm, .tup (SqT.of upd_same) (.cons (.int _) (.cons ((h2.mono sb).mono pm.bb) .nil))⟩
section
variable {T : List Addr} {X : Cx} {ρ : List Slot} {O O1 O2 : OH} {tg e a b : Expr} {elts : List Expr} {kk : Nat} {tpos pos p0 apos cpos : Pos} {ds : List D} {kd : List (D × D)}
theorem src_list (he : DE T X e ρ O (.lst ds) O1) : Src T X tg e ρ O ds O1 := ⟨fun σ B H hE hA R q => wi_of (pi_list pe_we) (he σ B H hE hA _ fun v B1 H1 p1 r1 => by
  cases r1 with
  | lst hq r => exact ⟨_, rfl, ⟨_, SqL.of (p1.at'.base _ _ hq)⟩, q _ B1 H1 p1 (wk_at walk_list r fun B' O' H' sb hA => SqL.of (hA.base _ _ (sb _ _ hq)))⟩)⟩
theorem src_kst (he : DE T X e ρ O (.kst ds) O1) : Src T X tg e ρ O ds O1 := ⟨fun σ B H hE hA R q => wi_of (pi_list pe_we) (he σ B H hE hA _ fun v B1 H1 p1 r1 => by
  cases r1 with
  | kst hq r => exact ⟨_, rfl, ⟨_, p1.at'.base.seq hq⟩, q _ B1 H1 p1 (wk_at walk_list r fun B' O' H' sb hA => hA.base.seq (sb.seq hq))⟩)⟩
theorem src_tup (he : DE T X e ρ O (.tup ds) O1) : Src T X tg e ρ O ds O1 := ⟨fun σ B H hE hA R q => wi_of (pi_tup pe_we) (he σ B H hE hA _ fun v B1 H1 p1 r1 => by
  cases r1 with
  | tup hq r => exact ⟨_, rfl, ⟨_, same_t p1.at'.base hq⟩, q _ B1 H1 p1 (wk_at walk_tup r fun B' O' H' sb hA => same_t hA.base (same_t sb hq))⟩)⟩
def rgD (lo : Int) (n : Nat) : List D := (List.range n).map fun (j : Nat) => .int (lo + (j : Int))
theorem wk_rg {K : PySem.W.Frag} {B1 : Hp} {lo : Int} {n : Nat} : Wk T K B1 (Itr lo n) (rgD lo n) where
  go := fun B' O' H' j sb hA hj => by
    unfold rgD at hj
    show j < n
    simpa using hj
  stop := fun B' O' H' sb hA => by
    show n ≤ _
    unfold rgD
    simp
  yld := fun B' O' H' j x H2 sb hA hj y => by
    obtain ⟨eH, ex⟩ := y
    subst eH ex
    unfold rgD at hj ⊢
    have hj' : j < n := by simpa using hj
    exact ⟨B', _, by rw [List.getElem?_map, List.getElem?_range hj']; rfl, Post.refl hA, .int _⟩
theorem src_range {m : Int} (he : DE T X e ρ O (.int m) O1) (h1 : m ≤ 1000000) (h0 : -1000000 ≤ m) (hmg : X.mg "range" = none) (hg : Gl X "range" := by rfl) (hst : starEach [e] X.env = [(false, eval e X.env)] := by rfl) : Src T X tg (.Call (.Name "range" p0) [e] [] pos) ρ O (rgD 0 m.toNat) O1 :=
  ⟨fun σ B H hE hA R q => wi_of (pi_range1 hg hmg (pa_cons pe_we pa_nil hst) hst) (he σ B H hE hA _ fun v B1 H1 p1 r1 => by
    cases r1
    exact ⟨m, rfl, by omega, by omega, q _ B1 H1 p1 wk_rg⟩)⟩
theorem src_enL (he : DE T X e ρ O (.lst ds) O1) (hm : X.mg "enumerate" = none) (hg : Gl X "enumerate" := by rfl) (h1 : starEach [e] X.env = [(false, eval e X.env)] := by rfl) : Src T X (.Tuple elts kk tpos) (.Call (.Name "enumerate" p0) [e] [] pos) ρ O (enD 0 ds) O1 :=
  ⟨fun σ B H hE hA R q => wi_of (pi_enum hg hm (pa_cons pe_we pa_nil h1) h1) (he σ B H hE hA _ fun v B1 H1 p1 r1 => by
    cases r1 with
    | lst hq r => exact ⟨_, _, rfl, SqL.of (p1.at'.base _ _ hq), q _ B1 H1 p1 (wk_en walk_enum r fun B' O' H' sb hA => SqL.of (hA.base _ _ (sb _ _ hq)))⟩)⟩
theorem src_enT (he : DE T X e ρ O (.tup ds) O1) (hm : X.mg "enumerate" = none) (hg : Gl X "enumerate" := by rfl) (h1 : starEach [e] X.env = [(false, eval e X.env)] := by rfl) : Src T X (.Tuple elts kk tpos) (.Call (.Name "enumerate" p0) [e] [] pos) ρ O (enD 0 ds) O1 :=
  ⟨fun σ B H hE hA R q => wi_of (pi_enumT hg hm (pa_cons pe_we pa_nil h1) h1) (he σ B H hE hA _ fun v B1 H1 p1 r1 => by
    cases r1 with
    | tup hq r => exact ⟨_, _, rfl, same_t p1.at'.base hq, q _ B1 H1 p1 (wk_en walk_enumT r fun B' O' H' sb hA => same_t hA.base (same_t sb hq))⟩)⟩
theorem src_rev (he : DE T X e ρ O (.lst ds) O1) (hm : X.mg "reversed" = none) (hg : Gl X "reversed" := by rfl) (h1 : starEach [e] X.env = [(false, eval e X.env)] := by rfl) : Src T X tg (.Call (.Name "reversed" p0) [e] [] pos) ρ O ds.reverse O1 :=
  ⟨fun σ B H hE hA R q => wi_of (pi_reversed hg hm (pa_cons pe_we pa_nil h1) h1) (he σ B H hE hA _ fun v B1 H1 p1 r1 => by
    cases r1 with
    | lst hq r =>
      rename_i a xs
      refine ⟨a, xs, rfl, SqL.of (p1.at'.base _ _ hq), q _ B1 H1 p1 (wk_at (G := fun H => SqL X.K H a xs) (xs := xs.reverse) ?_ r.reverse fun B' O' H' sb hA => SqL.of (hA.base _ _ (sb _ _ hq)))⟩
      rw [List.length_reverse]
      refine (walk_rev (K := X.K) (a := a) (xs := xs)).mono (fun _ h => h) fun i H x H' hi _ y => ?_
      obtain ⟨e1, e2⟩ := y
      exact ⟨e1, by rw [List.getElem?_reverse hi]; exact e2⟩)⟩
theorem RpNs.keys {K : PySem.W.Frag} {H : Hp} : ∀ {kx : Kx} {kd : List (D × D)}, RpNs K H kx kd → RpAll K H (kx.map (·.1)) (kd.map (·.1))
  | _, _, .nil => .nil
  | _, _, .cons h n g r => .cons h r.keys
theorem RpNs.vals {K : PySem.W.Frag} {H : Hp} : ∀ {kx : Kx} {kd : List (D × D)}, RpNs K H kx kd → RpAll K H (kx.map (·.2.2)) (kd.map (·.2))
  | _, _, .nil => .nil
  | _, _, .cons h n g r => .cons g r.vals
theorem RpNs.length {K : PySem.W.Frag} {H : Hp} : ∀ {kx : Kx} {kd : List (D × D)}, RpNs K H kx kd → kx.length = kd.length
  | _, _, .nil => rfl
  | _, _, .cons h n g r => congrArg Nat.succ r.length
theorem RpNs.get {K : PySem.W.Frag} {H : Hp} : ∀ {kx : Kx} {kd : List (D × D)} {i : Nat} {p : V × NestedKey × V}, RpNs K H kx kd → kx[i]? = some p → ∃ q, kd[i]? = some q ∧ Rp K H p.1 q.1 ∧ keyD q.1 = some p.2.1 ∧ Rp K H p.2.2 q.2
  | _, _, 0, _, .cons h n g _, e => by
    cases e
    exact ⟨_, rfl, h, n, g⟩
  | _, _, i + 1, _, .cons _ _ _ r, e => r.get (i := i) (by simpa using e)
theorem src_nk (he : DE T X e ρ O (.dicN X.w kd) O1) : Src T X tg e ρ O (kd.map (·.1)) O1 := ⟨fun σ B H hE hA R q => wi_of (pi_nk pe_we) (he σ B H hE hA _ fun v B1 H1 p1 r1 => by
  cases r1 with
  | dicN hq r =>
    rename_i d o kx
    refine ⟨_, _, _, rfl, p1.at'.base _ _ hq, q _ B1 H1 p1 (wk_at (G := fun H => H d = some (.frz o (ndO X.w d kx))) (xs := kx.map (·.1)) ?_ r.keys fun B' O' H' sb hA => hA.base _ _ (sb _ _ hq))⟩
    rw [List.length_map]
    exact walk_nk)⟩
theorem src_nv (he : DE T X e ρ O (.dicN X.w kd) O1) (hbase : attributeBase e "values" X.env (eval e X.env) = eval e X.env := by rfl) (hline : (apos.endLine == cpos.line) = true := by rfl) : Src T X tg (.Call (.Attribute e "values" apos) [] [] cpos) ρ O (kd.map (·.2)) O1 := ⟨fun σ B H hE hA R q => wi_of (pi_nv pe_we hbase hline) (he σ B H hE hA _ fun v B1 H1 p1 r1 => by
  cases r1 with
  | dicN hq r =>
    rename_i d o kx
    refine ⟨_, _, _, rfl, p1.at'.base _ _ hq, q _ B1 H1 p1 (wk_at (G := fun H => H d = some (.frz o (ndO X.w d kx))) (xs := kx.map (·.2.2)) ?_ r.vals fun B' O' H' sb hA => hA.base _ _ (sb _ _ hq))⟩
    rw [List.length_map]
    exact walk_nv)⟩
theorem src_ni (he : DE T X e ρ O (.dicN X.w kd) O1) (hbase : attributeBase e "items" X.env (eval e X.env) = eval e X.env := by rfl) (hline : (apos.endLine == cpos.line) = true := by rfl) : Src T X (.Tuple elts kk tpos) (.Call (.Attribute e "items" apos) [] [] cpos) ρ O (itD kd) O1 := ⟨fun σ B H hE hA R q => wi_of (pi_ni pe_we hbase hline) (he σ B H hE hA _ fun v B1 H1 p1 r1 => by
  cases r1 with
  | dicN hq r =>
    rename_i d o kx
    have hl : (itD kd).length = kx.length := by unfold itD; rw [List.length_map]; exact r.length.symm
    refine ⟨_, _, _, rfl, p1.at'.base _ _ hq, q _ B1 H1 p1 ⟨fun B' O' H' j sb hA hj => ?_, fun B' O' H' sb hA => ?_, fun B' O' H' j x H2 sb hA hj y => ?_⟩⟩
    · exact ⟨hA.base _ _ (sb _ _ hq), by rw [← hl]; exact hj⟩
    · exact ⟨hA.base _ _ (sb _ _ hq), by rw [hl]; exact Nat.le_refl _⟩
    · obtain ⟨P, p, hp, ex, hP, eH⟩ := y
      subst ex eH
      obtain ⟨z, h1, h2, _, h3⟩ := r.get hp
      have pm := Post.made (o := .tup [p.1, p.2.2]) hA hP
      refine ⟨_, .tup [z.1, z.2], ?_, pm, .tup (SqT.of upd_same) (.cons ((h2.mono sb).mono pm.bb) (.cons ((h3.mono sb).mono pm.bb) .nil))⟩
      unfold itD
      rw [List.getElem?_map, h1]
      rfl)⟩
end
end Dz

/-! comprehensions with two for; dicts by comprehensions -/
namespace Dz
open PySem PySem.Spec PyProof.Rows L2 GxR
def WIb (X : Cx) (scope : Scope) (tg iter : Expr) : TI := fun σ H R => ∀ (s0 : Shared) (H0 : Hp) (C : Addr) (cl : List (Str × Addr)) (fp : List Addr), WI (blkX X scope s0 H0 C cl fp) tg iter σ H R
theorem pi_wib {X : Cx} {scope : Scope} {tg iter : Expr} (s : Shared) (H : Hp) (C : Addr) (cl : List (Str × Addr)) (fp : List Addr) : PI (blkX X scope s H C cl fp) tg iter (WIb X scope tg iter) := ⟨fun pins s' σ H' R I h => h s H C cl fp pins s' I⟩
/-- what is walked within a block, wherever it starts -/
abbrev Srb (T : List Addr) (X : Cx) (scope : Scope) (tg iter : Expr) (ρ : List Slot) (O : OH) (ds : List D) (O1 : OH) : Prop := ∀ (s : Shared) (H : Hp) (C : Addr) (cl : List (Str × Addr)) (fp : List Addr), Src T (blkX X scope s H C cl fp) tg iter ρ O ds O1
section
variable {T : List Addr} {X : Cx} {CE : Addr} {scope : Scope} {ρ : List Slot} {O O1 O2 : OH} {tg iter elt tg1 iter1 : Expr} {ifs1 : List Expr} {pos spos py : Pos} {ds : List D} {E : DEn} {g g1 : TG} {is is1 : List Nat} {f f1 : D → Option (List D)} {own : List (Str × Nat)} {vs1 : List Nat} {S : List D → List D} {F : List D → List D → Option D}
/-- the list so far, nothing else changed, and Bs stands -/
def LcZ (T : List Addr) (K : PySem.W.Frag) (B : Hp) (O : OH) (H : Hp) (Bs : Hp) (a : Addr) (acc : List D) (H' : Hp) : Prop :=
  ∃ B' xs, Same Bs B' ∧ Post T K B O H B' O H' ∧ B' a = none ∧ H' a = some (.lst xs) ∧ RpAll K B' xs acc
/-- what a comprehension with two for tells -/
def lc2 (f f1 : D → Option (List D)) (S : List D → List D) (F : List D → List D → Option D) (ds : List D) : List D :=
  ds.flatMap fun d => match f d with
    | some cs => (S cs).filterMap fun e => (f1 e).bind (F cs)
    | none => []
theorem lc2_run {σ : L2.St} {B1 H1 : Hp} {J : It} (wk : Wk T X.K B1 J ds) (hA : At T X.K B1 O1 H1) (hE : Env X.K B1 σ ρ) (ht : Tg X.K g is f) (ht1 : Tg X.K g1 is1 f1) (his : ∀ i ∈ is, i ∈ own.map (·.2)) (his1 : ∀ i ∈ is1, i ∈ vs1) (hf : ∀ d ∈ ds, ∃ cs, f d = some cs) (hl : (lc2 f f1 S F ds).length ≤ 1000000)
    (hsrc1 : ∀ d ∈ ds, ∀ cs, f d = some cs → Srb T X scope tg1 iter1 (setAll (wipS ρ (own.map (·.2))) is (cs.map .dat)) O1 (S cs) O1)
    (hf1 : ∀ d ∈ ds, ∀ cs, f d = some cs → ∀ e ∈ S cs, ∃ es, f1 e = some es)
    (hs : ∀ d ∈ ds, ∀ cs, f d = some cs → ∀ e ∈ S cs, ∀ es, f1 e = some es →
      (∃ y, F cs es = some y ∧ DIfs T X scope ifs1 (setAll (wipS (setAll (wipS ρ (own.map (·.2))) is (cs.map .dat)) vs1) is1 (es.map .dat)) O1 true O1 ∧ DEb T X scope elt (setAll (wipS (setAll (wipS ρ (own.map (·.2))) is (cs.map .dat)) vs1) is1 (es.map .dat)) O1 y O1) ∨
      (F cs es = none ∧ DIfs T X scope ifs1 (setAll (wipS (setAll (wipS ρ (own.map (·.2))) is (cs.map .dat)) vs1) is1 (es.map .dat)) O1 false O1))
    {a : Addr} (na : H1 a = none) {Qd : Hp → Prop} (hd : ∀ H', LcZ T X.K B1 O1 H1 B1 a (lc2 f f1 S F ds) H' → Qd H') :
    ∃ W : Nat → Nat → Hp → Prop, (∃ m, W 0 m (upd H1 a (.lst []))) ∧ ∀ i m H, W i m H →
      (J.stop i H ∧ Qd H) ∨ (J.go i H ∧ ∃ Nx : Hp → Prop, (∀ H', Nx H' → ∃ m', m' < m ∧ W (i + 1) m' H') ∧ ∀ x H', J.yld i H x H' → g x (wipe σ (own.map (·.2))) H' fun σ2 H2 => wipe σ2 (own.map (·.2)) = wipe σ (own.map (·.2)) ∧ tYes σ2 H2 fun b H3 =>
        if b = true then WIb X scope tg1 iter1 σ2 H3 fun J1 H4 => ∃ W1 : Nat → Nat → Hp → Prop, (∃ m, W1 0 m H4) ∧ ∀ j k H, W1 j k H →
          (J1.stop j H ∧ Nx H) ∨ (J1.go j H ∧ ∃ Nx1 : Hp → Prop, (∀ H', Nx1 H' → ∃ k', k' < k ∧ W1 (j + 1) k' H') ∧ ∀ x H', J1.yld j H x H' → g1 x (wipe σ2 vs1) H' fun σ3 H5 => wipe σ3 vs1 = wipe σ2 vs1 ∧ TTb X scope ifs1 σ3 H5 fun b H6 =>
            if b = true then TEb X scope elt σ3 H6 fun y H7 => ∃ acc, H7 a = some (.lst acc) ∧ acc.length < sizeLine ∧ Nx1 (upd H7 a (.lst (acc ++ [y]))) else Nx1 H6)
        else Nx H3) := by
  have o1 : O1 a = none := hA.noO na
  have pre : ∀ i, (lc2 f f1 S F (ds.take i)).length ≤ (lc2 f f1 S F ds).length := fun i => by
    have e : ds = ds.take i ++ ds.drop i := (List.take_append_drop i ds).symm
    have e2 : lc2 f f1 S F ds = lc2 f f1 S F (ds.take i) ++ lc2 f f1 S F (ds.drop i) := by
      unfold lc2
      rw [← List.flatMap_append, List.take_append_drop]
    rw [e2, List.length_append]
    omega
  refine ⟨fun j m H' => m = ds.length - j ∧ j ≤ ds.length ∧ LcZ T X.K B1 O1 H1 B1 a (lc2 f f1 S F (ds.take j)) H', ⟨ds.length, by simp, Nat.zero_le _, B1, [], Same.refl _, Post.over hA na (Post.refl hA) (hA.noB na) o1, hA.noB na, upd_same, .nil⟩, ?_⟩
  rintro j m H' ⟨rfl, hj, hI⟩
  have hI0 := hI
  obtain ⟨B', xs, sb, h2, h3, h5, h6⟩ := hI
  by_cases hlt : j < ds.length
  · refine .inr ⟨wk.go B' O1 H' j sb h2.at' hlt, LcZ T X.K B1 O1 H1 B1 a (lc2 f f1 S F (ds.take (j + 1))), fun H2 h => ⟨ds.length - (j + 1), by omega, rfl, hlt, h⟩, fun x H2 hy => ?_⟩
    obtain ⟨B2, d, hd1, pm, rd⟩ := wk.yld B' O1 H' j x H2 sb h2.at' hlt hy
    have hdm := List.mem_of_getElem? hd1
    obtain ⟨cs, hcs⟩ := hf d hdm
    refine ht.run T B2 O1 H2 _ x d cs _ pm.at' rd hcs fun vs rv => ?_
    have ha : H' a ≠ none := by rw [h5]; exact fun z => by cases z
    have k1 : B2 a = none := by rw [pm.new a ha o1]; exact h3
    have k3 : H2 a = some (.lst xs) := pm.fr a _ h5 o1 (hA.newT na)
    refine ⟨wipe_fold his |>.trans (wipe_wipe fun _ h => h), ?_⟩
    have hE2 : Env X.K B2 (List.foldl (fun σ (p : Nat × V) => σ.set p.1 (some p.2)) (wipe σ (own.map (·.2))) (is.zip vs)) (setAll (wipS ρ (own.map (·.2))) is (cs.map .dat)) := Env.setAll is ((((hE.mono sb).mono pm.bb)).wipes _) (Args.of rv)
    generalize List.foldl (fun σ (p : Nat × V) => σ.set p.1 (some p.2)) (wipe σ (own.map (·.2))) (is.zip vs) = σ2 at hE2 ⊢
    dsimp only [tYes]
    rw [if_pos rfl]
    have et : lc2 f f1 S F (ds.take (j + 1)) = lc2 f f1 S F (ds.take j) ++ (S cs).filterMap (fun e => (f1 e).bind (F cs)) := by
      rw [List.take_add_one, hd1]
      unfold lc2
      rw [List.flatMap_append]
      simp [hcs]
    intro s0 H0 C cl fp
    refine (hsrc1 d hdm cs hcs s0 H0 C cl fp).run σ2 B2 H2 hE2 pm.at' _ fun J1 B3 H3 p3 wk1 => ?_
    have ha2 : H2 a ≠ none := by rw [k3]; exact fun z => by cases z
    have m1 : B3 a = none := by rw [p3.new a ha2 o1]; exact k1
    have m3 : H3 a = some (.lst xs) := p3.fr a _ k3 o1 (hA.newT na)
    have hE3 := hE2.mono p3.bb
    have po3 := (h2.trans pm).trans p3
    refine ⟨fun k kk H4 => kk = (S cs).length - k ∧ k ≤ (S cs).length ∧ LcZ T X.K B1 O1 H1 B3 a (lc2 f f1 S F (ds.take j) ++ ((S cs).take k).filterMap (fun e => (f1 e).bind (F cs))) H4, ⟨(S cs).length, by simp, Nat.zero_le _, B3, xs, Same.refl _, po3, m1, m3, by simpa using (h6.mono pm.bb).mono p3.bb⟩, ?_⟩
    rintro k kk H4 ⟨rfl, hk, hz⟩
    have hz0 := hz
    obtain ⟨B4, ys, sb4, q2, q3, q5, q6⟩ := hz
    by_cases hkl : k < (S cs).length
    · refine .inr ⟨wk1.go B4 O1 H4 k sb4 q2.at' hkl, LcZ T X.K B1 O1 H1 B3 a (lc2 f f1 S F (ds.take j) ++ ((S cs).take (k + 1)).filterMap (fun e => (f1 e).bind (F cs))), fun H5 h => ⟨(S cs).length - (k + 1), by omega, rfl, hkl, h⟩, fun x1 H5 hy1 => ?_⟩
      obtain ⟨B5, e, he1, pm1, re⟩ := wk1.yld B4 O1 H4 k x1 H5 sb4 q2.at' hkl hy1
      have hem := List.mem_of_getElem? he1
      obtain ⟨es, hes⟩ := hf1 d hdm cs hcs e hem
      refine ht1.run T B5 O1 H5 _ x1 e es _ pm1.at' re hes fun vs2 rv2 => ?_
      have hb : H4 a ≠ none := by rw [q5]; exact fun z => by cases z
      have n1 : B5 a = none := by rw [pm1.new a hb o1]; exact q3
      have n3 : H5 a = some (.lst ys) := pm1.fr a _ q5 o1 (hA.newT na)
      refine ⟨wipe_fold his1 |>.trans (wipe_wipe fun _ h => h), ?_⟩
      have hE5 := Env.setAll is1 ((((hE3.mono sb4).mono pm1.bb)).wipes vs1) (Args.of rv2)
      generalize List.foldl (fun σ (p : Nat × V) => σ.set p.1 (some p.2)) (wipe σ2 vs1) (is1.zip vs2) = σ3 at hE5 ⊢
      have ek : (S cs).take (k + 1) = (S cs).take k ++ [e] := by rw [List.take_add_one, he1]; rfl
      have po5 := q2.trans pm1
      rcases hs d hdm cs hcs e hem es hes with ⟨y, f1', f2', f3'⟩ | ⟨f1', f2'⟩
      · refine f2' σ3 B5 H5 hE5 pm1.at' _ fun B6 H6 p6 => ?_
        rw [if_pos rfl]
        have hc : H5 a ≠ none := by rw [n3]; exact fun z => by cases z
        have l1 : B6 a = none := by rw [p6.new a hc o1]; exact n1
        have l3 : H6 a = some (.lst ys) := p6.fr a _ n3 o1 (hA.newT na)
        intro s0 H0 C cl fp
        refine f3' s0 H0 C cl fp σ3 B6 H6 (hE5.mono p6.bb) p6.at' _ fun w B7 H7 p7 r7 => ?_
        have hc2 : H6 a ≠ none := by rw [l3]; exact fun z => by cases z
        have v1 : B7 a = none := by rw [p7.new a hc2 o1]; exact l1
        have v3 : H7 a = some (.lst ys) := p7.fr a _ l3 o1 (hA.newT na)
        have eo : lc2 f f1 S F (ds.take j) ++ ((S cs).take (k + 1)).filterMap (fun e => (f1 e).bind (F cs)) = (lc2 f f1 S F (ds.take j) ++ ((S cs).take k).filterMap (fun e => (f1 e).bind (F cs))) ++ [y] := by
          rw [ek, List.filterMap_append, List.append_assoc]
          simp [hes, f1']
        refine ⟨ys, v3, ?_, ?_⟩
        · have z1 := q6.length
          have z2 : (lc2 f f1 S F (ds.take j) ++ ((S cs).take k).filterMap (fun e => (f1 e).bind (F cs))).length ≤ (lc2 f f1 S F (ds.take (j + 1))).length := by
            rw [et, List.length_append, List.length_append]
            have z3 : (((S cs).take k).filterMap (fun e => (f1 e).bind (F cs))).length ≤ ((S cs).filterMap (fun e => (f1 e).bind (F cs))).length := by
              have e9 : (S cs).filterMap (fun e => (f1 e).bind (F cs)) = ((S cs).take k).filterMap (fun e => (f1 e).bind (F cs)) ++ ((S cs).drop k).filterMap (fun e => (f1 e).bind (F cs)) := by
                rw [← List.filterMap_append, List.take_append_drop]
              rw [e9, List.length_append]
              omega
            omega
          have z4 := pre (j + 1)
          have z5 : (1000000 : Nat) < sizeLine := by decide
          omega
        · show LcZ T X.K B1 O1 H1 B3 a (lc2 f f1 S F (ds.take j) ++ ((S cs).take (k + 1)).filterMap (fun e => (f1 e).bind (F cs))) (upd H7 a (.lst (ys ++ [w])))
          rw [eo]
          exact ⟨B7, ys ++ [w], ((sb4.trans pm1.bb).trans p6.bb).trans p7.bb, Post.over hA na ((po5.trans p6).trans p7) v1 o1, v1, upd_same, (((q6.mono pm1.bb).mono p6.bb).mono p7.bb).append (.cons r7 .nil)⟩
      · refine f2' σ3 B5 H5 hE5 pm1.at' _ fun B6 H6 p6 => ?_
        rw [if_neg (by decide)]
        have hc : H5 a ≠ none := by rw [n3]; exact fun z => by cases z
        have l1 : B6 a = none := by rw [p6.new a hc o1]; exact n1
        have l3 : H6 a = some (.lst ys) := p6.fr a _ n3 o1 (hA.newT na)
        show LcZ T X.K B1 O1 H1 B3 a (lc2 f f1 S F (ds.take j) ++ ((S cs).take (k + 1)).filterMap (fun e => (f1 e).bind (F cs))) H6
        rw [ek, List.filterMap_append]
        have en : [e].filterMap (fun e => (f1 e).bind (F cs)) = [] := by simp [hes, f1']
        rw [en, List.append_nil]
        exact ⟨B6, ys, (sb4.trans pm1.bb).trans p6.bb, po5.trans p6, l1, l3, (q6.mono pm1.bb).mono p6.bb⟩
    · have ek : k = (S cs).length := by omega
      subst ek
      refine .inl ⟨wk1.stop B4 O1 H4 sb4 q2.at', ?_⟩
      show LcZ T X.K B1 O1 H1 B1 a (lc2 f f1 S F (ds.take (j + 1))) H4
      rw [et]
      rw [List.take_length] at q6
      exact ⟨B4, ys, q2.bb, q2, q3, q5, q6⟩
  · have ej : j = ds.length := by omega
    subst ej
    rw [List.take_length] at hI0
    exact .inl ⟨wk.stop B' O1 H' sb h2.at', hd H' hI0⟩
theorem LcZ.fin {K : PySem.W.Frag} {B H H' Bs : Hp} {a : Addr} {out : List D} {Q : VK} (hA : At T K B O H) (n : H a = none) (h : LcZ T K B O H Bs a out H') (q : ∀ v B' H', Post T K B O H B' O H' → Rp K B' v (.lst out) → Q v H') : Q (.ref a) H' := by
  obtain ⟨B', xs, _, h2, h3, h5, h6⟩ := h
  have po := Post.ice hA n h2 h3 (hA.noO n) h5
  exact q (.ref a) _ H' po (.lst upd_same (h6.mono fun c w q => by
    have zc : c ≠ a := fun zc => by
      rw [zc, h3] at q
      cases q
    rw [upd_ne zc]
    exact q))
theorem de_lcW2 (hsrc : Src T X tg iter ρ O ds O1) (hg : PGb X scope tg g) (hg1 : PGb X scope tg1 g1) (ht : Tg X.K g is f) (ht1 : Tg X.K g1 is1 f1) (his : ∀ i ∈ is, i ∈ own.map (·.2)) (hv : ∀ i ∈ vs1, i ∈ own.map (·.2)) (his1 : ∀ i ∈ is1, i ∈ vs1) (hf : ∀ d ∈ ds, ∃ cs, f d = some cs) (hl : (lc2 f f1 S F ds).length ≤ 1000000)
    (hsrc1 : ∀ d ∈ ds, ∀ cs, f d = some cs → Srb T X scope tg1 iter1 (setAll (wipS ρ (own.map (·.2))) is (cs.map .dat)) O1 (S cs) O1)
    (hf1 : ∀ d ∈ ds, ∀ cs, f d = some cs → ∀ e ∈ S cs, ∃ es, f1 e = some es)
    (hs : ∀ d ∈ ds, ∀ cs, f d = some cs → ∀ e ∈ S cs, ∀ es, f1 e = some es →
      (∃ y, F cs es = some y ∧ DIfs T X scope ifs1 (setAll (wipS (setAll (wipS ρ (own.map (·.2))) is (cs.map .dat)) vs1) is1 (es.map .dat)) O1 true O1 ∧ DEb T X scope elt (setAll (wipS (setAll (wipS ρ (own.map (·.2))) is (cs.map .dat)) vs1) is1 (es.map .dat)) O1 y O1) ∨
      (F cs es = none ∧ DIfs T X scope ifs1 (setAll (wipS (setAll (wipS ρ (own.map (·.2))) is (cs.map .dat)) vs1) is1 (es.map .dat)) O1 false O1))
    (hN : X.N.Nodup) (ok : BlkOk X.N X.env.scope scope own) (hc : X.calm = true := by rfl) (hfold : ∀ x, foldedSetIterable iter X.env x = pure x := by intro _; rfl) (hfold1 : ∀ env x, foldedSetIterable iter1 env x = pure x := by intro _ _; rfl) :
    DE T X (.ListComp elt [⟨tg, iter, [], 0⟩, ⟨tg1, iter1, ifs1, 0⟩] scope pos) ρ O (.lst (lc2 f f1 S F ds)) O1 :=
  de_of (pe_lc2 hc hN pi_wi ok hv hg (fun s H C cl fp => pts_nil) pi_wib hg1 ptsb peb hfold hfold1) fun σ B H hE hA Q q => hsrc.run σ B H hE hA _ fun J B1 H1 p1 wk => fun a na =>
    lc2_run wk p1.at' (hE.mono p1.bb) ht ht1 his his1 hf hl hsrc1 hf1 hs na fun H' h => LcZ.fin p1.at' na h fun v B2 H2 p2 r2 => q v B2 H2 (p1.trans p2) r2
/-- x = [..], as data -/
theorem d1_setLcW2 {y : Str} (i0 : Nat) (hsrc : Src T X tg iter ρ O ds O1) (hg : PGb X scope tg g) (hg1 : PGb X scope tg1 g1) (ht : Tg X.K g is f) (ht1 : Tg X.K g1 is1 f1) (his : ∀ i ∈ is, i ∈ own.map (·.2)) (hv : ∀ i ∈ vs1, i ∈ own.map (·.2)) (his1 : ∀ i ∈ is1, i ∈ vs1) (hf : ∀ d ∈ ds, ∃ cs, f d = some cs) (hl : (lc2 f f1 S F ds).length ≤ 1000000)
    (hsrc1 : ∀ d ∈ ds, ∀ cs, f d = some cs → Srb T X scope tg1 iter1 (setAll (wipS ρ (own.map (·.2))) is (cs.map .dat)) O1 (S cs) O1)
    (hf1 : ∀ d ∈ ds, ∀ cs, f d = some cs → ∀ e ∈ S cs, ∃ es, f1 e = some es)
    (hs : ∀ d ∈ ds, ∀ cs, f d = some cs → ∀ e ∈ S cs, ∀ es, f1 e = some es →
      (∃ y, F cs es = some y ∧ DIfs T X scope ifs1 (setAll (wipS (setAll (wipS ρ (own.map (·.2))) is (cs.map .dat)) vs1) is1 (es.map .dat)) O1 true O1 ∧ DEb T X scope elt (setAll (wipS (setAll (wipS ρ (own.map (·.2))) is (cs.map .dat)) vs1) is1 (es.map .dat)) O1 y O1) ∨
      (F cs es = none ∧ DIfs T X scope ifs1 (setAll (wipS (setAll (wipS ρ (own.map (·.2))) is (cs.map .dat)) vs1) is1 (es.map .dat)) O1 false O1))
    (hk : E.nx (ρ.set i0 (.dat (.lst (lc2 f f1 S F ds)))) O1)
    (hN : X.N.Nodup) (ok : BlkOk X.N X.env.scope scope own) (hc : X.calm = true := by rfl) (hfold : ∀ x, foldedSetIterable iter X.env x = pure x := by intro _; rfl) (hfold1 : ∀ env x, foldedSetIterable iter1 env x = pure x := by intro _ _; rfl)
    (hy : X.N[i0]? = some y := by rfl) (hyl : X.env.scope.names.lookup y = some .local := by rfl) (hsw : swapsWith (.ListComp elt [⟨tg, iter, [], 0⟩, ⟨tg1, iter1, ifs1, 0⟩] scope pos) (some (.Name y py)) spos.line X.env = pure true) :
    D1 T X CE (.Assign [.Name y py] (.ListComp elt [⟨tg, iter, [], 0⟩, ⟨tg1, iter1, ifs1, 0⟩] scope pos) spos) ρ O E := .mk fun σ B H hE hA Dn W tk l => by
  refine ws_of (ps_setLc2 hc hN hy hyl hsw pi_wi ok hv hg (fun s H C cl fp => pts_nil) pi_wib hg1 ptsb peb hfold hfold1) ?_
  refine hsrc.run σ B H hE hA _ fun J B1 H1 p1 wk => fun a na => lc2_run wk p1.at' (hE.mono p1.bb) ht ht1 his his1 hf hl hsrc1 hf1 hs na fun H' h => ?_
  refine LcZ.fin p1.at' na h (Q := fun v H' => Dn.nx (σ.set i0 (some v)) H') fun v B2 H2 p2 r2 => ?_
  exact l.nx _ _ _ B2 H2 hk (p1.trans p2) (((hE.mono p1.bb).mono p2.bb).set (o := some v) (s := .dat (.lst _)) r2 i0)
end
end Dz

/-! dicts of tuple keys: the rules over data -/
namespace Dz
open PySem PySem.Spec PyProof.Rows L2 GxR
theorem rp_keyR {K : PySem.W.Frag} {B H : Hp} {y : V} {kd : D} {k : NestedKey} (s : Same B H) (r : Rp K B y kd) (e : keyD kd = some k) : KeyR K H y k := by
  obtain ⟨h1, ⟨ks, h2⟩, h3⟩ := keyD_some e
  have n := r.nk s h1
  subst h2
  cases n with
  | tup hq hn => exact ⟨⟨_, rfl⟩, .tup hq hn, h3⟩
theorem NsOk.ref {K : PySem.W.Frag} {B H : Hp} (s : Same B H) : ∀ {kx : Kx} {ss : List (D × Slot)}, NsOk K B kx ss → RefK K H kx
  | _, _, .nil => fun p hp => nomatch hp
  | _, _, .cons h n g r => fun p hp => by
    rcases List.mem_cons.mp hp with z | hp
    · subst z
      exact rp_keyR s h n
    · exact NsOk.ref s r p hp
theorem RpNs.ref {K : PySem.W.Frag} {B H : Hp} (s : Same B H) : ∀ {kx : Kx} {kd : List (D × D)}, RpNs K B kx kd → RefK K H kx
  | _, _, .nil => fun p hp => nomatch hp
  | _, _, .cons h n g r => fun p hp => by
    rcases List.mem_cons.mp hp with z | hp
    · subst z
      exact rp_keyR s h n
    · exact RpNs.ref s r p hp
section
variable {α : Type}
/-- what stands at the key k -/
def getD {α : Type} (ss : List (D × α)) (k : NestedKey) : Option α := (ss.find? fun p => decide (keyD p.1 = some k)).map (·.2)
def putD {α : Type} (ss : List (D × α)) (kd : D) (k : NestedKey) (s : α) : List (D × α) := if (getD ss k).isSome = true then ss.map (fun p => if keyD p.1 = some k then (p.1, s) else p) else ss ++ [(kd, s)]
theorem getD_nil (k : NestedKey) : getD ([] : List (D × α)) k = none := rfl
theorem getD_pos {p : D × α} {ss : List (D × α)} {k : NestedKey} (h : keyD p.1 = some k) : getD (p :: ss) k = some p.2 := by
  unfold getD
  rw [List.find?_cons_of_pos (by simpa using h)]
  rfl
theorem getD_neg {p : D × α} {ss : List (D × α)} {k : NestedKey} (h : ¬ keyD p.1 = some k) : getD (p :: ss) k = getD ss k := by
  unfold getD
  rw [List.find?_cons_of_neg (by simpa using h)]
theorem putD_length (ss : List (D × α)) (kd : D) (k : NestedKey) (s : α) : (putD ss kd k s).length ≤ ss.length + 1 := by
  unfold putD
  split
  · rw [List.length_map]; omega
  · rw [List.length_append]; exact Nat.le_refl _
end
theorem getN_pos {p : V × NestedKey × V} {kx : Kx} {k : NestedKey} (h : p.2.1 = k) : getN (p :: kx) k = some p.2.2 := by
  unfold getN
  rw [List.find?_cons_of_pos (by simpa using h)]
  rfl
theorem getN_neg {p : V × NestedKey × V} {kx : Kx} {k : NestedKey} (h : ¬ p.2.1 = k) : getN (p :: kx) k = getN kx k := by
  unfold getN
  rw [List.find?_cons_of_neg (by simpa using h)]
theorem key_iff {k k' : NestedKey} {kd : D} (n : keyD kd = some k') : (keyD kd = some k ↔ k' = k) := by
  rw [n]
  exact ⟨fun z => Option.some.inj z, fun z => congrArg some z⟩
theorem NsOk.get {K : PySem.W.Frag} {B : Hp} (k : NestedKey) : ∀ {kx : Kx} {ss : List (D × Slot)}, NsOk K B kx ss → (getN kx k = none ∧ getD ss k = none) ∨ ∃ v s, getN kx k = some v ∧ getD ss k = some s ∧ SlotOk K B (some v) s
  | _, _, .nil => .inl ⟨rfl, rfl⟩
  | _, _, .cons (k := k') (v := v) (s := s) h n g r => by
    by_cases z : k' = k
    · exact .inr ⟨v, s, getN_pos z, getD_pos ((key_iff n).mpr z), g⟩
    · rw [getN_neg z, getD_neg (fun q => z ((key_iff n).mp q))]
      exact NsOk.get k r
theorem RpNs.getk {K : PySem.W.Frag} {B : Hp} (k : NestedKey) : ∀ {kx : Kx} {ss : List (D × D)}, RpNs K B kx ss → (getN kx k = none ∧ getD ss k = none) ∨ ∃ v s, getN kx k = some v ∧ getD ss k = some s ∧ Rp K B v s
  | _, _, .nil => .inl ⟨rfl, rfl⟩
  | _, _, .cons (k := k') (v := v) (d := s) h n g r => by
    by_cases z : k' = k
    · exact .inr ⟨v, s, getN_pos z, getD_pos ((key_iff n).mpr z), g⟩
    · rw [getN_neg z, getD_neg (fun q => z ((key_iff n).mp q))]
      exact RpNs.getk k r
theorem NsOk.some {K : PySem.W.Frag} {B : Hp} (k : NestedKey) {kx : Kx} {ss : List (D × Slot)} (r : NsOk K B kx ss) : (getN kx k).isSome = (getD ss k).isSome := by
  rcases r.get k with ⟨h1, h2⟩ | ⟨v, s, h1, h2, _⟩ <;> rw [h1, h2] <;> rfl
theorem RpNs.some {K : PySem.W.Frag} {B : Hp} (k : NestedKey) {kx : Kx} {ss : List (D × D)} (r : RpNs K B kx ss) : (getN kx k).isSome = (getD ss k).isSome := by
  rcases r.getk k with ⟨h1, h2⟩ | ⟨v, s, h1, h2, _⟩ <;> rw [h1, h2] <;> rfl
theorem NsOk.map {K : PySem.W.Frag} {B : Hp} {k : NestedKey} {v : V} {s : Slot} (h : SlotOk K B (.some v) s) : ∀ {kx : Kx} {ss : List (D × Slot)}, NsOk K B kx ss → NsOk K B (kx.map fun p => if p.2.1 = k then (p.1, p.2.1, v) else p) (ss.map fun p => if keyD p.1 = .some k then (p.1, s) else p)
  | _, _, .nil => .nil
  | _, _, .cons (k := k') q n g r => by
    rw [List.map_cons, List.map_cons]
    by_cases z : k' = k
    · rw [if_pos z, if_pos ((key_iff n).mpr z)]
      exact .cons q n h (NsOk.map h r)
    · rw [if_neg z, if_neg (fun w => z ((key_iff n).mp w))]
      exact .cons q n g (NsOk.map h r)
theorem NsOk.app {K : PySem.W.Frag} {B : Hp} : ∀ {kx ky : Kx} {ss st : List (D × Slot)}, NsOk K B kx ss → NsOk K B ky st → NsOk K B (kx ++ ky) (ss ++ st)
  | _, _, _, _, .nil, s => s
  | _, _, _, _, .cons h n g r, s => .cons h n g (r.app s)
theorem NsOk.put {K : PySem.W.Frag} {B : Hp} {k : NestedKey} {y v : V} {kd : D} {s : Slot} (hy : Rp K B y kd) (hk : keyD kd = .some k) (h : SlotOk K B (.some v) s) {kx : Kx} {ss : List (D × Slot)} (r : NsOk K B kx ss) : NsOk K B (putN kx y k v) (putD ss kd k s) := by
  unfold putN putD
  rw [r.some k]
  split
  · exact NsOk.map h r
  · exact r.app (.cons hy hk h .nil)
theorem NsOk.length {K : PySem.W.Frag} {B : Hp} : ∀ {kx : Kx} {ss : List (D × Slot)}, NsOk K B kx ss → kx.length = ss.length
  | _, _, .nil => rfl
  | _, _, .cons _ _ _ r => congrArg Nat.succ r.length
/-! ### what is owned becomes known -/
theorem Post.lock {T : List Addr} {K : PySem.W.Frag} {B : Hp} {O : OH} {H : Hp} (h : At T K B O H) {a : Addr} {o : OD} {u : HO} {od : Obj} (e : O a = some o) (eu : H a = some u) : Post T K B O H (upd B a (.frz od u)) (cut O a) (upd H a (.frz od u)) where
  at' :=
    { base := fun b v q => by
        by_cases z : b = a
        · subst z
          rw [upd_same] at q ⊢
          exact q
        · rw [upd_ne z] at q ⊢
          exact h.base b v q
      own := fun b v q => by
        have z : b ≠ a := fun z => by
          rw [z, cut_same] at q
          cases q
        rw [cut_ne z] at q
        obtain ⟨e1, v, e2, e3⟩ := h.own b v q
        refine ⟨by rw [upd_ne z]; exact e1, v, by rw [upd_ne z]; exact e2, e3.mono fun c w q => ?_⟩
        have zc : c ≠ a := fun zc => by
          rw [zc, (h.own a o e).1] at q
          cases q
        rw [upd_ne zc]
        exact q
      nt := fun P hP => by
        have z : P ≠ a := fun z => h.notT e (by rw [← z]; exact hP)
        rw [upd_ne z, cut_ne z]
        exact h.nt P hP
      tabs := fun P hP => by
        have z : P ≠ a := fun z => h.notT e (by rw [← z]; exact hP)
        obtain ⟨ps, e2, t⟩ := h.tabs P hP
        exact ⟨ps, by rw [upd_ne z]; exact e2, t⟩ }
  bb := fun b v q => by
    have z : b ≠ a := fun z => by
      rw [z, (h.own a o e).1] at q
      cases q
    rw [upd_ne z]
    exact q
  new := fun b _ ho => by
    have z : b ≠ a := fun z => by
      rw [z, e] at ho
      cases ho
    rw [upd_ne z]
  own := fun b hb => by
    by_cases z : b = a
    · subst z
      rw [cut_same] at hb
      exact absurd rfl hb
    · rw [cut_ne z] at hb
      exact .inl hb
  fr := fun b v hv ho _ => by
    have z : b ≠ a := fun z => by
      rw [z, e] at ho
      cases ho
    rw [upd_ne z]
    exact hv
  dom := fun b hb => upd_dom hb
section
variable {T : List Addr} {X : Cx} {CE : Addr} {ρ : List Slot} {O O1 O2 O3 : OH} {e a b o f : Expr} {pos pos' p0 apos cpos npos spos : Pos} {d kx kd0 : D} {kd : List (D × D)} {s s0 : Slot} {so : List (D × Slot)} {E : DEn} {body : List Stmt} {c : Addr} {k : NestedKey} {n : Str}
theorem wss_lock {st : List Stmt} {Dn : Ends} {σ : L2.St} {H : Hp} {u : HO} (hc : H c = some u) (mu : Mut (some u)) (h : ∀ od, WSs X st Dn σ (upd H c (.frz od u))) : WSs X st Dn σ H := fun pins s I => by
  obtain ⟨od, I1⟩ := I.lock hc mu
  exact h od pins s I1
theorem hu9 {j : Nat} (hr : Room j X.A) : X.A.units + 9 < cLine := Nat.lt_of_le_of_lt (Nat.add_le_add_left (by decide : 9 ≤ 64) _) hr.units
/-- the owned dict becomes data -/
theorem ds_freezeN (i : Nat) (hi : ρ[i]? = some (.val (.ref c))) (ho : O c = some (.dicN X.w c (kd.map fun q => (q.1, .dat q.2)))) (h : DS T X CE body (ρ.set i (.dat (.dicN X.w kd))) (cut O c) E) : DS T X CE body ρ O E := .mk fun σ B H hE hA Dn W tk l => by
  obtain ⟨_, u, hu, ok⟩ := hA.own c _ ho
  cases u <;> try exact ok.elim
  rename_i φ
  obtain ⟨kx', eφ, ok⟩ := (show ∃ kx, HO.ext φ = ndO X.w c kx ∧ NsOk X.K B kx _ from ok)
  rw [eφ] at hu
  refine wss_lock hu True.intro fun od => ?_
  have po := Post.lock (od := od) hA ho hu
  obtain ⟨o, e1, e2⟩ := hE.get hi
  have hE' := (hE.mono po.bb).set (o := some (.ref c)) (s := .dat (.dicN X.w kd)) (show SlotOk X.K (upd B c (.frz od (ndO X.w c kx'))) (some (.ref c)) (.dat (.dicN X.w kd)) from .dicN upd_same (RpNs.mono po.bb (NsOk.all ok))) i
  have eo : o = some (.ref c) := by
    cases o with
    | none => exact e2.elim
    | some v => exact congrArg some e2
  subst eo
  have es : σ.set i (some (.ref c)) = σ := set_same e1
  rw [es] at hE'
  exact h σ _ _ hE' po.at' Dn W tk (l.step po)
/-- x = {}, owned -/
theorem d1_ownN0 (i : Nat) {dp : Pos} (h : ∀ p, O p = none → E.nx (ρ.set i (.val (.ref p))) (put O p (.dicN X.w p []))) (hN : X.N.Nodup) (hi : X.N[i]? = some n := by rfl) (hx : Loc X.env.scope n := by first | exact Or.inl rfl | exact Or.inr rfl)
    (hs : swapsWith (.Dict [] [] dp) (some (.Name n pos')) pos.line X.env = pure false := by rfl) (hf : X.fn n = true ∨ X.env.scope.names.lookup n = some .local := by first | exact .inl rfl | exact .inr rfl) : D1 T X CE (.Assign [.Name n pos'] (.Dict [] [] dp) pos) ρ O E :=
  .mk fun σ B H hE hA Dn W tk l => ws_of (ps_set hN hi hx pe_nnew hs hf) (fun p hp => by
    have pm := Post.madeO (o := ndO X.w p []) (od := .dicN X.w p []) hA hp (show ∃ kx, ndO X.w p [] = ndO X.w p kx ∧ NsOk X.K B kx [] from ⟨[], rfl, .nil⟩)
    exact l.nx _ _ _ B _ (h p (hA.noO hp)) pm (hE.set (s := .val (.ref p)) (show SlotOk X.K B (some (.ref p)) (.val (.ref p)) from rfl) i))
theorem dv_ownN0 : ∀ {p0 : Pos}, DVX T X CE (.Dict [] [] p0) ρ O (fun s' O' => ∃ p, O p = none ∧ s' = .val (.ref p) ∧ O' = put O p (.dicN X.w p [])) (fun _ _ => False) := fun {p0} σ B H hE hA Q W tk q _ => we_of pe_nnew fun p hp => by
  have pm := Post.madeO (o := ndO X.w p []) (od := .dicN X.w p []) hA hp (show ∃ kx, ndO X.w p [] = ndO X.w p kx ∧ NsOk X.K B kx [] from ⟨[], rfl, .nil⟩)
  exact q _ _ (.ref p) B _ ⟨p, hA.noO hp, rfl, rfl⟩ pm rfl
/-- a[b] of a known dict -/
theorem de_nget {j : Nat} (hr : Room j X.A) (ha : DE T X a ρ O (.dicN X.w kd) O1) (hb : DE T X b ρ O1 kx O2) (hk : keyD kx = some k) (h : getD kd k = some d) (hs : NoSl b := by intro _ _; rfl) : DE T X (.Subscript a b pos) ρ O d O2 :=
  de_of (pe_nget (hu9 hr) pe_we pe_we hs) fun σ B H hE hA Q q => two ha hb hE hA fun v w B' H' p rv rw' => by
    cases rv with
    | dicN hq r =>
      rcases r.getk k with ⟨_, z⟩ | ⟨u, d', h1, h2, h3⟩
      · rw [z] at h
        cases h
      · rw [h] at h2
        cases h2
        exact ⟨_, _, k, u, rfl, .inr ⟨_, p.at'.base _ _ hq⟩, r.ref p.at'.base, rp_keyR p.at'.base rw' hk, h1, q u B' H' p h3⟩
/-- a[b] of an owned one -/
theorem dv_ngetO {j : Nat} (hr : Room j X.A) (ha : DV T X a ρ O (.val (.ref c)) O1) (hb : DE T X b ρ O1 kx O2) (hk : keyD kx = some k) (ho : O2 c = some (.dicN X.w c so)) (h : getD so k = some s) (hs : NoSl b := by intro _ _; rfl) : DV T X (.Subscript a b pos) ρ O s O2 := .mk fun σ B H hE hA Q q => by
  refine we_of (pe_nget (hu9 hr) pe_we pe_we hs) ?_
  refine ha σ B H hE hA _ fun v B1 H1 p1 r1 => ?_
  have ev : v = .ref c := r1
  subst ev
  refine hb σ B1 H1 (hE.mono p1.bb) p1.at' _ fun w B2 H2 p2 r2 => ?_
  obtain ⟨_, u, hu, ok⟩ := p2.at'.own c _ ho
  cases u <;> try exact ok.elim
  rename_i φ
  obtain ⟨kx', eφ, ok⟩ := (show ∃ kx, HO.ext φ = ndO X.w c kx ∧ NsOk X.K B2 kx _ from ok)
  rw [eφ] at hu
  rcases ok.get k with ⟨_, z⟩ | ⟨u, d', h1, h2, h3⟩
  · rw [z] at h
    cases h
  · rw [h] at h2
    cases h2
    exact ⟨c, kx', k, u, rfl, .inl hu, ok.ref p2.at'.base, rp_keyR p2.at'.base r2 hk, h1, q u B2 H2 (p1.trans p2) h3⟩
/-- b in a, b not in a -/
theorem nin_data {neg : Bool} {σ : L2.St} {B H : Hp} {Q : VK} (hb : DE T X b ρ O kx O1) (ha : DE T X a ρ O1 (.dicN X.w kd) O2) (hk : keyD kx = some k) (hE : Env X.K B σ ρ) (hA : At T X.K B O H)
    (q : ∀ B' H', Post T X.K B O H B' O2 H' → Q (.bl (if neg = true then !(getD kd k).isSome else (getD kd k).isSome)) H') : tNIn X neg (WE X b) (WE X a) σ H Q :=
  two hb ha hE hA fun w v B' H' p rw' rv => by
    cases rv with
    | dicN hq r => exact ⟨_, _, k, rfl, .inr ⟨_, p.at'.base _ _ hq⟩, r.ref p.at'.base, rp_keyR p.at'.base rw' hk, by
        rw [r.some k]
        exact q B' H' p⟩
theorem nin_own {neg : Bool} {σ : L2.St} {B H : Hp} {Q : VK} (hb : DE T X b ρ O kx O1) (ha : DV T X a ρ O1 (.val (.ref c)) O2) (ho : O2 c = some (.dicN X.w c so)) (hk : keyD kx = some k) (hE : Env X.K B σ ρ) (hA : At T X.K B O H)
    (q : ∀ B' H', Post T X.K B O H B' O2 H' → Q (.bl (if neg = true then !(getD so k).isSome else (getD so k).isSome)) H') : tNIn X neg (WE X b) (WE X a) σ H Q :=
  hb σ B H hE hA _ fun w B1 H1 p1 r1 => ha σ B1 H1 (hE.mono p1.bb) p1.at' _ fun v B2 H2 p2 r2 => by
    have ev : v = .ref c := r2
    subst ev
    obtain ⟨_, u, hu, ok⟩ := p2.at'.own c _ ho
    cases u <;> try exact ok.elim
    rename_i φ
    obtain ⟨kx', eφ, ok⟩ := (show ∃ kx, HO.ext φ = ndO X.w c kx ∧ NsOk X.K B2 kx _ from ok)
    rw [eφ] at hu
    exact ⟨c, kx', k, rfl, .inl hu, ok.ref p2.at'.base, rp_keyR p2.at'.base (r1.mono p2.bb) hk, by
      rw [ok.some k]
      exact q B2 H2 (p1.trans p2)⟩
theorem de_nin {j : Nat} (hr : Room j X.A) (hb : DE T X b ρ O kx O1) (ha : DE T X a ρ O1 (.dicN X.w kd) O2) (hk : keyD kx = some k) (hm : behindInMarks .In a = false := by rfl) : DE T X (.Compare b [.In] [a] pos) ρ O (.bl (getD kd k).isSome) O2 :=
  de_of (pe_cmp (pc_nin (hu9 hr) pe_we pe_we) hm) fun σ B H hE hA Q q => nin_data hb ha hk hE hA fun B' H' p => q _ B' H' p (.bl _)
theorem de_nnin {j : Nat} (hr : Room j X.A) (hb : DE T X b ρ O kx O1) (ha : DE T X a ρ O1 (.dicN X.w kd) O2) (hk : keyD kx = some k) (hm : behindInMarks .NotIn a = false := by rfl) : DE T X (.Compare b [.NotIn] [a] pos) ρ O (.bl (!(getD kd k).isSome)) O2 :=
  de_of (pe_cmp (pc_nnin (hu9 hr) pe_we pe_we) hm) fun σ B H hE hA Q q => nin_data hb ha hk hE hA fun B' H' p => q _ B' H' p (.bl _)
theorem dt_nin {j : Nat} (hr : Room j X.A) (hb : DE T X b ρ O kx O1) (ha : DE T X a ρ O1 (.dicN X.w kd) O2) (hk : keyD kx = some k) (hm : behindInMarks .In a = false := by rfl) : DT T X (.Compare b [.In] [a] pos) ρ O (getD kd k).isSome O2 :=
  .mk fun σ B H hE hA Q q => wt_of (pt_cmp (pc_nin (hu9 hr) pe_we pe_we) hm) (nin_data hb ha hk hE hA fun B' H' p => ⟨_, rfl, q B' H' p⟩)
theorem dt_nnin {j : Nat} (hr : Room j X.A) (hb : DE T X b ρ O kx O1) (ha : DE T X a ρ O1 (.dicN X.w kd) O2) (hk : keyD kx = some k) (hm : behindInMarks .NotIn a = false := by rfl) : DT T X (.Compare b [.NotIn] [a] pos) ρ O (!(getD kd k).isSome) O2 :=
  .mk fun σ B H hE hA Q q => wt_of (pt_cmp (pc_nnin (hu9 hr) pe_we pe_we) hm) (nin_data hb ha hk hE hA fun B' H' p => ⟨_, rfl, q B' H' p⟩)
theorem de_ninO {j : Nat} (hr : Room j X.A) (hb : DE T X b ρ O kx O1) (ha : DV T X a ρ O1 (.val (.ref c)) O2) (ho : O2 c = some (.dicN X.w c so)) (hk : keyD kx = some k) (hm : behindInMarks .In a = false := by rfl) : DE T X (.Compare b [.In] [a] pos) ρ O (.bl (getD so k).isSome) O2 :=
  de_of (pe_cmp (pc_nin (hu9 hr) pe_we pe_we) hm) fun σ B H hE hA Q q => nin_own hb ha ho hk hE hA fun B' H' p => q _ B' H' p (.bl _)
theorem de_nninO {j : Nat} (hr : Room j X.A) (hb : DE T X b ρ O kx O1) (ha : DV T X a ρ O1 (.val (.ref c)) O2) (ho : O2 c = some (.dicN X.w c so)) (hk : keyD kx = some k) (hm : behindInMarks .NotIn a = false := by rfl) : DE T X (.Compare b [.NotIn] [a] pos) ρ O (.bl (!(getD so k).isSome)) O2 :=
  de_of (pe_cmp (pc_nnin (hu9 hr) pe_we pe_we) hm) fun σ B H hE hA Q q => nin_own hb ha ho hk hE hA fun B' H' p => q _ B' H' p (.bl _)
theorem dt_ninO {j : Nat} (hr : Room j X.A) (hb : DE T X b ρ O kx O1) (ha : DV T X a ρ O1 (.val (.ref c)) O2) (ho : O2 c = some (.dicN X.w c so)) (hk : keyD kx = some k) (hm : behindInMarks .In a = false := by rfl) : DT T X (.Compare b [.In] [a] pos) ρ O (getD so k).isSome O2 :=
  .mk fun σ B H hE hA Q q => wt_of (pt_cmp (pc_nin (hu9 hr) pe_we pe_we) hm) (nin_own hb ha ho hk hE hA fun B' H' p => ⟨_, rfl, q B' H' p⟩)
theorem dt_nninO {j : Nat} (hr : Room j X.A) (hb : DE T X b ρ O kx O1) (ha : DV T X a ρ O1 (.val (.ref c)) O2) (ho : O2 c = some (.dicN X.w c so)) (hk : keyD kx = some k) (hm : behindInMarks .NotIn a = false := by rfl) : DT T X (.Compare b [.NotIn] [a] pos) ρ O (!(getD so k).isSome) O2 :=
  .mk fun σ B H hE hA Q q => wt_of (pt_cmp (pc_nnin (hu9 hr) pe_we pe_we) hm) (nin_own hb ha ho hk hE hA fun B' H' p => ⟨_, rfl, q B' H' p⟩)
/-- a[b] = e, a an owned dict -/
theorem d1_nput {j : Nat} (hr : Room j X.A) (he : DV T X e ρ O s O1) (ha : DV T X a ρ O1 (.val (.ref c)) O2) (hb : DE T X b ρ O2 kd0 O3) (hk : keyD kd0 = some k) (ho : O3 c = some (.dicN X.w c so)) (hl : so.length < 100000) (h : E.nx ρ (put O3 c (.dicN X.w c (putD so kd0 k s))))
    (hs : swapsWith e (some (.Subscript a b spos)) pos.line X.env = pure false := by rfl) : D1 T X CE (.Assign [.Subscript a b spos] e pos) ρ O E := .mk fun σ B H hE hA Dn W tk l => by
  refine ws_of (ps_nput (hu9 hr) pe_we pe_we pe_we hs) ?_
  refine he σ B H hE hA _ fun w B1 H1 p1 r1 => ?_
  refine ha σ B1 H1 (hE.mono p1.bb) p1.at' _ fun v B2 H2 p2 r2 => ?_
  have ev : v = .ref c := r2
  subst ev
  refine hb σ B2 H2 ((hE.mono p1.bb).mono p2.bb) p2.at' _ fun y B3 H3 p3 r3 => ?_
  obtain ⟨_, u, hu, ok0⟩ := p3.at'.own c _ ho
  cases u <;> try exact ok0.elim
  rename_i φ
  obtain ⟨kx', eφ, ok⟩ := (show ∃ kx, HO.ext φ = ndO X.w c kx ∧ NsOk X.K B3 kx _ from ok0)
  rw [eφ] at hu
  have po := Post.put (u := ndO X.w c (putN kx' y k w)) (od := .dicN X.w c (putD so kd0 k s)) p3.at' ho (show ∃ kx, ndO X.w c (putN kx' y k w) = ndO X.w c kx ∧ NsOk X.K B3 kx (putD so kd0 k s) from ⟨_, rfl, ok.put r3 hk ((r1.mono p2.bb).mono p3.bb)⟩)
  exact ⟨c, kx', k, rfl, hu, ok.ref p3.at'.base, rp_keyR p3.at'.base r3 hk, by rw [ok.length]; exact Nat.lt_of_lt_of_le hl (by decide), l.nx _ _ _ B3 _ h (((p1.trans p2).trans p3).trans po) (((hE.mono p1.bb).mono p2.bb).mono p3.bb)⟩
/-- a.setdefault(b, f) -/
theorem dvx_nsetd {j : Nat} {R1 : Slot → OH → Prop} {R : Slot → OH → Prop} (hr : Room j X.A) (ha : DV T X a ρ O (.val (.ref c)) O1) (hoa : ∃ so0, O1 c = some (.dicN X.w c so0)) (hb : DE T X b ρ O1 kd0 O2) (hk : keyD kd0 = some k) (hf : DVX T X CE f ρ O2 R1 (fun _ _ => False))
    (h : ∀ s O3, R1 s O3 → ∃ so, O3 c = some (.dicN X.w c so) ∧ so.length < 100000 ∧ (∀ s0, getD so k = some s0 → R s0 O3) ∧ (getD so k = none → R s (put O3 c (.dicN X.w c (putD so kd0 k s)))))
    (m : M2 X a "setdefault" apos b f cpos := by exact ⟨rfl, rfl, rfl, rfl⟩) : DVX T X CE (.Call (.Attribute a "setdefault" apos) [b, f] [] cpos) ρ O R (fun _ _ => False) := fun σ B H hE hA Q W tk q _ => by
  refine we_of (pe_nsetd (hu9 hr) pe_we pe_we pe_we m) ?_
  refine ha σ B H hE hA _ fun v B1 H1 p1 r1 => ?_
  have ev : v = .ref c := r1
  subst ev
  obtain ⟨so0, hoa⟩ := hoa
  obtain ⟨_, u0, hu0, ok0⟩ := p1.at'.own c _ hoa
  cases u0 <;> try exact ok0.elim
  rename_i φ0
  obtain ⟨kx0, eφ0, ok0⟩ := (show ∃ kx, HO.ext φ0 = ndO X.w c kx ∧ NsOk X.K B1 kx _ from ok0)
  rw [eφ0] at hu0
  refine ⟨c, rfl, ⟨kx0, hu0⟩, ?_⟩
  refine hb σ B1 H1 (hE.mono p1.bb) p1.at' _ fun y B2 H2 p2 r2 => ?_
  refine hf σ B2 H2 ((hE.mono p1.bb).mono p2.bb) p2.at' _ (fun _ _ _ _ => False) takes0 (fun s O3 z B3 H3 h1 p3 r3 => ?_) (fun _ _ _ _ _ _ _ h => h.elim)
  obtain ⟨so, ho, hl, g1, g2⟩ := h s O3 h1
  obtain ⟨_, u, hu, ok⟩ := p3.at'.own c _ ho
  cases u <;> try exact ok.elim
  rename_i φ
  obtain ⟨kx', eφ, ok⟩ := (show ∃ kx, HO.ext φ = ndO X.w c kx ∧ NsOk X.K B3 kx _ from ok)
  rw [eφ] at hu
  have r2' := r2.mono p3.bb
  refine ⟨kx', k, hu, ok.ref p3.at'.base, rp_keyR p3.at'.base r2' hk, by rw [ok.length]; exact Nat.lt_of_lt_of_le hl (by decide), fun v hv => ?_, fun hv => ?_⟩
  · rcases ok.get k with ⟨z1, _⟩ | ⟨v', s', z1, z2, z3⟩
    · rw [z1] at hv
      cases hv
    · rw [z1] at hv
      cases hv
      exact q s' O3 _ B3 H3 (g1 s' z2) ((p1.trans p2).trans p3) z3
  · rcases ok.get k with ⟨_, z2⟩ | ⟨v', s', z1, _, _⟩
    · have po := Post.put (u := ndO X.w c (putN kx' y k z)) (od := .dicN X.w c (putD so kd0 k s)) p3.at' ho (show ∃ kx, ndO X.w c (putN kx' y k z) = ndO X.w c kx ∧ NsOk X.K B3 kx (putD so kd0 k s) from ⟨_, rfl, ok.put r2' hk r3⟩)
      exact q s _ z B3 _ (g2 z2) (((p1.trans p2).trans p3).trans po) r3
    · rw [z1] at hv
      cases hv
theorem call_len_N : CallR X (.builtin "len") (fun xs H Q => ∃ (p : Addr) (kx : Kx), xs = [.ref p] ∧ Rd H p (ndO X.w p kx) ∧ RefK X.K H kx ∧ Q (.int (kx.length : Nat)) H) := by
  intro pins s σ H xs us Q I r h
  obtain ⟨p, kx, rfl, hp, rk, q⟩ := h
  obtain ⟨u, rfl, rx⟩ := vals1 r
  obtain rfl : u = .ref p := rx
  obtain ⟨z, hd, ys, rel, dd⟩ := nd_dict I hp rk
  have hl : kx.length = ys.length := Paired.length rel
  refine call_len_dictH hd dd (by rw [← hl]; rw [sizeLine_eq] at z; omega) ?_
  rw [← hl]
  exact ⟨.int ((kx.length : Nat) : Int), H, I.tok _, ⟨_, rfl⟩, q⟩
theorem de_lenNO (hm : X.mg "len" = none) (ha : DV T X e ρ O (.val (.ref c)) O1) (ho : O1 c = some (.dicN X.w c so)) (hg : Gl X "len" := by rfl) (he : starEach [e] X.env = (false, eval e X.env) :: starEach [] X.env := by rfl) : DE T X (.Call (.Name "len" p0) [e] [] pos) ρ O (.int so.length) O1 :=
  de_B call_len_N (da_one ha he) (fun vs B H hA hv Q q => by
    obtain ⟨v, rfl, r⟩ := args1 hv
    have ev : v = .ref c := r
    subst ev
    obtain ⟨_, u, hu, ok⟩ := hA.own c _ ho
    cases u <;> try exact ok.elim
    rename_i φ
    obtain ⟨kx', eφ, ok⟩ := (show ∃ kx, HO.ext φ = ndO X.w c kx ∧ NsOk X.K B kx _ from ok)
    rw [eφ] at hu
    exact ⟨c, kx', rfl, .inl hu, ok.ref hA.base, by
      rw [ok.length]
      exact q _ B H (Post.refl hA) (.int _)⟩) hm boot_len hg (by decide) (by decide) he
end
end Dz

/-! {k: v for ..}, for dicts of any kind -/
namespace Dz
open PySem PySem.Spec PyProof.Rows L2 GxR
/-- a kind of dict: the empty one at an address; d[y] = z by values -/
structure DKd (X : Cx) where
  e0 : Addr → HO
  put : Addr → V → V → Hp → (Hp → Prop) → Prop
  born : ∀ (H : Hp) (h : Heap), sysModules < h.objs.size → ObjOk X.prog X.w H (h.push { cls := .type "dict", data := .dict #[] }) h.objs.size (e0 h.objs.size)
  put_ok : ∀ (Y : Cx), Y.prog = X.prog → Y.w = X.w → Y.K = X.K → Y.A = X.A → ∀ (pins : List (Addr × Obj)) (σ : L2.St) (H : Hp) (s : Shared) (D : Addr) (y z : V) (u r : Value) (Q : Hp → Prop) (E : Value → Shared → Prop), L2.Inv Y pins σ H s → RelV y u → RelV z r → put D y z H Q →
    wpAny (model X.prog X.w) X.A (dictSet D u r) (fun _ s' => ∃ H', L2.Inv Y pins σ H' s' ∧ Q H') E s
section
variable {X : Cx}
/-- what the turns must do: nx is what a turn is to reach -/
def turnX (K : DKd X) (g : TG) (tt : TT) (tk tv : TE) (vs : List Nat) (D : Addr) (σ : L2.St) (nx : Hp → Prop) (x : V) (H : Hp) : Prop :=
  g x (wipe σ vs) H fun σ2 H2 => wipe σ2 vs = wipe σ vs ∧ tt σ2 H2 fun b H3 => (b = true → tk σ2 H3 fun y H4 => tv σ2 H4 fun z H5 => K.put D y z H5 nx) ∧ (b = false → nx H3)
def tDx (K : DKd X) (wi : TI) (g : TG) (tt : TT) (tk tv : TE) (vs : List Nat) : TE := fun σ H Q => wi σ H fun J H1 => ∀ D, H1 D = none → ∃ W : Nat → Nat → Hp → Prop, (∃ m, W 0 m (upd H1 D (K.e0 D))) ∧ ∀ i m H, W i m H →
  (J.stop i H ∧ Q (.ref D) H) ∨ (J.go i H ∧ ∃ nx : Hp → Prop, (∀ H', nx H' → ∃ m', m' < m ∧ W (i + 1) m' H') ∧ ∀ x H', J.yld i H x H' → turnX K g tt tk tv vs D σ nx x H')
theorem pe_dx (K : DKd X) {kx vx tg iter : Expr} {ifs : List Expr} {scope : Scope} {own : List (Str × Nat)} {pos : Pos} {wi : TI} {g : TG} {tt : TT} {tk tv : TE} (calm : X.calm = true) (nod : X.N.Nodup) (hi : PI X tg iter wi) (ok : BlkOk X.N X.env.scope scope own)
    (hg : PGb X scope tg g) (ht : ∀ (s : Shared) (H : Hp) (C : Addr) (cl : List (Str × Addr)) (fp : List Addr), PTs (blkX X scope s H C cl fp) ifs tt)
    (hk : ∀ (s : Shared) (H : Hp) (C : Addr) (cl : List (Str × Addr)) (fp : List Addr), PE (blkX X scope s H C cl fp) kx tk) (hv : ∀ (s : Shared) (H : Hp) (C : Addr) (cl : List (Str × Addr)) (fp : List Addr), PE (blkX X scope s H C cl fp) vx tv)
    (plain : ∀ x, foldedSetIterable iter X.env x = pure x) : PE X (.DictComp kx vx [⟨tg, iter, ifs, 0⟩] scope pos) (tDx K wi g tt tk tv (own.map (·.2))) := by
  refine ⟨fun pins s σ H Q I h => ?_⟩
  rw [arm_eval_DictComp]
  have cells : ∀ y ∈ scope.names, y.2 = .free → ∃ c, X.env.cells.lookup y.1 = some c := fun y hy e => (ok.free y hy e).elim (fun z => I.ok.has _ (.inl z)) fun z => I.ok.has _ (.inr z)
  refine wpAny_comprehension_free (use := none) rfl plain (closure_ok cells) ok.kind (fun y hy e => by rw [ok.uniq y hy, e]) ?_
  refine thn (hi.run pins s σ H _ I h) fun _ sa ha => thn ha fun _ sb hb => ?_
  obtain ⟨it, fp, tn, J, Hb, e, Ib, tr, st, free, body⟩ := hb
  subst e
  refine wpAny_newObj_type (newEnv_comp ?_)
  -- the new dict
  obtain ⟨D, eD⟩ : ∃ D, D = sb.heap.objs.size := ⟨_, rfl⟩
  have bare : Hb D = none := Ib.hok.fresh (Nat.le_of_eq eD.symm)
  obtain ⟨W, ⟨m0, w0⟩, turns⟩ := body D bare
  have grow : ∀ b o, sb.heap.get? b = some o → (sb.heap.push { cls := .type "dict", data := .dict #[] }).get? b = some o := fun b o z => Heap.get?_push_of_some _ z
  have Ic0 : Inv X pins σ (upd Hb D (K.e0 D)) { sb with heap := sb.heap.push { cls := .type "dict", data := .dict #[] } } := Ib.laid (t' := sb.toks) grow (Nat.le_of_eq eD.symm) (by rw [eD]; exact K.born _ _ Ib.big)
  obtain ⟨sc, esc⟩ : ∃ sc, sc = ({ sb with heap := sb.heap.push { cls := .type "dict", data := .dict #[] } } : Shared) := ⟨_, rfl⟩
  have hsc : sc.heap = sb.heap.push { cls := .type "dict", data := .dict #[] } := by rw [esc]
  obtain ⟨Hc, eH⟩ : ∃ Hc, Hc = upd Hb D (K.e0 D) := ⟨_, rfl⟩
  rw [← eH] at w0
  have Ic : Inv X pins σ Hc sc := by rw [esc, eH]; exact Ic0
  have low : ∀ b ∈ fp, b < sb.heap.objs.size := fun b z => by
    obtain ⟨o, z2, _⟩ := tr.obj _ _ st b z
    exact Heap.lt_size z2
  have freeC : ∀ b ∈ fp, FpOk X pins Hc b ∧ b < sc.heap.objs.size := fun b z => by
    refine ⟨⟨?_, (free b z).2⟩, by rw [hsc, Heap.size_push]; exact Nat.lt_succ_of_lt (low b z)⟩
    rw [eH, upd_ne (by rw [eD]; exact Nat.ne_of_lt (low b z))]
    exact (free b z).1
  have stC : tn 0 sc.heap := tr.keep _ _ _ st fun b _ o z => by rw [hsc]; exact grow b o z
  rw [← eD, ← esc]
  -- the block
  have Id := block_start Ic ok nod freeC
  have stD : tn 0 (pushCells (sc.heap.push { cls := .type "dict", data := .dict #[] }) scope.names) := tr.keep _ _ _ stC fun b _ o z => pushCells_keeps _ _ _ _ (Heap.get?_push_of_some _ z)
  let clo := cellsFrom (sc.heap.objs.size + 1) scope.names (cloFrom X.env.cells scope.names [])
  let Y : Cx := blkX X scope sc Hc sc.heap.objs.size clo fp
  have pg := hg sc Hc sc.heap.objs.size clo fp
  have pt := ht sc Hc sc.heap.objs.size clo fp
  have pk := hk sc Hc sc.heap.objs.size clo fp
  have pv := hv sc Hc sc.heap.objs.size clo fp
  have clear : ∀ {τ : L2.St} {G : Hp} {z : Shared}, Inv Y [] τ G z → (∀ b ∈ fp, G b = none) → ∀ b ∈ fp, FpOk Y [] G b := fun {τ G z} Iz n b hb =>
    ⟨n b hb, (Iz.ok.exf b hb).1, Iz.ok.exfs b hb, .inl hb, fun x c e => (Iz.ok.exf b hb).2 x c e, fun p hp => nomatch (show p ∈ ([] : List (Addr × Obj)) from hp)⟩
  have round : codeAny (model X.prog X.w) X.A (.compLoop (.DictComp kx vx [⟨tg, iter, ifs, 0⟩] scope pos) 0 (.ref it) (.ref D) Y.env) (compPost (model X.prog X.w) X.A X.xe none (EP X pins σ Q) (.ref D) sc.heap.objs.size) { sc with heap := pushCells (sc.heap.push { cls := .type "dict", data := .dict #[] }) scope.names } := by
    refine compLoop_anyD (fun m z => ∃ i G, Inv Y [] (wipe σ (own.map (·.2))) G z ∧ tn i z.heap ∧ (∀ b ∈ fp, G b = none) ∧ W i m G) ?_ m0 ⟨0, Hc, Id, stD, fun b z => (freeC b z).1.1, w0⟩
    rintro m z1 ⟨i, G1, I1, st1, n1, w1⟩
    rcases turns i m G1 w1 with ⟨ends, qd⟩ | ⟨goes, nx, sinks, each⟩
    · refine thnF (tr.done Y rfl rfl rfl calm i [] z1 _ G1 (fun _ _ => False) I1 (clear I1 n1) st1 ends) fun r z2 ⟨er, I2⟩ => ?_
      subst er
      have Iout : Inv X pins σ G1 z2 := Ic.call' (ch := fp) I2.os I2.base I2.hok I2.bare fun b hb => ⟨(freeC b hb).1.2.2.2.1, (freeC b hb).1.2.1, (freeC b hb).1.2.2.2.2.1, (freeC b hb).1.2.2.2.2.2⟩
      obtain ⟨mm, ns, _⟩ := I2.loc
      have fo := Ic.fpOk (b := sc.heap.objs.size) (Nat.le_refl _) (show Hc sc.heap.objs.size = none from Ic.hok.fresh (Nat.le_refl _))
      refine ⟨mm, ns, fun h2 sb2 => ⟨.ref D, G1, Iout.turned (t' := z2.toks) (fun b o ne e => (sb2.2 b ne).trans e) I2.free fo.2.1 fo.2.2.2.1 fo.2.2.2.2.1 fo.2.2.2.2.2, rfl, qd⟩⟩
    · refine thnF (tr.item Y rfl rfl rfl calm i [] z1 _ G1 (fun _ _ => False) I1 (clear I1 n1) st1 goes) fun r z2 ⟨u, er, go2⟩ => ?_
      subst er
      refine thnF go2 fun _ z3 ⟨x, G3, I3, r3, y3, st3, n3⟩ => ?_
      have I3p := I3.pinned (clear I3 n3) (tr.obj _ _ st3)
      refine thnF (pg.run _ z3 _ G3 x u _ I3p r3 (each x G3 y3)) fun _ z4 ⟨σ4, G4, I4, wp4, q4⟩ => ?_
      refine thnF (pt.run _ z4 σ4 G4 _ I4 q4) fun b z5 ⟨G5, I5, q5⟩ => ?_
      have back : ∀ {z : Shared} {G : Hp}, Inv Y ([] ++ pinsAt fp z3.heap) σ4 G z → nx G → ∃ k, k < m ∧ ∃ i G, Inv Y [] (wipe σ (own.map (·.2))) G z ∧ tn i z.heap ∧ (∀ b ∈ fp, G b = none) ∧ W i k G := fun {z G} Iz nz => by
        obtain ⟨k, less, wk⟩ := sinks G nz
        have stays : ∀ b ∈ fp, ∀ o, z3.heap.get? b = some o → z.heap.get? b = some o ∧ G b = none := fun b hb o e => by
          have p := Iz.pin (b, o) (List.mem_append_right _ (List.mem_append_right _ (mem_pinsAt hb e)))
          exact ⟨p.1, p.2.1⟩
        refine ⟨k, less, i + 1, G, (Iz.unpinned (pins := [])).weak (by rw [← wp4, wipe_length]) (fun j v e => ?_), tr.keep _ _ _ st3 fun b hb o e => (stays b hb o e).1, fun b hb => ?_, wk⟩
        · rw [← wp4] at e
          exact (wipe_some e).1
        · obtain ⟨o, e, _⟩ := tr.obj _ _ st3 b hb
          exact (stays b hb o e).2
      cases b with
      | false => exact back I5 (q5.2 rfl)
      | true =>
        rw [if_pos rfl]
        refine thnF (pk.run _ z5 σ4 G5 _ I5 (q5.1 rfl)) fun _ z6 ⟨yk, G6, I6, r6, q6⟩ => ?_
        refine thnF (pv.run _ z6 σ4 G6 _ I6 q6) fun _ z7 ⟨yv, G7, I7, r7, q7⟩ => ?_
        exact thnF (K.put_ok Y rfl rfl rfl rfl _ _ _ _ _ _ _ _ _ _ _ I7 r6 r7 q7) fun _ z8 ⟨G8, I8, q8⟩ => back I8 q8
  exact codeAny_compStart_dict round (tr.self X.A 0 _ _ _ stD round)
def dkN (hu : X.A.units + 9 < cLine) : DKd X where
  e0 := fun D => ndO X.w D []
  put := fun D y z H Q => ∃ kx k, H D = some (ndO X.w D kx) ∧ RefK X.K H kx ∧ KeyR X.K H y k ∧ kx.length < sizeLine ∧ Q (upd H D (ndO X.w D (putN kx y k z)))
  born := fun H h b => nd_empty h b
  put_ok := fun Y e1 e2 e3 e4 pins σ H s D y z u r Q E I ry rz h => by
    obtain ⟨kx, k, hD, rk, kk, hl, q⟩ := h
    have q2 := n_dictSet (X := Y) (A := X.A) (E := E) (Q := fun _ s' => ∃ H', Inv Y pins σ H' s' ∧ Q H') hu I (by rw [e2]; exact hD) (by rw [e3]; exact rk) (by rw [e3]; exact kk) hl ry rz fun s' I' => ⟨_, I', by rw [e2]; exact q⟩
    rw [e1, e2] at q2
    exact q2
def dkI : DKd X where
  e0 := fun D => .dK []
  put := fun D y z H Q => ∃ kvs k, y = kV k ∧ H D = some (.dK kvs) ∧ kvs.length < sizeLine ∧ Q (upd H D (.dK (putK kvs k z)))
  born := fun H h b => dk_empty h b
  put_ok := fun Y e1 e2 e3 e4 pins σ H s D y z u r Q E I ry rz h => by
    obtain ⟨kvs, k, ey, hD, hl, q⟩ := h
    subst ey
    obtain ⟨hz, hd, vs, rel, dd⟩ := dk_of I.hok hD
    have hzv : vs.length ≤ sizeLine := by rw [← rel.length]; exact hz
    have hle : (putK kvs k z).length ≤ sizeLine := by have := length_putK kvs k z; omega
    have q2 : wpAny (model Y.prog Y.w) X.A (dictSet D u r) (fun _ s' => ∃ H', Inv Y pins σ H' s' ∧ Q H') E s := wpAny_dictSet_pairs (hsz := hzv) (kV_is ry) dd fun h' dd' hs => by
      obtain ⟨o', es', ep', ho', _⟩ := id dd'
      exact ⟨_, d_write I (by rw [hD]; exact True.intro) hs ⟨o', ho'⟩ (dk_new hle hd (rel.put k rz) dd'), q⟩
    rw [e1, e2] at q2
    exact q2
/-- .. and what it made is locked -/
def tLk (t : TE) : TE := fun σ H Q => t σ H fun v H' => ∃ d u, v = .ref d ∧ H' d = some u ∧ Mut (some u) ∧ ∀ od, Q v (upd H' d (.frz od u))
theorem pe_lk {e : Expr} {t : TE} (h : PE X e t) : PE X e (tLk t) := ⟨fun pins s σ H Q I hw => thn (h.run pins s σ H _ I hw) fun v s1 ⟨x, H1, I1, r, d, u, ex, hd, mu, q⟩ => by
  obtain ⟨od, I2⟩ := I1.lock hd mu
  exact ⟨x, _, I2, r, q od⟩⟩
end
/-- the dict so far -/
def DcI (T : List Addr) (X : Cx) (B : Hp) (O : OH) (H : Hp) (a : Addr) (acc : List (D × D)) (H' : Hp) : Prop :=
  ∃ B' kx, Post T X.K B O H B' O H' ∧ B' a = none ∧ O a = none ∧ H' a = some (ndO X.w a kx) ∧ RpNs X.K B' kx acc
def DcK (T : List Addr) (X : Cx) (B : Hp) (O : OH) (H : Hp) (a : Addr) (acc : List (Key × D)) (H' : Hp) : Prop :=
  ∃ B' kx, Post T X.K B O H B' O H' ∧ B' a = none ∧ O a = none ∧ H' a = some (.dK kx) ∧ RpKs X.K B' kx acc
/-- something new that is neither owned nor frozen: it is locked -/
theorem Post.iceL {T : List Addr} {K : PySem.W.Frag} {B B1 : Hp} {O O1 : OH} {H H1 : Hp} {a : Addr} {u : HO} {od : Obj} (hA : At T K B O H) (n : H a = none) (p : Post T K B O H B1 O1 H1) (b1 : B1 a = none) (o1 : O1 a = none) : Post T K B O H (upd B1 a (.frz od u)) O1 (upd H1 a (.frz od u)) := by
  have p1 := Post.over (o := .frz od u) hA n p b1 o1
  exact Post.ice hA n p1 b1 o1 upd_same
theorem RpNs.snoc {K : PySem.W.Frag} {B : Hp} : ∀ {kx ky : Kx} {ss st : List (D × D)}, RpNs K B kx ss → RpNs K B ky st → RpNs K B (kx ++ ky) (ss ++ st)
  | _, _, _, _, .nil, s => s
  | _, _, _, _, .cons h n g r, s => .cons h n g (r.snoc s)
theorem RpKs.snoc {K : PySem.W.Frag} {B : Hp} : ∀ {kx ky : List (Key × V)} {ss st : List (Key × D)}, RpKs K B kx ss → RpKs K B ky st → RpKs K B (kx ++ ky) (ss ++ st)
  | _, _, _, _, .nil, s => s
  | _, _, _, _, .cons h r, s => .cons h (r.snoc s)
theorem getD_fresh {α : Type} {k : NestedKey} : ∀ {ss : List (D × α)}, (∀ p ∈ ss, keyD p.1 ≠ some k) → getD ss k = none
  | [], _ => rfl
  | p :: ss, h => by
    rw [getD_neg (h p List.mem_cons_self)]
    exact getD_fresh fun q hq => h q (List.mem_cons_of_mem _ hq)
theorem valV_fresh {k : Key} : ∀ {ss : List (Key × V)}, (∀ p ∈ ss, p.1 ≠ k) → valV ss k = none
  | [], _ => rfl
  | p :: ss, h => by
    rw [valV_neg (h p List.mem_cons_self)]
    exact valV_fresh fun q hq => h q (List.mem_cons_of_mem _ hq)
section
variable {T : List Addr} {X : Cx} {CE : Addr} {scope : Scope} {ρ : List Slot} {O O1 O2 : OH} {tg iter kxe vxe : Expr} {ifs : List Expr} {pos : Pos} {ds : List D} {E : DEn} {g : TG} {is : List Nat} {f : D → Option (List D)} {own : List (Str × Nat)} {F : List D → Option (D × D)} {G : List D → Option (Key × D)}
/-- {k: v for ..}, the keys tuples, no two alike -/
theorem de_dcN {j : Nat} (hr : Room j X.A) (hsrc : Src T X tg iter ρ O ds O1) (hg : PGb X scope tg g) (ht : Tg X.K g is f) (his : ∀ i ∈ is, i ∈ own.map (·.2)) (hf : ∀ d ∈ ds, ∃ cs, f d = some cs) (hl : ds.length ≤ 100000)
    (hs : ∀ d ∈ ds, ∀ cs, f d = some cs →
      (∃ p, F cs = some p ∧ (keyD p.1).isSome = true ∧ DIfs T X scope ifs (setAll (wipS ρ (own.map (·.2))) is (cs.map .dat)) O1 true O1 ∧ DEb T X scope kxe (setAll (wipS ρ (own.map (·.2))) is (cs.map .dat)) O1 p.1 O1 ∧ DEb T X scope vxe (setAll (wipS ρ (own.map (·.2))) is (cs.map .dat)) O1 p.2 O1) ∨
      (F cs = none ∧ DIfs T X scope ifs (setAll (wipS ρ (own.map (·.2))) is (cs.map .dat)) O1 false O1))
    (hd : ((ds.filterMap fun d => (f d).bind F).map fun p => keyD p.1).Nodup)
    (hN : X.N.Nodup) (ok : BlkOk X.N X.env.scope scope own) (hc : X.calm = true := by rfl) (hfold : ∀ x, foldedSetIterable iter X.env x = pure x := by intro _; rfl) :
    DE T X (.DictComp kxe vxe [⟨tg, iter, ifs, 0⟩] scope pos) ρ O (.dicN X.w (ds.filterMap fun d => (f d).bind F)) O1 :=
  de_of (pe_lk (pe_dx (dkN (hu9 hr)) hc hN pi_wi ok hg ptsb peb peb hfold)) fun σ B H hE hA Q q => hsrc.run σ B H hE hA _ fun J B1 H1 p1 wk => fun a na => by
    have hA1 := p1.at'
    have o1 : O1 a = none := hA1.noO na
    let P := fun j => (ds.take j).filterMap fun d => (f d).bind F
    refine ⟨fun j m H' => m = ds.length - j ∧ j ≤ ds.length ∧ DcI T X B1 O1 H1 a (P j) H', ⟨ds.length, by simp, Nat.zero_le _, B1, [], Post.over hA1 na (Post.refl hA1) (hA1.noB na) o1, hA1.noB na, o1, upd_same, .nil⟩, ?_⟩
    rintro j m H' ⟨rfl, hj, hI⟩
    have hI0 := hI
    obtain ⟨B', kx, h2, h3, h4, h5, h6⟩ := hI
    by_cases hlt : j < ds.length
    · refine .inr ⟨wk.go B' O1 H' j h2.bb h2.at' hlt, DcI T X B1 O1 H1 a (P (j + 1)), fun H2 h => ⟨ds.length - (j + 1), by omega, rfl, hlt, h⟩, fun x H2 hy => ?_⟩
      obtain ⟨B2, d, hd1, pm, rd⟩ := wk.yld B' O1 H' j x H2 h2.bb h2.at' hlt hy
      have hdm := List.mem_of_getElem? hd1
      obtain ⟨cs, hcs⟩ := hf d hdm
      refine ht.run T B2 O1 H2 _ x d cs _ pm.at' rd hcs fun vs rv => ?_
      have ha : H' a ≠ none := by rw [h5]; exact fun z => by cases z
      have k1 : B2 a = none := by rw [pm.new a ha h4]; exact h3
      have k3 : H2 a = some (ndO X.w a kx) := pm.fr a _ h5 h4 (hA1.newT na)
      refine ⟨wipe_fold his |>.trans (wipe_wipe fun _ h => h), ?_⟩
      have hE2 : Env X.K B2 (List.foldl (fun σ (p : Nat × V) => σ.set p.1 (some p.2)) (wipe σ (own.map (·.2))) (is.zip vs)) (setAll (wipS ρ (own.map (·.2))) is (cs.map .dat)) := Env.setAll is (((((hE.mono p1.bb).mono h2.bb).mono pm.bb)).wipes _) (Args.of rv)
      generalize List.foldl (fun σ (p : Nat × V) => σ.set p.1 (some p.2)) (wipe σ (own.map (·.2))) (is.zip vs) = σ2 at hE2 ⊢
      have ek : ds.take (j + 1) = ds.take j ++ [d] := by rw [List.take_add_one, hd1]; rfl
      rcases hs d hdm cs hcs with ⟨p, g1, gk, g2, g3, g4⟩ | ⟨g1, g2⟩
      · refine g2 σ2 B2 H2 hE2 pm.at' _ fun B3 H3 p3 => ⟨fun _ => ?_, fun z => by cases z⟩
        have ha2 : H2 a ≠ none := by rw [k3]; exact fun z => by cases z
        have m1 : B3 a = none := by rw [p3.new a ha2 o1]; exact k1
        have m3 : H3 a = some (ndO X.w a kx) := p3.fr a _ k3 o1 (hA1.newT na)
        intro s0 H0 C cl fp
        refine g3 s0 H0 C cl fp σ2 B3 H3 (hE2.mono p3.bb) p3.at' _ fun y B4 H4 p4 r4 => ?_
        have ha3 : H3 a ≠ none := by rw [m3]; exact fun z => by cases z
        have n1 : B4 a = none := by rw [p4.new a ha3 o1]; exact m1
        have n3 : H4 a = some (ndO X.w a kx) := p4.fr a _ m3 o1 (hA1.newT na)
        intro s0 H0 C cl fp
        refine g4 s0 H0 C cl fp σ2 B4 H4 ((hE2.mono p3.bb).mono p4.bb) p4.at' _ fun z B5 H5 p5 r5 => ?_
        have ha4 : H4 a ≠ none := by rw [n3]; exact fun z => by cases z
        have l1 : B5 a = none := by rw [p5.new a ha4 o1]; exact n1
        have l3 : H5 a = some (ndO X.w a kx) := p5.fr a _ n3 o1 (hA1.newT na)
        obtain ⟨k, hk⟩ := Option.isSome_iff_exists.mp gk
        have r6 := (((h6.mono pm.bb).mono p3.bb).mono p4.bb).mono p5.bb
        have eP : P (j + 1) = P j ++ [p] := by
          show (ds.take (j + 1)).filterMap _ = _
          rw [ek, List.filterMap_append]
          simp [hcs, g1, P]
        have fresh : getD (P j) k = none := getD_fresh fun q hq e => by
          have e1 : ds = ds.take (j + 1) ++ ds.drop (j + 1) := (List.take_append_drop (j + 1) ds).symm
          have e2 : (ds.filterMap fun d => (f d).bind F) = P (j + 1) ++ ((ds.drop (j + 1)).filterMap fun d => (f d).bind F) := by
            show _ = (ds.take (j + 1)).filterMap _ ++ _
            rw [← List.filterMap_append, List.take_append_drop]
          rw [e2, eP, List.map_append, List.map_append] at hd
          have nd1 := (List.nodup_append.mp hd).1
          have nd2 := (List.nodup_append.mp nd1).2.2
          exact nd2 (keyD q.1) (List.mem_map.mpr ⟨q, hq, rfl⟩) (keyD p.1) (by simp) (by rw [e, hk])
        have eN : putN kx y k z = kx ++ [(y, k, z)] := by
          unfold putN
          rw [r6.some k, fresh]
          rfl
        refine ⟨kx, k, l3, r6.ref p5.at'.base, rp_keyR p5.at'.base (r4.mono p5.bb) hk, ?_, ?_⟩
        · rw [r6.length]
          have z1 : (P j).length ≤ (ds.take j).length := List.length_filterMap_le _ _
          have z2 : (ds.take j).length ≤ ds.length := by rw [List.length_take]; omega
          have z3 : (100000 : Nat) < sizeLine := by decide
          omega
        · rw [eN, eP]
          exact ⟨B5, _, Post.over hA1 na ((((h2.trans pm).trans p3).trans p4).trans p5) l1 o1, l1, o1, upd_same, r6.snoc (.cons (r4.mono p5.bb) hk r5 .nil)⟩
      · refine g2 σ2 B2 H2 hE2 pm.at' _ fun B3 H3 p3 => ⟨fun z => (by cases z), fun _ => ?_⟩
        have ha2 : H2 a ≠ none := by rw [k3]; exact fun z => by cases z
        have m1 : B3 a = none := by rw [p3.new a ha2 o1]; exact k1
        have m3 : H3 a = some (ndO X.w a kx) := p3.fr a _ k3 o1 (hA1.newT na)
        have eP : P (j + 1) = P j := by
          show (ds.take (j + 1)).filterMap _ = _
          rw [ek, List.filterMap_append]
          simp [hcs, g1, P]
        show DcI T X B1 O1 H1 a (P (j + 1)) H3
        rw [eP]
        exact ⟨B3, kx, (h2.trans pm).trans p3, m1, o1, m3, (h6.mono pm.bb).mono p3.bb⟩
    · have ej : j = ds.length := by omega
      subst ej
      refine .inl ⟨wk.stop B' O1 H' h2.bb h2.at', a, _, rfl, h5, True.intro, fun od => ?_⟩
      have po := Post.iceL (od := od) (u := ndO X.w a kx) hA1 na h2 h3 o1
      have e9 : P ds.length = ds.filterMap fun d => (f d).bind F := by show (ds.take ds.length).filterMap _ = _; rw [List.take_length]
      rw [e9] at h6
      exact q (.ref a) _ _ (p1.trans po) (.dicN upd_same (h6.mono fun c w z => by
        have zc : c ≠ a := fun zc => by
          rw [zc, h3] at z
          cases z
        rw [upd_ne zc]
        exact z))
end
end Dz

/-! dicts with numbers and texts by comprehension; keys carried by value; list(..) of dicts; stars in displays -/
namespace Dz
open PySem PySem.Spec PyProof.Rows L2 GxR
section
variable {T : List Addr} {X : Cx} {CE : Addr} {scope : Scope} {ρ : List Slot} {O O1 O2 : OH} {tg iter kxe vxe : Expr} {ifs : List Expr} {pos : Pos} {ds : List D} {E : DEn} {g : TG} {is : List Nat} {f : D → Option (List D)} {own : List (Str × Nat)} {G : List D → Option (Key × D)}
/-- {k: v for ..}, the keys numbers or texts, no two alike -/
theorem de_dcI {KD : Key → D} (hK : ∀ (k : Key) (B : Hp) (v : V), Rp X.K B v (KD k) → v = kV k) (hsrc : Src T X tg iter ρ O ds O1) (hg : PGb X scope tg g) (ht : Tg X.K g is f) (his : ∀ i ∈ is, i ∈ own.map (·.2)) (hf : ∀ d ∈ ds, ∃ cs, f d = some cs) (hl : ds.length ≤ 100000)
    (hs : ∀ d ∈ ds, ∀ cs, f d = some cs →
      (∃ p, G cs = some p ∧ DIfs T X scope ifs (setAll (wipS ρ (own.map (·.2))) is (cs.map .dat)) O1 true O1 ∧ DEb T X scope kxe (setAll (wipS ρ (own.map (·.2))) is (cs.map .dat)) O1 (KD p.1) O1 ∧ DEb T X scope vxe (setAll (wipS ρ (own.map (·.2))) is (cs.map .dat)) O1 p.2 O1) ∨
      (G cs = none ∧ DIfs T X scope ifs (setAll (wipS ρ (own.map (·.2))) is (cs.map .dat)) O1 false O1))
    (hd : ((ds.filterMap fun d => (f d).bind G).map (·.1)).Nodup)
    (hN : X.N.Nodup) (ok : BlkOk X.N X.env.scope scope own) (hc : X.calm = true := by rfl) (hfold : ∀ x, foldedSetIterable iter X.env x = pure x := by intro _; rfl) :
    DE T X (.DictComp kxe vxe [⟨tg, iter, ifs, 0⟩] scope pos) ρ O (.dic (ds.filterMap fun d => (f d).bind G)) O1 :=
  de_of (pe_dx dkI hc hN pi_wi ok hg ptsb peb peb hfold) fun σ B H hE hA Q q => hsrc.run σ B H hE hA _ fun J B1 H1 p1 wk => fun a na => by
    have hA1 := p1.at'
    have o1 : O1 a = none := hA1.noO na
    let P := fun j => (ds.take j).filterMap fun d => (f d).bind G
    refine ⟨fun j m H' => m = ds.length - j ∧ j ≤ ds.length ∧ DcK T X B1 O1 H1 a (P j) H', ⟨ds.length, by simp, Nat.zero_le _, B1, [], Post.over hA1 na (Post.refl hA1) (hA1.noB na) o1, hA1.noB na, o1, upd_same, .nil⟩, ?_⟩
    rintro j m H' ⟨rfl, hj, hI⟩
    have hI0 := hI
    obtain ⟨B', kx, h2, h3, h4, h5, h6⟩ := hI
    by_cases hlt : j < ds.length
    · refine .inr ⟨wk.go B' O1 H' j h2.bb h2.at' hlt, DcK T X B1 O1 H1 a (P (j + 1)), fun H2 h => ⟨ds.length - (j + 1), by omega, rfl, hlt, h⟩, fun x H2 hy => ?_⟩
      obtain ⟨B2, d, hd1, pm, rd⟩ := wk.yld B' O1 H' j x H2 h2.bb h2.at' hlt hy
      have hdm := List.mem_of_getElem? hd1
      obtain ⟨cs, hcs⟩ := hf d hdm
      refine ht.run T B2 O1 H2 _ x d cs _ pm.at' rd hcs fun vs rv => ?_
      have ha : H' a ≠ none := by rw [h5]; exact fun z => by cases z
      have k1 : B2 a = none := by rw [pm.new a ha h4]; exact h3
      have k3 : H2 a = some (.dK kx) := pm.fr a _ h5 h4 (hA1.newT na)
      refine ⟨wipe_fold his |>.trans (wipe_wipe fun _ h => h), ?_⟩
      have hE2 : Env X.K B2 (List.foldl (fun σ (p : Nat × V) => σ.set p.1 (some p.2)) (wipe σ (own.map (·.2))) (is.zip vs)) (setAll (wipS ρ (own.map (·.2))) is (cs.map .dat)) := Env.setAll is (((((hE.mono p1.bb).mono h2.bb).mono pm.bb)).wipes _) (Args.of rv)
      generalize List.foldl (fun σ (p : Nat × V) => σ.set p.1 (some p.2)) (wipe σ (own.map (·.2))) (is.zip vs) = σ2 at hE2 ⊢
      have ek : ds.take (j + 1) = ds.take j ++ [d] := by rw [List.take_add_one, hd1]; rfl
      rcases hs d hdm cs hcs with ⟨p, g1, g2, g3, g4⟩ | ⟨g1, g2⟩
      · refine g2 σ2 B2 H2 hE2 pm.at' _ fun B3 H3 p3 => ⟨fun _ => ?_, fun z => (by cases z)⟩
        have ha2 : H2 a ≠ none := by rw [k3]; exact fun z => by cases z
        have m1 : B3 a = none := by rw [p3.new a ha2 o1]; exact k1
        have m3 : H3 a = some (.dK kx) := p3.fr a _ k3 o1 (hA1.newT na)
        intro s0 H0 C cl fp
        refine g3 s0 H0 C cl fp σ2 B3 H3 (hE2.mono p3.bb) p3.at' _ fun y B4 H4 p4 r4 => ?_
        have ey := hK _ _ _ r4
        subst ey
        have ha3 : H3 a ≠ none := by rw [m3]; exact fun z => by cases z
        have n1 : B4 a = none := by rw [p4.new a ha3 o1]; exact m1
        have n3 : H4 a = some (.dK kx) := p4.fr a _ m3 o1 (hA1.newT na)
        intro s0 H0 C cl fp
        refine g4 s0 H0 C cl fp σ2 B4 H4 ((hE2.mono p3.bb).mono p4.bb) p4.at' _ fun z B5 H5 p5 r5 => ?_
        have ha4 : H4 a ≠ none := by rw [n3]; exact fun z => by cases z
        have l1 : B5 a = none := by rw [p5.new a ha4 o1]; exact n1
        have l3 : H5 a = some (.dK kx) := p5.fr a _ n3 o1 (hA1.newT na)
        have r6 := (((h6.mono pm.bb).mono p3.bb).mono p4.bb).mono p5.bb
        have eP : P (j + 1) = P j ++ [p] := by
          show (ds.take (j + 1)).filterMap _ = _
          rw [ek, List.filterMap_append]
          simp [hcs, g1, P]
        have fresh : valV kx p.1 = none := valV_fresh fun q hq e => by
          have e2 : (ds.filterMap fun d => (f d).bind G) = P (j + 1) ++ ((ds.drop (j + 1)).filterMap fun d => (f d).bind G) := by
            show _ = (ds.take (j + 1)).filterMap _ ++ _
            rw [← List.filterMap_append, List.take_append_drop]
          rw [e2, eP, List.map_append, List.map_append] at hd
          have nd1 := (List.nodup_append.mp hd).1
          have nd2 := (List.nodup_append.mp nd1).2.2
          have ee : kx.map (·.1) = (P j).map (·.1) := RpKs.keys h6
          exact nd2 q.1 (by rw [← ee]; exact List.mem_map.mpr ⟨q, hq, rfl⟩) p.1 (by simp) e
        refine ⟨kx, p.1, rfl, l3, ?_, ?_⟩
        · rw [RpKs.length r6]
          have z1 : (P j).length ≤ (ds.take j).length := List.length_filterMap_le _ _
          have z2 : (ds.take j).length ≤ ds.length := by rw [List.length_take]; omega
          have z3 : (100000 : Nat) < sizeLine := by decide
          omega
        · rw [putK_new z fresh, eP]
          exact ⟨B5, _, Post.over hA1 na ((((h2.trans pm).trans p3).trans p4).trans p5) l1 o1, l1, o1, upd_same, r6.snoc (.cons r5 .nil)⟩
      · refine g2 σ2 B2 H2 hE2 pm.at' _ fun B3 H3 p3 => ⟨fun z => (by cases z), fun _ => ?_⟩
        have ha2 : H2 a ≠ none := by rw [k3]; exact fun z => by cases z
        have m1 : B3 a = none := by rw [p3.new a ha2 o1]; exact k1
        have m3 : H3 a = some (.dK kx) := p3.fr a _ k3 o1 (hA1.newT na)
        have eP : P (j + 1) = P j := by
          show (ds.take (j + 1)).filterMap _ = _
          rw [ek, List.filterMap_append]
          simp [hcs, g1, P]
        show DcK T X B1 O1 H1 a (P (j + 1)) H3
        rw [eP]
        exact ⟨B3, kx, (h2.trans pm).trans p3, m1, o1, m3, (h6.mono pm.bb).mono p3.bb⟩
    · have ej : j = ds.length := by omega
      subst ej
      have po := Post.ice hA1 na h2 h3 o1 h5
      have e9 : P ds.length = ds.filterMap fun d => (f d).bind G := by show (ds.take ds.length).filterMap _ = _; rw [List.take_length]
      rw [e9] at h6
      exact .inl ⟨wk.stop B' O1 H' h2.bb h2.at', q (.ref a) _ H' (p1.trans po) (.dic upd_same (RpKs.mono (fun c w z => by
        have zc : c ≠ a := fun zc => by
          rw [zc, h3] at z
          cases z
        rw [upd_ne zc]
        exact z) h6))⟩
end
/-! ### stars in displays and calls -/
section
variable {T : List Addr} {X : Cx} {CE : Addr} {ρ : List Slot} {O O1 O2 : OH} {e : Expr} {es : List Expr} {p p0 pos pos' : Pos} {d : D} {ds : List D} {ss : List Slot}
theorem rp_int {K : PySem.W.Frag} {B : Hp} : ∀ {xs : List V} {ns : List Int}, RpAll K B xs (ns.map .int) → xs = ns.map V.int
  | _, [], .nil => rfl
  | _, n :: ns, .cons h r => by
    cases h
    rw [List.map_cons, rp_int r]
/-- max of a list of numbers -/
theorem de_maxL {ns : List Int} {m : Int} (hm : X.mg "max" = none) (he : DE T X e ρ O (.lst (ns.map .int)) O1) (h0 : m ∈ ns) (hx : ∀ y ∈ ns, y ≤ m) (hg : Gl X "max" := by rfl) (hst : starEach [e] X.env = (false, eval e X.env) :: starEach [] X.env := by rfl) (hc : X.calm = true := by rfl) : DE T X (.Call (.Name "max" p0) [e] [] pos) ρ O (.int m) O1 :=
  de_B (cr_max hc) (da_one he.dv hst) (fun vs B H hA hv Q q => by
    obtain ⟨v, rfl, r⟩ := args1 hv
    cases (show Rp X.K B v (.lst (ns.map .int)) from r) with
    | lst hq r =>
      have ex := rp_int r
      subst ex
      refine ⟨_, ns, rfl, SqL.of (hA.base _ _ hq), List.length_pos_of_mem h0, fun m' h1 h2 => ?_⟩
      have em : m' = m := Int.le_antisymm (hx m' h1) (h2 m h0)
      subst em
      exact q _ B H (Post.refl hA) (.int _)) hm (by decide +kernel) hg (by decide) (by decide) hst
end
end Dz

/-! dicts whose keys are truths, numbers, texts: setdefault, items, len; list(d.values()) -/
namespace Dz
open PySem PySem.Spec PyProof.Rows L2 GxR
/-- what a data is as a key carried by value -/
def lfD : D → Option Leaf
  | .non => some .none
  | .bl b => some (.num (if b = true then 1 else 0))
  | .int i => some (.num i)
  | .str x => some (.text x)
  | _ => none
theorem lf_is {K : PySem.W.Frag} {B : Hp} {P : Program} {w : World} {y : V} {kd : D} {k : Leaf} {u : Value} (r : Rp K B y kd) (e : lfD kd = some k) (ru : RelV y u) : (leafKind P w).is k u = true := by
  cases r with
  | non =>
    cases e
    cases ru
    rfl
  | bl b =>
    cases e
    cases ru
    show decide (_ = _) = true
    exact decide_eq_true rfl
  | int i =>
    cases e
    obtain ⟨t, rfl⟩ := ru
    exact decide_eq_true rfl
  | str x =>
    cases e
    obtain ⟨t, rfl⟩ := ru
    show Value.isStrOf x (.str x t) = true
    show (x == x) = true
    simp
  | _ => cases e
section
variable {X : Cx} {pins : List (Addr × Obj)} {σ : L2.St} {H : Hp} {s : Shared} {a : Addr} {kl : List (Leaf × V)} {k : Leaf} {v : V} {u r : Value} {A : Around} {E : Value → Shared → Prop}
theorem lf_at (I : Inv X pins σ H s) (e : H a = some (lfO X.prog X.w a kl)) : LfAt X.prog X.w a kl s.heap := (show ObjOk X.prog X.w H s.heap a (lfO X.prog X.w a kl) from I.hok a _ e).1
theorem lf_new {P : Program} {w : World} {H' : Hp} {h' : Heap} {vs : List (Leaf × Value)} (z : kl.length ≤ sizeLine) (hd : (a == sysModules) = false) (rel : KV kl vs) (dd : h'.DictOf (leafKind P w) a vs) : ObjOk P w H' h' a (lfO P w a kl) := by
  refine ⟨⟨z, hd, vs, rel, dd⟩, ?_, fun g1 g2 x k => ?_⟩
  · obtain ⟨o, _, _, ho, _⟩ := dd
    exact ⟨o, ho⟩
  · obtain ⟨z1, z2, vs', z3, o', es', ep', z4, z5⟩ := x
    exact ⟨z1, z2, vs', z3, o', es', ep', k _ z4, z5⟩
theorem l_getItem {Q : Value → Shared → Prop} (I : Inv X pins σ H s) (e : H a = some (lfO X.prog X.w a kl)) (hk : (leafKind X.prog X.w).is k u = true) (hv : valV kl k = some v) (h : ∀ w' s', Inv X pins σ H s' → RelV v w' → Q w' s') :
    wpAny (model X.prog X.w) A (getItem (.ref a) u) Q E s := by
  obtain ⟨z, hd, vs, rel, dd⟩ := lf_at I e
  obtain ⟨w', hw, rw'⟩ := RelO.some_of (v := v) (o := valueAt vs k) (by rw [← hv]; exact rel.val k)
  exact wpAny_getItem_of hk dd.mapOf hw (h w' _ (I.tok _) rw')
theorem l_setd {Q : Value → Shared → Prop} (I : Inv X pins σ H s) (e : H a = some (lfO X.prog X.w a kl)) (hk : (leafKind X.prog X.w).is k u = true) (hl : kl.length < sizeLine) (rv : RelV v r)
    (h1 : ∀ x, valV kl k = some x → ∀ w' s', Inv X pins σ H s' → RelV x w' → Q w' s') (h2 : valV kl k = none → ∀ w' s', Inv X pins σ (upd H a (lfO X.prog X.w a (putK kl k v))) s' → RelV v w' → Q w' s') :
    wpAny (model X.prog X.w) A (call (.builtin "dict.setdefault") [.ref a, u, r]) Q E s := by
  obtain ⟨z, hd, vs, rel, dd⟩ := lf_at I e
  have hz : vs.length ≤ sizeLine := by rw [← rel.length]; exact z
  refine call_meetsIn PySem.F.slot_dict_setdefault dd.typeIs PySem.F.entry_dict_setdefault (PySem.F.args_dict_setdefault_3 _ _ _) (kt_meets_setdefault (leafKind X.prog X.w) a hk hd r) ⟨vs, dd, hz, fun x hx => ?_, fun hn h' dd' hs => ?_⟩
  · have q := rel.val k
    rw [hx] at q
    cases q0 : valV kl k with
    | none =>
      rw [q0] at q
      exact q.elim
    | some v0 =>
      rw [q0] at q
      exact h1 v0 q0 _ _ (I.tok _) q
  · have q := rel.val k
    rw [hn] at q
    cases q0 : valV kl k with
    | some v0 =>
      rw [q0] at q
      exact q.elim
    | none =>
      have hle : (putK kl k v).length ≤ sizeLine := by
        have := length_putK kl k v
        omega
      obtain ⟨o', _, _, ho', _⟩ := id dd'
      exact h2 q0 _ _ (d_write (t' := s.toks + 1) I (by rw [e]; exact True.intro) hs ⟨o', ho'⟩ (lf_new hle hd (rel.put k rv) dd')) rv
end
def tLNew (X : Cx) : TE := fun _ H Q => ∀ p, H p = none → Q (.ref p) (upd H p (lfO X.prog X.w p []))
/-- what the value is as a key -/
def LK : V → Leaf → Prop
  | .non, k => k = .none
  | .bl b, k => k = .num (if b = true then 1 else 0)
  | .int i, k => k = .num i
  | .str x, k => k = .text x
  | _, _ => False
theorem LK.is {P : Program} {w : World} {y : V} {k : Leaf} {u : Value} (h : LK y k) (ru : RelV y u) : (leafKind P w).is k u = true := by
  cases y with
  | non =>
    cases h
    cases ru
    rfl
  | bl b =>
    cases h
    cases ru
    exact decide_eq_true rfl
  | int i =>
    cases h
    obtain ⟨t, rfl⟩ := ru
    exact decide_eq_true rfl
  | str x =>
    cases h
    obtain ⟨t, rfl⟩ := ru
    show (x == x) = true
    simp
  | _ => exact h.elim
theorem rp_lk {K : PySem.W.Frag} {B : Hp} {y : V} {kd : D} {k : Leaf} (r : Rp K B y kd) (e : lfD kd = some k) : LK y k := by
  cases r <;> first | (cases e; rfl) | cases e
def tLGet (X : Cx) (td ty : TE) : TE := fun σ H Q => td σ H fun x H1 => ty σ H1 fun y H2 => ∃ a kl k v, x = .ref a ∧ H2 a = some (lfO X.prog X.w a kl) ∧ LK y k ∧ valV kl k = some v ∧ Q v H2
def tLSetd (X : Cx) (td ty tx : TE) : TE := fun σ H Q => td σ H fun x H1 => ∃ a, x = .ref a ∧ (∃ kl, H1 a = some (lfO X.prog X.w a kl)) ∧ ty σ H1 fun y H2 => tx σ H2 fun z H3 => ∃ kl k, H3 a = some (lfO X.prog X.w a kl) ∧ LK y k ∧ kl.length < sizeLine ∧
  (∀ v, valV kl k = some v → Q v H3) ∧ (valV kl k = none → Q z (upd H3 a (lfO X.prog X.w a (putK kl k z))))
section
variable {X : Cx} {o i e f value : Expr} {pos apos cpos : Pos} {td ty tv tx : TE}
theorem pe_lnew : PE X (.Dict [] [] pos) (tLNew X) := ⟨fun pins s σ H Q I h =>
  wpAny_Dict_empty ⟨.ref s.heap.objs.size, _, I.laid (a := s.heap.objs.size) (o := lfO X.prog X.w s.heap.objs.size []) (t' := s.toks) (fun _ _ q => Heap.get?_push_of_some _ q) (Nat.le_refl _)
    (lf_new (vs := []) (Nat.zero_le _) (beq_eq_false_iff_ne.mpr (Ne.symm (Nat.ne_of_lt I.big))) .nil (Heap.DictOf.new s.heap)), rfl, h _ (I.hok.fresh (Nat.le_refl _))⟩⟩
theorem pe_lget (ho : PE X o td) (hi : PE X i ty) (hs : NoSl i) : PE X (.Subscript o i pos) (tLGet X td ty) := by
  refine ⟨fun pins s σ H Q I h => ?_⟩
  refine subD_of PySem.F.slot_dict_getitem.lookup hs (thn (ho.run pins s σ H _ I h) fun u s1 ⟨x, H1, I1, rx, q1⟩ => thn (hi.run pins s1 σ H1 _ I1 q1) fun iv s2 ⟨y, H2, I2, ry, a, kl, k, v, ex, e, hk, hv, q2⟩ => ?_)
  subst ex
  obtain rfl : u = Value.ref a := rx
  obtain ⟨_, _, _, _, dd⟩ := lf_at I2 e
  exact ⟨dd.typeIs, l_getItem I2 e (hk.is ry) hv fun w' s3 I3 rw' => ⟨v, H2, I3, rw', q2⟩⟩
theorem pe_lsetd (ho : PE X o td) (he : PE X e ty) (hf : PE X f tx) (m : M2 X o "setdefault" apos e f cpos) : PE X (.Call (.Attribute o "setdefault" apos) [e, f] [] cpos) (tLSetd X td ty tx) := by
  refine ⟨fun pins s σ H Q I h => ?_⟩
  refine wpAny_Call_method m.base m.few m.line PySem.F.plainAttrs_dict PySem.F.slot_dict_setdefault PySem.F.type_dict_setdefault (thn (ho.run pins s σ H _ I h) fun u s1 ⟨x, H1, I1, rx, a, ex, ⟨kl1, d⟩, q1⟩ => ?_)
  subst ex
  obtain rfl : u = Value.ref a := rx
  obtain ⟨_, _, _, _, dd⟩ := lf_at I1 d
  refine ⟨dd.typeIs, dd.mapOf.noDict, ?_⟩
  rw [m.trees]
  refine Calls.callWith_builtin rfl (Calls.evalArgs_plain (Calls.spliced_cons (thn (he.run pins s1 σ H1 _ I1 q1) fun iv s2 ⟨y, H2, I2, ry, q2⟩ =>
    Calls.spliced_cons (thn (hf.run pins s2 σ H2 _ I2 q2) fun fv s3 ⟨z, H3, I3, rz, kl, k, ea, hk, hl, q3, q4⟩ => Calls.spliced_nil ?_))))
  exact l_setd I3 ea (hk.is ry) hl rz (fun v hv w' s4 I4 rw' => ⟨v, _, I4, rw', q3 v hv⟩) fun hn w' s4 I4 rw' => ⟨z, _, I4, rw', q4 hn⟩
theorem call_len_L : CallR X (.builtin "len") (fun xs H Q => ∃ (p : Addr) (kl : List (Leaf × V)), xs = [.ref p] ∧ H p = some (lfO X.prog X.w p kl) ∧ Q (.int (kl.length : Nat)) H) := by
  intro pins s σ H xs us Q I r h
  obtain ⟨p, kl, rfl, hp, q⟩ := h
  obtain ⟨u, rfl, rx⟩ := vals1 r
  obtain rfl : u = .ref p := rx
  obtain ⟨z, hd, vs, rel, dd⟩ := lf_at I hp
  refine call_len_dict hd dd (by rw [← rel.length]; rw [sizeLine_eq] at z; omega) ?_
  rw [← rel.length]
  exact ⟨.int ((kl.length : Nat) : Int), H, I.tok _, ⟨_, rfl⟩, q⟩
end
theorem LsOk.get {K : PySem.W.Frag} {B : Hp} (k : Leaf) : ∀ {kl : List (Leaf × V)} {ss : List (Leaf × Slot)}, LsOk K B kl ss → (valV kl k = none ∧ ss.lookup k = none) ∨ ∃ v s, valV kl k = some v ∧ ss.lookup k = some s ∧ SlotOk K B (some v) s
  | _, _, .nil => .inl ⟨rfl, rfl⟩
  | _, _, .cons (f := k') (v := v) (s := s) g r => by
    rw [List.lookup_cons]
    by_cases z : k' = k
    · subst z
      exact .inr ⟨v, s, valV_pos rfl, by simp, g⟩
    · rw [valV_neg z]
      have e : (k == k') = false := by simpa using fun q => z q.symm
      rw [e]
      exact LsOk.get k r
theorem LsOk.snoc {K : PySem.W.Frag} {B : Hp} : ∀ {kl kk : List (Leaf × V)} {ss st : List (Leaf × Slot)}, LsOk K B kl ss → LsOk K B kk st → LsOk K B (kl ++ kk) (ss ++ st)
  | _, _, _, _, .nil, s => s
  | _, _, _, _, .cons g r, s => .cons g (r.snoc s)
theorem LsOk.length {K : PySem.W.Frag} {B : Hp} : ∀ {kl : List (Leaf × V)} {ss : List (Leaf × Slot)}, LsOk K B kl ss → kl.length = ss.length
  | _, _, .nil => rfl
  | _, _, .cons _ r => congrArg Nat.succ r.length
section
variable {T : List Addr} {X : Cx} {CE : Addr} {ρ : List Slot} {O O1 O2 O3 : OH} {e a b f : Expr} {pos pos' p0 apos cpos : Pos} {d kd0 : D} {s : Slot} {so : List (Leaf × Slot)} {E : DEn} {c : Addr} {k : Leaf} {n : Str}
theorem lf_own {B H : Hp} (hA : At T X.K B O H) (ho : O c = some (.dicL X.prog X.w c so)) : ∃ kl, H c = some (lfO X.prog X.w c kl) ∧ LsOk X.K B kl so := by
  obtain ⟨_, u, hu, ok⟩ := hA.own c _ ho
  cases u <;> try exact ok.elim
  rename_i φ
  obtain ⟨kl, eφ, ok⟩ := (show ∃ kl, HO.ext φ = lfO X.prog X.w c kl ∧ LsOk X.K B kl _ from ok)
  rw [eφ] at hu
  exact ⟨kl, hu, ok⟩
/-- x = {}, its keys to be truths, numbers or texts -/
theorem d1_ownL0 (i : Nat) {dp : Pos} (h : ∀ p, O p = none → E.nx (ρ.set i (.val (.ref p))) (put O p (.dicL X.prog X.w p []))) (hN : X.N.Nodup) (hi : X.N[i]? = some n := by rfl) (hx : Loc X.env.scope n := by first | exact Or.inl rfl | exact Or.inr rfl)
    (hs : swapsWith (.Dict [] [] dp) (some (.Name n pos')) pos.line X.env = pure false := by rfl) (hf : X.fn n = true ∨ X.env.scope.names.lookup n = some .local := by first | exact .inl rfl | exact .inr rfl) : D1 T X CE (.Assign [.Name n pos'] (.Dict [] [] dp) pos) ρ O E :=
  .mk fun σ B H hE hA Dn W tk l => ws_of (ps_set hN hi hx pe_lnew hs hf) (fun p hp => by
    have pm := Post.madeO (o := lfO X.prog X.w p []) (od := .dicL X.prog X.w p []) hA hp (show ∃ kl, lfO X.prog X.w p [] = lfO X.prog X.w p kl ∧ LsOk X.K B kl [] from ⟨[], rfl, .nil⟩)
    exact l.nx _ _ _ B _ (h p (hA.noO hp)) pm (hE.set (s := .val (.ref p)) (show SlotOk X.K B (some (.ref p)) (.val (.ref p)) from rfl) i))
theorem dv_lgetO (ha : DV T X a ρ O (.val (.ref c)) O1) (hb : DE T X b ρ O1 kd0 O2) (hk : lfD kd0 = some k) (ho : O2 c = some (.dicL X.prog X.w c so)) (h : so.lookup k = some s) (hs : NoSl b := by intro _ _; rfl) : DV T X (.Subscript a b pos) ρ O s O2 := .mk fun σ B H hE hA Q q => by
  refine we_of (pe_lget pe_we pe_we hs) ?_
  refine ha σ B H hE hA _ fun v B1 H1 p1 r1 => ?_
  have ev : v = .ref c := r1
  subst ev
  refine hb σ B1 H1 (hE.mono p1.bb) p1.at' _ fun w B2 H2 p2 r2 => ?_
  obtain ⟨kl, hu, ok⟩ := lf_own p2.at' ho
  rcases ok.get k with ⟨_, z⟩ | ⟨u, d', h1, h2, h3⟩
  · rw [z] at h
    cases h
  · rw [h] at h2
    cases h2
    exact ⟨c, kl, k, u, rfl, hu, rp_lk r2 hk, h1, q u B2 H2 (p1.trans p2) h3⟩
theorem de_lenLO (hm : X.mg "len" = none) (ha : DV T X e ρ O (.val (.ref c)) O1) (ho : O1 c = some (.dicL X.prog X.w c so)) (hg : Gl X "len" := by rfl) (he : starEach [e] X.env = (false, eval e X.env) :: starEach [] X.env := by rfl) : DE T X (.Call (.Name "len" p0) [e] [] pos) ρ O (.int so.length) O1 :=
  de_B call_len_L (da_one ha he) (fun vs B H hA hv Q q => by
    obtain ⟨v, rfl, r⟩ := args1 hv
    have ev : v = .ref c := r
    subst ev
    obtain ⟨kl, hu, ok⟩ := lf_own hA ho
    exact ⟨c, kl, rfl, hu, by
      rw [ok.length]
      exact q _ B H (Post.refl hA) (.int _)⟩) hm boot_len hg (by decide) (by decide) he
/-- a.setdefault(b, f) -/
theorem dv_lsetd {R : Slot → OH → Prop} (ha : DV T X a ρ O (.val (.ref c)) O1) (hoa : O1 c = some (.dicL X.prog X.w c so)) (hb : DE T X b ρ O1 kd0 O1) (hk : lfD kd0 = some k) (hf : DV T X f ρ O1 s O1) (hl : so.length < 100000)
    (h1 : ∀ s0, so.lookup k = some s0 → R s0 O1) (h2 : so.lookup k = none → R s (put O1 c (.dicL X.prog X.w c (so ++ [(k, s)]))))
    (m : M2 X a "setdefault" apos b f cpos := by exact ⟨rfl, rfl, rfl, rfl⟩) : DVX T X CE (.Call (.Attribute a "setdefault" apos) [b, f] [] cpos) ρ O R (fun _ _ => False) := fun σ B H hE hA Q W tk q _ => by
  refine we_of (pe_lsetd pe_we pe_we pe_we m) ?_
  refine ha σ B H hE hA _ fun v B1 H1 p1 r1 => ?_
  have ev : v = .ref c := r1
  subst ev
  obtain ⟨kl0, hu0, _⟩ := lf_own p1.at' hoa
  refine ⟨c, rfl, ⟨kl0, hu0⟩, ?_⟩
  refine hb σ B1 H1 (hE.mono p1.bb) p1.at' _ fun y B2 H2 p2 r2 => ?_
  refine hf σ B2 H2 ((hE.mono p1.bb).mono p2.bb) p2.at' _ fun z B3 H3 p3 r3 => ?_
  obtain ⟨kl, hu, ok⟩ := lf_own p3.at' hoa
  refine ⟨kl, k, hu, rp_lk r2 hk, by rw [ok.length]; exact Nat.lt_of_lt_of_le hl (by decide), fun v hv => ?_, fun hv => ?_⟩
  · rcases ok.get k with ⟨z1, _⟩ | ⟨v', s', z1, z2, z3⟩
    · rw [z1] at hv
      cases hv
    · rw [z1] at hv
      cases hv
      exact q s' O1 _ B3 H3 (h1 s' z2) ((p1.trans p2).trans p3) z3
  · rcases ok.get k with ⟨_, z2⟩ | ⟨v', s', z1, _, _⟩
    · have po := Post.put (u := lfO X.prog X.w c (putK kl k z)) (od := .dicL X.prog X.w c (so ++ [(k, s)])) p3.at' hoa (show ∃ kk, lfO X.prog X.w c (putK kl k z) = lfO X.prog X.w c kk ∧ LsOk X.K B3 kk (so ++ [(k, s)]) from ⟨_, rfl, by
        rw [putK_new z hv]
        exact ok.snoc (.cons r3 .nil)⟩)
      exact q s _ z B3 _ (h2 z2) (((p1.trans p2).trans p3).trans po) r3
    · rw [z1] at hv
      cases hv
end
end Dz

/-! list(d.values()), in and not in, of dicts with numbers and texts that are owned -/
namespace Dz
open PySem PySem.Spec PyProof.Rows L2 GxR
def tListVals (td : TE) : TE := fun σ H Q => td σ H fun x H1 => ∃ a kvs, x = V.ref a ∧ Rd H1 a (.dK kvs) ∧ ∀ p, H1 p = none → Q (.ref p) (upd H1 p (.lst (kvs.map (·.2))))
theorem pe_listVals {X : Cx} {o : Expr} {p pos apos mpos : Pos} {td : TE} (hc : X.calm = true) (hg : Gl X "list") (hm : X.mg "list" = none) (hd : PE X o td) (hbase : attributeBase o "values" X.env (eval o X.env) = eval o X.env := by rfl) (hline : (apos.endLine == mpos.line) = true := by rfl)
    (hse : starEach [Expr.Call (.Attribute o "values" apos) [] [] mpos] X.env = (false, eval (Expr.Call (.Attribute o "values" apos) [] [] mpos) X.env) :: starEach [] X.env := by rfl) :
    PE X (.Call (.Name "list" p) [.Call (.Attribute o "values" apos) [] [] mpos] [] pos) (tListVals td) := by
  refine ⟨fun pins s σ H Q I h => ?_⟩
  refine wpAny_Call_Name_kw (ld_blt I hg hm boot_list ?_ (by decide) (by decide))
  refine PyProof.Rows.callWith_type1 ?_ hse rfl
  rw [hse]
  refine Calls.spliced_cons ?_
  refine wpAny_Call_method0_late hbase hline (thn (hd.run pins s σ H _ I h) fun v s1 ⟨x, H1, I1, r1, a, kvs, ex, ha, q⟩ => ?_)
  subst ex
  obtain rfl : v = Value.ref a := r1
  obtain ⟨hz, hsys, vs, rel, dof⟩ := dk_rd I1.hok ha
  obtain ⟨es, ep, raw, hsz, hval⟩ := dof.raw
  have hraw := raw
  obtain ⟨ob, ho, exa, hdat⟩ := hraw
  have hl : kvs.length = vs.length := Paired.length rel
  refine ⟨"dict", "dict.values", F.plainAttrs_dict, F.slot_dict_values, F.type_dict_values, ⟨ob, ho, exa.1⟩, fun b e => ?_, Calls.callWith_builtin rfl (PySem.evalArgs_none ?_)⟩
  · cases e
    exact ⟨ob, ho, exa.2.1⟩
  refine call_meetsIn F.slot_dict_values ⟨ob, ho, exa.1⟩ F.entry_dict_values (F.args_dict_values_1 _) (meets_dict_values_raw a hsys) ⟨⟨es, ep, raw⟩, ?_⟩
  obtain ⟨s2, es2⟩ : ∃ s2, s2 = ({ s1 with heap := s1.heap.push { cls := .type "dict_values", data := .fields #[.ref a] } } : Shared) := ⟨_, rfl⟩
  have hs2 : s2.heap = s1.heap.push { cls := .type "dict_values", data := .fields #[.ref a] } := by rw [es2]
  have k1 : ∀ b u, s1.heap.get? b = some u → s2.heap.get? b = some u := fun b u e => by rw [hs2]; exact Heap.get?_push_of_some _ e
  have I2 : Inv X pins σ H1 s2 := by rw [es2]; exact I1.kept (t' := s1.toks) fun b u e => Heap.get?_push_of_some _ e
  have vw : s2.heap.IsValuesView s1.heap.objs.size a := by rw [hs2]; exact ⟨_, Heap.get?_push_size _ rfl, rfl, rfl⟩
  have raw2 : s2.heap.DictRaw a es ep := raw.at fun ob z => k1 _ _ z
  refine Calls.spliced_nil ?_
  rw [← es2]
  refine PySem.W.kdl_call (PySem.KdlSrc.rawValues (r := s1.heap.objs.size) (d := a) (es := es) (ep := ep)) (I.ok.hd hc) ⟨vw, raw2⟩ (by rw [hsz, ← hl]; exact hz) fun h' tk acc' c' hkeep hS hacc => ?_
  refine ⟨.ref s2.heap.objs.size, upd H1 s2.heap.objs.size (.lst (kvs.map (·.2))), I2.laid (t' := tk) hkeep (Nat.le_refl _) (show ObjOk X.prog X.w _ _ _ (.lst (kvs.map (·.2))) from ⟨?_, acc'.toList, c', ?_, ?_⟩), rfl, q _ (I2.hok.fresh (Nat.le_refl _))⟩
  · rw [List.length_map]; exact hz
  · have el : acc'.toList.length = acc'.size := by simp
    refine vals_of_at (by rw [List.length_map, el, hacc.1, hsz, hl]) fun j x w h1 h2 => ?_
    obtain ⟨hj, hv⟩ := hacc.2 j w (by rw [← Array.getElem?_toList]; exact h2)
    have hjv : j < vs.length := by rw [← hsz]; exact hj
    obtain ⟨⟨k, y⟩, hky⟩ : ∃ p, vs[j]? = some p := ⟨vs[j], List.getElem?_eq_getElem hjv⟩
    obtain ⟨_, hvv⟩ := hval j hj k y hky
    obtain ⟨z, h3, h4⟩ := KV.at' rel hky
    rw [List.getElem?_map, h3] at h1
    cases h1
    rw [hv, hvv]
    exact h4
  · rw [Array.toArray_toList]; exact hS
section
variable {T : List Addr} {X : Cx} {CE : Addr} {ρ : List Slot} {O O1 O2 O3 : OH} {e a b o : Expr} {pos p0 apos mpos : Pos} {d kx : D} {c : Addr} {key : Key} {kd : List (Key × D)} {so : List (Key × Slot)}
theorem ksok_vals {K : PySem.W.Frag} {B : Hp} : ∀ {kvs : List (Key × V)} {kd : List (Key × D)}, RpKs K B kvs kd → RpAll K B (kvs.map (·.2)) (kd.map (·.2))
  | _, _, .nil => .nil
  | _, _, .cons h r => .cons h (ksok_vals r)
/-- list(o.values()), o an owned dict of data -/
theorem de_listVals (hm : X.mg "list" = none) (ho : DV T X o ρ O (.val (.ref c)) O1) (h1 : O1 c = some (.dic (kd.map fun q => (q.1, .dat q.2)))) (hg : Gl X "list" := by rfl) (hbase : attributeBase o "values" X.env (eval o X.env) = eval o X.env := by rfl) (hline : (apos.endLine == mpos.line) = true := by rfl)
    (hse : starEach [Expr.Call (.Attribute o "values" apos) [] [] mpos] X.env = (false, eval (Expr.Call (.Attribute o "values" apos) [] [] mpos) X.env) :: starEach [] X.env := by rfl) (hc : X.calm = true := by rfl) :
    DE T X (.Call (.Name "list" p0) [.Call (.Attribute o "values" apos) [] [] mpos] [] pos) ρ O (.lst (kd.map (·.2))) O1 := .mk fun σ B H hE hA Q q => by
  refine we_of (pe_listVals hc hg hm pe_we hbase hline hse) ?_
  refine ho σ B H hE hA _ fun v B1 H1 p1 r1 => ?_
  have ev : v = .ref c := r1
  subst ev
  obtain ⟨_, u, hu, ok⟩ := p1.at'.own c _ h1
  cases u <;> try exact ok.elim
  rename_i kvs
  refine ⟨c, kvs, rfl, .inl hu, fun p np => ?_⟩
  have pm := Post.made (o := .lst (kvs.map (·.2))) p1.at' np
  exact q _ _ _ (p1.trans pm) (.lst upd_same ((ksok_vals (KsOk.all ok)).mono pm.bb))
theorem kin_own {neg : Bool} {σ : L2.St} {B H : Hp} {Q : VK} (hb : DE T X b ρ O kx O1) (hk : ∀ B v, Rp X.K B v kx → v = kV key) (ha : DV T X a ρ O1 (.val (.ref c)) O2) (ho : O2 c = some (.dic so)) (hE : Env X.K B σ ρ) (hA : At T X.K B O H)
    (q : ∀ B' H', Post T X.K B O H B' O2 H' → Q (.bl (if neg = true then !(so.any fun kv => decide (kv.1 = key)) else so.any fun kv => decide (kv.1 = key))) H') : WE X b σ H fun y H1 => WE X a σ H1 fun x H2 => ∃ a o, x = .ref a ∧ DGet H2 a y o ∧ Q (.bl (if neg = true then !o.isSome else o.isSome)) H2 :=
  hb σ B H hE hA _ fun w B1 H1 p1 r1 => ha σ B1 H1 (hE.mono p1.bb) p1.at' _ fun v B2 H2 p2 r2 => by
    have ev : v = .ref c := r2
    subst ev
    have ew := hk B1 w r1
    subst ew
    obtain ⟨_, u, hu, ok⟩ := p2.at'.own c _ ho
    cases u <;> try exact ok.elim
    rename_i kvs
    refine ⟨c, _, rfl, DGet.k hu, ?_⟩
    rw [← valV_any, KsOk.any key ok]
    exact q B2 H2 (p1.trans p2)
theorem dt_kinO {j : Nat} (hr : Room j X.A) (hb : DE T X b ρ O kx O1) (hk : ∀ B v, Rp X.K B v kx → v = kV key) (ha : DV T X a ρ O1 (.val (.ref c)) O2) (ho : O2 c = some (.dic so)) (hm : behindInMarks .In a = false := by rfl) : DT T X (.Compare b [.In] [a] pos) ρ O (so.any fun kv => decide (kv.1 = key)) O2 :=
  .mk fun σ B H hE hA Q q => wt_of (pt_cmp (pc_din (hu_of hr) pe_we pe_we) hm) (kin_own (neg := false) (Q := fun v H' => ∃ b, v = .bl b ∧ Q b H') hb hk ha ho hE hA fun B' H' p => ⟨_, rfl, q B' H' p⟩)
theorem dt_nkinO {j : Nat} (hr : Room j X.A) (hb : DE T X b ρ O kx O1) (hk : ∀ B v, Rp X.K B v kx → v = kV key) (ha : DV T X a ρ O1 (.val (.ref c)) O2) (ho : O2 c = some (.dic so)) (hm : behindInMarks .NotIn a = false := by rfl) : DT T X (.Compare b [.NotIn] [a] pos) ρ O (!(so.any fun kv => decide (kv.1 = key))) O2 :=
  .mk fun σ B H hE hA Q q => wt_of (pt_cmp (pc_dnotin (hu_of hr) pe_we pe_we) hm) (kin_own (neg := true) (Q := fun v H' => ∃ b, v = .bl b ∧ Q b H') hb hk ha ho hE hA fun B' H' p => ⟨_, rfl, q B' H' p⟩)
end
end Dz

/-! [e for .. for .. for ..], any number of for -/
namespace Dz
open PySem PySem.Spec PyProof.Rows L2 GxR
section
variable {prog : Program} {w : World} {A : Around} {R : Result → Shared → Prop} {s : Shared} {elt t i t' i' : Expr} {ifs ifs' : List Expr} {gens : List Comprehension} {scope : Scope} {pos : Pos} {it acc : Value} {env : PySem.Env} {k : Nat}
theorem turn_mid (h : gens[k]? = some ⟨t, i, ifs, 0⟩) (h' : gens[k + 1]? = some ⟨t', i', ifs', 0⟩) : compTurn (.ListComp elt gens scope pos) k it acc env = (do
    standAt i.pos
    match ← pyNext it with
    | none => pure (.done .next)
    | some v =>
      letOwnedTupleGo t it v
      assign t env v
      let mut ok := true
      for c in ifs do
        if ok then ok ← isTrue c env (eval c env)
      if ok then
        let x ← eval i' env
        standAt i'.pos
        let x ← foldedSetIterable i' env x
        let _ ← runOwn (.compStart (.ListComp elt gens scope pos) (k + 1) (← holding [x] (pyIter x)) acc env) env
      again (.compLoop (.ListComp elt gens scope pos) k it acc env)) := by
  unfold compTurn
  simp only [h, h']
  rfl
theorem turn_last (h : gens[k]? = some ⟨t, i, ifs, 0⟩) (h' : gens[k + 1]? = none) : compTurn (.ListComp elt gens scope pos) k it acc env = (do
    standAt i.pos
    match ← pyNext it with
    | none => pure (.done .next)
    | some v =>
      letOwnedTupleGo t it v
      assign t env v
      let mut ok := true
      for c in ifs do
        if ok then ok ← isTrue c env (eval c env)
      if ok then
        (do let _ ← call (.builtin "list.append") [acc, ← eval elt env])
      again (.compLoop (.ListComp elt gens scope pos) k it acc env)) := by
  unfold compTurn
  simp only [h, h']
  rfl
/-- one turn, behind the tests -/
def Turn1 (prog : Program) (w : World) (A : Around) (R : Result → Shared → Prop) (t : Expr) (ifs : List Expr) (it : Value) (env : PySem.Env) (I : Nat → Shared → Prop) (after : Nat → Shared → Prop) (n : Nat) (s : Shared) : Prop :=
  wpAny (model prog w) A (pyNext it) (fun r s1 => match r with
    | none => R (.ok .next) s1
    | some v => wpAny (model prog w) A (letOwnedTupleGo t it v) (fun _ s2 => wpAny (model prog w) A (assign t env v) (fun _ s3 =>
        wpAny (model prog w) A (forIn ifs true fun c r => if r = true then do let ok ← isTrue c env (eval c env); pure (ForInStep.yield ok) else pure (ForInStep.yield r)) (fun ok s4 =>
          (ok = true → after n s4) ∧ (ok = false → ∃ m, m < n ∧ I m s4)) (fun _ _ => False) s3) (fun _ _ => False) s2) (fun _ _ => False) s1) (fun _ _ => False) s
theorem loop_mid (h : gens[k]? = some ⟨t, i, ifs, 0⟩) (h' : gens[k + 1]? = some ⟨t', i', ifs', 0⟩) (plain : ∀ x, foldedSetIterable i' env x = pure x) (I : Nat → Shared → Prop)
    (each : ∀ n s, I n s → Turn1 prog w A R t ifs it env I (fun n s4 => wpAny (model prog w) A (eval i' env) (fun x s5 => wpAny (model prog w) A (pyIter x) (fun it1 s6 =>
      codeAny (model prog w) A (.compStart (.ListComp elt gens scope pos) (k + 1) it1 acc env) (fun r s7 => match r with
        | .ok _ => ∃ m, m < n ∧ I m s7
        | .error _ => False) s6) (fun _ _ => False) s5) (fun _ _ => False) s4) n s) (n : Nat) (h0 : I n s) : codeAny (model prog w) A (.compLoop (.ListComp elt gens scope pos) k it acc env) R s := by
  refine codeAny_loop rfl I (fun n s hI => ?_) n h0
  show wpAny _ A ((compTurn (.ListComp elt gens scope pos) k it acc env).onRaise (fun x => do noteFrame x env; theTreesLotGoes x)) _ _ s
  refine wpAny_noted ?_
  rw [turn_mid h h']
  refine wpAny_bind (wpAny_standAt (wpAny_bind (wpAny_mono (each n s hI) (fun r s1 g1 => ?_) fun _ _ z => z.elim)))
  cases r with
  | none => exact wpAny_pure g1
  | some v =>
    refine wpAny_bind (wpAny_mono g1 (fun _ s2 g2 => wpAny_bind (wpAny_mono g2 (fun _ s3 g3 => wpAny_bind (wpAny_mono g3 (fun ok s4 g4 => ?_) fun _ _ z => z.elim)) fun _ _ z => z.elim)) fun _ _ z => z.elim)
    cases ok with
    | false => exact wpAny_pure ⟨rfl, g4.2 rfl⟩
    | true =>
      refine wpAny_bind (wpAny_mono (g4.1 rfl) (fun x s5 g5 => ?_) fun _ _ z => z.elim)
      refine wpAny_bind (wpAny_standAt (wpAny_bind (wpAny_of_eq (plain x) (wpAny_bind (wpAny_holding (wpAny_mono g5 (fun it1 s6 g6 => ?_) fun _ _ z => z.elim))))))
      refine wpAny_bind (wpAny_runOwn ?_)
      rw [Around.mark_none]
      refine codeAny_mono g6 fun r s7 hr => ?_
      cases r with
      | ok f =>
        first
          | exact wpAny_pure ⟨rfl, hr⟩
          | exact wpAny_bind (wpAny_pure (wpAny_pure ⟨rfl, hr⟩))
      | error e => exact hr.elim
theorem loop_last (h : gens[k]? = some ⟨t, i, ifs, 0⟩) (h' : gens[k + 1]? = none) (I : Nat → Shared → Prop)
    (each : ∀ n s, I n s → Turn1 prog w A R t ifs it env I (fun n s4 => wpAny (model prog w) A (eval elt env) (fun x s5 => wpAny (model prog w) A (call (.builtin "list.append") [acc, x]) (fun _ s6 => ∃ m, m < n ∧ I m s6) (fun _ _ => False) s5) (fun _ _ => False) s4) n s)
    (n : Nat) (h0 : I n s) : codeAny (model prog w) A (.compLoop (.ListComp elt gens scope pos) k it acc env) R s := by
  refine codeAny_loop rfl I (fun n s hI => ?_) n h0
  show wpAny _ A ((compTurn (.ListComp elt gens scope pos) k it acc env).onRaise (fun x => do noteFrame x env; theTreesLotGoes x)) _ _ s
  refine wpAny_noted ?_
  rw [turn_last h h']
  refine wpAny_bind (wpAny_standAt (wpAny_bind (wpAny_mono (each n s hI) (fun r s1 g1 => ?_) fun _ _ z => z.elim)))
  cases r with
  | none => exact wpAny_pure g1
  | some v =>
    refine wpAny_bind (wpAny_mono g1 (fun _ s2 g2 => wpAny_bind (wpAny_mono g2 (fun _ s3 g3 => wpAny_bind (wpAny_mono g3 (fun ok s4 g4 => ?_) fun _ _ z => z.elim)) fun _ _ z => z.elim)) fun _ _ z => z.elim)
    cases ok with
    | false => exact wpAny_pure ⟨rfl, g4.2 rfl⟩
    | true => exact wpAny_bind (wpAny_bind (wpAny_mono (g4.1 rfl) (fun x s5 g5 => wpAny_bind (wpAny_mono g5 (fun _ s6 g6 => wpAny_pure (wpAny_pure ⟨rfl, g6⟩)) fun _ _ z => z.elim)) fun _ _ z => z.elim))
theorem start_at (h : gens[k]? = some ⟨t, i, ifs, 0⟩) (h0 : codeAny (model prog w) A (.compLoop (.ListComp elt gens scope pos) k it acc env) R s)
    (again : wpAny (model prog w) A (pyIter it) (fun it' s' => codeAny (model prog w) A (.compLoop (.ListComp elt gens scope pos) k it' acc env) R s') (notedBy (model prog w) A env fun x s' => R (.error x) s') s) :
    codeAny (model prog w) A (.compStart (.ListComp elt gens scope pos) k it acc env) R s := by
  refine codeAny_of_tree ?_
  show wpAny _ _ ((compStart (.ListComp elt gens scope pos) k it acc env).onRaise (fun x => do noteFrame x env; standAt theWindowsPlace)) _ _ s
  refine wpAny_notedAt ?_
  unfold compStart
  show wpAny _ _ (if (gens[k]?).elim false (fun c => c.is_async != 0) = true then _ else _) _ _ s
  rw [h]
  show wpAny _ _ (ask >>= _) _ _ s
  refine wpAny_bind (wpAny_askSetting (wpAny_ite ?_))
  split
  · first
      | exact wpAny_bind (wpAny_pure (wpAny_pure (And.intro rfl h0)))
      | exact wpAny_pure (And.intro rfl h0)
  · have e : (clausesOf (.ListComp elt gens scope pos))[k]? = some ⟨t, i, ifs, 0⟩ := h
    simp only [e]
    first
      | exact wpAny_bind (wpAny_rule (wpAny_bind (wpAny_standAt (wpAny_bind (wpAny_mono again (fun it' s' h' => wpAny_pure (And.intro rfl h')) fun _ _ x => x)))))
      | (refine wpAny_bind (wpAny_rule ?_); show wpAny _ _ (standAt i.pos >>= _) _ _ s; exact wpAny_bind (wpAny_standAt (wpAny_bind (wpAny_mono again (fun it' s' h' => wpAny_pure (And.intro rfl h')) fun _ _ x => x))))
end
end Dz

/-! any number of for: by values -/
namespace Dz
open PySem PySem.Spec PyProof.Rows L2 GxR
/-- a clause as it is read; vs: its names and those of all behind it -/
structure Cl where
  tg : Expr
  iter : Expr
  ifs : List Expr
  vs : List Nat
  wi : TI
  g : TG
  tt : TT
def tRest (D : Addr) (te : TE) : List Cl → L2.St → Hp → (Hp → Prop) → Prop
  | [], σ, H, nx => te σ H fun y H' => ∃ acc, H' D = some (.lst acc) ∧ acc.length < sizeLine ∧ nx (upd H' D (.lst (acc ++ [y])))
  | c :: cs, σ, H, nx => c.wi σ H fun J H1 => ∃ W : Nat → Nat → Hp → Prop, (∃ m, W 0 m H1) ∧ ∀ j m H, W j m H → (J.stop j H ∧ nx H) ∨ (J.go j H ∧ ∃ nx1 : Hp → Prop, (∀ H', nx1 H' → ∃ m', m' < m ∧ W (j + 1) m' H') ∧
      ∀ x H', J.yld j H x H' → c.g x (wipe σ c.vs) H' fun σ2 H2 => wipe σ2 c.vs = wipe σ c.vs ∧ c.tt σ2 H2 fun b H3 => (b = true → tRest D te cs σ2 H3 nx1) ∧ (b = false → nx1 H3))
def tLoop (D : Addr) (te : TE) (c : Cl) (cs : List Cl) (σ : L2.St) (J : It) (H1 : Hp) (nx : Hp → Prop) : Prop :=
  ∃ W : Nat → Nat → Hp → Prop, (∃ m, W 0 m H1) ∧ ∀ j m H, W j m H → (J.stop j H ∧ nx H) ∨ (J.go j H ∧ ∃ nx1 : Hp → Prop, (∀ H', nx1 H' → ∃ m', m' < m ∧ W (j + 1) m' H') ∧
      ∀ x H', J.yld j H x H' → c.g x (wipe σ c.vs) H' fun σ2 H2 => wipe σ2 c.vs = wipe σ c.vs ∧ c.tt σ2 H2 fun b H3 => (b = true → tRest D te cs σ2 H3 nx1) ∧ (b = false → nx1 H3))
/-- the clauses of the text from the k-th are cs -/
inductive Fit (gens : List Comprehension) : Nat → List Cl → Prop
  | nil {k : Nat} : gens[k]? = none → Fit gens k []
  | cons {k : Nat} {c : Cl} {cs : List Cl} : gens[k]? = some ⟨c.tg, c.iter, c.ifs, 0⟩ → Fit gens (k + 1) cs → Fit gens k (c :: cs)
structure ClOk (Y : Cx) (c : Cl) : Prop where
  g : PG Y c.tg c.g
  t : PTs Y c.ifs c.tt
/-- the clauses behind another -/
inductive Behind (Y : Cx) : List Nat → List Cl → Prop
  | nil {vs : List Nat} : Behind Y vs []
  | cons {vs : List Nat} {c : Cl} {cs : List Cl} : (∀ i ∈ c.vs, i ∈ vs) → PI Y c.tg c.iter c.wi → (∀ env x, foldedSetIterable c.iter env x = pure x) → ClOk Y c → Behind Y c.vs cs → Behind Y vs (c :: cs)
section
variable {Y : Cx} {elt : Expr} {gens : List Comprehension} {scope : Scope} {pos : Pos} {D : Addr} {te : TE}
theorem run_loop (calm : Y.calm = true) (xe : Y.xe = fun _ _ => False) (he : PE Y elt te) : ∀ (cs : List Cl) (c : Cl) (k : Nat), Fit gens k (c :: cs) → ClOk Y c → Behind Y c.vs cs →
    ∀ (pins : List (Addr × Obj)) (σ : L2.St) (H : Hp) (s : Shared) (it : Addr) (fp : List Addr) (tn : Nat → Heap → Prop) (J : It) (nx : Hp → Prop), Inv Y pins σ H s → Turn Y.prog Y.w Y.K c.tg J fp it tn → tn 0 s.heap → (∀ b ∈ fp, FpOk Y pins H b) → tLoop D te c cs σ J H nx →
    codeAny (model Y.prog Y.w) Y.A (.compLoop (.ListComp elt gens scope pos) k (.ref it) (.ref D) Y.env) (fun r s' => match r with
      | .ok _ => ∃ H', Inv Y pins (wipe σ c.vs) H' s' ∧ nx H'
      | .error _ => False) s := by
  intro cs
  induction cs with
  | nil =>
    intro c k fit ck bh pins σ H s it fp tn J nx I tr st fr h
    cases fit with
    | cons h1 f2 =>
    cases f2 with
    | nil h2 =>
    obtain ⟨W, ⟨m0, w0⟩, turns⟩ := h
    have clear : ∀ {G : Hp}, (∀ b ∈ fp, G b = none) → ∀ b ∈ fp, FpOk Y pins G b := fun n b hb => ⟨n b hb, (fr b hb).2⟩
    refine loop_last h1 h2 (fun m z => ∃ j G, Inv Y pins (wipe σ c.vs) G z ∧ tn j z.heap ∧ (∀ b ∈ fp, G b = none) ∧ W j m G) ?_ m0 ⟨0, H, I.weak (wipe_length _ _) (fun j v e => (wipe_some e).1), st, fun b z => (fr b z).1, w0⟩
    rintro m z1 ⟨j, G1, I1, st1, n1, w1⟩
    rcases turns j m G1 w1 with ⟨ends, qd⟩ | ⟨goes, nx1, sinks, each⟩
    · refine thnF (tr.done Y rfl rfl rfl calm j pins z1 _ G1 (fun _ _ => False) I1 (clear n1) st1 ends) fun r z2 ⟨er, I2⟩ => ?_
      subst er
      exact ⟨G1, I2, qd⟩
    · refine thnF (tr.item Y rfl rfl rfl calm j pins z1 _ G1 (fun _ _ => False) I1 (clear n1) st1 goes) fun r z2 ⟨u, er, go2⟩ => ?_
      subst er
      refine thnF go2 fun _ z3 ⟨x, G3, I3, r3, y3, st3, n3⟩ => ?_
      have I3p := I3.pinned (clear n3) (tr.obj _ _ st3)
      have pg := ck.g.run _ z3 _ G3 x u _ I3p r3 (each x G3 y3)
      rw [xe] at pg
      refine thnF pg fun _ z4 ⟨σ4, G4, I4, wp4, q4⟩ => ?_
      have pt := ck.t.run _ z4 σ4 G4 _ I4 q4
      rw [xe] at pt
      refine thnF pt fun b z5 ⟨G5, I5, q5⟩ => ?_
      have back : ∀ {z : Shared} {G : Hp}, Inv Y (pins ++ pinsAt fp z3.heap) σ4 G z → nx1 G → ∃ k, k < m ∧ ∃ j G, Inv Y pins (wipe σ c.vs) G z ∧ tn j z.heap ∧ (∀ b ∈ fp, G b = none) ∧ W j k G := fun {z G} Iz nz => by
        obtain ⟨k, less, wk⟩ := sinks G nz
        have stays : ∀ b ∈ fp, ∀ o, z3.heap.get? b = some o → z.heap.get? b = some o ∧ G b = none := fun b hb o e => by
          have p := Iz.pin (b, o) (List.mem_append_right _ (List.mem_append_right _ (mem_pinsAt hb e)))
          exact ⟨p.1, p.2.1⟩
        refine ⟨k, less, j + 1, G, Iz.unpinned.weak (by rw [← wp4, wipe_length]) (fun j v e => ?_), tr.keep _ _ _ st3 fun b hb o e => (stays b hb o e).1, fun b hb => ?_, wk⟩
        · rw [← wp4] at e
          exact (wipe_some e).1
        · obtain ⟨o, e, _⟩ := tr.obj _ _ st3 b hb
          exact (stays b hb o e).2
      refine ⟨fun eb => ?_, fun eb => back I5 (q5.2 eb)⟩
      have pe := he.run _ z5 σ4 G5 _ I5 (q5.1 eb)
      rw [xe] at pe
      exact thnF pe fun y z6 ⟨yv, G6, I6, r6, acc, hD, hz, q6⟩ => app_ok (X := Y) I6 hD hz r6 fun z7 I7 => back I7 q6
  | cons c' cs ih =>
    intro c k fit ck bh pins σ H s it fp tn J nx I tr st fr h
    cases fit with
    | cons h1 f2 =>
    cases bh with
    | cons sub pi' plain ck' bh' =>
    have f2' := f2
    cases f2' with
    | cons h2 f3 =>
    obtain ⟨W, ⟨m0, w0⟩, turns⟩ := h
    have clear : ∀ {G : Hp}, (∀ b ∈ fp, G b = none) → ∀ b ∈ fp, FpOk Y pins G b := fun n b hb => ⟨n b hb, (fr b hb).2⟩
    refine loop_mid h1 h2 (plain Y.env) (fun m z => ∃ j G, Inv Y pins (wipe σ c.vs) G z ∧ tn j z.heap ∧ (∀ b ∈ fp, G b = none) ∧ W j m G) ?_ m0 ⟨0, H, I.weak (wipe_length _ _) (fun j v e => (wipe_some e).1), st, fun b z => (fr b z).1, w0⟩
    rintro m z1 ⟨j, G1, I1, st1, n1, w1⟩
    rcases turns j m G1 w1 with ⟨ends, qd⟩ | ⟨goes, nx1, sinks, each⟩
    · refine thnF (tr.done Y rfl rfl rfl calm j pins z1 _ G1 (fun _ _ => False) I1 (clear n1) st1 ends) fun r z2 ⟨er, I2⟩ => ?_
      subst er
      exact ⟨G1, I2, qd⟩
    · refine thnF (tr.item Y rfl rfl rfl calm j pins z1 _ G1 (fun _ _ => False) I1 (clear n1) st1 goes) fun r z2 ⟨u, er, go2⟩ => ?_
      subst er
      refine thnF go2 fun _ z3 ⟨x, G3, I3, r3, y3, st3, n3⟩ => ?_
      have I3p := I3.pinned (clear n3) (tr.obj _ _ st3)
      have pg := ck.g.run _ z3 _ G3 x u _ I3p r3 (each x G3 y3)
      rw [xe] at pg
      refine thnF pg fun _ z4 ⟨σ4, G4, I4, wp4, q4⟩ => ?_
      have pt := ck.t.run _ z4 σ4 G4 _ I4 q4
      rw [xe] at pt
      refine thnF pt fun b z5 ⟨G5, I5, q5⟩ => ?_
      have back : ∀ {τ : L2.St} {z : Shared} {G : Hp}, (wipe σ c.vs).length = τ.length → (∀ (j : Nat) v, (wipe σ c.vs)[j]? = some (some v) → τ[j]? = some (some v)) → Inv Y (pins ++ pinsAt fp z3.heap) τ G z → nx1 G → ∃ k, k < m ∧ ∃ j G, Inv Y pins (wipe σ c.vs) G z ∧ tn j z.heap ∧ (∀ b ∈ fp, G b = none) ∧ W j k G := fun {τ z G} el ev Iz nz => by
        obtain ⟨k, less, wk⟩ := sinks G nz
        have stays : ∀ b ∈ fp, ∀ o, z3.heap.get? b = some o → z.heap.get? b = some o ∧ G b = none := fun b hb o e => by
          have p := Iz.pin (b, o) (List.mem_append_right _ (List.mem_append_right _ (mem_pinsAt hb e)))
          exact ⟨p.1, p.2.1⟩
        refine ⟨k, less, j + 1, G, Iz.unpinned.weak el ev, tr.keep _ _ _ st3 fun b hb o e => (stays b hb o e).1, fun b hb => ?_, wk⟩
        obtain ⟨o, e, _⟩ := tr.obj _ _ st3 b hb
        exact (stays b hb o e).2
      have l4 : (wipe σ c.vs).length = σ4.length := by rw [← wp4, wipe_length]
      have k4 : ∀ (j : Nat) v, (wipe σ c.vs)[j]? = some (some v) → σ4[j]? = some (some v) := fun j v e => by
        rw [← wp4] at e
        exact (wipe_some e).1
      refine ⟨fun eb => ?_, fun eb => back l4 k4 I5 (q5.2 eb)⟩
      have pi := pi'.run _ z5 σ4 G5 _ I5 (q5.1 eb)
      rw [xe] at pi
      refine thnF pi fun xv z6 hx => thnF hx fun itv z7 h7 => ?_
      obtain ⟨it1, fp1, tn1, J1, G7, e1, I7, tr1, st7, fr7, lp⟩ := h7
      subst e1
      have run := ih c' (k + 1) f2 ck' bh' _ σ4 G7 z7 it1 fp1 tn1 J1 nx1 I7 tr1 st7 fr7 lp
      refine codeAny_mono (start_at h2 run (tr1.self Y.A 0 _ _ _ st7 run)) fun r z8 hr => ?_
      cases r with
      | error e => exact hr.elim
      | ok f =>
        obtain ⟨G8, I8, n8⟩ := hr
        exact back (l4.trans (wipe_length σ4 c'.vs).symm) (fun j v e => by
          rw [← wp4] at e
          obtain ⟨e1, e2⟩ := wipe_some e
          rw [wipe_out fun z => e2 (sub j z)]
          exact e1) I8 n8
end
end Dz

/-! any number of for: the expression, and the rule over data -/
namespace Dz
open PySem PySem.Spec PyProof.Rows L2 GxR
section
variable {X : Cx} {tg iter elt : Expr} {ifs : List Expr} {more : List Comprehension} {scope : Scope} {own : List (Str × Nat)} {pos : Pos} {wi : TI} {g : TG} {tt : TT} {te : TE} {cs : List Cl}
def tLcN (tg iter : Expr) (ifs : List Expr) (wi : TI) (g : TG) (tt : TT) (te : TE) (cs : List Cl) (vs : List Nat) : TE := fun σ H Q => wi σ H fun J H1 => ∀ D, H1 D = none → tLoop D te ⟨tg, iter, ifs, vs, wi, g, tt⟩ cs (wipe σ vs) J (upd H1 D (.lst [])) fun H' => Q (.ref D) H'
theorem pe_lcN (calm : X.calm = true) (nod : X.N.Nodup) (hi : PI X tg iter wi) (ok : BlkOk X.N X.env.scope scope own) (fit : Fit (⟨tg, iter, ifs, 0⟩ :: more) 1 cs)
    (hc : ∀ (s : Shared) (H : Hp) (C : Addr) (cl : List (Str × Addr)) (fp : List Addr), ClOk (blkX X scope s H C cl fp) ⟨tg, iter, ifs, own.map (·.2), wi, g, tt⟩ ∧ Behind (blkX X scope s H C cl fp) (own.map (·.2)) cs ∧ PE (blkX X scope s H C cl fp) elt te)
    (plain : ∀ x, foldedSetIterable iter X.env x = pure x) : PE X (.ListComp elt (⟨tg, iter, ifs, 0⟩ :: more) scope pos) (tLcN tg iter ifs wi g tt te cs (own.map (·.2))) := by
  refine ⟨fun pins s σ H Q I h => ?_⟩
  rw [eval_ListComp]
  have cells : ∀ y ∈ scope.names, y.2 = .free → ∃ c, X.env.cells.lookup y.1 = some c := fun y hy e => (ok.free y hy e).elim (fun z => I.ok.has _ (.inl z)) fun z => I.ok.has _ (.inr z)
  refine wpAny_comprehension_free (use := none) rfl plain (closure_ok cells) ok.kind (fun y hy e => by rw [ok.uniq y hy, e]) ?_
  refine thn (hi.run pins s σ H _ I h) fun _ sa ha => thn ha fun _ sb hb => ?_
  obtain ⟨it, fp, tn, J, Hb, e, Ib, tr, st, free, body⟩ := hb
  subst e
  refine wpAny_newObj_type (newEnv_comp ?_) (by show 0 ≤ sizeLine; decide)
  obtain ⟨D, eD⟩ : ∃ D, D = sb.heap.objs.size := ⟨_, rfl⟩
  have bare : Hb D = none := Ib.hok.fresh (Nat.le_of_eq eD.symm)
  have lp := body D bare
  have grow : ∀ b o, sb.heap.get? b = some o → (sb.heap.push { cls := .type "list", data := .seq ([] : List Value).toArray }).get? b = some o := fun b o z => Heap.get?_push_of_some _ z
  obtain ⟨sc, esc⟩ : ∃ sc, sc = ({ sb with heap := sb.heap.push { cls := .type "list", data := .seq ([] : List Value).toArray } } : Shared) := ⟨_, rfl⟩
  have hsc : sc.heap = sb.heap.push { cls := .type "list", data := .seq ([] : List Value).toArray } := by rw [esc]
  obtain ⟨Hc, eH⟩ : ∃ Hc, Hc = upd Hb D (.lst []) := ⟨_, rfl⟩
  rw [← eH] at lp
  have Ic : Inv X pins σ Hc sc := by
    rw [esc, eH]
    refine Ib.laid (t' := sb.toks) grow (Nat.le_of_eq eD.symm) ⟨Nat.zero_le _, [], 0, .nil, ?_⟩
    rw [eD]
    exact Heap.get?_push_size _ rfl
  have low : ∀ b ∈ fp, b < sb.heap.objs.size := fun b z => by
    obtain ⟨o, z2, _⟩ := tr.obj _ _ st b z
    exact Heap.lt_size z2
  have freeC : ∀ b ∈ fp, FpOk X pins Hc b ∧ b < sc.heap.objs.size := fun b z => by
    refine ⟨⟨?_, (free b z).2⟩, by rw [hsc, Heap.size_push]; exact Nat.lt_succ_of_lt (low b z)⟩
    rw [eH, upd_ne (by rw [eD]; exact Nat.ne_of_lt (low b z))]
    exact (free b z).1
  have stC : tn 0 sc.heap := tr.keep _ _ _ st fun b _ o z => by rw [hsc]; exact grow b o z
  rw [← eD, ← esc]
  have Id := block_start Ic ok nod freeC
  have stD : tn 0 (pushCells (sc.heap.push { cls := .type "dict", data := .dict #[] }) scope.names) := tr.keep _ _ _ stC fun b _ o z => pushCells_keeps _ _ _ _ (Heap.get?_push_of_some _ z)
  let clo := cellsFrom (sc.heap.objs.size + 1) scope.names (cloFrom X.env.cells scope.names [])
  let Y : Cx := blkX X scope sc Hc sc.heap.objs.size clo fp
  obtain ⟨ck, bh, pe⟩ := hc sc Hc sc.heap.objs.size clo fp
  have clear : ∀ b ∈ fp, FpOk Y [] Hc b := fun b hb =>
    ⟨(freeC b hb).1.1, (Id.ok.exf b hb).1, Id.ok.exfs b hb, .inl hb, fun x c e => (Id.ok.exf b hb).2 x c e, fun p hp => nomatch (show p ∈ ([] : List (Addr × Obj)) from hp)⟩
  have run := run_loop (Y := Y) (pos := pos) (scope := scope) calm rfl pe cs ⟨tg, iter, ifs, own.map (·.2), wi, g, tt⟩ 0 (.cons rfl fit) ck bh [] _ Hc _ it fp tn J _ Id tr stD clear lp
  refine codeAny_mono (start_at (k := 0) rfl run (tr.self X.A 0 _ _ _ stD run)) fun r z2 hr => ?_
  cases r with
  | error e => exact hr.elim
  | ok f =>
    obtain ⟨G1, I2, qd⟩ := hr
    have Iout : Inv X pins σ G1 z2 := Ic.call' (ch := fp) I2.os I2.base I2.hok I2.bare fun b hb => ⟨(freeC b hb).1.2.2.2.1, (freeC b hb).1.2.1, (freeC b hb).1.2.2.2.2.1, (freeC b hb).1.2.2.2.2.2⟩
    obtain ⟨mm, ns, _⟩ := I2.loc
    have fo := Ic.fpOk (b := sc.heap.objs.size) (Nat.le_refl _) (show Hc sc.heap.objs.size = none from Ic.hok.fresh (Nat.le_refl _))
    exact ⟨mm, ns, fun h2 sb2 => ⟨.ref D, G1, Iout.turned (t' := z2.toks) (fun b o ne e => (sb2.2 b ne).trans e) I2.free fo.2.1 fo.2.2.2.1 fo.2.2.2.2.1 fo.2.2.2.2.2, rfl, qd⟩⟩
end
/-- a clause of the text: its names, those behind it too, what a data gives to them -/
structure Cs where
  tg : Expr
  iter : Expr
  ifs : List Expr
  vs : List Nat
  is : List Nat
  f : D → Option (List D)
  g : TG
/-- what the clauses tell, one after another: O stays -/
def DRest (T : List Addr) (X : Cx) (scope : Scope) (elt : Expr) : List Cs → List Slot → OH → List D → Prop
  | [], ρ, O, out => ∃ y, out = [y] ∧ DEb T X scope elt ρ O y O
  | c :: cs, ρ, O, out => ∃ (ds : List D) (outs : Nat → List D), Srb T X scope c.tg c.iter ρ O ds O ∧ out = (List.range ds.length).flatMap outs ∧
      ∀ j d, ds[j]? = some d → ∃ ps, c.f d = some ps ∧ ((DIfs T X scope c.ifs (setAll (wipS ρ c.vs) c.is (ps.map .dat)) O true O ∧ DRest T X scope elt cs (setAll (wipS ρ c.vs) c.is (ps.map .dat)) O (outs j)) ∨
        (DIfs T X scope c.ifs (setAll (wipS ρ c.vs) c.is (ps.map .dat)) O false O ∧ outs j = []))
def Cs.cl (X : Cx) (scope : Scope) (c : Cs) : Cl := ⟨c.tg, c.iter, c.ifs, c.vs, WIb X scope c.tg c.iter, c.g, TTb X scope c.ifs⟩
section
variable {T : List Addr} {X : Cx} {scope : Scope} {elt : Expr} {O : OH}
theorem rest_ok {B H : Hp} {a : Addr} (hA : At T X.K B O H) (na : H a = none) : ∀ (cs : List Cs) (ρ : List Slot) (out acc : List D) (σ : L2.St) (B1 H1 : Hp) (xs : List V) (nx : Hp → Prop), (∀ c ∈ cs, Tg X.K c.g c.is c.f ∧ ∀ i ∈ c.is, i ∈ c.vs) → DRest T X scope elt cs ρ O out → Env X.K B1 σ ρ →
    Post T X.K B O H B1 O H1 → B1 a = none → H1 a = some (.lst xs) → RpAll X.K B1 xs acc → (acc ++ out).length ≤ 1000000 → (∀ H2, LcZ T X.K B O H B1 a (acc ++ out) H2 → nx H2) → tRest a (TEb X scope elt) (cs.map (Cs.cl X scope)) σ H1 nx := by
  have o1 : O a = none := hA.noO na
  intro cs
  induction cs with
  | nil =>
    intro ρ out acc σ B1 H1 xs nx _ hr hE po b1 h1 rp hl hn
    obtain ⟨y, rfl, de⟩ := hr
    intro s0 H0 C cl fp
    refine de s0 H0 C cl fp σ B1 H1 hE po.at' _ fun v B2 H2 p2 r2 => ?_
    have ha : H1 a ≠ none := by rw [h1]; exact fun z => by cases z
    have k1 : B2 a = none := by rw [p2.new a ha o1]; exact b1
    have k3 : H2 a = some (.lst xs) := p2.fr a _ h1 o1 (hA.newT na)
    refine ⟨xs, k3, ?_, hn _ ⟨B2, xs ++ [v], p2.bb, Post.over hA na (po.trans p2) k1 o1, k1, upd_same, (rp.mono p2.bb).append (.cons r2 .nil)⟩⟩
    rw [rp.length]
    rw [List.length_append] at hl
    have : (1000000 : Nat) < sizeLine := by decide
    omega
  | cons c cs ih =>
    intro ρ out acc σ B1 H1 xs nx hts hr hE po b1 h1 rp hl hn
    obtain ⟨ds, outs, src, rfl, each⟩ := hr
    obtain ⟨tg, tis⟩ := hts c List.mem_cons_self
    intro s0 H0 C cl fp
    refine (src s0 H0 C cl fp).run σ B1 H1 hE po.at' _ fun J B3 H3 p3 wk => ?_
    have ha : H1 a ≠ none := by rw [h1]; exact fun z => by cases z
    have m1 : B3 a = none := by rw [p3.new a ha o1]; exact b1
    have m3 : H3 a = some (.lst xs) := p3.fr a _ h1 o1 (hA.newT na)
    let P := fun j => acc ++ (List.range j).flatMap outs
    have pre : ∀ j, j ≤ ds.length → (P j).length ≤ 1000000 := fun j hj => by
      have e : List.range ds.length = List.range j ++ (List.range (ds.length - j)).map (j + ·) := by
        rw [← List.range_add]
        congr 1
        omega
      rw [e, List.flatMap_append, ← List.append_assoc, List.length_append] at hl
      show (acc ++ (List.range j).flatMap outs).length ≤ 1000000
      omega
    refine ⟨fun j m H4 => m = ds.length - j ∧ j ≤ ds.length ∧ LcZ T X.K B O H B3 a (P j) H4, ⟨ds.length, by simp, Nat.zero_le _, B3, xs, Same.refl _, po.trans p3, m1, m3, by simpa [P] using rp.mono p3.bb⟩, ?_⟩
    rintro j m H4 ⟨rfl, hj, hz⟩
    have hz0 := hz
    obtain ⟨B4, ys, sb4, q2, q3, q5, q6⟩ := hz
    by_cases hlt : j < ds.length
    · refine .inr ⟨wk.go B4 O H4 j sb4 q2.at' hlt, LcZ T X.K B O H B3 a (P (j + 1)), fun H5 h => ⟨ds.length - (j + 1), by omega, rfl, hlt, h⟩, fun x H5 hy => ?_⟩
      obtain ⟨B5, d, hd1, pm, rd⟩ := wk.yld B4 O H4 j x H5 sb4 q2.at' hlt hy
      obtain ⟨ps, hps, alt⟩ := each j d hd1
      refine tg.run T B5 O H5 _ x d ps _ pm.at' rd hps fun vs rv => ?_
      have hb : H4 a ≠ none := by rw [q5]; exact fun z => by cases z
      have n1 : B5 a = none := by rw [pm.new a hb o1]; exact q3
      have n3 : H5 a = some (.lst ys) := pm.fr a _ q5 o1 (hA.newT na)
      refine ⟨wipe_fold tis |>.trans (wipe_wipe fun _ h => h), ?_⟩
      have hE5 := Env.setAll c.is (((((hE.mono p3.bb).mono sb4).mono pm.bb)).wipes c.vs) (Args.of rv)
      obtain ⟨σ5, e5⟩ : ∃ σ5, σ5 = List.foldl (fun σ (p : Nat × V) => σ.set p.1 (some p.2)) (wipe σ c.vs) (c.is.zip vs) := ⟨_, rfl⟩
      rw [← e5] at hE5
      show TTb X scope c.ifs (List.foldl (fun σ (p : Nat × V) => σ.set p.1 (some p.2)) (wipe σ c.vs) (c.is.zip vs)) H5 fun b H3 => (b = true → tRest a (TEb X scope elt) (cs.map (Cs.cl X scope)) (List.foldl (fun σ (p : Nat × V) => σ.set p.1 (some p.2)) (wipe σ c.vs) (c.is.zip vs)) H3 (LcZ T X.K B O H B3 a (P (j + 1)))) ∧ (b = false → LcZ T X.K B O H B3 a (P (j + 1)) H3)
      rw [← e5]
      have po5 := q2.trans pm
      have eP : P (j + 1) = P j ++ outs j := by
        show acc ++ (List.range (j + 1)).flatMap outs = _
        rw [List.range_succ, List.flatMap_append, ← List.append_assoc]
        simp [P]
      rcases alt with ⟨t1, t2⟩ | ⟨t1, t2⟩
      · refine t1 σ5 B5 H5 hE5 pm.at' _ fun B6 H6 p6 => ⟨fun _ => ?_, fun z => (by cases z)⟩
        have hc : H5 a ≠ none := by rw [n3]; exact fun z => by cases z
        have l1 : B6 a = none := by rw [p6.new a hc o1]; exact n1
        have l3 : H6 a = some (.lst ys) := p6.fr a _ n3 o1 (hA.newT na)
        refine ih _ (outs j) (P j) σ5 B6 H6 ys _ (fun c' hc' => hts c' (List.mem_cons_of_mem _ hc')) t2 (hE5.mono p6.bb) (po5.trans p6) l1 l3 ((q6.mono pm.bb).mono p6.bb) ?_ fun H7 hz7 => ?_
        · rw [← eP]
          exact pre (j + 1) hlt
        · rw [← eP] at hz7
          obtain ⟨B7, zs, w1, w2, w3, w4, w5⟩ := hz7
          exact ⟨B7, zs, ((sb4.trans pm.bb).trans p6.bb).trans w1, w2, w3, w4, w5⟩
      · refine t1 σ5 B5 H5 hE5 pm.at' _ fun B6 H6 p6 => ⟨fun z => (by cases z), fun _ => ?_⟩
        have hc : H5 a ≠ none := by rw [n3]; exact fun z => by cases z
        have l1 : B6 a = none := by rw [p6.new a hc o1]; exact n1
        have l3 : H6 a = some (.lst ys) := p6.fr a _ n3 o1 (hA.newT na)
        show LcZ T X.K B O H B3 a (P (j + 1)) H6
        rw [eP, t2, List.append_nil]
        exact ⟨B6, ys, (sb4.trans pm.bb).trans p6.bb, po5.trans p6, l1, l3, (q6.mono pm.bb).mono p6.bb⟩
    · have ej : j = ds.length := by omega
      subst ej
      refine .inl ⟨wk.stop B4 O H4 sb4 q2.at', hn _ ?_⟩
      exact ⟨B4, ys, p3.bb.trans sb4, q2, q3, q5, q6⟩
end
/-- the names of each clause stand among those that it wipes, and among those of the clause ahead -/
def chainV : List Nat → List Cs → Prop
  | _, [] => True
  | vs, c :: cs => (∀ i ∈ c.vs, i ∈ vs) ∧ chainV c.vs cs
section
variable {T : List Addr} {X : Cx} {scope : Scope} {elt tg iter : Expr} {ifs : List Expr} {more : List Comprehension} {ρ : List Slot} {O O1 : OH} {pos : Pos} {own : List (Str × Nat)} {ds : List D} {outs : Nat → List D} {g : TG} {is : List Nat} {f : D → Option (List D)} {cs : List Cs}
theorem behind_of {Y : Cx} : ∀ {cs : List Cs} {vs : List Nat}, chainV vs cs → (∀ c ∈ cs, PI Y c.tg c.iter (WIb X scope c.tg c.iter) ∧ PG Y c.tg c.g ∧ PTs Y c.ifs (TTb X scope c.ifs) ∧ ∀ env x, foldedSetIterable c.iter env x = pure x) → Behind Y vs (cs.map (Cs.cl X scope))
  | [], _, _, _ => .nil
  | c :: cs, _, h, k => .cons h.1 (k c List.mem_cons_self).1 (k c List.mem_cons_self).2.2.2 ⟨(k c List.mem_cons_self).2.1, (k c List.mem_cons_self).2.2.1⟩ (behind_of h.2 fun c' hc' => k c' (List.mem_cons_of_mem _ hc'))
theorem de_lcN (hsrc : Src T X tg iter ρ O ds O1) (hg : PGb X scope tg g) (ht : Tg X.K g is f) (his : ∀ i ∈ is, i ∈ own.map (·.2))
    (hcs : ∀ c ∈ cs, PGb X scope c.tg c.g ∧ (Tg X.K c.g c.is c.f ∧ ∀ i ∈ c.is, i ∈ c.vs) ∧ ∀ env x, foldedSetIterable c.iter env x = pure x) (hch : chainV (own.map (·.2)) cs) (fit : Fit (⟨tg, iter, ifs, 0⟩ :: more) 1 (cs.map (Cs.cl X scope)))
    (each : ∀ j d, ds[j]? = some d → ∃ ps, f d = some ps ∧ ((DIfs T X scope ifs (setAll (wipS ρ (own.map (·.2))) is (ps.map .dat)) O1 true O1 ∧ DRest T X scope elt cs (setAll (wipS ρ (own.map (·.2))) is (ps.map .dat)) O1 (outs j)) ∨
        (DIfs T X scope ifs (setAll (wipS ρ (own.map (·.2))) is (ps.map .dat)) O1 false O1 ∧ outs j = []))) (hl : ((List.range ds.length).flatMap outs).length ≤ 1000000)
    (hN : X.N.Nodup) (ok : BlkOk X.N X.env.scope scope own) (hc : X.calm = true := by rfl) (hfold : ∀ x, foldedSetIterable iter X.env x = pure x := by intro _; rfl) :
    DE T X (.ListComp elt (⟨tg, iter, ifs, 0⟩ :: more) scope pos) ρ O (.lst ((List.range ds.length).flatMap outs)) O1 :=
  de_of (pe_lcN (te := TEb X scope elt) (tt := TTb X scope ifs) hc hN pi_wi ok fit (fun s H C cl fp => ⟨⟨hg s H C cl fp, ptsb s H C cl fp⟩, behind_of hch fun c hc' => ⟨pi_wib s H C cl fp, (hcs c hc').1 s H C cl fp, ptsb s H C cl fp, (hcs c hc').2.2⟩, peb s H C cl fp⟩) hfold) fun σ B H hE hA Q q => by
    refine hsrc.run σ B H hE hA _ fun J B1 H1 p1 wk => fun a na => ?_
    have hA1 := p1.at'
    have o1 : O1 a = none := hA1.noO na
    let P := fun j => (List.range j).flatMap outs
    have pre : ∀ j, j ≤ ds.length → (P j).length ≤ 1000000 := fun j hj => by
      have e : List.range ds.length = List.range j ++ (List.range (ds.length - j)).map (j + ·) := by
        rw [← List.range_add]
        congr 1
        omega
      rw [e, List.flatMap_append, List.length_append] at hl
      show ((List.range j).flatMap outs).length ≤ 1000000
      omega
    refine ⟨fun j m H4 => m = ds.length - j ∧ j ≤ ds.length ∧ LcZ T X.K B1 O1 H1 B1 a (P j) H4, ⟨ds.length, by simp, Nat.zero_le _, B1, [], Same.refl _, Post.over hA1 na (Post.refl hA1) (hA1.noB na) o1, hA1.noB na, upd_same, .nil⟩, ?_⟩
    rintro j m H4 ⟨rfl, hj, hz⟩
    have hz0 := hz
    obtain ⟨B4, ys, sb4, q2, q3, q5, q6⟩ := hz
    by_cases hlt : j < ds.length
    · refine .inr ⟨wk.go B4 O1 H4 j sb4 q2.at' hlt, LcZ T X.K B1 O1 H1 B1 a (P (j + 1)), fun H5 h => ⟨ds.length - (j + 1), by omega, rfl, hlt, h⟩, fun x H5 hy => ?_⟩
      obtain ⟨B5, d, hd1, pm, rd⟩ := wk.yld B4 O1 H4 j x H5 sb4 q2.at' hlt hy
      obtain ⟨ps, hps, alt⟩ := each j d hd1
      show g x (wipe (wipe σ (own.map (·.2))) (own.map (·.2))) H5 _
      have ew : wipe (wipe σ (own.map (·.2))) (own.map (·.2)) = wipe σ (own.map (·.2)) := wipe_wipe fun _ h => h
      rw [ew]
      refine ht.run T B5 O1 H5 _ x d ps _ pm.at' rd hps fun vs rv => ?_
      have hb : H4 a ≠ none := by rw [q5]; exact fun z => by cases z
      have n1 : B5 a = none := by rw [pm.new a hb o1]; exact q3
      have n3 : H5 a = some (.lst ys) := pm.fr a _ q5 o1 (hA1.newT na)
      refine ⟨?_, ?_⟩
      · exact (wipe_fold his).trans ew
      have hE5 := Env.setAll is (((((hE.mono p1.bb).mono sb4).mono pm.bb)).wipes (own.map (·.2))) (Args.of rv)
      obtain ⟨σ5, e5⟩ : ∃ σ5, σ5 = List.foldl (fun σ (p : Nat × V) => σ.set p.1 (some p.2)) (wipe σ (own.map (·.2))) (is.zip vs) := ⟨_, rfl⟩
      rw [← e5] at hE5 ⊢
      have po5 := q2.trans pm
      have eP : P (j + 1) = P j ++ outs j := by
        show (List.range (j + 1)).flatMap outs = _
        rw [List.range_succ, List.flatMap_append]
        simp [P]
      rcases alt with ⟨t1, t2⟩ | ⟨t1, t2⟩
      · refine t1 σ5 B5 H5 hE5 pm.at' _ fun B6 H6 p6 => ⟨fun _ => ?_, fun z => (by cases z)⟩
        have hc : H5 a ≠ none := by rw [n3]; exact fun z => by cases z
        have l1 : B6 a = none := by rw [p6.new a hc o1]; exact n1
        have l3 : H6 a = some (.lst ys) := p6.fr a _ n3 o1 (hA1.newT na)
        refine rest_ok hA1 na cs _ (outs j) (P j) σ5 B6 H6 ys _ (fun c' hc' => (hcs c' hc').2.1) t2 (hE5.mono p6.bb) (po5.trans p6) l1 l3 ((q6.mono pm.bb).mono p6.bb) ?_ fun H7 hz7 => ?_
        · rw [← eP]
          exact pre (j + 1) hlt
        · rw [← eP] at hz7
          obtain ⟨B7, zs, w1, w2, w3, w4, w5⟩ := hz7
          exact ⟨B7, zs, ((sb4.trans pm.bb).trans p6.bb).trans w1, w2, w3, w4, w5⟩
      · refine t1 σ5 B5 H5 hE5 pm.at' _ fun B6 H6 p6 => ⟨fun z => (by cases z), fun _ => ?_⟩
        have hc : H5 a ≠ none := by rw [n3]; exact fun z => by cases z
        have l1 : B6 a = none := by rw [p6.new a hc o1]; exact n1
        have l3 : H6 a = some (.lst ys) := p6.fr a _ n3 o1 (hA1.newT na)
        show LcZ T X.K B1 O1 H1 B1 a (P (j + 1)) H6
        rw [eP, t2, List.append_nil]
        exact ⟨B6, ys, (sb4.trans pm.bb).trans p6.bb, po5.trans p6, l1, l3, (q6.mono pm.bb).mono p6.bb⟩
    · have ej : j = ds.length := by omega
      subst ej
      exact .inl ⟨wk.stop B4 O1 H4 sb4 q2.at', LcZ.fin hA1 na hz0 fun v B2 H2 p2 r2 => q v B2 H2 (p1.trans p2) r2⟩
end
end Dz

/-! targets within blocks, in short -/
namespace Dz
open PySem PySem.Spec PyProof.Rows L2 GxR
section
variable {X : Cx} {scope : Scope} {n : Str} {np tp : Pos} {es : List Expr} {is : List Nat} {k : Nat}
theorem pgb_name (i : Nat) (hN : X.N.Nodup) (hi : X.N[i]? = some n := by rfl) (hx : ∀ (s : Shared) (H : Hp) (C : Addr) (cl : List (Str × Addr)) (fp : List Addr), Loc (blkX X scope s H C cl fp).env.scope n := by first | exact fun _ _ _ _ _ => Or.inl rfl | exact fun _ _ _ _ _ => Or.inr rfl)
    (hf : ∀ (s : Shared) (H : Hp) (C : Addr) (cl : List (Str × Addr)) (fp : List Addr), (blkX X scope s H C cl fp).fn n = true ∨ (blkX X scope s H C cl fp).env.scope.names.lookup n = some .local := by first | exact fun _ _ _ _ _ => .inl rfl | exact fun _ _ _ _ _ => .inr rfl) : PGb X scope (.Name n np) (gName i) := fun s H C cl fp => pg_name (X := blkX X scope s H C cl fp) hN hi (hx s H C cl fp) (hf s H C cl fp)
theorem pgb_tup (is : List Nat) (hN : X.N.Nodup) (hn : ∀ (s : Shared) (H : Hp) (C : Addr) (cl : List (Str × Addr)) (fp : List Addr), Dz.Names (blkX X scope s H C cl fp) es is)
    (g1 : ∀ (s : Shared) (H : Hp) (C : Addr) (cl : List (Str × Addr)) (fp : List Addr), (assignEach es (blkX X scope s H C cl fp).env).length = is.length := by intro _ _ _ _ _; rfl) (g2 : ∀ (s : Shared) (H : Hp) (C : Addr) (cl : List (Str × Addr)) (fp : List Addr), (assignEach es (blkX X scope s H C cl fp).env).findIdx? (·.1) = none := by intro _ _ _ _ _; rfl)
    (hc : X.calm = true := by rfl) : PGb X scope (.Tuple es k tp) (gTup X.K is.length fun vs σ H Q => vs.length = is.length ∧ Q (List.foldl (fun σ (p : Nat × V) => σ.set p.1 (some p.2)) σ (is.zip vs)) H) := fun s H C cl fp => pg_tup (X := blkX X scope s H C cl fp) hc (pgs_names (X := blkX X scope s H C cl fp) hN (hn s H C cl fp)) (g1 s H C cl fp) (g2 s H C cl fp)
theorem pg_tupN (is : List Nat) (hN : X.N.Nodup) (hn : Dz.Names X es is) (g1 : (assignEach es X.env).length = is.length := by rfl) (g2 : (assignEach es X.env).findIdx? (·.1) = none := by rfl) (hc : X.calm = true := by rfl) :
    PG X (.Tuple es k tp) (gTup X.K is.length fun vs σ H Q => vs.length = is.length ∧ Q (List.foldl (fun σ (p : Nat × V) => σ.set p.1 (some p.2)) σ (is.zip vs)) H) := pg_tup hc (pgs_names hN hn) g1 g2
theorem pg_nameN (i : Nat) (hN : X.N.Nodup) (hi : X.N[i]? = some n := by rfl) (hx : Loc X.env.scope n := by first | exact Or.inl rfl | exact Or.inr rfl) (hf : X.fn n = true ∨ X.env.scope.names.lookup n = some .local := by first | exact .inl rfl | exact .inr rfl) : PG X (.Name n np) (gName i) := pg_name hN hi hx hf
theorem getD_at {α : Type} {l : List α} {j : Nat} {d z : α} (h : l[j]? = some d) : l.getD j z = d := by
  rw [List.getD_eq_getElem?_getD, h]
  rfl
end
end Dz

/-! in, not in, of lists that are owned; l.index(x) of lists of data -/
namespace Dz
open PySem PySem.Spec PyProof.Rows L2 GxR
/-- data that may be laid out -/
def layD (d : D) : Bool := d.py.canLay0 && D.ok 32 d
section
variable {T : List Addr} {X : Cx} {ρ : List Slot} {O O1 O2 O3 : OH} {e a b o : Expr} {pos apos : Pos} {d x y z : D} {c : Addr} {ds : List D}
theorem own_rp {B H : Hp} (hA : At T X.K B O H) (ho : O c = some (.lst (ds.map .dat))) : Rp X.K H (.ref c) (.lst ds) := by
  obtain ⟨_, u, hu, ok⟩ := hA.own c _ ho
  cases u <;> try exact ok.elim
  rename_i vs
  exact .lst hu ((Args.all ok).mono hA.base)
theorem dt_inOL {k : Nat} (hr : Room k X.A) (hx : D.ok 32 x = true) (hy : D.oks 32 ds = true) (ha : DE T X a ρ O x O1) (hb : DV T X b ρ O1 (.val (.ref c)) O2) (ho : O2 c = some (.lst (ds.map .dat))) (hm : behindInMarks .In b = false := by rfl) : DT T X (.Compare a [.In] [b] pos) ρ O (ds.any fun z => deq z x) O2 :=
  .mk fun σ B H hE hA Q q => wt_of (pt_cmpR (op_inO hr.units) pe_we pe_we hm) (ha σ B H hE hA _ fun v B1 H1 p1 r1 => hb σ B1 H1 (hE.mono p1.bb) p1.at' _ fun w B2 H2 p2 r2 => by
    have ev : w = .ref c := r2
    subst ev
    exact ⟨x, ds, (r1.mono p2.bb).mono p2.at'.base, .inl (own_rp p2.at' ho), hx, hy, ⟨_, rfl, q B2 H2 (p1.trans p2)⟩⟩)
theorem dt_ninOL {k : Nat} (hr : Room k X.A) (hx : D.ok 32 x = true) (hy : D.oks 32 ds = true) (ha : DE T X a ρ O x O1) (hb : DV T X b ρ O1 (.val (.ref c)) O2) (ho : O2 c = some (.lst (ds.map .dat))) (hm : behindInMarks .NotIn b = false := by rfl) : DT T X (.Compare a [.NotIn] [b] pos) ρ O (!ds.any fun z => deq z x) O2 :=
  .mk fun σ B H hE hA Q q => wt_of (pt_cmpR (op_notInO hr.units) pe_we pe_we hm) (ha σ B H hE hA _ fun v B1 H1 p1 r1 => hb σ B1 H1 (hE.mono p1.bb) p1.at' _ fun w B2 H2 p2 r2 => by
    have ev : w = .ref c := r2
    subst ev
    exact ⟨x, ds, (r1.mono p2.bb).mono p2.at'.base, .inl (own_rp p2.at' ho), hx, hy, ⟨_, rfl, q B2 H2 (p1.trans p2)⟩⟩)
theorem lay_shaped (h : layD d = true) : SeqAt.shaped d.py = true := by
  unfold layD at h
  rw [Bool.and_eq_true] at h
  unfold SeqAt.shaped
  rw [h.1, decide_eq_true (Nat.le_trans (ok_plain _ _ h.2).2 (by decide))]
  rfl
theorem lay_ok (h : layD d = true) : D.ok 32 d = true := by
  unfold layD at h
  rw [Bool.and_eq_true] at h
  exact h.2
theorem lays_all : ∀ {ds : List D}, (∀ d ∈ ds, layD d = true) → PyData.canLayAll0 (D.pys ds) = true ∧ D.oks 32 ds = true
  | [], _ => ⟨by rw [D.pys]; rfl, rfl⟩
  | d :: ds, h => by
    obtain ⟨h1, h2⟩ := lays_all fun e he => h e (List.mem_cons_of_mem _ he)
    have h0 := h d List.mem_cons_self
    unfold layD at h0
    rw [Bool.and_eq_true] at h0
    constructor
    · rw [D.pys]
      simp only [PyData.canLayAll0, h0.1, h1, Bool.and_self]
    · rw [D.oks, h0.2, h2]
      rfl
theorem index_rel {K : PySem.W.Frag} {H : Hp} {y : V} {j : Nat} {Q : VK} (hl : Rp K H (.ref c) (.lst ds)) (hy : Rp K H y d) (ld : layD d = true) (ls : ∀ e ∈ ds, layD e = true) (hz : ds[j]? = some z) (he : deq z d = true) (hno : ∀ m z', m < j → ds[m]? = some z' → deq z' d = false) (q : Q (.int (j : Nat)) H) : rIndexD K (.ref c) [y] H Q := by
  obtain ⟨h1, h2⟩ := lays_all ls
  have hp := (Rp.dp 33 hl (by rw [D.ok]; exact h2) : Dp K H (.ref c) (D.py (.lst ds)))
  rw [D.py] at hp
  refine ⟨c, y, d.py, D.pys ds, j, z.py, rfl, rfl, hp, hy.dp 32 (lay_ok ld), ?_, lay_shaped ld, ?_, he, fun m z' hm hz' => ?_, q⟩
  · unfold SeqAt.shaped
    rw [Bool.and_eq_true]
    constructor
    · simpa only [PyData.canLay0] using h1
    · refine decide_eq_true ?_
      have := (oks_plain _ _ h2).2
      simp only [PyData.depth]
      omega
  · rw [pys_map, List.getElem?_map, hz]
    rfl
  · rw [pys_map, List.getElem?_map] at hz'
    obtain ⟨z0, e1, rfl⟩ := Option.map_eq_some_iff.mp hz'
    exact hno m z0 hm e1
/-- l.index(x), the list owned -/
theorem de_indexO {k : Nat} {j : Nat} {s0 : List Slot} (hr : Room k X.A) (ha : DV T X o ρ O (.val (.ref c)) O1) (ho1 : O1 c = some (.lst s0)) (hb : DE T X b ρ O1 d O2) (ho : O2 c = some (.lst (ds.map .dat))) (ld : layD d = true) (ls : ∀ e ∈ ds, layD e = true) (hz : ds[j]? = some z) (he : deq z d = true) (hno : ∀ m z', m < j → ds[m]? = some z' → deq z' d = false)
    (pe : ∀ hu : X.A.units + 65 < cLine, PE X (.Call (.Attribute o "index" apos) [b] [] pos) (tBM X.K "list" (rIndexD X.K) (WE X o) (tCons (WE X b) tNil)) := by exact fun hu => pe_bm PySem.F.plainAttrs_list PySem.F.slot_list_index PySem.F.type_list_index (mt_indexD hu) pe_we (pa_cons pe_we pa_nil)) :
    DE T X (.Call (.Attribute o "index" apos) [b] [] pos) ρ O (.int (j : Int)) O2 := by
  refine de_of (pe (by have := hr.un; omega)) fun σ B H hE hA Q q => ?_
  refine ha σ B H hE hA _ fun v B1 H1 p1 r1 => ?_
  have ev : v = .ref c := r1
  subst ev
  obtain ⟨_, u0, hu0, ok0⟩ := p1.at'.own c _ ho1
  cases u0 <;> try exact ok0.elim
  refine ⟨.inl ⟨rfl, _, SqL.of hu0⟩, ?_⟩
  refine hb σ B1 H1 (hE.mono p1.bb) p1.at' _ fun w B2 H2 p2 r2 => ?_
  exact index_rel (own_rp p2.at' ho) (r2.mono p2.at'.base) ld ls hz he hno (q _ B2 H2 (p1.trans p2) (.int _))
/-- l.index(x), l data -/
theorem de_indexL {k : Nat} {j : Nat} (hr : Room k X.A) (ha : DE T X o ρ O (.lst ds) O1) (hb : DE T X b ρ O1 d O2) (ld : layD d = true) (ls : ∀ e ∈ ds, layD e = true) (hz : ds[j]? = some z) (he : deq z d = true) (hno : ∀ m z', m < j → ds[m]? = some z' → deq z' d = false)
    (pe : ∀ hu : X.A.units + 65 < cLine, PE X (.Call (.Attribute o "index" apos) [b] [] pos) (tBM X.K "list" (rIndexD X.K) (WE X o) (tCons (WE X b) tNil)) := by exact fun hu => pe_bm PySem.F.plainAttrs_list PySem.F.slot_list_index PySem.F.type_list_index (mt_indexD hu) pe_we (pa_cons pe_we pa_nil)) :
    DE T X (.Call (.Attribute o "index" apos) [b] [] pos) ρ O (.int (j : Int)) O2 := by
  refine de_of (pe (by have := hr.un; omega)) fun σ B H hE hA Q q => ?_
  refine ha σ B H hE hA _ fun v B1 H1 p1 r1 => ?_
  have r1' := r1
  cases r1 with
  | lst h0 r0 =>
    refine ⟨.inl ⟨rfl, _, SqL.of (p1.at'.base _ _ h0)⟩, ?_⟩
    refine hb σ B1 H1 (hE.mono p1.bb) p1.at' _ fun w B2 H2 p2 r2 => ?_
    exact index_rel ((r1'.mono p2.bb).mono p2.at'.base) (r2.mono p2.at'.base) ld ls hz he hno (q _ B2 H2 (p1.trans p2) (.int _))
end
end Dz

/-! x = [e for y in xs], xs owned, x a plain local -/
namespace Dz
open PySem PySem.Spec PyProof.Rows L2 GxR
section
variable {T : List Addr} {X : Cx} {CE : Addr} {ρ : List Slot} {O O1 O2 : OH} {iter elt : Expr} {ifs : List Expr} {scope : Scope} {n : Str} {np py pos spos : Pos} {ss : List Slot} {out : List D} {E : DEn}
theorem d1_setLcO {y : Str} (i0 : Nat) (i : Nat) {l : Addr} (he : DV T X iter ρ O (.val (.ref l)) O1) (hO : O1 l = some (.lst ss)) (I : Nat → List D → Prop) (h0 : I 0 []) (ht : ∀ j s acc, ss[j]? = some s → I j acc → LcTurn T X scope ifs elt (fun j acc O' => I j acc ∧ O' = cut O1 l) j ((ρ.set i .no).set i s) acc (cut O1 l)) (hd : ∀ acc, I ss.length acc → acc = out)
    (hk : E.nx (ρ.set i0 (.dat (.lst out))) O1) (hl : ss.length ≤ 100000) (hN : X.N.Nodup) (ok : BlkOk X.N X.env.scope scope [(n, i)]) (hi : X.N[i]? = some n := by rfl) (hx : ∀ (s : Shared) (H : Hp) (C : Addr) (cl : List (Str × Addr)) (fp : List Addr), Loc (blkX X scope s H C cl fp).env.scope n := by first | exact fun _ _ _ _ _ => Or.inl rfl | exact fun _ _ _ _ _ => Or.inr rfl)
    (hf : ∀ (s : Shared) (H : Hp) (C : Addr) (cl : List (Str × Addr)) (fp : List Addr), (blkX X scope s H C cl fp).fn n = true ∨ (blkX X scope s H C cl fp).env.scope.names.lookup n = some .local := by first | exact fun _ _ _ _ _ => .inl rfl | exact fun _ _ _ _ _ => .inr rfl) (hc : X.calm = true := by rfl) (hs : ∀ x, foldedSetIterable iter X.env x = pure x := by intro _; rfl)
    (hy : X.N[i0]? = some y := by rfl) (hyl : X.env.scope.names.lookup y = some .local := by rfl) (hsw : swapsWith (.ListComp elt [⟨.Name n np, iter, ifs, 0⟩] scope pos) (some (.Name y py)) spos.line X.env = pure true := by exact sw_true rfl rfl rfl (by decide +kernel)) :
    D1 T X CE (.Assign [.Name y py] (.ListComp elt [⟨.Name n np, iter, ifs, 0⟩] scope pos) spos) ρ O E := .mk fun σ B H hE hA Dn W tk lk => by
  refine ws_of (ps_setLc hc hN hy hyl hsw (pi_list pe_we) ok (fun s H C cl fp => pg_name hN hi (hx s H C cl fp) (hf s H C cl fp)) ptsb peb hs) ?_
  exact he σ B H hE hA _ fun v B1 H1 p1 r1 => by
    have ev : v = .ref l := r1
    subst ev
    have hA0 := p1.at'
    obtain ⟨_, u, hu, ok'⟩ := hA0.own l _ hO
    cases u <;> try exact ok'.elim
    rename_i xs
    have okA : Args X.K B1 xs ss := ok'
    refine ⟨l, rfl, ⟨xs, SqL.of hu⟩, fun a na => ?_⟩
    have hA1 : At T X.K B1 (cut O1 l) H1 := hA0.forget l
    refine lc_list (K := X.K) (xs := xs) (a := l) (fun j H' => LcI T X.K B1 (cut O1 l) H1 a (fun j acc O' => I j acc ∧ O' = cut O1 l) j H') (LcI.start hA1 na ⟨h0, rfl⟩) (fun j H' _ h => ?_) (fun j x H' hj h => ?_) (fun H' h => ?_)
    · obtain ⟨B', _, _, _, _, h2, _⟩ := h
      exact SqL.of (h2.fr l _ hu cut_same (hA0.notT hO))
    · have hjl : j < ss.length := by
        rw [← okA.length]
        exact (List.getElem?_eq_some_iff.mp hj).1
      have hsj : ss[j]? = some ss[j] := List.getElem?_eq_getElem hjl
      obtain ⟨x', e1, e2⟩ := okA.get hsj
      have ex : x' = x := by rw [hj] at e1; exact (Option.some.inj e1).symm
      subst ex
      exact lc_turnS (σ := σ) (σ1 := (wipe σ [i]).set i (some x')) (ρ1 := (ρ.set i .no).set i ss[j]) (is := [i]) hA1 na (Nat.lt_of_lt_of_le hjl hl) ((wipe_set (List.mem_singleton.mpr rfl)).trans (wipe_wipe fun _ h => h)) (fun B' sb => (((hE.mono p1.bb).mono sb).wipe1 i).set (o := some x') (s := ss[j]) (e2.mono sb) i) (fun acc O' hI => by
        obtain ⟨hI, rfl⟩ := hI
        exact ht j _ acc hsj hI) h
    · rw [okA.length] at h
      exact LcI.fin (out := out) (Oo := cut O1 l) (Q := fun v H' => Dn.nx (σ.set i0 (some v)) H') hA1 na h (fun acc O' hI => ⟨hd acc hI.1, hI.2⟩) fun v B2 H2 p2 r2 => by
        have z := Post.regain hA0 hO p2
        rw [put_cut hO] at z
        exact lk.nx _ _ _ B2 H2 hk (p1.trans z) (((hE.mono p1.bb).mono p2.bb).set (o := some v) (s := .dat (.lst out)) r2 i0)
end
end Dz

namespace Dg
open PySem PySem.Spec PyProof.Rows L2 GxR Dz
def top (i : Nat) : Stmt := PySem.Challenge.pw_dragtold_k17_merged.main.body.getD i (.Pass ⟨0, 0, 0, 0⟩)
abbrev sIsNumber : Stmt := top 1
abbrev sIsBelow : Stmt := top 2
abbrev sIsWord : Stmt := top 3
abbrev sErrI : Stmt := inClass (top 5) 0
abbrev s_classes_of : Stmt := top 7
abbrev s_numbered : Stmt := top 8
abbrev s_first_members : Stmt := top 9
abbrev sSetupI : Stmt := inClass (top 18) 0
abbrev sListI : Stmt := inClass (top 19) 0
abbrev sIsChoice : Stmt := top 20
abbrev sInOrder : Stmt := top 21
abbrev sAreStates : Stmt := top 22
abbrev sAreRules : Stmt := top 23
abbrev sIsRule : Stmt := top 24
abbrev sTakes : Stmt := top 25
abbrev s_all_signals : Stmt := top 27
abbrev s_table_of : Stmt := top 29
abbrev s_states_behind : Stmt := top 30
abbrev s_merged : Stmt := top 33
abbrev s_on_list : Stmt := top 34
abbrev sLCell : Stmt := top 36
abbrev sLRow : Stmt := top 37
abbrev sLDraw : Stmt := top 38
abbrev sLSome : Stmt := top 39
abbrev sLKinds : Stmt := top 40
abbrev sLSetup : Stmt := top 41
abbrev s_law_troubles : Stmt := top 42
abbrev sLSignals : Stmt := top 43
abbrev sLRule : Stmt := top 44
abbrev sLSample : Stmt := top 45
abbrev sLList : Stmt := top 46
abbrev sLNext : Stmt := top 47
abbrev s_law_made : Stmt := top 48
abbrev sLListening : Stmt := top 49
abbrev s_law_classes : Stmt := top 50
abbrev s_law_due : Stmt := top 51
abbrev s_law_told : Stmt := top 52
abbrev sLaw : Stmt := top 53
end Dg

namespace Dg
open PySem PySem.Spec PyProof.Rows L2 GxR Dz
def isNum : D → Bool
  | .int i => decide (0 ≤ i)
  | _ => false
def isBelow (n : Int) : D → Bool
  | .int i => decide (0 ≤ i) && decide (i < n)
  | _ => false
def isWord (ws : List Str) : D → Bool
  | .str x => (ws.map D.str).any fun y => deq y (.str x)
  | _ => false
theorem oks_strs (ws : List Str) (n : Nat) : D.oks n (ws.map D.str) = true := by
  rw [oks_all, List.all_map]
  exact List.all_eq_true.mpr fun _ _ => by cases n <;> rfl
section
variable {P : Program} {w : World} {K : PySem.W.Frag} {mg : Str → Option Value} {base : Heap} {T : List Addr}
theorem scNum : FnScope ["value"] ["value"] (defScope sIsNumber) := ⟨rfl, rfl, rfl, by decide +kernel, rfl, by decide +kernel, by decide +kernel⟩
def pNum (ss : List Slot) (O : OH) (d : D) (O' : OH) : Prop := ∃ x, ss = [.dat x] ∧ Pl x ∧ d = .bl (isNum x) ∧ O' = O
theorem ok_num {f : Addr} {fd : FuncData} {cdv : Value} (F : FunC K "is_number" "is_number" sIsNumber f fd cdv) (L : Blt mg) : FnOk P w K mg base CX0 1 f fd ["value"] (spF T K pNum) := by
  refine fn_ok (CE := (0 : Addr)) (R := pNum) F scNum (fun ss O d O' ⟨x, h, _⟩ => by rw [h]; rfl) fun A outer s H E ss O d O' hr h => ?_
  obtain ⟨x, h1, h2, h3, h4⟩ := h
  subst h1 h3 h4
  refine ds_one (d1_ret (s := .dat (.bl (isNum x))) (O1 := O') ?_ (by exact ⟨rfl, rfl⟩))
  have h1 : isaInt x = true → isaBool x = false → ∃ i, x = .int i := by cases h2 <;> simp [isaInt, isaBool]
  have hq : isNum x = (isaInt x && ((!isaBool x) && isNum x)) := by cases h2 <;> rfl
  rw [hq]
  refine (de_and (de_isInt L h2 (de_var 0)) fun z1 => de_and (de_not (de_isBool L h2 (de_var 0))) fun z2 => de_one ?_).dv
  obtain ⟨i, rfl⟩ := h1 z1 (by simpa using z2)
  exact de_ge (de_var 0) de_int
theorem scBelow : FnScope ["value", "bound"] ["value", "bound"] (defScope sIsBelow) := ⟨rfl, rfl, rfl, by decide +kernel, rfl, by decide +kernel, by decide +kernel⟩
def pBelow (ss : List Slot) (O : OH) (d : D) (O' : OH) : Prop := ∃ x n, ss = [.dat x, .dat (.int n)] ∧ Pl x ∧ d = .bl (isBelow n x) ∧ O' = O
theorem ok_below {f g : Addr} {fd gd : FuncData} {cdv : Value} (F : FunC K "is_number_below" "is_number_below" sIsBelow f fd cdv) (L : Blt mg) (G : FnOk P w K mg base CX0 1 g gd ["value"] (spF T K pNum)) (hg : mg "is_number" = some (.ref g)) (kg : PySem.W.keepIn K (.ref g) = true) (bg : Binds K gd ["value"] []) :
    FnOk P w K mg base CX0 2 f fd ["value", "bound"] (spF T K pBelow) := by
  refine fn_ok (CE := (0 : Addr)) (R := pBelow) F scBelow (fun ss O d O' ⟨x, n, h, _⟩ => by rw [h]; rfl) fun A outer s H E ss O d O' hr h => ?_
  obtain ⟨x, n, h1, h2, h3, h4⟩ := h
  subst h1 h3 h4
  refine ds_one (d1_ret (s := .dat (.bl (isBelow n x))) (O1 := O') ?_ (by exact ⟨rfl, rfl⟩))
  have hq : isBelow n x = (isNum x && isBelow n x) := by
    cases h2 with
    | int i => show (decide (0 ≤ i) && decide (i < n)) = (decide (0 ≤ i) && (decide (0 ≤ i) && decide (i < n))); rw [← Bool.and_assoc, Bool.and_self]
    | _ => rfl
  have h1 : isNum x = true → ∃ i, x = .int i ∧ 0 ≤ i := by cases h2 <;> simp [isNum]
  rw [hq]
  refine DE.dv (de_and (de_call G hr hg kg bg pass0 (da_d (de_var 0) da_nil) ⟨x, rfl, h2, rfl, rfl⟩) fun z => de_one ?_)
  obtain ⟨i, rfl, hi⟩ := h1 z
  have e : isBelow n (.int i) = decide (i < n) := by show (decide (0 ≤ i) && decide (i < n)) = _; rw [decide_eq_true hi, Bool.true_and]
  rw [e]
  exact de_lt (de_var 0) (de_var 1)
theorem scWord : FnScope ["value", "words"] ["value", "words"] (defScope sIsWord) := ⟨rfl, rfl, rfl, by decide +kernel, rfl, by decide +kernel, by decide +kernel⟩
def pWord (ss : List Slot) (O : OH) (d : D) (O' : OH) : Prop := ∃ x ws, ss = [.dat x, .dat (.tup (ws.map .str))] ∧ Pl x ∧ d = .bl (isWord ws x) ∧ O' = O
theorem ok_word {f : Addr} {fd : FuncData} {cdv : Value} (F : FunC K "is_word" "is_word" sIsWord f fd cdv) (L : Blt mg) : FnOk P w K mg base CX0 1 f fd ["value", "words"] (spF T K pWord) := by
  refine fn_ok (CE := (0 : Addr)) (R := pWord) F scWord (fun ss O d O' ⟨x, ws, h, _⟩ => by rw [h]; rfl) fun A outer s H E ss O d O' hr h => ?_
  obtain ⟨x, ws, h1, h2, h3, h4⟩ := h
  subst h1 h3 h4
  refine ds_one (d1_ret (s := .dat (.bl (isWord ws x))) (O1 := O') ?_ (by exact ⟨rfl, rfl⟩))
  have hq : isWord ws x = (isaStr x && isWord ws x) := by cases h2 <;> rfl
  have h1 : isaStr x = true → ∃ t, x = .str t := by cases h2 <;> simp [isaStr]
  rw [hq]
  refine (de_and (de_isStr L h2 (de_var 0)) fun z => de_one ?_).dv
  obtain ⟨t, rfl⟩ := h1 z
  exact de_inT hr (by rfl) (oks_strs ws 32) (de_var 0) (de_var 1)
end
end Dg

namespace Dg
open PySem PySem.Spec PyProof.Rows L2 GxR Dz
theorem deq_int (a b : Int) : deq (.int a) (.int b) = decide (a = b) := by
  unfold deq D.py PyData.eqv
  rfl
theorem deq_str (a b : Str) : deq (.str a) (.str b) = decide (a = b) := by
  unfold deq D.py PyData.eqv
  rfl
def strsOf : List D → List Str := List.filterMap fun
  | .str x => some x
  | _ => none
def intsOf : List D → List Int := List.filterMap fun
  | .int x => some x
  | _ => none
theorem strs_of {ws : List Str} : ∀ {ds : List D}, ds.all (isWord ws) = true → ds = (strsOf ds).map .str
  | [], _ => rfl
  | d :: ds, h => by
    rw [List.all_cons, Bool.and_eq_true] at h
    have e := strs_of h.2
    cases d <;> first | (simp [isWord] at h; done) | skip
    rename_i x
    show D.str x :: ds = (x :: strsOf ds).map .str
    rw [List.map_cons, ← e]
theorem ints_of {n : Int} : ∀ {ds : List D}, ds.all (isBelow n) = true → ds = (intsOf ds).map .int
  | [], _ => rfl
  | d :: ds, h => by
    rw [List.all_cons, Bool.and_eq_true] at h
    have e := ints_of h.2
    cases d <;> first | (simp [isBelow] at h; done) | skip
    rename_i x
    show D.int x :: ds = (x :: intsOf ds).map .int
    rw [List.map_cons, ← e]
def isChoice (ws : List Str) : D → Bool
  | .lst ds => ds.all (isWord ws) && decide (((DzS.dd (strsOf ds)).length : Int) = ds.length)
  | .tup ds => ds.all (isWord ws) && decide (((DzS.dd (strsOf ds)).length : Int) = ds.length)
  | _ => false
/-- short, and the items plain -/
def PlS : D → Prop
  | .lst ds => ds.length ≤ 4000 ∧ ∀ d ∈ ds, Pl d
  | .tup ds => ds.length ≤ 4000 ∧ ∀ d ∈ ds, Pl d
  | _ => True
section
variable {P : Program} {w : World} {K : PySem.W.Frag} {mg : Str → Option Value} {base : Heap} {T : List Addr}
theorem scChoice : FnScope ["chosen", "words", "word"] ["chosen", "words"] (defScope sIsChoice) := ⟨rfl, rfl, rfl, by decide +kernel, rfl, by decide +kernel, by decide +kernel⟩
def pChoice (ss : List Slot) (O : OH) (d : D) (O' : OH) : Prop := ∃ x ws, ss = [.dat x, .dat (.tup (ws.map .str))] ∧ Pl x ∧ PlS x ∧ d = .bl (isChoice ws x) ∧ O' = O
theorem ok_choice {f g c tb : Addr} {fd gd : FuncData} (F : FunC K "is_choice" "is_choice" sIsChoice f fd (.ref c)) (L : Blt mg) (hT : tb ∈ T) (TB : TabB base mg c tb) (G : FnOk P w K mg base CX0 1 g gd ["value", "words"] (spF T K pWord)) (hg : mg "is_word" = some (.ref g)) (kg : PySem.W.keepIn K (.ref g) = true) (bg : Binds K gd ["value", "words"] []) :
    FnOk P w K mg base CX0 3 f fd ["chosen", "words"] (spF T K pChoice) := by
  refine fn_ok (CE := (0 : Addr)) (R := pChoice) F scChoice (fun ss O d O' ⟨x, ws, h, _⟩ => by rw [h]; rfl) fun A outer s H E ss O d O' hr h => ?_
  obtain ⟨x, ws, h1, h2, h3, h4, h5⟩ := h
  subst h1 h4 h5
  have hp := h2
  cases h2 with
  | lst ds =>
    refine ds_cons (d1_if (DT.cast (q := false) (dt_not (dt_val (de_isLT L hp (de_var 0)))) rfl) (fun z => by cases z) fun _ => ds_nil ?_)
    refine ds_cons (d1_if (dt_not (dt_val (de_allL 2 hr hT TB rfl scChoice.nd L.all (blkOk_by rfl) (by exact ⟨rfl, rfl, by decide +kernel, rfl, rfl⟩) (de_var 0) (fun y hy s' H' cl C code fp A' hr' => de_call G hr' hg kg bg pass0 (da_d (de_var 2) (da_d (de_var 1) da_nil)) ⟨y, ws, rfl, h3.2 y hy, rfl, rfl⟩)))) (fun z => ?_) fun z => ds_nil ?_)
    · have z' : ds.all (isWord ws) = false := by simpa using z
      refine ds_one (d1_ret (s := .dat (.bl false)) de_bl.dv ⟨by show _ = Slot.dat (.bl (_ && _)); rw [z']; rfl, rfl⟩)
    · have z' : ds.all (isWord ws) = true := by simpa using z
      refine ds_one (d1_ret (s := .dat (.bl (isChoice ws (.lst ds)))) ?_ ⟨rfl, rfl⟩)
      have hs : SetLenD ds (DzS.dd (strsOf ds)).length := by
        have e := strs_of z'
        have q := SetLenD.str (strsOf ds)
        rw [← e] at q
        exact q
      refine DE.dv (DE.cast (de_eq hr (by rfl) (by rfl) (de_lenSetL L.len L.set (de_var 0) hs h3.1) (de_lenL L.len (de_var 0))) ?_)
      rw [deq_int]
      show D.bl _ = .bl (ds.all (isWord ws) && _)
      rw [z', Bool.true_and]
  | tup ds =>
    refine ds_cons (d1_if (DT.cast (q := false) (dt_not (dt_val (de_isLT L hp (de_var 0)))) rfl) (fun z => by cases z) fun _ => ds_nil ?_)
    refine ds_cons (d1_if (dt_not (dt_val (de_allT 2 hr hT TB rfl scChoice.nd L.all (blkOk_by rfl) (by exact ⟨rfl, rfl, by decide +kernel, rfl, rfl⟩) (de_var 0) (fun y hy s' H' cl C code fp A' hr' => de_call G hr' hg kg bg pass0 (da_d (de_var 2) (da_d (de_var 1) da_nil)) ⟨y, ws, rfl, h3.2 y hy, rfl, rfl⟩)))) (fun z => ?_) fun z => ds_nil ?_)
    · have z' : ds.all (isWord ws) = false := by simpa using z
      refine ds_one (d1_ret (s := .dat (.bl false)) de_bl.dv ⟨by show _ = Slot.dat (.bl (_ && _)); rw [z']; rfl, rfl⟩)
    · have z' : ds.all (isWord ws) = true := by simpa using z
      refine ds_one (d1_ret (s := .dat (.bl (isChoice ws (.tup ds)))) ?_ ⟨rfl, rfl⟩)
      have hs : SetLenD ds (DzS.dd (strsOf ds)).length := by
        have e := strs_of z'
        have q := SetLenD.str (strsOf ds)
        rw [← e] at q
        exact q
      refine DE.dv (DE.cast (de_eq hr (by rfl) (by rfl) (de_lenSetT L.len L.set (de_var 0) hs h3.1) (de_lenT L.len (de_var 0))) ?_)
      rw [deq_int]
      show D.bl _ = .bl (ds.all (isWord ws) && _)
      rw [z', Bool.true_and]
  | non => exact ds_cons (d1_if (DT.cast (q := true) (dt_not (dt_val (de_isLT L hp (de_var 0)))) rfl) (fun _ => ds_one (d1_ret (s := .dat (.bl false)) de_bl.dv ⟨rfl, rfl⟩)) fun z => by cases z)
  | bl b => exact ds_cons (d1_if (DT.cast (q := true) (dt_not (dt_val (de_isLT L hp (de_var 0)))) rfl) (fun _ => ds_one (d1_ret (s := .dat (.bl false)) de_bl.dv ⟨rfl, rfl⟩)) fun z => by cases z)
  | int b => exact ds_cons (d1_if (DT.cast (q := true) (dt_not (dt_val (de_isLT L hp (de_var 0)))) rfl) (fun _ => ds_one (d1_ret (s := .dat (.bl false)) de_bl.dv ⟨rfl, rfl⟩)) fun z => by cases z)
  | str b => exact ds_cons (d1_if (DT.cast (q := true) (dt_not (dt_val (de_isLT L hp (de_var 0)))) rfl) (fun _ => ds_one (d1_ret (s := .dat (.bl false)) de_bl.dv ⟨rfl, rfl⟩)) fun z => by cases z)
end
end Dg

namespace Dg
open PySem PySem.Spec PyProof.Rows L2 GxR Dz
def isStates (n : Int) : D → Bool
  | .lst ds => ds.all (isBelow n) && decide (((DzS.dd (intsOf ds)).length : Int) = ds.length)
  | _ => false
def KINDS : List Str := ["enter", "leave", "over", "drop", "end"]
def SIDES : List Str := ["outside", "inside", "zone"]
def RELS : List Str := ["none", "outside", "inside"]
def isRule (n : Int) : D → Bool
  | .tup [a, b, c, d, e, f] => (a.isNon || isBelow n a) && ((b.isNon || isWord KINDS b) && ((c.isNon || isWord SIDES c) && ((d.isNon || isaBool d) && ((e.isNon || isWord RELS e) && isBelow n f))))
  | _ => false
def isRules (n : Int) : D → Bool
  | .lst ds => decide ((ds.length : Int) ≤ 1200) && ds.all (isRule n)
  | _ => false
/-- the items of a rule are plain -/
def PlT : D → Prop
  | .tup ds => ∀ d ∈ ds, Pl d
  | _ => True
def PlRs : D → Prop
  | .lst ds => ds.length ≤ 4000 ∧ ∀ d ∈ ds, Pl d ∧ PlT d
  | _ => True
section
variable {P : Program} {w : World} {K : PySem.W.Frag} {mg : Str → Option Value} {base : Heap} {T : List Addr}
theorem scStates : FnScope ["on", "states", "state"] ["on", "states"] (defScope sAreStates) := ⟨rfl, rfl, rfl, by decide +kernel, rfl, by decide +kernel, by decide +kernel⟩
def pStates (ss : List Slot) (O : OH) (d : D) (O' : OH) : Prop := ∃ x n, ss = [.dat x, .dat (.int n)] ∧ Pl x ∧ PlS x ∧ d = .bl (isStates n x) ∧ O' = O
theorem ok_states {f g c tb : Addr} {fd gd : FuncData} (F : FunC K "are_states" "are_states" sAreStates f fd (.ref c)) (L : Blt mg) (hT : tb ∈ T) (TB : TabB base mg c tb) (G : FnOk P w K mg base CX0 2 g gd ["value", "bound"] (spF T K pBelow)) (hg : mg "is_number_below" = some (.ref g)) (kg : PySem.W.keepIn K (.ref g) = true) (bg : Binds K gd ["value", "bound"] []) :
    FnOk P w K mg base CX0 4 f fd ["on", "states"] (spF T K pStates) := by
  refine fn_ok (CE := (0 : Addr)) (R := pStates) F scStates (fun ss O d O' ⟨x, n, h, _⟩ => by rw [h]; rfl) fun A outer s H E ss O d O' hr h => ?_
  obtain ⟨x, n, h1, h2, h3, h4, h5⟩ := h
  subst h1 h4 h5
  have hp := h2
  cases h2 with
  | lst ds =>
    refine ds_cons (d1_if (DT.cast (q := false) (dt_not (dt_val (de_isList L hp (de_var 0)))) rfl) (fun z => by cases z) fun _ => ds_nil ?_)
    refine ds_cons (d1_if (dt_not (dt_val (de_allL 2 hr hT TB rfl scStates.nd L.all (blkOk_by rfl) (by exact ⟨rfl, rfl, by decide +kernel, rfl, rfl⟩) (de_var 0) (fun y hy s' H' cl C code fp A' hr' => de_call G hr' hg kg bg pass0 (da_d (de_var 2) (da_d (de_var 1) da_nil)) ⟨y, n, rfl, h3.2 y hy, rfl, rfl⟩)))) (fun z => ?_) fun z => ds_nil ?_)
    · have z' : ds.all (isBelow n) = false := by simpa using z
      refine ds_one (d1_ret (s := .dat (.bl false)) de_bl.dv ⟨by show _ = Slot.dat (.bl (_ && _)); rw [z']; rfl, rfl⟩)
    · have z' : ds.all (isBelow n) = true := by simpa using z
      refine ds_one (d1_ret (s := .dat (.bl (isStates n (.lst ds)))) ?_ ⟨rfl, rfl⟩)
      have hs : SetLenD ds (DzS.dd (intsOf ds)).length := by
        have e := ints_of z'
        have q := SetLenD.int (intsOf ds)
        rw [← e] at q
        exact q
      refine DE.dv (DE.cast (de_eq hr (by rfl) (by rfl) (de_lenSetL L.len L.set (de_var 0) hs h3.1) (de_lenL L.len (de_var 0))) ?_)
      rw [deq_int]
      show D.bl _ = .bl (ds.all (isBelow n) && _)
      rw [z', Bool.true_and]
  | _ => exact ds_cons (d1_if (DT.cast (q := true) (dt_not (dt_val (de_isList L hp (de_var 0)))) rfl) (fun _ => ds_one (d1_ret (s := .dat (.bl false)) de_bl.dv ⟨rfl, rfl⟩)) fun z => by cases z)

theorem scRules : FnScope ["rules", "states", "rule"] ["rules", "states"] (defScope sAreRules) := ⟨rfl, rfl, rfl, by decide +kernel, rfl, by decide +kernel, by decide +kernel⟩
def pRule (ss : List Slot) (O : OH) (d : D) (O' : OH) : Prop := ∃ x n, ss = [.dat x, .dat (.int n)] ∧ Pl x ∧ PlT x ∧ d = .bl (isRule n x) ∧ O' = O
def pRules (ss : List Slot) (O : OH) (d : D) (O' : OH) : Prop := ∃ x n, ss = [.dat x, .dat (.int n)] ∧ Pl x ∧ PlRs x ∧ d = .bl (isRules n x) ∧ O' = O
theorem ok_rules {f g c tb : Addr} {fd gd : FuncData} {um : Value} (F : FunC K "are_rules" "are_rules" sAreRules f fd (.ref c)) (L : Blt mg) (hT : tb ∈ T) (TB : TabB base mg c tb) (hM : mg "MOST_RULES" = some um) (kM : kdB K 0 um (.int 1200) = true) (G : FnOk P w K mg base CX0 3 g gd ["rule", "states"] (spF T K pRule)) (hg : mg "is_rule" = some (.ref g)) (kg : PySem.W.keepIn K (.ref g) = true) (bg : Binds K gd ["rule", "states"] []) :
    FnOk P w K mg base CX0 5 f fd ["rules", "states"] (spF T K pRules) := by
  refine fn_ok (CE := (0 : Addr)) (R := pRules) F scRules (fun ss O d O' ⟨x, n, h, _⟩ => by rw [h]; rfl) fun A outer s H E ss O d O' hr h => ?_
  obtain ⟨x, n, h1, h2, h3, h4, h5⟩ := h
  subst h1 h4 h5
  have hp := h2
  cases h2 with
  | lst ds =>
    refine ds_cons (d1_if (DW.dt (dw_or (p := false) (dt_not (dt_val (de_isList L hp (de_var 0)))) fun _ => dw_or1 (dt_gt (de_lenL L.len (de_var 0)) (de_gk hM kM)))) (fun z => ?_) fun z => ds_nil ?_)
    · have z' : ((1200 : Int) < ds.length) := by simpa using z
      refine ds_one (d1_ret (s := .dat (.bl false)) de_bl.dv ⟨by show _ = Slot.dat (.bl (_ && _)); rw [decide_eq_false (by omega)]; rfl, rfl⟩)
    · have z' : ¬ ((1200 : Int) < ds.length) := by simpa using z
      refine ds_one (d1_ret (s := .dat (.bl (isRules n (.lst ds)))) ?_ ⟨rfl, rfl⟩)
      refine DE.dv (DE.cast (de_allL 2 hr hT TB rfl scRules.nd L.all (blkOk_by rfl) (by exact ⟨rfl, rfl, by decide +kernel, rfl, rfl⟩) (de_var 0) (fun y hy s' H' cl C code fp A' hr' => de_call G (hr'.mono (by decide)) hg kg bg pass0 (da_d (de_var 2) (da_d (de_var 1) da_nil)) ⟨y, n, rfl, (h3.2 y hy).1, (h3.2 y hy).2, rfl, rfl⟩)) ?_)
      show D.bl _ = .bl (decide ((ds.length : Int) ≤ 1200) && _)
      rw [decide_eq_true (by omega), Bool.true_and]
  | _ => exact ds_cons (d1_if (DW.dt (dw_or (p := true) (q := true) (DT.cast (dt_not (dt_val (de_isList L hp (de_var 0)))) rfl) fun z => by cases z)) (fun _ => ds_one (d1_ret (s := .dat (.bl false)) de_bl.dv ⟨rfl, rfl⟩)) fun z => by cases z)
end
end Dg
namespace Dg
open PySem PySem.Spec PyProof.Rows L2 GxR Dz
section
variable {P : Program} {w : World} {K : PySem.W.Frag} {mg : Str → Option Value} {base : Heap} {T : List Addr}
theorem scRule : FnScope ["rule", "states", "source", "kind", "side", "same", "related", "following"] ["rule", "states"] (defScope sIsRule) := ⟨rfl, rfl, rfl, by decide +kernel, rfl, by decide +kernel, by decide +kernel⟩
theorem ok_rule {f g g2 : Addr} {fd gd gd2 : FuncData} {cdv uk us ur : Value} (F : FunC K "is_rule" "is_rule" sIsRule f fd cdv) (L : Blt mg)
    (hk : mg "KINDS" = some uk) (kk : kdB K 1 uk (.tup (KINDS.map .str)) = true) (hs : mg "SIDES" = some us) (ks : kdB K 1 us (.tup (SIDES.map .str)) = true) (hR : mg "RELATED_SIDES" = some ur) (kR : kdB K 1 ur (.tup (RELS.map .str)) = true)
    (G : FnOk P w K mg base CX0 2 g gd ["value", "bound"] (spF T K pBelow)) (hg : mg "is_number_below" = some (.ref g)) (kg : PySem.W.keepIn K (.ref g) = true) (bg : Binds K gd ["value", "bound"] [])
    (G2 : FnOk P w K mg base CX0 1 g2 gd2 ["value", "words"] (spF T K pWord)) (hg2 : mg "is_word" = some (.ref g2)) (kg2 : PySem.W.keepIn K (.ref g2) = true) (bg2 : Binds K gd2 ["value", "words"] []) :
    FnOk P w K mg base CX0 3 f fd ["rule", "states"] (spF T K pRule) := by
  refine fn_ok (CE := (0 : Addr)) (R := pRule) F scRule (fun ss O d O' ⟨x, n, h, _⟩ => by rw [h]; rfl) fun A outer s H E ss O d O' hr h => ?_
  obtain ⟨x, n, h1, h2, h3, h4, h5⟩ := h
  subst h1 h4 h5
  have hp := h2
  cases h2 with
  | tup ds =>
    have pl : ∀ d ∈ ds, Pl d := h3
    by_cases hl : (ds.length : Int) = 6
    · refine ds_cons (d1_if (DT.cast (q := false) (dt_not (DW.dt (dw_and (p := true) (dt_val (de_isTup L hp (de_var 0))) fun _ => dw_and1 (dt_eq hr (by rfl) (by rfl) (de_lenT L.len (de_var 0)) de_int)))) ?_) (fun z => by cases z) fun _ => ds_nil ?_)
      · rw [deq_int, decide_eq_true hl]; rfl
      match ds, hl, pl, hp, h3 with
      | [a, b, c, d, e, g'], _, pl, hp, h3 =>
        refine ds_cons (d1_unpack (is := [2, 3, 4, 5, 6, 7]) (de_var 0) rfl (by repeat' (first | exact Dz.Names.nil | refine Dz.Names.cons rfl (by first | exact Or.inl rfl | exact Or.inr rfl) (by first | exact .inl rfl | exact .inr rfl) rfl ?_)) ?_ scRule.nd)
        have pa : Pl a := pl a (by simp)
        have pb : Pl b := pl b (by simp)
        have pc : Pl c := pl c (by simp)
        have pd : Pl d := pl d (by simp)
        have pe : Pl e := pl e (by simp)
        have pg : Pl g' := pl g' (by simp)
        refine ds_one (d1_ret (s := .dat (.bl (isRule n (.tup [a, b, c, d, e, g'])))) (DE.dv ?_) ⟨rfl, rfl⟩)
        show DE T _ _ [.dat (.tup [a, b, c, d, e, g']), .dat (.int n), .dat a, .dat b, .dat c, .dat d, .dat e, .dat g'] O' (.bl ((a.isNon || isBelow n a) && ((b.isNon || isWord KINDS b) && ((c.isNon || isWord SIDES c) && ((d.isNon || isaBool d) && ((e.isNon || isWord RELS e) && isBelow n g')))))) O'
        refine de_and (de_or (de_isN (de_var 2) de_non) fun _ => de_one (de_call G (hr.mono (by decide)) hg kg bg pass0 (da_d (de_var 2) (da_d (de_var 1) da_nil)) ⟨a, n, rfl, pa, rfl, rfl⟩)) fun _ => ?_
        refine de_and (de_or (de_isN (de_var 3) de_non) fun _ => de_one (de_call G2 (hr.mono (by decide)) hg2 kg2 bg2 pass0 (da_d (de_var 3) (da_d (de_gk hk kk) da_nil)) ⟨b, KINDS, rfl, pb, rfl, rfl⟩)) fun _ => ?_
        refine de_and (de_or (de_isN (de_var 4) de_non) fun _ => de_one (de_call G2 (hr.mono (by decide)) hg2 kg2 bg2 pass0 (da_d (de_var 4) (da_d (de_gk hs ks) da_nil)) ⟨c, SIDES, rfl, pc, rfl, rfl⟩)) fun _ => ?_
        refine de_and (de_or (de_isN (de_var 5) de_non) fun _ => de_one (de_isBool L pd (de_var 5))) fun _ => ?_
        refine de_and (de_or (de_isN (de_var 6) de_non) fun _ => de_one (de_call G2 (hr.mono (by decide)) hg2 kg2 bg2 pass0 (da_d (de_var 6) (da_d (de_gk hR kR) da_nil)) ⟨e, RELS, rfl, pe, rfl, rfl⟩)) fun _ => ?_
        exact de_one (de_call G (hr.mono (by decide)) hg kg bg pass0 (da_d (de_var 7) (da_d (de_var 1) da_nil)) ⟨g', n, rfl, pg, rfl, rfl⟩)
      | [], h, _, _, _ => simp at h
      | [_], h, _, _, _ => simp at h
      | [_, _], h, _, _, _ => simp at h
      | [_, _, _], h, _, _, _ => simp at h
      | [_, _, _, _], h, _, _, _ => simp at h
      | [_, _, _, _, _], h, _, _, _ => simp at h
      | _ :: _ :: _ :: _ :: _ :: _ :: _ :: _, h, _, _, _ => simp at h; omega
    · have hq : isRule n (.tup ds) = false := by
        unfold isRule
        split
        · rename_i z
          cases z
          exact absurd rfl hl
        · rfl
      refine ds_cons (d1_if (DT.cast (q := true) (dt_not (DW.dt (dw_and (p := true) (dt_val (de_isTup L hp (de_var 0))) fun _ => dw_and1 (dt_eq hr (by rfl) (by rfl) (de_lenT L.len (de_var 0)) de_int)))) ?_) (fun _ => ds_one (d1_ret (s := .dat (.bl false)) de_bl.dv ⟨by rw [hq], rfl⟩)) fun z => by cases z)
      rw [deq_int, decide_eq_false hl]; rfl
  | _ => exact ds_cons (d1_if (DT.cast (q := true) (dt_not (DW.dt (dw_and (p := false) (q := false) (dt_val (de_isTup L hp (de_var 0))) fun z => by cases z))) rfl) (fun _ => ds_one (d1_ret (s := .dat (.bl false)) de_bl.dv ⟨rfl, rfl⟩)) fun z => by cases z)
end
end Dg

namespace Dg
open PySem PySem.Spec PyProof.Rows L2 GxR Dz
/-- what is known of the program's own error -/
structure Err (K : PySem.W.Frag) (mg : Str → Option Value) (CE fI : Addr) : Prop where
  o : OexC K CE
  iC : PySem.W.findIn K (.ref CE) "__init__" = some (some (.ref fI))
  tI : PySem.W.typeIn K (.ref fI) = some (.type "function")
  gC : mg "DragError" = some (.ref CE)
  no : PySem.W.findIn K (.ref CE) "reason" = some none
  vV : PySem.W.findCls K (.type "ValueError") (.type "type") "__init__" = some (.val (.builtin "ValueError.__init__"))
  mV : mg "ValueError" = none
  xf : XfC K CE
  me : PySem.W.exmOne K (.ref CE) (.ref CE) = some true
section
variable {P : Program} {w : World} {K : PySem.W.Frag} {mg : Str → Option Value} {base : Heap} {T : List Addr} {CE fI : Addr}
theorem scErrI : FnScope ["self", "reason"] ["self", "reason"] (defScope sErrI) := ⟨rfl, rfl, rfl, by decide +kernel, rfl, by decide +kernel, by decide +kernel⟩
theorem ok_errI {f : Addr} {fd : FuncData} {cdv : Value} (F : FunC K "__init__" "DragError.__init__" sErrI f fd cdv) (V : Err K mg CE fI) : FnOk P w K mg base CX0 1 f fd ["self", "reason"] (spI CE) := by
  obtain ⟨oc, od, kV, doc, pm, an, ct, osl, rfl, lk, hcd⟩ := F.ex
  refine fn_of lk hcd scErrI (fun vs H Q E h => ?_) fun A outer s H vs Q E hr hsp => ?_
  · obtain ⟨a, v, rfl, _⟩ := h
    rfl
  · obtain ⟨a, v, rfl, ha, q⟩ := hsp
    refine ⟨_, PSs.nox (pss_cons (ps_expr (pe_veinit rfl V.mV V.vV (pa_cons (pv 0) (pa_cons (pv 1) pa_nil)))) (pss_one (ps_ost (pv 0) (pv 1)))), ?_⟩
    refine ⟨_, rfl, _, rfl, a, CE, [v], rfl, (by show 1 ≤ 1000; decide), V.o, ha, _, rfl, _, rfl, a, CE, rfl, V.o, V.no, .inl ⟨ha, fun dx ndx ne => q dx ndx ne⟩⟩

def appl (st h1 h2 h3 h4 : D) : D → Bool
  | .tup [a, b, c, d, e, _] => (a.isNon || deq a st) && ((b.isNon || deq b h1) && ((c.isNon || deq c h2) && ((d.isNon || deq d h3) && (e.isNon || deq e h4))))
  | _ => false
/-- a rule's shape -/
def RShape (r : D) : Prop := ∃ a b c d e f, r = .tup [a, b, c, d, e, f] ∧ D.ok 32 a = true ∧ D.ok 32 b = true ∧ D.ok 32 c = true ∧ D.ok 32 d = true ∧ D.ok 32 e = true
def ruleEnd : D → D
  | .tup [_, _, _, _, _, f] => f
  | _ => .non
def nextD (st h1 h2 h3 h4 : D) : List D → D
  | [] => st
  | r :: rs => if appl st h1 h2 h3 h4 r = true then ruleEnd r else nextD st h1 h2 h3 h4 rs
theorem nextD_cons {st h1 h2 h3 h4 r : D} {rs : List D} : nextD st h1 h2 h3 h4 (r :: rs) = if appl st h1 h2 h3 h4 r = true then ruleEnd r else nextD st h1 h2 h3 h4 rs := rfl
theorem nextD_skip {st h1 h2 h3 h4 : D} : ∀ (rs : List D) (j : Nat), (rs.take j).all (fun r => !appl st h1 h2 h3 h4 r) = true → nextD st h1 h2 h3 h4 rs = nextD st h1 h2 h3 h4 (rs.drop j)
  | _, 0, _ => rfl
  | [], _ + 1, _ => rfl
  | r :: rs, j + 1, h => by
    rw [List.take_succ_cons, List.all_cons, Bool.and_eq_true] at h
    have h0 : appl st h1 h2 h3 h4 r = false := by simpa using h.1
    rw [nextD_cons, if_neg (by rw [h0]; exact Bool.false_ne_true), List.drop_succ_cons]
    exact nextD_skip rs j h.2
def insList (C : Addr) (states on rules : D) : D := .ins C [("states", states), ("on", on), ("rules", rules)]
structure Fld3 (K : PySem.W.Frag) (C : Addr) (a b c : Str) : Prop where
  cl : Cls K C
  a : NoAttr K C a
  b : NoAttr K C b
  c : NoAttr K C c
end
end Dg
namespace Dg
open PySem PySem.Spec PyProof.Rows L2 GxR Dz
section
variable {P : Program} {w : World} {K : PySem.W.Frag} {mg : Str → Option Value} {base : Heap} {T : List Addr} {CE fI : Addr}
def takD (h1 h2 h3 h4 : D) : D → Bool
  | .tup [_, b, c, d, e, _] => (b.isNon || deq b h1) && ((c.isNon || deq c h2) && ((d.isNon || deq d h3) && (e.isNon || deq e h4)))
  | _ => false
def pTakes (ss : List Slot) (O : OH) (d : D) (O' : OH) : Prop := ∃ r h1 h2 h3 h4, ss = [.dat r, .dat (.tup [h1, h2, h3, h4])] ∧ RShape r ∧ D.ok 32 h1 = true ∧ D.ok 32 h2 = true ∧ D.ok 32 h3 = true ∧ D.ok 32 h4 = true ∧ d = .bl (takD h1 h2 h3 h4 r) ∧ O' = O
theorem scTakes : FnScope ["rule", "signal", "_", "kind", "side", "same", "related", "heard_kind", "heard_side", "heard_same", "heard_related"] ["rule", "signal"] (defScope sTakes) := ⟨rfl, rfl, rfl, by decide +kernel, rfl, by decide +kernel, by decide +kernel⟩
theorem ok_takes {f : Addr} {fd : FuncData} {cdv : Value} (F : FunC K "takes_signal" "takes_signal" sTakes f fd cdv) : FnOk P w K mg base CX0 1 f fd ["rule", "signal"] (spF T K pTakes) := by
  refine fn_ok (CE := (0 : Addr)) (R := pTakes) F scTakes (fun ss O d O' ⟨r, h1, h2, h3, h4, h, _⟩ => by rw [h]; rfl) fun A outer s H E ss O d O' hr h => ?_
  obtain ⟨r, h1, h2, h3, h4, e1, ⟨a, b, c, d', e, f', er, ka, kb, kc, kd, ke⟩, k1, k2, k3, k4, e2, e3⟩ := h
  subst e1 er e2 e3
  refine ds_cons (d1_unpack (is := [2, 3, 4, 5, 6, 2]) (de_var 0) rfl (by repeat' (first | exact Dz.Names.nil | refine Dz.Names.cons rfl (by first | exact Or.inl rfl | exact Or.inr rfl) (by first | exact .inl rfl | exact .inr rfl) rfl ?_)) ?_ scTakes.nd)
  refine ds_cons (d1_unpack (is := [7, 8, 9, 10]) (de_var 1) rfl (by repeat' (first | exact Dz.Names.nil | refine Dz.Names.cons rfl (by first | exact Or.inl rfl | exact Or.inr rfl) (by first | exact .inl rfl | exact .inr rfl) rfl ?_)) ?_ scTakes.nd)
  refine ds_one (d1_ret (s := .dat (.bl (takD h1 h2 h3 h4 (.tup [a, b, c, d', e, f'])))) (DE.dv ?_) ⟨rfl, rfl⟩)
  show DE T _ _ [.dat (.tup [a, b, c, d', e, f']), .dat (.tup [h1, h2, h3, h4]), .dat f', .dat b, .dat c, .dat d', .dat e, .dat h1, .dat h2, .dat h3, .dat h4] O' (.bl ((b.isNon || deq b h1) && ((c.isNon || deq c h2) && ((d'.isNon || deq d' h3) && (e.isNon || deq e h4))))) O'
  refine de_and (de_or (de_isN (de_var 3) de_non) fun _ => de_one (de_eq hr kb k1 (de_var 3) (de_var 7))) fun _ => ?_
  refine de_and (de_or (de_isN (de_var 4) de_non) fun _ => de_one (de_eq hr kc k2 (de_var 4) (de_var 8))) fun _ => ?_
  refine de_and (de_or (de_isN (de_var 5) de_non) fun _ => de_one (de_eq hr kd k3 (de_var 5) (de_var 9))) fun _ => ?_
  exact de_one (de_or (de_isN (de_var 6) de_non) fun _ => de_one (de_eq hr ke k4 (de_var 6) (de_var 10)))
end
end Dg

namespace Dz
open PySem PySem.Spec PyProof.Rows L2 GxR
def rgI (a b : Int) : List Int := (List.range (b - a).toNat).map fun i => a + (i : Nat)
theorem rgV_eq (a b : Int) : rgV a b = (rgI a b).map V.int := by
  unfold rgV rgI
  rw [List.map_map]
  rfl
section
variable {T : List Addr} {X : Cx} {ρ : List Slot} {O O1 O2 : OH} {a b e : Expr} {p p0 pos pos2 : Pos}
/-- list(range(a, b)) -/
theorem de_listRg2 {i j : Int} (hm : X.mg "list" = none) (hm2 : X.mg "range" = none) (ha : DE T X a ρ O (.int i) O1) (hb : DE T X b ρ O1 (.int j) O2) (h : -100000 ≤ i ∧ i ≤ 100000 ∧ -100000 ≤ j ∧ j ≤ 100000) (hc : X.calm = true := by rfl) (hg : Gl X "list" := by rfl) (hg2 : Gl X "range" := by rfl)
    (na : starEach [.Call (.Name "range" p) [a, b] [] pos2] X.env = (false, eval (.Call (.Name "range" p) [a, b] [] pos2) X.env) :: starEach [] X.env := by rfl) (nb : starEach [a, b] X.env = (false, eval a X.env) :: starEach [b] X.env := by rfl) (nc : starEach [b] X.env = (false, eval b X.env) :: starEach [] X.env := by rfl) (hp : (backTo pos2 (starEach [b] X.env)).any (·.1) = false := by rfl) :
    DE T X (.Call (.Name "list" p0) [.Call (.Name "range" p) [a, b] [] pos2] [] pos) ρ O (.lst ((rgI i j).map .int)) O2 :=
  de_of (pe_listRg hc hg hm (prg_2 hg2 hm2 pe_we pe_we nb nc hp) na) fun σ B H hE hA Q q => two ha hb hE hA fun v w B' H' p1 r1 r2 => by
    cases r1
    cases r2
    refine ⟨i, j, rfl, rfl, ⟨by omega, by omega, by omega, by omega, by omega⟩, fun l hl => ?_⟩
    rw [rgV_eq]
    exact q _ _ _ (p1.trans (Post.made (o := .lst _) p1.at' hl)) (.lst upd_same (ints_rp _))
end
end Dz
namespace Dz
theorem putS_len {f : PySem.Str} {s : Slot} : ∀ fs : List (PySem.Str × Slot), (putS f s fs).length ≤ fs.length + 1
  | [] => Nat.le_refl _
  | (g, t) :: r => by
    unfold putS
    split
    · simp
    · have := putS_len (f := f) (s := s) r
      rw [List.length_cons, List.length_cons]
      omega
theorem putS1 {f : PySem.Str} {s : Slot} {fs : List (PySem.Str × Slot)} {n : Nat} (h : fs.length + 1 < n) : (putS f s fs).length < n := Nat.lt_of_le_of_lt (putS_len fs) h
theorem putS2 {f : PySem.Str} {s : Slot} {fs : List (PySem.Str × Slot)} {n k : Nat} (h : fs.length + (k + 1) < n) : (putS f s fs).length + k < n := Nat.lt_of_le_of_lt (Nat.add_le_add_right (putS_len fs) k) (by omega)
end Dz
namespace Dg
open PySem PySem.Spec PyProof.Rows L2 GxR Dz
def itemsD : D → List D
  | .lst ds => ds
  | .tup ds => ds
  | _ => []
section
variable {P : Program} {w : World} {K : PySem.W.Frag} {mg : Str → Option Value} {base : Heap} {T : List Addr} {CE fI : Addr}
end
end Dg

namespace Dg
open PySem PySem.Spec PyProof.Rows L2 GxR Dz
/-- states in range -/
def okSt : D → Bool
  | .int n => decide (0 ≤ n) && (decide (1 ≤ n) && decide (n ≤ 60))
  | _ => false
def valI : D → Int
  | .int n => n
  | _ => 0
def okList (st on rules : D) : Bool := okSt st && (isStates (valI st) on && isRules (valI st) rules)
def onD (on : D) : D := .lst ((srt (intsOf (itemsD on))).map .int)
/-- Listener(..): its promise -/
def pList (CL : Addr) : PR := fun ss O Rn Rx => ∃ a st on rules, ss = [.val (.ref a), .dat st, .dat on, .dat rules] ∧ O a = some (.ins CL []) ∧ Pl st ∧ Pl on ∧ PlS on ∧ Pl rules ∧ PlRs rules ∧
  ((okList st on rules = true ∧ Rn = (fun v O' => v = .dat .non ∧ O' = put O a (.ins CL [("states", .dat st), ("on", .dat (onD on)), ("rules", .dat rules)])) ∧ Rx = fun _ _ => False) ∨
    (okList st on rules = false ∧ Rn = (fun _ _ => False) ∧ Rx = fun r O' => r = .str "no listener" ∧ O' = O))
section
variable {P : Program} {w : World} {K : PySem.W.Frag} {mg : Str → Option Value} {base : Heap} {T : List Addr} {CE fI : Addr}
theorem scList : FnScope ["self", "states", "on", "rules"] ["self", "states", "on", "rules"] (defScope sListI) := ⟨rfl, rfl, rfl, by decide +kernel, rfl, by decide +kernel, by decide +kernel⟩
theorem ok_list {f g1 g2 g3 CL : Addr} {fd gd1 gd2 gd3 fdI : FuncData} {cdv um : Value} (F : FunC K "__init__" "Listener.__init__" sListI f fd cdv) (L : Blt mg) (V : Err K mg CE fI) (A3 : Fld3 K CL "states" "on" "rules")
    (hM : mg "MOST_STATES" = some um) (kM : kdB K 0 um (.int 60) = true)
    (EI : FnOk P w K mg base CX0 1 fI fdI ["self", "reason"] (spI CE)) (bI : Binds K fdI ["self", "reason"] [])
    (G1 : FnOk P w K mg base CX0 1 g1 gd1 ["value"] (spF T K pNum)) (hg1 : mg "is_number" = some (.ref g1)) (kg1 : PySem.W.keepIn K (.ref g1) = true) (bg1 : Binds K gd1 ["value"] [])
    (G2 : FnOk P w K mg base CX0 4 g2 gd2 ["on", "states"] (spF T K pStates)) (hg2 : mg "are_states" = some (.ref g2)) (kg2 : PySem.W.keepIn K (.ref g2) = true) (bg2 : Binds K gd2 ["on", "states"] [])
    (G3 : FnOk P w K mg base CX0 5 g3 gd3 ["rules", "states"] (spF T K pRules)) (hg3 : mg "are_rules" = some (.ref g3)) (kg3 : PySem.W.keepIn K (.ref g3) = true) (bg3 : Binds K gd3 ["rules", "states"] []) :
    FnOk P w K mg base (L2.CX P w) 6 f fd ["self", "states", "on", "rules"] (spX T K CE (pList CL)) := by
  refine fn_okX (R := pList CL) F scList (fun ss O Rn Rx ⟨a, p, k, s, h, _⟩ => by rw [h]; rfl) fun A outer s H E ss O Rn Rx hr h => ?_
  obtain ⟨a, st, on, rules, e1, ha, h1, h2, h3, h4, h5, hc⟩ := h
  subst e1
  have sp : okSt st = (isNum st && okSt st) := by
    cases h1 with
    | int i =>
      show (decide (0 ≤ i) && (decide (1 ≤ i) && decide (i ≤ 60))) = (decide (0 ≤ i) && (decide (0 ≤ i) && (decide (1 ≤ i) && decide (i ≤ 60))))
      cases decide (0 ≤ i) <;> rfl
    | _ => rfl
  have sn : isNum st = true → ∃ n, st = .int n ∧ 0 ≤ n := by cases h1 <;> simp [isNum]
  refine ds_cons (d1_if (p := !okSt st) (O1 := O) ?_ (fun z => ?_) fun z => ds_nil ?_)
  · rw [sp]
    refine dt_not (DW.dt (dw_and (dt_val (de_call G1 (hr.mono (by decide)) hg1 kg1 bg1 pass0 (da_d (de_var 1) da_nil) ⟨st, rfl, h1, rfl, rfl⟩)) fun z => dw_and1 ?_))
    obtain ⟨n, rfl, hn⟩ := sn z
    have e : okSt (.int n) = (decide (1 ≤ n) && decide (n ≤ 60)) := by show (decide (0 ≤ n) && _) = _; rw [decide_eq_true hn, Bool.true_and]
    rw [e]
    exact dt_chain op_le op_le de_int (de_var 1) (rop_I0 fun _ => .bl _) (de_gk hM kM) (rop_I0 fun _ => .bl _)
  · rcases hc with ⟨ok, eN, eX⟩ | ⟨ok, eN, eX⟩
    · exfalso
      have q : okSt st = true := by
        unfold okList at ok
        rw [Bool.and_eq_true] at ok
        exact ok.1
      rw [q] at z
      cases z
    · refine ds_one (d1_raise V.o V.iC V.tI EI (hr.mono (by decide)) bI pass0 V.gC de_str ?_)
      show Rx _ _
      rw [eX]
      exact ⟨rfl, rfl⟩
  · have oks : okSt st = true := by simpa using z
    have e0 : ∃ n, st = .int n := by cases st <;> first | exact ⟨_, rfl⟩ | (simp [okSt] at oks; done)
    obtain ⟨n, rfl⟩ := e0
    refine ds_cons (d1_if (p := !(isStates n on && isRules n rules)) (O1 := O) (dt_not (DW.dt (dw_and (dt_val (de_call G2 (hr.mono (by decide)) hg2 kg2 bg2 pass0 (da_d (de_var 2) (da_d (de_var 1) da_nil)) ⟨on, n, rfl, h2, h3, rfl, rfl⟩)) fun _ =>
      dw_and1 (dt_val (de_call G3 hr hg3 kg3 bg3 pass0 (da_d (de_var 3) (da_d (de_var 1) da_nil)) ⟨rules, n, rfl, h4, h5, rfl, rfl⟩))))) (fun z2 => ?_) fun z2 => ds_nil ?_)
    · rcases hc with ⟨ok, eN, eX⟩ | ⟨ok, eN, eX⟩
      · exfalso
        have q : (isStates n on && isRules n rules) = true := by
          unfold okList at ok
          rw [Bool.and_eq_true] at ok
          exact ok.2
        rw [q] at z2
        cases z2
      · refine ds_one (d1_raise V.o V.iC V.tI EI (hr.mono (by decide)) bI pass0 V.gC de_str ?_)
        show Rx _ _
        rw [eX]
        exact ⟨rfl, rfl⟩
    · have ok2 : (isStates n on && isRules n rules) = true := by simpa using z2
      rcases hc with ⟨ok, eN, eX⟩ | ⟨ok, eN, eX⟩
      · rw [Bool.and_eq_true] at ok2
        have eo : ∃ ds, on = .lst ds ∧ ds.all (isBelow n) = true := by
          have q := ok2.1
          cases on <;> first | (simp [isStates] at q; done) | skip
          rename_i ds
          have q' : (ds.all (isBelow n) && _) = true := q
          rw [Bool.and_eq_true] at q'
          exact ⟨ds, rfl, q'.1⟩
        have er : ∃ rs, rules = .lst rs := by
          have q := ok2.2
          cases rules <;> first | exact ⟨_, rfl⟩ | (simp [isRules] at q; done)
        obtain ⟨ds, rfl, hds⟩ := eo
        obtain ⟨rs, rfl⟩ := er
        have hi : D.lst ds = .lst ((intsOf ds).map .int) := congrArg D.lst (ints_of hds)
        refine ds_cons (d1_fst 0 A3.cl A3.a rfl (dv_var 1 rfl) ha ?_ (by first | (show 0 < 1000; decide) | (refine Dz.putS1 ?_; repeat' (refine Dz.putS2 ?_)); decide))
        refine ds_cons (d1_fst 0 A3.cl A3.b rfl (s := .dat (onD (.lst ds))) (DE.dv (de_sorted L.sorted (de_var 2 (congrArg (fun q => some (Dz.Slot.dat q)) hi)))) put_same ?_ (by first | (show 0 < 1000; decide) | (refine Dz.putS1 ?_; repeat' (refine Dz.putS2 ?_)); decide))
        refine ds_one (d1_fst 0 A3.cl A3.c rfl (DE.dv (de_listL L.list (de_var 3))) put_same ?_ (by first | (show 0 < 1000; decide) | (refine Dz.putS1 ?_; repeat' (refine Dz.putS2 ?_)); decide))
        rw [eN]
        exact ⟨rfl, by rw [put_put, put_put]; rfl⟩
      · exfalso
        have q : okList (.int n) on rules = true := by
          unfold okList
          rw [oks, Bool.true_and]
          exact ok2
        rw [q] at ok
        cases ok

def COMMON : List D := [.tup [.non, .str "drop", .non, .non, .non, .int 0], .tup [.non, .str "end", .non, .non, .non, .int 0]]
end
end Dg

namespace Dg
open PySem PySem.Spec PyProof.Rows L2 GxR Dz
def iter {α : Type} (f : Nat → α → α) : Nat → α → α
  | 0, a => a
  | n + 1, a => f n (iter f n a)
def cell0 (ns : List Int) (k : Int) : Int := if k < ns.length then ns.getD k.toNat 0 else 0
def wideStep (s : Int × List Int) : Int × List Int := if 0 < s.1 then (s.1 / 840, s.2 ++ [s.1 % 840]) else s
def thinStep (k : Int) (turn : Nat) (s : Int × List Int) : Int × List Int := let c := (s.1 * 69069 + 104729 * (k + (turn : Int)) + 1) % 4294967291; (c, s.2 ++ [(c / 5003) % 840])
def cell1 (c : Int) : Int := (if 2 * c < 0 then -(2 * c) else 2 * c) + (if c < 0 then 1 else 0)
def cellRow (ns : List Int) (k : Int) (acc : List Int) : List Int := if 10 ^ 18 < cell1 (cell0 ns k) then (iter (fun _ => wideStep) 60 (cell1 (cell0 ns k), acc)).2 else (iter (thinStep k) 10 (cell1 (cell0 ns k), acc)).2
def rowF (ns : List Int) (first last : Int) : List Int := iter (fun j acc => cellRow ns (first + (j : Int)) acc) (last - first).toNat []
theorem wideStep_len (s : Int × List Int) : (wideStep s).2.length ≤ s.2.length + 1 := by
  unfold wideStep
  split
  · rw [List.length_append, List.length_singleton]; exact Nat.le_refl _
  · omega
theorem thinStep_len (k : Int) (t : Nat) (s : Int × List Int) : (thinStep k t s).2.length = s.2.length + 1 := by
  unfold thinStep
  rw [List.length_append, List.length_singleton]
theorem wide_len : ∀ (n : Nat) (s : Int × List Int), (iter (fun _ => wideStep) n s).2.length ≤ s.2.length + n
  | 0, _ => Nat.le_refl _
  | n + 1, s => by
    have := wide_len n s
    have h2 := wideStep_len (iter (fun _ => wideStep) n s)
    show (wideStep (iter (fun _ => wideStep) n s)).2.length ≤ _
    omega
theorem thin_len (k : Int) : ∀ (n : Nat) (s : Int × List Int), (iter (thinStep k) n s).2.length = s.2.length + n
  | 0, _ => rfl
  | n + 1, s => by
    have := thin_len k n s
    have h2 := thinStep_len k n (iter (thinStep k) n s)
    show (thinStep k n (iter (thinStep k) n s)).2.length = _
    omega
theorem cellRow_len (ns : List Int) (k : Int) (acc : List Int) : (cellRow ns k acc).length ≤ acc.length + 60 := by
  unfold cellRow
  split
  · exact wide_len 60 (_, acc)
  · have := thin_len k 10 (cell1 (cell0 ns k), acc)
    have e : ((cell1 (cell0 ns k), acc) : Int × List Int).2.length = acc.length := rfl
    omega
theorem rows_len (ns : List Int) (first : Int) : ∀ n : Nat, (iter (fun j acc => cellRow ns (first + (j : Int)) acc) n []).length ≤ 60 * n
  | 0 => Nat.le_refl _
  | n + 1 => by
    have := rows_len ns first n
    have h2 := cellRow_len ns (first + (n : Int)) (iter (fun j acc => cellRow ns (first + (j : Int)) acc) n [])
    show (cellRow ns (first + (n : Int)) (iter (fun j acc => cellRow ns (first + (j : Int)) acc) n [])).length ≤ _
    omega
section
variable {P : Program} {w : World} {K : PySem.W.Frag} {mg : Str → Option Value} {base : Heap} {T : List Addr}
theorem atI_ints {ns : List Int} {k : Int} (h0 : 0 ≤ k) (h : k < ns.length) : atI (ns.map D.int) k = some (.int (ns.getD k.toNat 0)) := by
  have hk : k.toNat < ns.length := by omega
  have h1 : ixN (ns.map D.int).length k = some k.toNat := by
    unfold ixN
    rw [List.length_map]
    simp only [h0, h]
    first | rfl | simp [h0, h] | (split <;> first | rfl | omega)
  unfold atI
  rw [h1]
  show (ns.map D.int)[k.toNat]? = _
  rw [List.getElem?_map, List.getElem?_eq_getElem hk, List.getD_eq_getElem?_getD, List.getElem?_eq_getElem hk]
  rfl
theorem scCell : FnScope ["script", "k"] ["script", "k"] (defScope sLCell) := ⟨rfl, rfl, rfl, by decide +kernel, rfl, by decide +kernel, by decide +kernel⟩
def pCell (ss : List Slot) (O : OH) (d : D) (O' : OH) : Prop := ∃ ns k, ss = [.dat (.kst (ns.map .int)), .dat (.int k)] ∧ 0 ≤ k ∧ d = .int (cell0 ns k) ∧ O' = O
theorem ok_cell {f : Addr} {fd : FuncData} {cdv : Value} (F : FunC K "_law_cell" "_law_cell" sLCell f fd cdv) (L : Blt mg) : FnOk P w K mg base CX0 1 f fd ["script", "k"] (spF T K pCell) := by
  refine fn_ok (CE := (0 : Addr)) (R := pCell) F scCell (fun ss O d O' ⟨x, n, h, _⟩ => by rw [h]; rfl) fun A outer s H E ss O d O' hr h => ?_
  obtain ⟨ns, k, h1, h0, h2, h3⟩ := h
  subst h1 h2 h3
  refine ds_cons (d1_if (p := decide (k < ns.length)) (DT.cast (dt_lt (de_var 1) (de_lenK L.len (de_var 0))) (by rw [List.length_map])) (fun z => ?_) fun z => ds_nil ?_)
  · have z' := of_decide_eq_true z
    refine ds_one (d1_ret (s := .dat (.int (cell0 ns k))) (DE.dv (de_ixK (de_var 0) (de_var 1) ?_)) ⟨rfl, rfl⟩)
    unfold cell0
    rw [if_pos z']
    exact atI_ints h0 z'
  · have z' := of_decide_eq_false z
    refine ds_one (d1_ret (s := .dat (.int 0)) de_int.dv ⟨?_, rfl⟩)
    unfold cell0
    rw [if_neg z']

theorem scRow : FnScope ["script", "first", "last", "row", "k", "cell", "turn"] ["script", "first", "last"] (defScope sLRow) := ⟨rfl, rfl, rfl, by decide +kernel, rfl, by decide +kernel, by decide +kernel⟩
def pRow (ss : List Slot) (O : OH) (d : D) (O' : OH) : Prop := ∃ ns first last, ss = [.dat (.kst (ns.map .int)), .dat (.int first), .dat (.int last)] ∧ 0 ≤ first ∧ first ≤ 1000 ∧ 0 ≤ last ∧ last ≤ 1000 ∧ d = .lst ((rowF ns first last).map .int) ∧ O' = O
def rowO (acc : List Int) : OD := .lst (acc.map fun i => .dat (.int i))
theorem map_dat (acc : List Int) : acc.map (fun i => Slot.dat (.int i)) = (acc.map D.int).map .dat := by rw [List.map_map]; rfl
theorem ok_row {f g : Addr} {fd gd : FuncData} {cdv : Value} (F : FunC K "_law_row" "_law_row" sLRow f fd cdv) (L : Blt mg) (G : FnOk P w K mg base CX0 1 g gd ["script", "k"] (spF T K pCell)) (hg : mg "_law_cell" = some (.ref g)) (kg : PySem.W.keepIn K (.ref g) = true) (bg : Binds K gd ["script", "k"] []) :
    FnOk P w K mg base CX0 2 f fd ["script", "first", "last"] (spF T K pRow) := by
  refine fn_ok (CE := (0 : Addr)) (R := pRow) F scRow (fun ss O d O' ⟨x, n, m, h, _⟩ => by rw [h]; rfl) fun A outer s H E ss O d O' hr h => ?_
  obtain ⟨ns, first, last, h1, hf0, hf1, hl0, hl1, h2, h3⟩ := h
  subst h1 h2 h3
  refine ds_cons (d1_own 3 da_nil (fun p hp => ?_) scRow.nd)
  refine ds_cons (d1_forR2 4 (fun j ρ' O2 => ∃ s4 s5 s6, ρ' = [.dat (.kst (ns.map .int)), .dat (.int first), .dat (.int last), .val (.ref p), s4, s5, s6] ∧ O2 = put O' p (rowO (iter (fun j acc => cellRow ns (first + (j : Int)) acc) j [])) ∧ (j : Int) ≤ 1000)
    (de_var 1) (de_var 2) ⟨by omega, by omega, by omega, by omega⟩ ⟨_, _, _, rfl, rfl, by decide⟩ scRow.nd ?_ ?_ L.range PassesOwn.never)
  · rintro j ρ' O2 hj ⟨s4, s5, s6, rfl, rfl, hjl⟩
    generalize hacc : iter (fun j acc => cellRow ns (first + (j : Int)) acc) j [] = acc
    have hal : acc.length ≤ 60000 := by
      have := rows_len ns first j
      rw [hacc] at this
      omega
    have hnext : iter (fun j acc => cellRow ns (first + (j : Int)) acc) (j + 1) [] = cellRow ns (first + (j : Int)) acc := by rw [← hacc]; rfl
    refine ds_cons (d1_set 5 (DE.dv (de_call G hr hg kg bg pass0 (da_d (de_var 0) (da_d (de_var 4) da_nil)) ⟨ns, first + (j : Int), rfl, by omega, rfl, rfl⟩)) ?_ scRow.nd)
    refine ds_cons (d1_set 5 (s := .dat (.int (cell1 (cell0 ns (first + (j : Int)))))) (DE.dv (DE.cast (de_add (de_abs L.abs (de_mul (.inl (by omega)) de_int (de_var 5))) (de_intB L.int (de_lt (de_var 5) de_int))) ?_)) ?_ scRow.nd)
    · unfold cell1
      by_cases hc : cell0 ns (first + (j : Int)) < 0
      · simp [hc]
      · simp [hc]
    generalize hcl : cell1 (cell0 ns (first + (j : Int))) = cl
    have hrow : cellRow ns (first + (j : Int)) acc = if 10 ^ 18 < cl then (iter (fun _ => wideStep) 60 (cl, acc)).2 else (iter (thinStep (first + (j : Int))) 10 (cl, acc)).2 := by unfold cellRow; rw [hcl]
    refine ds_one (d1_if (dt_gt (de_var 5) (de_pow ⟨by omega, by omega, by decide⟩ de_int de_int)) (fun z => ?_) fun z => ?_)
    · have z' : (10 : Int) ^ 18 < cl := of_decide_eq_true z
      refine ds_one (d1_forR 6 (fun t ρ' O2 => ∃ s6, ρ' = [.dat (.kst (ns.map .int)), .dat (.int first), .dat (.int last), .val (.ref p), .dat (.int (first + (j : Int))), .dat (.int (iter (fun _ => wideStep) t (cl, acc)).1), s6] ∧ O2 = put O' p (rowO (iter (fun _ => wideStep) t (cl, acc)).2) ∧ t ≤ 60)
        de_int (by decide) ⟨_, rfl, rfl, by decide⟩ scRow.nd ?_ ?_ L.range PassesOwn.never)
      · rintro t ρ' O2 ht ⟨s6, rfl, rfl, htl⟩
        have hwl := wide_len t (cl, acc)
        have e0 : ((cl, acc) : Int × List Int).2.length = acc.length := rfl
        have hstep : iter (fun _ => wideStep) (t + 1) (cl, acc) = wideStep (iter (fun _ => wideStep) t (cl, acc)) := rfl
        generalize hst : iter (fun _ => wideStep) t (cl, acc) = st at hwl hstep
        refine ds_one (d1_if (dt_gt (de_var 5) de_int) (fun z => ?_) fun z => ds_nil ?_)
        · have z' : 0 < st.1 := of_decide_eq_true z
          refine ds_cons (d1_append 3 rfl put_same (DE.dv (de_mod (by decide) (de_intI L.int (de_var 5)) de_int)) put_same (by rw [List.length_map]; omega) ?_)
          refine ds_one (d1_set 5 (DE.dv (de_fdiv ⟨by decide, by decide⟩ (de_var 5) de_int)) ?_ scRow.nd)
          refine ⟨.dat (.int (t : Int)), ?_, ?_, by omega⟩
          · rw [hstep]; unfold wideStep; rw [if_pos z']; rfl
          · rw [hstep, put_put]; unfold wideStep rowO; rw [if_pos z']; simp
        · have z' : ¬ 0 < st.1 := of_decide_eq_false z
          refine ⟨.dat (.int (t : Int)), ?_, ?_, by omega⟩
          · rw [hstep]; unfold wideStep; rw [if_neg z']; rfl
          · rw [hstep]; unfold wideStep; rw [if_neg z']
      · rintro ρ' O2 ⟨s6, rfl, rfl, _⟩
        refine ⟨_, _, _, rfl, ?_, by omega⟩
        rw [hnext, hrow, if_pos z']
        rfl
    · have z' : ¬ (10 : Int) ^ 18 < cl := of_decide_eq_false z
      refine ds_one (d1_forR 6 (fun t ρ' O2 => ∃ s6, ρ' = [.dat (.kst (ns.map .int)), .dat (.int first), .dat (.int last), .val (.ref p), .dat (.int (first + (j : Int))), .dat (.int (iter (thinStep (first + (j : Int))) t (cl, acc)).1), s6] ∧ O2 = put O' p (rowO (iter (thinStep (first + (j : Int))) t (cl, acc)).2) ∧ t ≤ 10)
        de_int (by decide) ⟨_, rfl, rfl, by decide⟩ scRow.nd ?_ ?_ L.range PassesOwn.never)
      · rintro t ρ' O2 ht ⟨s6, rfl, rfl, htl⟩
        have hwl := thin_len (first + (j : Int)) t (cl, acc)
        have e0 : ((cl, acc) : Int × List Int).2.length = acc.length := rfl
        have hstep : iter (thinStep (first + (j : Int))) (t + 1) (cl, acc) = thinStep (first + (j : Int)) t (iter (thinStep (first + (j : Int))) t (cl, acc)) := rfl
        generalize hst : iter (thinStep (first + (j : Int))) t (cl, acc) = st at hwl hstep
        refine ds_cons (d1_set 5 (DE.dv (de_mod (by decide) (de_intI L.int (de_add (de_add (de_mul (.inr (by omega)) (de_var 5) de_int) (de_mul (.inl (by omega)) de_int (de_add (de_var 4) (de_var 6)))) de_int)) de_int)) ?_ scRow.nd)
        refine ds_one (d1_append 3 rfl put_same (DE.dv (de_mod (by decide) (de_intI L.int (de_fdiv ⟨by decide, by decide⟩ (de_var 5) de_int)) de_int)) put_same (by rw [List.length_map]; omega) ?_)
        refine ⟨.dat (.int (t : Int)), ?_, ?_, by omega⟩
        · rw [hstep]; rfl
        · rw [hstep, put_put]; unfold thinStep rowO; simp
      · rintro ρ' O2 ⟨s6, rfl, rfl, _⟩
        refine ⟨_, _, _, rfl, ?_, by omega⟩
        rw [hnext, hrow, if_neg z']
        rfl
  · rintro ρ' O2 ⟨s4, s5, s6, rfl, rfl, hjl⟩
    refine ds_freeze 3 rfl (ds := (rowF ns first last).map .int) (by rw [put_same]; unfold rowO rowF; rw [map_dat]) ?_
    refine ds_one (d1_ret (s := .dat (.lst ((rowF ns first last).map .int))) (dv_var 3 rfl) ⟨rfl, ?_⟩)
    exact cut_put hp
end
end Dg

namespace Dg
open PySem PySem.Spec PyProof.Rows L2 GxR Dz
/-- the box of a law: its row and where it stands -/
def Bx (row : List Int) (at_ : Nat) : OD := .lst [.dat (.lst (row.map .int)), .dat (.int (at_ : Int))]
def drw (row : List Int) (at_ : Nat) (many : Int) : Int := if at_ < row.length then row.getD at_ 0 % many else ((at_ : Int) * 5 + 1) % many
theorem drw_0 (row : List Int) (at_ : Nat) {many : Int} (h : 0 < many) : 0 ≤ drw row at_ many := by
  unfold drw
  split <;> exact Int.emod_nonneg _ (by omega)
theorem drw_lt (row : List Int) (at_ : Nat) {many : Int} (h : 0 < many) : drw row at_ many < many := by
  unfold drw
  split <;> exact Int.emod_lt_of_pos _ h
/-- items by draws -/
def sel {α : Type} (row : List Int) (many : Int) (p : Int → Bool) : Nat → List α → List α
  | _, [] => []
  | a, x :: xs => if p (drw row a many) = true then x :: sel row many p (a + 1) xs else sel row many p (a + 1) xs
theorem sel_nil {α : Type} (row : List Int) (many : Int) (p : Int → Bool) (a : Nat) : sel row many p a ([] : List α) = [] := rfl
theorem sel_snoc {α : Type} (row : List Int) (many : Int) (p : Int → Bool) (x : α) : ∀ (xs : List α) (a : Nat), sel row many p a (xs ++ [x]) = sel row many p a xs ++ (if p (drw row (a + xs.length) many) = true then [x] else [])
  | [], a => by
    show (if _ then [x] else []) = [] ++ _
    rfl
  | y :: xs, a => by
    have e : a + (y :: xs).length = (a + 1) + xs.length := by rw [List.length_cons]; omega
    rw [List.cons_append, sel, sel, sel_snoc row many p x xs (a + 1), e]
    split <;> rfl
theorem sel_map {α β : Type} (f : α → β) (row : List Int) (many : Int) (p : Int → Bool) : ∀ (xs : List α) (a : Nat), sel row many p a (xs.map f) = (sel row many p a xs).map f
  | [], _ => rfl
  | x :: xs, a => by
    rw [List.map_cons, sel, sel, sel_map f row many p xs (a + 1)]
    split <;> rfl
theorem atI_D {ds : List D} {k : Int} (h0 : 0 ≤ k) (h : k < ds.length) : atI ds k = some (ds.getD k.toNat .non) := by
  have hk : k.toNat < ds.length := by omega
  have h1 : ixN ds.length k = some k.toNat := by
    unfold ixN
    simp only [h0, h]
    first | rfl | simp [h0, h] | (split <;> first | rfl | omega)
  unfold atI
  rw [h1]
  show ds[k.toNat]? = _
  rw [List.getElem?_eq_getElem hk, List.getD_eq_getElem?_getD, List.getElem?_eq_getElem hk]
  rfl
section
variable {P : Program} {w : World} {K : PySem.W.Frag} {mg : Str → Option Value} {base : Heap} {T : List Addr}
theorem scDraw : FnScope ["box", "many", "at"] ["box", "many"] (defScope sLDraw) := ⟨rfl, rfl, rfl, by decide +kernel, rfl, by decide +kernel, by decide +kernel⟩
def pDraw (ss : List Slot) (O : OH) (d : D) (O' : OH) : Prop := ∃ b row at_ many, ss = [.val (.ref b), .dat (.int many)] ∧ O b = some (Bx row at_) ∧ 0 < many ∧ at_ ≤ 100000 ∧ d = .int (drw row at_ many) ∧ O' = put O b (Bx row (at_ + 1))
theorem ok_draw {f : Addr} {fd : FuncData} {cdv : Value} (F : FunC K "_law_draw" "_law_draw" sLDraw f fd cdv) (L : Blt mg) : FnOk P w K mg base CX0 1 f fd ["box", "many"] (spF T K pDraw) := by
  refine fn_ok (CE := (0 : Addr)) (R := pDraw) F scDraw (fun ss O d O' ⟨x, n, a, m, h, _⟩ => by rw [h]; rfl) fun A outer s H E ss O d O' hr h => ?_
  obtain ⟨b, row, at_, many, h1, hO, hm, ha, h2, h3⟩ := h
  subst h1 h2 h3
  refine ds_cons (d1_set 2 (dv_ixO 0 rfl de_int hO rfl) ?_ scDraw.nd)
  refine ds_cons (d1_setitem 0 rfl (DE.dv (de_add (de_var 2) de_int)) de_int hO rfl ?_)
  have e1 : put O b (OD.lst (List.set [Slot.dat (.lst (row.map .int)), Slot.dat (.int (at_ : Int))] 1 (.dat (.int ((at_ : Int) + 1))))) = put O b (Bx row (at_ + 1)) := by
    unfold Bx
    rw [show ((at_ + 1 : Nat) : Int) = (at_ : Int) + 1 by omega]
    rfl
  show DS T _ _ _ _ (put O b (OD.lst (List.set [Slot.dat (.lst (row.map .int)), Slot.dat (.int (at_ : Int))] 1 (.dat (.int ((at_ : Int) + 1)))))) _
  rw [e1]
  refine ds_cons (d1_if (p := decide ((at_ : Int) < row.length)) (DT.cast (dt_lt (de_var 2) (de_lenL L.len (DV.de (dv_ixO 0 rfl de_int put_same rfl)))) (by rw [List.length_map])) (fun z => ?_) fun z => ds_nil ?_)
  · have z' : (at_ : Int) < row.length := of_decide_eq_true z
    refine ds_one (d1_ret (s := .dat (.int (drw row at_ many))) (DE.dv (DE.cast (de_mod hm (de_intI L.int (de_ixL (DV.de (dv_ixO 0 rfl de_int put_same rfl)) (de_var 2) (atI_ints (by omega) z'))) (de_var 1)) ?_)) ⟨rfl, rfl⟩)
    unfold drw
    rw [if_pos (by omega)]
    rfl
  · have z' : ¬ (at_ : Int) < row.length := of_decide_eq_false z
    refine ds_one (d1_ret (s := .dat (.int (drw row at_ many))) (DE.dv (DE.cast (de_mod hm (de_intI L.int (de_add (de_mul (.inr (by omega)) (de_var 2) de_int) de_int)) (de_var 1)) ?_)) ⟨rfl, rfl⟩)
    unfold drw
    rw [if_neg (by omega)]
/-- a turn that draws -/
theorem draw_turn {X : Cx} {scope : Scope} {ifs : List Expr} {elt : Expr} {ρ : List Slot} {O : OH} {i : Nat} {ds : List D} {b : Addr} {row : List Int} {many : Int} {p : Int → Bool} {at_ : Nat}
    (h : ∀ j d, ds[j]? = some d → DIfs T X scope ifs (ρ.set i (.dat d)) (put O b (Bx row (at_ + j))) (p (drw row (at_ + j) many)) (put O b (Bx row (at_ + j + 1))) ∧ DEb T X scope elt (ρ.set i (.dat d)) (put O b (Bx row (at_ + j + 1))) d (put O b (Bx row (at_ + j + 1)))) :
    ∀ j d acc O', ds[j]? = some d → (acc = sel row many p at_ (ds.take j) ∧ O' = put O b (Bx row (at_ + j))) → LcTurn T X scope ifs elt (fun j acc O' => acc = sel row many p at_ (ds.take j) ∧ O' = put O b (Bx row (at_ + j))) j (ρ.set i (.dat d)) acc O' := by
  rintro j d acc O' hj ⟨rfl, rfl⟩
  obtain ⟨h1, h2⟩ := h j d hj
  have hlt := (List.getElem?_eq_some_iff.mp hj).1
  have el : (ds.take j).length = j := by rw [List.length_take]; omega
  have et : ds.take (j + 1) = ds.take j ++ [d] := by rw [List.take_add_one, hj]; rfl
  have es : sel row many p at_ (ds.take (j + 1)) = sel row many p at_ (ds.take j) ++ (if p (drw row (at_ + j) many) = true then [d] else []) := by rw [et, sel_snoc, el]
  refine ⟨_, _, h1, fun z => ⟨d, _, h2, ?_, rfl⟩, fun z => ⟨?_, rfl⟩⟩
  · rw [es, if_pos z]
  · rw [es, if_neg (by rw [z]; exact Bool.false_ne_true), List.append_nil]
def eq0 (i : Int) : Bool := decide (i = 0)
theorem scKinds : FnScope [] [] (defScope sLKinds) := ⟨rfl, rfl, rfl, by decide +kernel, rfl, by decide +kernel, by decide +kernel⟩
def pKinds (ss : List Slot) (O : OH) (d : D) (O' : OH) : Prop := ss = [] ∧ d = .lst (KINDS.map .str) ∧ O' = O
theorem ok_kinds {f : Addr} {fd : FuncData} {cdv : Value} (F : FunC K "_law_kinds" "_law_kinds" sLKinds f fd cdv) : FnOk P w K mg base CX0 1 f fd [] (spF T K pKinds) := by
  refine fn_ok (CE := (0 : Addr)) (R := pKinds) F scKinds (fun ss O d O' ⟨h, _⟩ => by rw [h]; rfl) fun A outer s H E ss O d O' hr h => ?_
  obtain ⟨h1, h2, h3⟩ := h
  subst h1 h2 h3
  exact ds_one (d1_ret (s := .dat (.lst (KINDS.map .str))) (DE.dv (de_lst (da_d de_str (da_d de_str (da_d de_str (da_d de_str (da_d de_str da_nil))))))) ⟨rfl, rfl⟩)

end
end Dg

namespace Dg
open PySem PySem.Spec PyProof.Rows L2 GxR Dz
section
variable {P : Program} {w : World} {K : PySem.W.Frag} {mg : Str → Option Value} {base : Heap} {T : List Addr}
theorem deq_i0 (i : Int) : deq (.int i) (.int 0) = eq0 i := deq_int i 0
end
end Dg

namespace Dg
open PySem PySem.Spec PyProof.Rows L2 GxR Dz
/-- a rule by digits: its eight draws, from a on -/
def ruSrc (row : List Int) (a : Nat) (n : Int) : D := [D.non, .int (drw row a n)].getD (drw row (a + 1) 2).toNat .non
def ruKind (row : List Int) (a : Nat) : D := [D.non, (KINDS.map D.str).getD (drw row (a + 2) 5).toNat .non].getD (if decide (0 < drw row (a + 3) 4) = true then 1 else 0) .non
def ruSide (row : List Int) (a : Nat) : D := [D.non, .non, .str "outside", .str "inside", .str "zone"].getD (drw row (a + 4) 5).toNat .non
def ruSame (row : List Int) (a : Nat) : D := [D.non, .non, .bl true, .bl false].getD (drw row (a + 5) 4).toNat .non
def ruRel (row : List Int) (a : Nat) : D := [D.non, .non, .non, .str "none", .str "outside", .str "inside"].getD (drw row (a + 6) 6).toNat .non
def ruleD (row : List Int) (a : Nat) (n : Int) : D := .tup [ruSrc row a n, ruKind row a, ruSide row a, ruSame row a, ruRel row a, .int (drw row (a + 7) n)]
section
variable {P : Program} {w : World} {K : PySem.W.Frag} {mg : Str → Option Value} {base : Heap} {T : List Addr} {CE fI : Addr}
theorem scLRule : FnScope ["box", "states", "source", "kind", "side", "same", "related"] ["box", "states"] (defScope sLRule) := ⟨rfl, rfl, rfl, by decide +kernel, rfl, by decide +kernel, by decide +kernel⟩
def pLRule (ss : List Slot) (O : OH) (d : D) (O' : OH) : Prop := ∃ b row a n, ss = [.val (.ref b), .dat (.int n)] ∧ O b = some (Bx row a) ∧ 0 < n ∧ a ≤ 9000 ∧ d = ruleD row a n ∧ O' = put O b (Bx row (a + 8))
theorem ok_lrule {f g g3 : Addr} {fd gd gd3 : FuncData} {cdv : Value} (F : FunC K "_law_rule" "_law_rule" sLRule f fd cdv) (L : Blt mg) (G : FnOk P w K mg base CX0 1 g gd ["box", "many"] (spF T K pDraw)) (hg : mg "_law_draw" = some (.ref g)) (kg : PySem.W.keepIn K (.ref g) = true) (bg : Binds K gd ["box", "many"] [])
    (G3 : FnOk P w K mg base CX0 1 g3 gd3 [] (spF T K pKinds)) (hg3 : mg "_law_kinds" = some (.ref g3)) (kg3 : PySem.W.keepIn K (.ref g3) = true) (bg3 : Binds K gd3 [] []) :
    FnOk P w K mg base CX0 2 f fd ["box", "states"] (spF T K pLRule) := by
  refine fn_ok (CE := (0 : Addr)) (R := pLRule) F scLRule (fun ss O d O' ⟨x, n, a, m, h, _⟩ => by rw [h]; rfl) fun A outer s H E ss O d O' hr h => ?_
  obtain ⟨b, row, a, n, h1, hO, hn, ha, h2, h3⟩ := h
  subst h1 h2 h3
  -- source
  refine ds_cons (d1_set 2 (O1 := put O b (Bx row (a + 2))) (s := .dat (ruSrc row a n)) (DE.dv (de_ixL (ds := [.non, .int (drw row a n)]) (i := drw row (a + 1) 2) (O1 := put O b (Bx row (a + 1))) ?_ ?_ (atI_D (drw_0 row _ (by decide)) (drw_lt row _ (by decide))))) ?_ scLRule.nd)
  · exact de_lst (ds := [.non, .int (drw row a n)]) (da_d de_non (da_d (de_call G hr hg kg bg pass0 (da_v (dv_var 0 rfl) (da_d (de_var 1) da_nil)) ⟨b, row, a, n, rfl, hO, hn, by omega, rfl, rfl⟩) da_nil)) (by show 2 ≤ 10000; decide)
  · exact de_call G hr hg kg bg pass0 (da_v (dv_var 0 rfl) (da_d de_int da_nil)) ⟨b, row, a + 1, 2, rfl, put_same, by decide, by omega, rfl, by rw [put_put]⟩
  -- kind
  refine ds_cons (d1_set 3 (O1 := put O b (Bx row (a + 4))) (s := .dat (ruKind row a)) (DE.dv (de_ixL (ds := [.non, (KINDS.map D.str).getD (drw row (a + 2) 5).toNat .non]) (i := if decide (0 < drw row (a + 3) 4) = true then 1 else 0) (O1 := put O b (Bx row (a + 3))) ?_ ?_ ?_)) ?_ scLRule.nd)
  · refine de_lst (ds := [.non, (KINDS.map D.str).getD (drw row (a + 2) 5).toNat .non]) (da_d de_non (da_d (de_ixL (ds := KINDS.map D.str) (i := drw row (a + 2) 5) (O1 := put O b (Bx row (a + 2))) (de_call0 G3 hr hg3 kg3 bg3 pass0 ⟨rfl, rfl, rfl⟩) ?_ (atI_D (drw_0 row _ (by decide)) (drw_lt row _ (by decide)))) da_nil)) (by show 2 ≤ 10000; decide)
    exact de_call G hr hg kg bg pass0 (da_v (dv_var 0 rfl) (da_d de_int da_nil)) ⟨b, row, a + 2, 5, rfl, put_same, by decide, by omega, rfl, by rw [put_put]⟩
  · exact de_intB L.int (de_gt (de_call G hr hg kg bg pass0 (da_v (dv_var 0 rfl) (da_d de_int da_nil)) ⟨b, row, a + 3, 4, rfl, put_same, by decide, by omega, rfl, by rw [put_put]⟩) de_int)
  · unfold ruKind
    by_cases hq : decide (0 < drw row (a + 3) 4) = true
    · rw [if_pos hq, if_pos hq]; rfl
    · rw [if_neg hq, if_neg hq]; rfl
  -- side, same, related
  refine ds_cons (d1_set 4 (O1 := put O b (Bx row (a + 5))) (s := .dat (ruSide row a)) (DE.dv (de_ixL (ds := [D.non, .non, .str "outside", .str "inside", .str "zone"]) (i := drw row (a + 4) 5) (O1 := put O b (Bx row (a + 4))) ?_ ?_ (atI_D (drw_0 row _ (by decide)) (drw_lt row _ (by decide))))) ?_ scLRule.nd)
  · exact de_lst (ds := [D.non, .non, .str "outside", .str "inside", .str "zone"]) (da_d de_non (da_d de_non (da_d de_str (da_d de_str (da_d de_str da_nil)))))
  · exact de_call G hr hg kg bg pass0 (da_v (dv_var 0 rfl) (da_d de_int da_nil)) ⟨b, row, a + 4, 5, rfl, put_same, by decide, by omega, rfl, by rw [put_put]⟩
  refine ds_cons (d1_set 5 (O1 := put O b (Bx row (a + 6))) (s := .dat (ruSame row a)) (DE.dv (de_ixL (ds := [D.non, .non, .bl true, .bl false]) (i := drw row (a + 5) 4) (O1 := put O b (Bx row (a + 5))) ?_ ?_ (atI_D (drw_0 row _ (by decide)) (drw_lt row _ (by decide))))) ?_ scLRule.nd)
  · exact de_lst (ds := [D.non, .non, .bl true, .bl false]) (da_d de_non (da_d de_non (da_d de_bl (da_d de_bl da_nil))))
  · exact de_call G hr hg kg bg pass0 (da_v (dv_var 0 rfl) (da_d de_int da_nil)) ⟨b, row, a + 5, 4, rfl, put_same, by decide, by omega, rfl, by rw [put_put]⟩
  refine ds_cons (d1_set 6 (O1 := put O b (Bx row (a + 7))) (s := .dat (ruRel row a)) (DE.dv (de_ixL (ds := [D.non, .non, .non, .str "none", .str "outside", .str "inside"]) (i := drw row (a + 6) 6) (O1 := put O b (Bx row (a + 6))) ?_ ?_ (atI_D (drw_0 row _ (by decide)) (drw_lt row _ (by decide))))) ?_ scLRule.nd)
  · exact de_lst (ds := [D.non, .non, .non, .str "none", .str "outside", .str "inside"]) (da_d de_non (da_d de_non (da_d de_non (da_d de_str (da_d de_str (da_d de_str da_nil))))))
  · exact de_call G hr hg kg bg pass0 (da_v (dv_var 0 rfl) (da_d de_int da_nil)) ⟨b, row, a + 6, 6, rfl, put_same, by decide, by omega, rfl, by rw [put_put]⟩
  refine ds_one (d1_ret (s := .dat (ruleD row a n)) (O1 := put O b (Bx row (a + 8))) (DE.dv (de_tup (ds := [ruSrc row a n, ruKind row a, ruSide row a, ruSame row a, ruRel row a, .int (drw row (a + 7) n)]) ?_ (by show 6 ≤ 10000; decide))) ⟨rfl, rfl⟩)
  exact da_d (de_var 2) (da_d (de_var 3) (da_d (de_var 4) (da_d (de_var 5) (da_d (de_var 6) (da_d (de_call G hr hg kg bg pass0 (da_v (dv_var 0 rfl) (da_d (de_var 1) da_nil)) ⟨b, row, a + 7, n, rfl, put_same, hn, by omega, rfl, by rw [put_put]⟩) da_nil)))))

end
end Dg

namespace Dg
open PySem PySem.Spec PyProof.Rows L2 GxR Dz
def A6 (a b c d e f : D) (j : Nat) : D := [a, b, c, d, e, f].getD j .non
def S5 (st h1 h2 h3 h4 : D) (j : Nat) : D := [st, h1, h2, h3, h4].getD j .non
def tb (x s : Nat → D) (j : Nat) : Bool := !(x j).isNon && !deq (x j) (s j)
theorem tb_appl (a b c d e f st h1 h2 h3 h4 : D) : decide (((((List.range 5).filter (tb (A6 a b c d e f) (S5 st h1 h2 h3 h4))).map fun i : Nat => D.int (i : Int)).length : Int) = 0) = appl st h1 h2 h3 h4 (.tup [a, b, c, d, e, f]) := by
  have e5 : List.range 5 = [0, 1, 2, 3, 4] := rfl
  rw [e5]
  have t0 : tb (A6 a b c d e f) (S5 st h1 h2 h3 h4) 0 = !(a.isNon || deq a st) := by rw [Bool.not_or]; rfl
  have t1 : tb (A6 a b c d e f) (S5 st h1 h2 h3 h4) 1 = !(b.isNon || deq b h1) := by rw [Bool.not_or]; rfl
  have t2 : tb (A6 a b c d e f) (S5 st h1 h2 h3 h4) 2 = !(c.isNon || deq c h2) := by rw [Bool.not_or]; rfl
  have t3 : tb (A6 a b c d e f) (S5 st h1 h2 h3 h4) 3 = !(d.isNon || deq d h3) := by rw [Bool.not_or]; rfl
  have t4 : tb (A6 a b c d e f) (S5 st h1 h2 h3 h4) 4 = !(e.isNon || deq e h4) := by rw [Bool.not_or]; rfl
  have ea : appl st h1 h2 h3 h4 (.tup [a, b, c, d, e, f]) = ((a.isNon || deq a st) && ((b.isNon || deq b h1) && ((c.isNon || deq c h2) && ((d.isNon || deq d h3) && (e.isNon || deq e h4))))) := rfl
  rw [ea]
  simp only [List.filter, t0, t1, t2, t3, t4]
  generalize (a.isNon || deq a st) = x0
  generalize (b.isNon || deq b h1) = x1
  generalize (c.isNon || deq c h2) = x2
  generalize (d.isNon || deq d h3) = x3
  generalize (e.isNon || deq e h4) = x4
  cases x0 <;> cases x1 <;> cases x2 <;> cases x3 <;> cases x4 <;> rfl
section
variable {P : Program} {w : World} {K : PySem.W.Frag} {mg : Str → Option Value} {base : Heap} {T : List Addr} {CE fI : Addr}
theorem scLNext : FnScope ["listener", "state", "signal", "rule", "k"] ["listener", "state", "signal"] (defScope sLNext) := ⟨rfl, rfl, rfl, by decide +kernel, rfl, by decide +kernel, by decide +kernel⟩
def pLNext (ss : List Slot) (O : OH) (d : D) (O' : OH) : Prop := ∃ n on rs st h1 h2 h3 h4, ss = [.dat (.lst [n, on, .lst rs]), .dat st, .dat (.tup [h1, h2, h3, h4])] ∧ (∀ r ∈ rs, RShape r) ∧ D.ok 32 st = true ∧ D.ok 32 h1 = true ∧ D.ok 32 h2 = true ∧ D.ok 32 h3 = true ∧ D.ok 32 h4 = true ∧ d = nextD st h1 h2 h3 h4 rs ∧ O' = O
theorem ok_lnext {f : Addr} {fd : FuncData} {cdv : Value} (F : FunC K "_law_next" "_law_next" sLNext f fd cdv) (L : Blt mg) : FnOk P w K mg base CX0 1 f fd ["listener", "state", "signal"] (spF T K pLNext) := by
  refine fn_ok (CE := (0 : Addr)) (R := pLNext) F scLNext (fun ss O d O' ⟨n, on, rs, st, h1, h2, h3, h4, h, _⟩ => by rw [h]; rfl) fun A outer s H E ss O d O' hr h => ?_
  obtain ⟨n, on, rs, st, h1, h2, h3, h4, e1, hs, ks, k1, k2, k3, k4, e2, e3⟩ := h
  subst e1 e2 e3
  refine ds_cons (d1_forL 3 (fun j ρ' O2 => (∃ s3, ρ' = [.dat (.lst [n, on, .lst rs]), .dat st, .dat (.tup [h1, h2, h3, h4]), s3, .no]) ∧ O2 = O' ∧ (rs.take j).all (fun r => !appl st h1 h2 h3 h4 r) = true) (de_ixL (d := .lst rs) (de_var 0) de_int rfl) ⟨⟨_, rfl⟩, rfl, rfl⟩ scLNext.nd ?_ ?_ PassesOwn.never)
  · rintro j r ρ' O2 hj ⟨⟨s3, rfl⟩, rfl, hall⟩
    obtain ⟨a, b, c, d', e, f', er, ka, kb, kc, kd, ke⟩ := hs r (List.mem_of_getElem? hj)
    subst er
    have okA : ∀ i : Nat, i < 5 → D.ok 32 (A6 a b c d' e f' i) = true := fun i hi => by
      match i, hi with
      | 0, _ => exact ka
      | 1, _ => exact kb
      | 2, _ => exact kc
      | 3, _ => exact kd
      | 4, _ => exact ke
    have okS : ∀ i : Nat, i < 5 → D.ok 32 (S5 st h1 h2 h3 h4 i) = true := fun i hi => by
      match i, hi with
      | 0, _ => exact ks
      | 1, _ => exact k1
      | 2, _ => exact k2
      | 3, _ => exact k3
      | 4, _ => exact k4
    refine ds_one (d1_if (p := appl st h1 h2 h3 h4 (.tup [a, b, c, d', e, f'])) (O1 := O2) (DT.cast (dt_eq (x := .int ((((List.range 5).filter (tb (A6 a b c d' e f') (S5 st h1 h2 h3 h4))).map fun i : Nat => D.int (i : Int)).length : Nat)) hr (by rfl) (by rfl) (de_lenL L.len ?_) de_int) ?_) (fun z => ?_) fun z => ds_nil ?_)
    · refine de_lcR (m := 5) 4 de_int (fun j acc O3 => acc = ((List.range j).filter (tb (A6 a b c d' e f') (S5 st h1 h2 h3 h4))).map (fun i : Nat => D.int (i : Int)) ∧ O3 = O2) ⟨rfl, rfl⟩ ?_ (fun acc O3 h => h) (by decide) (by decide) L.range scLNext.nd (blkOk_by rfl)
      rintro i acc O3 hi ⟨rfl, rfl⟩
      have hi5 : i < 5 := by omega
      have eA : atI [a, b, c, d', e, f'] (i : Int) = some (A6 a b c d' e f' i) := atI_D (by omega) (by show (i : Int) < 6; omega)
      have eS : atI ([st] ++ [h1, h2, h3, h4]) (i : Int) = some (S5 st h1 h2 h3 h4 i) := atI_D (by omega) (by show (i : Int) < 5; omega)
      refine ⟨tb (A6 a b c d' e f') (S5 st h1 h2 h3 h4) i, O3, difs_one fun s H C cl fp => DW.dt (dw_and (dt_notN (de_ixT (de_var 3) (de_var 4) eA) de_non) fun _ => dw_and1 (dt_ne hr (okA i hi5) (okS i hi5) (de_ixT (de_var 3) (de_var 4) eA) (de_ixT (de_catT (ds := [st]) (de_tup (ds := [st]) (da_d (de_var 1) da_nil) (by show 1 ≤ 10000; decide)) (de_var 2) (by simp) (by show 1 + 4 ≤ 100000; decide)) (de_var 4) eS))), fun z => ⟨.int (i : Int), O3, fun s H C cl fp => de_var 4, ?_, rfl⟩, fun z => ⟨?_, rfl⟩⟩
      · rw [List.range_succ, List.filter_append, List.map_append]
        congr 1
        simp [List.filter, z]
      · rw [List.range_succ, List.filter_append, List.map_append]
        simp [List.filter, z]
    · rw [deq_int]
      exact tb_appl a b c d' e f' st h1 h2 h3 h4
    · refine ds_one (d1_ret (s := .dat f') (DE.dv (de_ixT (de_var 3) de_int rfl)) ⟨?_, rfl⟩)
      have hdrop : rs.drop j = .tup [a, b, c, d', e, f'] :: rs.drop (j + 1) := by
        obtain ⟨hlt, hx⟩ := List.getElem?_eq_some_iff.mp hj
        rw [List.drop_eq_getElem_cons hlt, hx]
      rw [nextD_skip rs j hall, hdrop, nextD_cons, if_pos z]
      rfl
    · refine ⟨⟨_, rfl⟩, rfl, ?_⟩
      rw [List.take_add_one, hj, List.all_append, hall]
      simp [z]
  · rintro ρ' O2 ⟨⟨s3, rfl⟩, rfl, hall⟩
    refine ds_one (d1_ret (s := .dat st) (dv_var 1 rfl) ⟨?_, rfl⟩)
    rw [nextD_skip rs rs.length hall, List.drop_length]
    rfl

theorem scListening : FnScope ["told"] ["told"] (defScope sLListening) := ⟨rfl, rfl, rfl, by decide +kernel, rfl, by decide +kernel, by decide +kernel⟩
def pListening (CL : Addr) : PR := fun ss O Rn Rx => ∃ st on rs, ss = [.dat (.lst [st, .lst on, .lst rs])] ∧ Pl st ∧ PlS (.lst on) ∧ PlRs (.lst rs) ∧ okList st (.lst on) (.lst rs) = true ∧ Rn = (fun v O' => v = .dat (insList CL st (onD (.lst on)) (.lst rs)) ∧ O' = O) ∧ Rx = fun _ _ => False
theorem ok_listening {f g CL : Addr} {fd gd : FuncData} {cdv : Value} (F : FunC K "_law_listening" "_law_listening" sLListening f fd cdv) (L : Blt mg) (M : Mk K CL g) (gS : mg "Listener" = some (.ref CL))
    (G : FnOk P w K mg base (L2.CX P w) 6 g gd ["self", "states", "on", "rules"] (spX T K CE (pList CL))) (bg : Binds K gd ["self", "states", "on", "rules"] []) :
    FnOk P w K mg base (L2.CX P w) 8 f fd ["told"] (spX T K CE (pListening CL)) := by
  refine fn_okX (R := pListening CL) F scListening (fun ss O Rn Rx ⟨p, k, s, h, _⟩ => by rw [h]; rfl) fun A outer s H E ss O Rn Rx hr h => ?_
  obtain ⟨st, on, rs, e1, h1, h2, h3, ok, eN, eX⟩ := h
  subst e1 eN eX
  refine ds_one (d1_retX (R := fun s' O' => s' = .dat (insList CL st (onD (.lst on)) (.lst rs)) ∧ O' = O) (dvx_makeF (O1 := O) M G hr gS bg
    (da_d (d := st) (de_ixL (ds := [st, .lst on, .lst rs]) (de_var 0) de_int rfl) (da_d (d := .lst on) (de_listL L.list (de_ixL (ds := [st, .lst on, .lst rs]) (de_var 0) de_int rfl)) (da_d (d := .lst rs) (de_listL L.list (de_ixL (ds := [st, .lst on, .lst rs]) (de_var 0) de_int rfl)) da_nil))) fun x hx => ?_) fun s' O' q => q)
  refine ⟨_, _, ⟨x, st, .lst on, .lst rs, rfl, put_same, h1, .lst _, h2, .lst _, h3, .inl ⟨ok, rfl, rfl⟩⟩, fun s' O' h => ?_, fun r O' h => h.elim⟩
  obtain ⟨q1, q2⟩ := h
  subst q1 q2
  refine ⟨rfl, [("states", st), ("on", onD (.lst on)), ("rules", .lst rs)], ?_, rfl, ?_⟩
  · rw [put_same]; rfl
  · rw [put_put, cut_put hx]

def sigD (k s : D) (m : D) (r : D) : D := .tup [k, s, m, r]
def MS : List D := [.bl false, .bl true]
def sigR (k s m : D) : List D := (RELS.map D.str).map fun r => sigD k s m r
def sigM (k s : D) : List D := MS.flatMap fun m => sigR k s m
def sigS (k : D) : List D := (SIDES.map D.str).flatMap fun s => sigM k s
def signals : List D := (KINDS.map D.str).flatMap fun k => sigS k
theorem take_flat {α β : Type} (g : α → List β) {ds : List α} {j : Nat} {d : α} (h : ds[j]? = some d) : (ds.take (j + 1)).flatMap g = (ds.take j).flatMap g ++ g d := by
  rw [List.take_add_one, h, List.flatMap_append]
  simp
theorem scSignals : FnScope ["out", "kind", "side", "same", "related"] [] (defScope sLSignals) := ⟨rfl, rfl, rfl, by decide +kernel, rfl, by decide +kernel, by decide +kernel⟩
def pSignals (ss : List Slot) (O : OH) (d : D) (O' : OH) : Prop := ss = [] ∧ d = .lst signals ∧ O' = O
def datO (ds : List D) : OD := .lst (ds.map .dat)
theorem flat_le {α β : Type} (g : α → List β) (ds : List α) (j n : Nat) (h : ∀ d, (g d).length ≤ n) : ((ds.take j).flatMap g).length ≤ n * ds.length := by
  induction ds generalizing j with
  | nil => simp
  | cons d ds ih =>
    cases j with
    | zero => simp
    | succ j =>
      rw [List.take_succ_cons, List.flatMap_cons, List.length_append, List.length_cons]
      have := ih j
      have := h d
      have e : n * (ds.length + 1) = n * ds.length + n := Nat.mul_succ ..
      omega
theorem lenR (k s m : D) : (sigR k s m).length ≤ 3 := by unfold sigR; rw [List.length_map, List.length_map]; decide
theorem lenM (k s : D) : (sigM k s).length ≤ 6 := by
  have := flat_le (sigR k s) MS MS.length 3 (lenR k s)
  rw [List.take_length] at this
  exact this
theorem lenS (k : D) : (sigS k).length ≤ 18 := by
  have := flat_le (sigM k) (SIDES.map D.str) (SIDES.map D.str).length 6 (lenM k)
  rw [List.take_length] at this
  exact this
theorem ok_signals {f g3 : Addr} {fd gd3 : FuncData} {cdv : Value} (F : FunC K "_law_signals" "_law_signals" sLSignals f fd cdv)
    (G3 : FnOk P w K mg base CX0 1 g3 gd3 [] (spF T K pKinds)) (hg3 : mg "_law_kinds" = some (.ref g3)) (kg3 : PySem.W.keepIn K (.ref g3) = true) (bg3 : Binds K gd3 [] []) :
    FnOk P w K mg base CX0 2 f fd [] (spF T K pSignals) := by
  refine fn_ok (CE := (0 : Addr)) (R := pSignals) F scSignals (fun ss O d O' ⟨h, _⟩ => by rw [h]; rfl) fun A outer s H E ss O d O' hr h => ?_
  obtain ⟨h1, h2, h3⟩ := h
  subst h1 h2 h3
  refine ds_cons (d1_own 0 da_nil (fun p hp => ?_) scSignals.nd)
  refine ds_cons (d1_forL (ds := KINDS.map .str) (O1 := put O' p (datO [])) 1 (fun j ρ' O2 => ∃ s1 s2 s3 s4, ρ' = [.val (.ref p), s1, s2, s3, s4] ∧ O2 = put O' p (datO (((KINDS.map D.str).take j).flatMap sigS)))
    (de_call0 G3 hr hg3 kg3 bg3 pass0 ⟨rfl, rfl, rfl⟩) ⟨_, _, _, _, rfl, rfl⟩ scSignals.nd ?_ ?_ PassesOwn.never)
  · rintro j dk ρ' O2 hj ⟨s1, s2, s3, s4, rfl, rfl⟩
    have hnx := take_flat sigS hj
    have hlen := flat_le sigS (KINDS.map D.str) j 18 lenS
    generalize ((KINDS.map D.str).take j).flatMap sigS = acc at hnx hlen
    have hlen : acc.length ≤ 90 := hlen
    refine ds_one (d1_forL (ds := SIDES.map .str) (O1 := put O' p (datO acc)) 2 (fun i ρ' O2 => ∃ s2 s3 s4, ρ' = [.val (.ref p), .dat dk, s2, s3, s4] ∧ O2 = put O' p (datO (acc ++ ((SIDES.map D.str).take i).flatMap (sigM dk))))
      (de_lst (ds := SIDES.map D.str) (da_d de_str (da_d de_str (da_d de_str da_nil)))) ⟨_, _, _, rfl, by simp⟩ scSignals.nd ?_ ?_ PassesOwn.never)
    · rintro i dsd ρ' O2 hi ⟨s2, s3, s4, rfl, rfl⟩
      have hnx2 := take_flat (sigM dk) hi
      have hlen2 := flat_le (sigM dk) (SIDES.map D.str) i 6 (lenM dk)
      generalize ((SIDES.map D.str).take i).flatMap (sigM dk) = acc2 at hnx2 hlen2
      have hlen2 : acc2.length ≤ 18 := hlen2
      refine ds_one (d1_forL (ds := MS) (O1 := put O' p (datO (acc ++ acc2))) 3 (fun t ρ' O2 => ∃ s3 s4, ρ' = [.val (.ref p), .dat dk, .dat dsd, s3, s4] ∧ O2 = put O' p (datO (acc ++ acc2 ++ (MS.take t).flatMap (sigR dk dsd))))
        (de_lst (ds := MS) (da_d de_bl (da_d de_bl da_nil))) ⟨_, _, rfl, by simp⟩ scSignals.nd ?_ ?_ PassesOwn.never)
      · rintro t dm ρ' O2 ht ⟨s3, s4, rfl, rfl⟩
        have hnx3 := take_flat (sigR dk dsd) ht
        have hlen3 := flat_le (sigR dk dsd) MS t 3 (lenR dk dsd)
        generalize (MS.take t).flatMap (sigR dk dsd) = acc3 at hnx3 hlen3
        have hlen3 : acc3.length ≤ 6 := hlen3
        refine ds_one (d1_extend (ds := sigR dk dsd dm) (O1 := put O' p (datO (acc ++ acc2 ++ acc3))) 0 rfl put_same ?_ put_same ?_ ?_)
        · refine de_lcL (ds := RELS.map D.str) 4 (de_lst (ds := RELS.map D.str) (da_d de_str (da_d de_str (da_d de_str da_nil)))) (fun j ac O2 => ac = ((RELS.map D.str).take j).filterMap (fun r => some (sigD dk dsd dm r)) ∧ O2 = put O' p (datO (acc ++ acc2 ++ acc3))) ⟨rfl, rfl⟩ (lc_pure (f := fun r => some (sigD dk dsd dm r)) ?_) (fun ac O2 h => ?_) (by decide) scSignals.nd (blkOk_by rfl)
          · intro r hr2
            exact .inl ⟨_, rfl, difs_nil, fun s H C cl fp => de_tup (ds := [dk, dsd, dm, r]) (da_d (de_var 1) (da_d (de_var 2) (da_d (de_var 3) (da_d (de_var 4) da_nil)))) (by show 4 ≤ 10000; decide)⟩
          · refine ⟨?_, h.2⟩
            rw [h.1, List.take_length]
            unfold sigR
            rw [← List.filterMap_eq_map]
            rfl
        · have := lenR dk dsd dm
          rw [List.length_map, List.length_append, List.length_append]
          omega
        · refine ⟨_, _, rfl, ?_⟩
          rw [put_put, hnx3]
          unfold datO
          rw [← List.map_append]
          simp only [List.append_assoc]
      · rintro ρ' O2 ⟨s3, s4, rfl, rfl⟩
        refine ⟨_, _, _, rfl, ?_⟩
        rw [hnx2, List.append_assoc]
        rfl
    · rintro ρ' O2 ⟨s2, s3, s4, rfl, rfl⟩
      refine ⟨_, _, _, _, rfl, ?_⟩
      rw [hnx]
      rfl
  · rintro ρ' O2 ⟨s1, s2, s3, s4, rfl, rfl⟩
    refine ds_freeze 0 rfl (ds := signals) (by rw [put_same]; rfl) ?_
    exact ds_one (d1_ret (s := .dat (.lst signals)) (dv_var 0 rfl) ⟨rfl, cut_put hp⟩)
end
end Dg

namespace Dg
open PySem PySem.Spec PyProof.Rows L2 GxR Dz
def rs_simple : List D := [.tup [.non, .str "enter", .non, .non, .non, .int 1], .tup [.non, .str "leave", .non, .non, .non, .int 0]]
def rs_counting : List D := [.tup [.int 0, .str "enter", .non, .non, .non, .int 1], .tup [.int 1, .str "enter", .non, .non, .non, .int 2], .tup [.int 2, .str "leave", .non, .non, .non, .int 1], .tup [.int 1, .str "leave", .non, .non, .non, .int 0]]
def rs_latest : List D := [.tup [.non, .str "enter", .str "outside", .non, .non, .int 0], .tup [.non, .str "enter", .non, .non, .non, .int 1], .tup [.non, .str "leave", .non, .bl true, .non, .int 0]]
def rs_over : List D := [.tup [.non, .str "over", .str "outside", .non, .non, .int 0], .tup [.non, .str "over", .non, .non, .non, .int 1], .tup [.non, .str "leave", .non, .non, .non, .int 0]]
def rs_related : List D := [.tup [.non, .str "enter", .non, .non, .non, .int 1], .tup [.int 1, .str "leave", .non, .non, .str "inside", .int 1], .tup [.non, .str "leave", .non, .non, .non, .int 0]]
def SAMP : List (Str × Int × List D) := [("simple", 2, rs_simple), ("counting", 3, rs_counting), ("latest", 2, rs_latest), ("over", 2, rs_over), ("related", 2, rs_related)]
def SKD : List (Key × D) := [(.inr "simple", .lst rs_simple), (.inr "counting", .lst rs_counting), (.inr "latest", .lst rs_latest), (.inr "over", .lst rs_over), (.inr "related", .lst rs_related)]
section
variable {P : Program} {w : World} {K : PySem.W.Frag} {mg : Str → Option Value} {base : Heap} {T : List Addr} {CE fI : Addr}
theorem scLSample : FnScope ["name", "rules", "states", "more"] ["name"] (defScope sLSample) := ⟨rfl, rfl, rfl, by decide +kernel, rfl, by decide +kernel, by decide +kernel⟩
/-- a told sample, its lists owned: the outer at p, the rules at q -/
def ownL (O : OH) (p q : Addr) (n : Int) (on rs : List D) : OH := put (put O q (.lst (rs.map .dat))) p (.lst [.dat (.int n), .dat (.lst on), .val (.ref q)])
def pLSample : PR := fun ss O Rn Rx => ∃ z n rs, ss = [.dat (.str z)] ∧ (z, n, rs) ∈ SAMP ∧ Rn = (fun v O' => ∃ p q, O p = none ∧ O q = none ∧ p ≠ q ∧ v = .val (.ref p) ∧ O' = ownL O p q n ((rgI 1 n).map .int) (rs ++ COMMON)) ∧ Rx = fun _ _ => False
theorem samp_at {z : Str} {n : Int} {rs : List D} (h : (z, n, rs) ∈ SAMP) : (2 + (if deq (.str z) (.str "counting") = true then 1 else 0) : Int) = n ∧ (SKD.find? fun kv => decide (kv.1 = .inr z)).map (·.2) = some (.lst rs) ∧ rs.length ≤ 10 ∧ 2 ≤ n ∧ n ≤ 3 := by
  have h' : (z, n, rs) = (("simple" : Str), (2 : Int), rs_simple) ∨ (z, n, rs) = (("counting" : Str), (3 : Int), rs_counting) ∨ (z, n, rs) = (("latest" : Str), (2 : Int), rs_latest) ∨ (z, n, rs) = (("over" : Str), (2 : Int), rs_over) ∨ (z, n, rs) = (("related" : Str), (2 : Int), rs_related) := by unfold SAMP at h; simp only [List.mem_cons, List.not_mem_nil, or_false] at h; exact h
  rcases h' with h' | h' | h' | h' | h' <;> (cases h'; refine ⟨by rw [deq_str]; decide +kernel, rfl, by decide, by decide, by decide⟩)
theorem ok_lsample {f : Addr} {fd : FuncData} {cdv : Value} (F : FunC K "_law_sample" "_law_sample" sLSample f fd cdv) (L : Blt mg) :
    FnOk P w K mg base (L2.CX P w) 1 f fd ["name"] (spX T K CE pLSample) := by
  refine fn_okX (R := pLSample) F scLSample (fun ss O Rn Rx ⟨p, k, s, h, _⟩ => by rw [h]; rfl) fun A outer s H E ss O Rn Rx hr h => ?_
  obtain ⟨z, n, rs, e1, hm, eN, eX⟩ := h
  subst e1 eN eX
  obtain ⟨hn, hk, hl, hn2, hn3⟩ := samp_at hm
  refine ds_cons (d1_set 1 (s := .dat (.dic SKD)) (O1 := O) (DE.dv (de_dict (kd := SKD) ?_ (by decide +kernel) (by decide))) ?_ scLSample.nd)
  · exact (dp_str (de_lst (ds := [.tup [.non, .str "enter", .non, .non, .non, .int 1], .tup [.non, .str "leave", .non, .non, .non, .int 0]]) (da_d (de_tup (ds := [.non, .str "enter", .non, .non, .non, .int 1]) (da_d de_non (da_d de_str (da_d de_non (da_d de_non (da_d de_non (da_d de_int da_nil))))))) (da_d (de_tup (ds := [.non, .str "leave", .non, .non, .non, .int 0]) (da_d de_non (da_d de_str (da_d de_non (da_d de_non (da_d de_non (da_d de_int da_nil))))))) da_nil))) (dp_str (de_lst (ds := [.tup [.int 0, .str "enter", .non, .non, .non, .int 1], .tup [.int 1, .str "enter", .non, .non, .non, .int 2], .tup [.int 2, .str "leave", .non, .non, .non, .int 1], .tup [.int 1, .str "leave", .non, .non, .non, .int 0]]) (da_d (de_tup (ds := [.int 0, .str "enter", .non, .non, .non, .int 1]) (da_d de_int (da_d de_str (da_d de_non (da_d de_non (da_d de_non (da_d de_int da_nil))))))) (da_d (de_tup (ds := [.int 1, .str "enter", .non, .non, .non, .int 2]) (da_d de_int (da_d de_str (da_d de_non (da_d de_non (da_d de_non (da_d de_int da_nil))))))) (da_d (de_tup (ds := [.int 2, .str "leave", .non, .non, .non, .int 1]) (da_d de_int (da_d de_str (da_d de_non (da_d de_non (da_d de_non (da_d de_int da_nil))))))) (da_d (de_tup (ds := [.int 1, .str "leave", .non, .non, .non, .int 0]) (da_d de_int (da_d de_str (da_d de_non (da_d de_non (da_d de_non (da_d de_int da_nil))))))) da_nil))))) (dp_str (de_lst (ds := [.tup [.non, .str "enter", .str "outside", .non, .non, .int 0], .tup [.non, .str "enter", .non, .non, .non, .int 1], .tup [.non, .str "leave", .non, .bl true, .non, .int 0]]) (da_d (de_tup (ds := [.non, .str "enter", .str "outside", .non, .non, .int 0]) (da_d de_non (da_d de_str (da_d de_str (da_d de_non (da_d de_non (da_d de_int da_nil))))))) (da_d (de_tup (ds := [.non, .str "enter", .non, .non, .non, .int 1]) (da_d de_non (da_d de_str (da_d de_non (da_d de_non (da_d de_non (da_d de_int da_nil))))))) (da_d (de_tup (ds := [.non, .str "leave", .non, .bl true, .non, .int 0]) (da_d de_non (da_d de_str (da_d de_non (da_d de_bl (da_d de_non (da_d de_int da_nil))))))) da_nil)))) (dp_str (de_lst (ds := [.tup [.non, .str "over", .str "outside", .non, .non, .int 0], .tup [.non, .str "over", .non, .non, .non, .int 1], .tup [.non, .str "leave", .non, .non, .non, .int 0]]) (da_d (de_tup (ds := [.non, .str "over", .str "outside", .non, .non, .int 0]) (da_d de_non (da_d de_str (da_d de_str (da_d de_non (da_d de_non (da_d de_int da_nil))))))) (da_d (de_tup (ds := [.non, .str "over", .non, .non, .non, .int 1]) (da_d de_non (da_d de_str (da_d de_non (da_d de_non (da_d de_non (da_d de_int da_nil))))))) (da_d (de_tup (ds := [.non, .str "leave", .non, .non, .non, .int 0]) (da_d de_non (da_d de_str (da_d de_non (da_d de_non (da_d de_non (da_d de_int da_nil))))))) da_nil)))) (dp_str (de_lst (ds := [.tup [.non, .str "enter", .non, .non, .non, .int 1], .tup [.int 1, .str "leave", .non, .non, .str "inside", .int 1], .tup [.non, .str "leave", .non, .non, .non, .int 0]]) (da_d (de_tup (ds := [.non, .str "enter", .non, .non, .non, .int 1]) (da_d de_non (da_d de_str (da_d de_non (da_d de_non (da_d de_non (da_d de_int da_nil))))))) (da_d (de_tup (ds := [.int 1, .str "leave", .non, .non, .str "inside", .int 1]) (da_d de_int (da_d de_str (da_d de_non (da_d de_non (da_d de_str (da_d de_int da_nil))))))) (da_d (de_tup (ds := [.non, .str "leave", .non, .non, .non, .int 0]) (da_d de_non (da_d de_str (da_d de_non (da_d de_non (da_d de_non (da_d de_int da_nil))))))) da_nil)))) dp_nil)))))
  refine ds_cons (d1_set 2 (s := .dat (.int n)) (O1 := O) (DE.dv (DE.cast (de_add de_int (de_intB L.int (de_eq (x := .str z) (y := .str "counting") hr (by rfl) (by rfl) (de_var 0) de_str))) (by rw [hn]))) ?_ scLSample.nd)
  refine ds_cons (d1_set 3 (s := .dat (.lst COMMON)) (O1 := O) (DE.dv (de_lst (ds := [.tup [.non, .str "drop", .non, .non, .non, .int 0], .tup [.non, .str "end", .non, .non, .non, .int 0]]) (da_d (de_tup (ds := [.non, .str "drop", .non, .non, .non, .int 0]) (da_d de_non (da_d de_str (da_d de_non (da_d de_non (da_d de_non (da_d de_int da_nil))))))) (da_d (de_tup (ds := [.non, .str "end", .non, .non, .non, .int 0]) (da_d de_non (da_d de_str (da_d de_non (da_d de_non (da_d de_non (da_d de_int da_nil))))))) da_nil)))) ?_ scLSample.nd)
  refine ds_one (d1_retCat (O4 := O) (xs := rs) (ys := COMMON) (de_var 2) (de_listRg2 L.list L.range de_int (de_var 2) (by omega)) (de_dget hr (key := .inr z) (de_var 1) (de_var 0) (fun B v r => by cases r; rfl) hk) (de_var 3) (by show rs.length + 2 ≤ 100000; omega) fun q p hq hp ne => ⟨p, q, hp, hq, ne, rfl, rfl⟩)
end
end Dg

namespace Dg
open PySem PySem.Spec PyProof.Rows L2 GxR Dz
theorem put_comm {O : OH} {a b : Addr} {x y : OD} (h : a ≠ b) : put (put O a x) b y = put (put O b y) a x := by
  funext c
  unfold put
  by_cases h1 : c = b
  · rw [if_pos h1, if_neg (fun z => h (z.symm.trans h1)), if_pos h1]
  · rw [if_neg h1]
    by_cases h2 : c = a
    · rw [if_pos h2, if_pos h2]
    · rw [if_neg h2, if_neg h2, if_neg h1]
section
variable {O : OH} {p q b : Addr} {n : Int} {on rs : List D} {x : OD}
theorem ownL_p : ownL O p q n on rs p = some (.lst [.dat (.int n), .dat (.lst on), .val (.ref q)]) := put_same
theorem ownL_q (h : p ≠ q) : ownL O p q n on rs q = some (.lst (rs.map .dat)) := by
  unfold ownL
  rw [put_ne (Ne.symm h), put_same]
theorem ownL_b (hp : b ≠ p) (hq : b ≠ q) : ownL O p q n on rs b = O b := by
  unfold ownL
  rw [put_ne hp, put_ne hq]
theorem ownL_put (hp : b ≠ p) (hq : b ≠ q) : put (ownL O p q n on rs) b x = ownL (put O b x) p q n on rs := by
  unfold ownL
  rw [put_comm (Ne.symm hp), put_comm (Ne.symm hq)]
theorem ownL_set (h : p ≠ q) (rs' : List D) : put (ownL O p q n on rs) q (.lst (rs'.map .dat)) = ownL O p q n on rs' := by
  unfold ownL
  rw [put_comm h, put_put]
theorem ownL_end (hp : O p = none) (hq : O q = none) (y : OD) : cut (put (cut (ownL O p q n on rs) q) p y) p = O := by
  funext c
  unfold ownL cut put
  by_cases h1 : c = p
  · simp [h1, hp]
  · by_cases h2 : c = q
    · simp [h2, hq]
    · simp [h1, h2]
end
section
variable {T : List Addr} {X : Cx} {CE : Addr} {ρ : List Slot} {E : DEn} {O : OH} {p q : Addr} {n : Int} {on rs : List D} {p1 p2 : Pos}
/-- return told -/
theorem told_ret (hi : ρ[3]? = some (.val (.ref p))) (hl : 3 < ρ.length) (hN : X.N[3]? = some ("told" : Str)) (hv : Vis X.env.scope ("told" : Str)) (hp : O p = none) (hq : O q = none) (ne : p ≠ q) (h : E.rt (.dat (.lst [.int n, .lst on, .lst rs])) O) : DS T X CE [.Return (some (.Name "told" p1)) p2] ρ (ownL O p q n on rs) E := by
  refine ds_freezeIn 2 (ownL_q ne) ownL_p rfl ne ?_
  refine ds_freeze 3 hi (ds := [.int n, .lst on, .lst rs]) put_same ?_
  refine ds_one (d1_ret (s := .dat (.lst [.int n, .lst on, .lst rs])) (dv_var 3 (by rw [List.getElem?_set_self hl]) (by intro z; cases z) hN hv) ?_)
  rw [ownL_end hp hq]
  exact h
end
def NAMES : List D := SAMP.map fun t => .str t.1
def sAt (row : List Int) (a : Nat) : Str × Int × List D := SAMP.getD (drw row a 8).toNat ("", 0, [])
def rangeD (n : Int) : List D := (List.range n.toNat).map fun i : Nat => .int (i : Int)
/-- a listener by digits -/
def liK (row : List Int) (a : Nat) : Bool := decide (drw row a 8 < 5)
def liC (row : List Int) (a : Nat) : Bool := eq0 (drw row (a + 1) 3)
def liN (row : List Int) (a : Nat) (most : Int) : Int := if liK row a = true then (sAt row a).2.1 else 1 + drw row (a + 1) most
def liO (row : List Int) (a : Nat) (most : Int) : List D := if liK row a = true then (rgI 1 (sAt row a).2.1).map .int else sel row 2 eq0 (a + 2) (rangeD (liN row a most))
def liR0 (row : List Int) (a : Nat) : List D := (sAt row a).2.2 ++ COMMON
def liE (row : List Int) (a : Nat) (most : Int) : Nat := a + 2 + (liN row a most).toNat
def liR (row : List Int) (a : Nat) (most : Int) : List D := if liK row a = true then (if liC row a = true then (liR0 row a).set (drw row (a + 10) (liR0 row a).length).toNat (ruleD row (a + 2) (sAt row a).2.1) else liR0 row a)
  else (List.range (drw row (liE row a most) 8).toNat).map fun i => ruleD row (liE row a most + 1 + 8 * i) (liN row a most)
def liA (row : List Int) (a : Nat) (most : Int) : Nat := if liK row a = true then (if liC row a = true then a + 11 else a + 2) else liE row a most + 1 + 8 * (drw row (liE row a most) 8).toNat
def listD (row : List Int) (a : Nat) (most : Int) : D := .lst [.int (liN row a most), .lst (liO row a most), .lst (liR row a most)]
theorem sAt_mem {row : List Int} {a : Nat} (h : liK row a = true) : ∃ z n rs, sAt row a = (z, n, rs) ∧ (z, n, rs) ∈ SAMP ∧ atI NAMES (drw row a 8) = some (.str z) := by
  have h5 : drw row a 8 < 5 := of_decide_eq_true h
  have h0 := drw_0 row a (many := 8) (by decide)
  have hlt : (drw row a 8).toNat < SAMP.length := by show (drw row a 8).toNat < 5; omega
  have e : sAt row a = SAMP[(drw row a 8).toNat] := by unfold sAt; rw [List.getD_eq_getElem?_getD, List.getElem?_eq_getElem hlt]; rfl
  refine ⟨_, _, _, e, List.getElem_mem hlt, ?_⟩
  rw [atI_D h0 (by show drw row a 8 < 5; exact h5)]
  unfold NAMES
  rw [List.getD_eq_getElem?_getD, List.getElem?_map, List.getElem?_eq_getElem hlt]
  rfl
section
variable {P : Program} {w : World} {K : PySem.W.Frag} {mg : Str → Option Value} {base : Heap} {T : List Addr} {CE fI : Addr}
theorem scLList : FnScope ["box", "most", "kind", "told", "states", "s", "k"] ["box", "most"] (defScope sLList) := ⟨rfl, rfl, rfl, by decide +kernel, rfl, by decide +kernel, by decide +kernel⟩
def pLList : PR := fun ss O Rn Rx => ∃ b row a most, ss = [.val (.ref b), .dat (.int most)] ∧ O b = some (Bx row a) ∧ 0 < most ∧ most ≤ 50 ∧ a ≤ 5000 ∧ Rn = (fun v O' => v = .dat (listD row a most) ∧ O' = put O b (Bx row (liA row a most))) ∧ Rx = fun _ _ => False
theorem ok_llist {f g g2 g3 : Addr} {fd gd gd2 gd3 : FuncData} {cdv : Value} (F : FunC K "_law_listener" "_law_listener" sLList f fd cdv) (L : Blt mg) (G : FnOk P w K mg base CX0 1 g gd ["box", "many"] (spF T K pDraw)) (hg : mg "_law_draw" = some (.ref g)) (kg : PySem.W.keepIn K (.ref g) = true) (bg : Binds K gd ["box", "many"] [])
    (G2 : FnOk P w K mg base CX0 2 g2 gd2 ["box", "states"] (spF T K pLRule)) (hg2 : mg "_law_rule" = some (.ref g2)) (kg2 : PySem.W.keepIn K (.ref g2) = true) (bg2 : Binds K gd2 ["box", "states"] [])
    (G3 : FnOk P w K mg base (L2.CX P w) 1 g3 gd3 ["name"] (spX T K CE pLSample)) (hg3 : mg "_law_sample" = some (.ref g3)) (kg3 : PySem.W.keepIn K (.ref g3) = true) (bg3 : Binds K gd3 ["name"] []) :
    FnOk P w K mg base (L2.CX P w) 3 f fd ["box", "most"] (spX T K CE pLList) := by
  refine fn_okX (R := pLList) F scLList (fun ss O Rn Rx ⟨p, k, s, m, h, _⟩ => by rw [h]; rfl) fun A outer s H E ss O Rn Rx hr h => ?_
  obtain ⟨b, row, a, most, e1, hO, hm0, hm1, ha, eN, eX⟩ := h
  subst e1 eN eX
  have hr1 := hr.mono (show 1 ≤ 2 by decide)
  refine ds_cons (d1_set 2 (s := .dat (.int (drw row a 8))) (O1 := put O b (Bx row (a + 1))) (DE.dv (de_call G hr1 hg kg bg pass0 (da_v (dv_var 0 rfl) (da_d de_int da_nil)) ⟨b, row, a, 8, rfl, hO, by decide, by omega, rfl, rfl⟩)) ?_ scLList.nd)
  refine ds_cons (d1_if (p := liK row a) (O1 := put O b (Bx row (a + 1))) (dt_lt (de_var 2) de_int) (fun z => ?_) fun z => ds_nil ?_)
  · obtain ⟨zz, n, rs, es, hmem, hat⟩ := sAt_mem z
    obtain ⟨_, _, hl, hn2, hn3⟩ := samp_at hmem
    have eR0 : liR0 row a = rs ++ COMMON := by unfold liR0; rw [es]
    have eN : liN row a most = n := by unfold liN; rw [if_pos z, es]
    have eO : liO row a most = (rgI 1 n).map .int := by unfold liO; rw [if_pos z, es]
    refine ds_cons (d1_setX (R := fun v O' => ∃ p q, put O b (Bx row (a + 1)) p = none ∧ put O b (Bx row (a + 1)) q = none ∧ p ≠ q ∧ v = .val (.ref p) ∧ O' = ownL (put O b (Bx row (a + 1))) p q n ((rgI 1 n).map .int) (rs ++ COMMON)) 3
      (dvn_call (O1 := put O b (Bx row (a + 1))) (ss := [.dat (.str zz)]) G3 hr1 hg3 kg3 bg3 (da_d (de_ixL (ds := NAMES) (de_lst (ds := NAMES) (da_d de_str (da_d de_str (da_d de_str (da_d de_str (da_d de_str da_nil)))))) (de_var 2) hat) da_nil) ⟨zz, n, rs, rfl, hmem, rfl, rfl⟩) (fun v O' q => ?_) scLList.nd)
    obtain ⟨p, q, hp, hq, ne, e1, e2⟩ := q
    subst e1 e2
    have bp : b ≠ p := fun zz => by rw [← zz, put_same] at hp; cases hp
    have bq : b ≠ q := fun zz => by rw [← zz, put_same] at hq; cases hq
    have hp0 : O p = none := by rw [put_ne (Ne.symm bp)] at hp; exact hp
    have hq0 : O q = none := by rw [put_ne (Ne.symm bq)] at hq; exact hq
    refine ds_cons (d1_if (p := liC row a) (O1 := ownL (put O b (Bx row (a + 2))) p q n ((rgI 1 n).map .int) (rs ++ COMMON)) (DT.cast (dt_eq hr (by rfl) (by rfl) (de_call G hr1 hg kg bg pass0 (da_v (dv_var 0 rfl) (da_d de_int da_nil)) ⟨b, row, a + 1, 3, rfl, by rw [ownL_b bp bq, put_same], by decide, by omega, rfl, by rw [ownL_put bp bq, put_put]⟩) de_int) (deq_i0 _)) (fun zc => ?_) fun zc => ds_nil ?_)
    · have hlp : 0 < ((rs ++ COMMON).length : Int) := by rw [List.length_append]; show 0 < ((rs.length + 2 : Nat) : Int); omega
      have hll : (rs ++ COMMON).length ≤ 12 := by rw [List.length_append]; show rs.length + 2 ≤ 12; omega
      have eR : liR row a most = (rs ++ COMMON).set (drw row (a + 10) (rs ++ COMMON).length).toNat (ruleD row (a + 2) n) := by unfold liR; rw [if_pos z, if_pos zc, eR0, es]
      have eA : liA row a most = a + 11 := by unfold liA; rw [if_pos z, if_pos zc]
      refine ds_cons (d1_setitemG (s := .dat (ruleD row (a + 2) n)) (c := q) (k := drw row (a + 10) (rs ++ COMMON).length) (j := (drw row (a + 10) (rs ++ COMMON).length).toNat) (ss := (rs ++ COMMON).map .dat)
        (O1 := ownL (put O b (Bx row (a + 10))) p q n ((rgI 1 n).map .int) (rs ++ COMMON)) (O2 := ownL (put O b (Bx row (a + 10))) p q n ((rgI 1 n).map .int) (rs ++ COMMON)) (O3 := ownL (put O b (Bx row (a + 11))) p q n ((rgI 1 n).map .int) (rs ++ COMMON)) ?_ ?_ ?_ (ownL_q ne) ?_ ?_)
      · exact DE.dv (de_call G2 hr hg2 kg2 bg2 pass0 (da_v (dv_var 0 rfl) (da_d (DV.de (dv_ixO 3 rfl de_int ownL_p rfl)) da_nil)) ⟨b, row, a + 2, n, rfl, by rw [ownL_b bp bq, put_same], by omega, by omega, rfl, by rw [ownL_put bp bq, put_put]⟩)
      · exact dv_ixO 3 rfl de_int ownL_p rfl
      · exact de_call G hr1 hg kg bg pass0 (da_v (dv_var 0 rfl) (da_d (de_lenO L.len (dv_ixO 3 rfl de_int ownL_p rfl) (ownL_q ne)) da_nil)) ⟨b, row, a + 10, ((rs ++ COMMON).length : Int), by rw [List.length_map], by rw [ownL_b bp bq, put_same], hlp, by omega, rfl, by rw [ownL_put bp bq, put_put]⟩
      · rw [List.length_map]
        have h0 := drw_0 row (a + 10) hlp
        have h1 := drw_lt row (a + 10) hlp
        unfold ixN
        simp only [h0, h1]
        first | rfl | simp [h0, h1] | (split <;> first | rfl | omega)
      · refine ds_nil ?_
        have eS : ((rs ++ COMMON).map Slot.dat).set (drw row (a + 10) (rs ++ COMMON).length).toNat (.dat (ruleD row (a + 2) n)) = (liR row a most).map .dat := by rw [eR, List.map_set]
        show DS _ _ _ _ _ (put (ownL _ p q n _ _) q (.lst (((rs ++ COMMON).map Slot.dat).set _ _))) _
        rw [eS, ownL_set ne]
        have hp1 : put O b (Bx row (a + 11)) p = none := by rw [put_ne (Ne.symm bp)]; exact hp0
        have hq1 : put O b (Bx row (a + 11)) q = none := by rw [put_ne (Ne.symm bq)]; exact hq0
        refine told_ret rfl (by show 3 < 7; decide) rfl (Or.inl rfl) hp1 hq1 ne ?_
        show Slot.dat (.lst [.int n, .lst ((rgI 1 n).map .int), .lst (liR row a most)]) = .dat (listD row a most) ∧ put O b (Bx row (a + 11)) = put O b (Bx row (liA row a most))
        unfold listD
        rw [eN, eO, eA]
        exact ⟨rfl, rfl⟩
    · have zc' : ¬ liC row a = true := by rw [zc]; exact Bool.false_ne_true
      have eR : liR row a most = rs ++ COMMON := by unfold liR; rw [if_pos z, if_neg zc', eR0]
      have eA : liA row a most = a + 2 := by unfold liA; rw [if_pos z, if_neg zc']
      have hp1 : put O b (Bx row (a + 2)) p = none := by rw [put_ne (Ne.symm bp)]; exact hp0
      have hq1 : put O b (Bx row (a + 2)) q = none := by rw [put_ne (Ne.symm bq)]; exact hq0
      refine told_ret rfl (by show 3 < 7; decide) rfl (Or.inl rfl) hp1 hq1 ne ?_
      show Slot.dat (.lst [.int n, .lst ((rgI 1 n).map .int), .lst (rs ++ COMMON)]) = .dat (listD row a most) ∧ put O b (Bx row (a + 2)) = put O b (Bx row (liA row a most))
      unfold listD
      rw [eN, eO, eA, eR]
      exact ⟨rfl, rfl⟩
  · have z' : ¬ liK row a = true := by rw [z]; exact Bool.false_ne_true
    have eN : liN row a most = 1 + drw row (a + 1) most := by unfold liN; rw [if_neg z']
    have d0 := drw_0 row (a + 1) hm0
    have d1 := drw_lt row (a + 1) hm0
    have n0 : 1 ≤ liN row a most := by rw [eN]; omega
    have n1 : liN row a most ≤ 50 := by rw [eN]; omega
    have eE : liE row a most = a + 2 + (liN row a most).toNat := rfl
    have k0 := drw_0 row (liE row a most) (many := 8) (by decide)
    have k1 := drw_lt row (liE row a most) (many := 8) (by decide)
    refine ds_cons (d1_set 4 (s := .dat (.int (liN row a most))) (O1 := put O b (Bx row (a + 2))) (DE.dv (DE.cast (de_add de_int (de_call G hr1 hg kg bg pass0 (da_v (dv_var 0 rfl) (da_d (de_var 1) da_nil)) ⟨b, row, a + 1, most, rfl, put_same, hm0, by omega, rfl, by rw [put_put]⟩)) (by rw [eN]))) ?_ scLList.nd)
    generalize hn : liN row a most = n at n0 n1 eE
    have eO : liO row a most = sel row 2 eq0 (a + 2) (rangeD n) := by unfold liO; rw [if_neg z', hn]
    generalize hc : liE row a most = c at eE k0 k1
    have eR : liR row a most = (List.range (drw row c 8).toNat).map fun i => ruleD row (c + 1 + 8 * i) n := by unfold liR; rw [if_neg z', hn, hc]
    have eA : liA row a most = c + 1 + 8 * (drw row c 8).toNat := by unfold liA; rw [if_neg z', hc]
    have lenR : (rangeD n).length = n.toNat := by unfold rangeD; rw [List.length_map, List.length_range]
    refine ds_one (d1_ret (s := .dat (listD row a most)) (O1 := put O b (Bx row (liA row a most))) (DE.dv (DE.cast (de_lst (ds := [.int n, .lst (sel row 2 eq0 (a + 2) (rangeD n)), .lst ((List.range (drw row c 8).toNat).map fun i => ruleD row (c + 1 + 8 * i) n)]) ?_ (by show 3 ≤ 10000; decide)) (by unfold listD; rw [hn, eO, eR]))) ⟨rfl, rfl⟩)
    rw [eA]
    refine da_d (d := .int n) (O1 := put O b (Bx row (a + 2))) (de_var 4) (da_d (d := .lst (sel row 2 eq0 (a + 2) (rangeD n))) (O1 := put O b (Bx row c)) ?_ (da_d (d := .lst ((List.range (drw row c 8).toNat).map fun i => ruleD row (c + 1 + 8 * i) n)) ?_ da_nil))
    · refine de_lcR (m := n) (O1 := put O b (Bx row (a + 2))) 5 (de_var 4) (fun j acc O2 => acc = sel row 2 eq0 (a + 2) ((rangeD n).take j) ∧ O2 = put O b (Bx row (a + 2 + j))) ⟨by show [] = sel row 2 eq0 (a + 2) []; rw [sel_nil], rfl⟩ (fun j acc O2 hj hI => ?_) (fun acc O2 h => ?_) (by omega) (by omega) L.range scLList.nd (blkOk_by rfl)
      · have hjn : j < (rangeD n).length := by rw [lenR]; omega
        have ej : (rangeD n)[j]? = some (.int (j : Int)) := by
          unfold rangeD
          rw [List.getElem?_map, List.getElem?_range (by omega)]
          rfl
        refine draw_turn (p := eq0) (fun i d hi => ⟨?_, fun s H C cl fp => de_var 5⟩) j _ acc O2 ej hI
        have hi' := (List.getElem?_eq_some_iff.mp hi).1
        rw [lenR] at hi'
        have hid : ∃ v : Int, d = .int v := by
          obtain ⟨v, _, hv⟩ := List.mem_map.mp (List.mem_of_getElem? hi)
          exact ⟨_, hv.symm⟩
        exact difs_one fun s H C cl fp => DT.cast (dt_eq hr (by rfl) (by rfl) (de_call G hr1 hg kg bg pass0 (da_v (dv_var 0 rfl) (da_d de_int da_nil)) ⟨b, row, a + 2 + i, 2, rfl, put_same, by decide, by omega, rfl, by rw [put_put]⟩) de_int) (deq_i0 _)
      · rw [← lenR, List.take_length, lenR, ← eE] at h
        exact h
    · refine de_lcR (m := drw row c 8) (O1 := put O b (Bx row (c + 1))) 6 (de_call G hr1 hg kg bg pass0 (da_v (dv_var 0 rfl) (da_d de_int da_nil)) ⟨b, row, c, 8, rfl, put_same, by decide, by omega, rfl, by rw [put_put]⟩) (fun j acc O2 => acc = (List.range j).map (fun i => ruleD row (c + 1 + 8 * i) n) ∧ O2 = put O b (Bx row (c + 1 + 8 * j))) ⟨rfl, rfl⟩ (fun j acc O2 hj hI => ?_) (fun acc O2 h => h) (by omega) (by omega) L.range scLList.nd (blkOk_by rfl)
      obtain ⟨rfl, rfl⟩ := hI
      refine ⟨true, _, difs_nil, (fun _ => ⟨ruleD row (c + 1 + 8 * j) n, _, fun s H C cl fp => de_call G2 hr hg2 kg2 bg2 pass0 (da_v (dv_var 0 rfl) (da_d (de_var 4) da_nil)) ⟨b, row, c + 1 + 8 * j, n, rfl, put_same, by omega, by omega, rfl, rfl⟩, ?_, ?_⟩), fun z => by cases z⟩
      · rw [List.range_succ, List.map_append]
        rfl
      · rw [put_put]
        congr 2
end
end Dg

namespace Dz
open PySem PySem.Spec PyProof.Rows L2 GxR
end Dz
namespace Dg
open PySem PySem.Spec PyProof.Rows L2 GxR Dz
section
variable {P : Program} {w : World} {K : PySem.W.Frag} {mg : Str → Option Value} {base : Heap} {T : List Addr} {CE fI : Addr}
end
end Dg

namespace Dg
open PySem PySem.Spec PyProof.Rows L2 GxR Dz
section
variable {α : Type} [DecidableEq α]
theorem dd_le : ∀ (xs acc : List α), (xs.foldl (fun s x => if x ∈ s then s else s ++ [x]) acc).length ≤ acc.length + xs.length
  | [], _ => Nat.le_refl _
  | x :: xs, acc => by
    rw [List.foldl_cons, List.length_cons]
    split
    · have := dd_le xs acc; omega
    · have := dd_le xs (acc ++ [x])
      rw [List.length_append, List.length_singleton] at this
      omega
theorem dd_all : ∀ (xs acc : List α), xs.Nodup → (∀ x ∈ xs, x ∉ acc) → (xs.foldl (fun s x => if x ∈ s then s else s ++ [x]) acc).length = acc.length + xs.length
  | [], _, _, _ => rfl
  | x :: xs, acc, h, hd => by
    rw [List.nodup_cons] at h
    rw [List.foldl_cons, if_neg (hd x (by simp)), dd_all xs (acc ++ [x]) h.2 (fun y hy => ?_), List.length_append, List.length_singleton, List.length_cons]
    · omega
    · rw [List.mem_append, List.mem_singleton, not_or]
      exact ⟨hd y (by simp [hy]), fun z => h.1 (z ▸ hy)⟩
theorem dd_full : ∀ (xs acc : List α), (xs.foldl (fun s x => if x ∈ s then s else s ++ [x]) acc).length = acc.length + xs.length → xs.Nodup ∧ ∀ x ∈ xs, x ∉ acc
  | [], _, _ => ⟨List.nodup_nil, fun _ h => by simp at h⟩
  | x :: xs, acc, h => by
    rw [List.foldl_cons, List.length_cons] at h
    by_cases hx : x ∈ acc
    · rw [if_pos hx] at h
      have := dd_le xs acc
      omega
    · rw [if_neg hx] at h
      obtain ⟨h1, h2⟩ := dd_full xs (acc ++ [x]) (by rw [h, List.length_append, List.length_singleton]; omega)
      refine ⟨List.nodup_cons.mpr ⟨fun z => h2 x z (by simp), h1⟩, fun y hy => ?_⟩
      rcases List.mem_cons.mp hy with rfl | hy
      · exact hx
      · exact fun z => h2 y hy (by simp [z])
theorem dd_len {xs : List α} : (DzS.dd xs).length = xs.length ↔ xs.Nodup := by
  constructor
  · intro h
    exact (dd_full xs [] (by rw [List.length_nil, Nat.zero_add]; exact h)).1
  · intro h
    have := dd_all xs [] h (by simp)
    rw [List.length_nil, Nat.zero_add] at this
    exact this
end
theorem intsOf_map : ∀ ks : List Int, intsOf (ks.map .int) = ks
  | [] => rfl
  | k :: ks => by
    show k :: intsOf (ks.map .int) = _
    rw [intsOf_map ks]
theorem isWord_mem (ws : List Str) (x : Str) : isWord ws (.str x) = decide (x ∈ ws) := by
  show (ws.map D.str).any (fun y => deq y (.str x)) = _
  rw [List.any_map]
  have e : ((fun y => deq y (D.str x)) ∘ D.str) = fun y => decide (y = x) := by
    funext y
    exact deq_str y x
  rw [e]
  by_cases h : x ∈ ws
  · rw [decide_eq_true h]
    exact List.any_eq_true.mpr ⟨x, h, by simp⟩
  · rw [decide_eq_false h, Bool.eq_false_iff]
    intro z
    obtain ⟨y, hy, e⟩ := List.any_eq_true.mp z
    exact h (of_decide_eq_true e ▸ hy)
theorem sel_sub {α : Type} (row : List Int) (many : Int) (p : Int → Bool) : ∀ (xs : List α) (a : Nat), (sel row many p a xs).Sublist xs
  | [], _ => List.Sublist.slnil
  | x :: xs, a => by
    rw [sel]
    split
    · exact (sel_sub row many p xs (a + 1)).cons₂ x
    · exact (sel_sub row many p xs (a + 1)).cons x
theorem getD_cases {ds : List D} {k : Int} {Q : D → Prop} (h0 : 0 ≤ k) (h1 : k < ds.length) (h : ∀ d ∈ ds, Q d) : Q (ds.getD k.toNat .non) := by
  have hk : k.toNat < ds.length := by omega
  rw [List.getD_eq_getElem?_getD, List.getElem?_eq_getElem hk]
  exact h _ (List.getElem_mem hk)
theorem KINDS_nd : KINDS.Nodup := by decide +kernel
end Dg

namespace Dg
open PySem PySem.Spec PyProof.Rows L2 GxR Dz
theorem isRule_tup {n : Int} {a b c d e f : D} : isRule n (.tup [a, b, c, d, e, f]) = ((a.isNon || isBelow n a) && ((b.isNon || isWord KINDS b) && ((c.isNon || isWord SIDES c) && ((d.isNon || isaBool d) && ((e.isNon || isWord RELS e) && isBelow n f))))) := rfl
theorem nb_pl {n : Int} {x : D} (h : (x.isNon || isBelow n x) = true) : Pl x ∧ D.ok 32 x = true := by
  cases x <;> first | exact ⟨.non, rfl⟩ | exact ⟨.int _, rfl⟩ | (simp [D.isNon, isBelow] at h; done)
theorem nw_pl {ws : List Str} {x : D} (h : (x.isNon || isWord ws x) = true) : Pl x ∧ D.ok 32 x = true := by
  cases x <;> first | exact ⟨.non, rfl⟩ | exact ⟨.str _, rfl⟩ | (simp [D.isNon, isWord] at h; done)
theorem nl_pl {x : D} (h : (x.isNon || isaBool x) = true) : Pl x ∧ D.ok 32 x = true := by
  cases x <;> first | exact ⟨.non, rfl⟩ | exact ⟨.bl _, rfl⟩ | (simp [D.isNon, isaBool] at h; done)
theorem b_pl {n : Int} {x : D} (h : isBelow n x = true) : Pl x ∧ D.ok 32 x = true := nb_pl (n := n) (by rw [h, Bool.or_true])
theorem rule_parts {n : Int} {r : D} (h : isRule n r = true) : ∃ a b c d e f, r = .tup [a, b, c, d, e, f] ∧ (Pl a ∧ D.ok 32 a = true) ∧ (Pl b ∧ D.ok 32 b = true) ∧ (Pl c ∧ D.ok 32 c = true) ∧ (Pl d ∧ D.ok 32 d = true) ∧ (Pl e ∧ D.ok 32 e = true) ∧ (Pl f ∧ D.ok 32 f = true) := by
  unfold isRule at h
  split at h
  · rename_i a b c d e f
    simp only [Bool.and_eq_true] at h
    obtain ⟨h1, h2, h3, h4, h5, h6⟩ := h
    exact ⟨a, b, c, d, e, f, rfl, nb_pl h1, nw_pl h2, nw_pl h3, nl_pl h4, nw_pl h5, b_pl h6⟩
  · cases h
theorem rule_shape {n : Int} {r : D} (h : isRule n r = true) : RShape r := by
  obtain ⟨a, b, c, d, e, f, rfl, ha, hb, hc, hd, he, hf⟩ := rule_parts h
  exact ⟨a, b, c, d, e, f, rfl, ha.2, hb.2, hc.2, hd.2, he.2⟩
theorem rule_pl {n : Int} {r : D} (h : isRule n r = true) : Pl r ∧ PlT r ∧ D.ok 31 r = true := by
  obtain ⟨a, b, c, d, e, f, rfl, ha, hb, hc, hd, he, hf⟩ := rule_parts h
  refine ⟨.tup _, ?_, ?_⟩
  · intro x hx
    simp only [List.mem_cons, List.not_mem_nil, or_false] at hx
    rcases hx with rfl | rfl | rfl | rfl | rfl | rfl
    · exact ha.1
    · exact hb.1
    · exact hc.1
    · exact hd.1
    · exact he.1
    · exact hf.1
  · unfold isRule at h
    simp only [Bool.and_eq_true] at h
    obtain ⟨h1, h2, h3, h4, h5, h6⟩ := h
    have ok1 : ∀ {x : D}, ((x.isNon || isBelow n x) = true ∨ (∃ ws, (x.isNon || isWord ws x) = true) ∨ (x.isNon || isaBool x) = true) → D.ok 30 x = true := by
      intro x hx
      cases x <;> first | rfl | (simp [D.isNon, isBelow, isWord, isaBool] at hx; done)
    refine ok_tup ?_
    intro x hx
    simp only [List.mem_cons, List.not_mem_nil, or_false] at hx
    rcases hx with rfl | rfl | rfl | rfl | rfl | rfl
    · exact ok1 (.inl h1)
    · exact ok1 (.inr (.inl ⟨_, h2⟩))
    · exact ok1 (.inr (.inl ⟨_, h3⟩))
    · exact ok1 (.inr (.inr h4))
    · exact ok1 (.inr (.inl ⟨_, h5⟩))
    · exact ok1 (.inl (by rw [h6, Bool.or_true]))
theorem ruleD_is (row : List Int) (a : Nat) {n : Int} (hn : 0 < n) : isRule n (ruleD row a n) = true := by
  have below : ∀ k : Nat, isBelow n (.int (drw row k n)) = true := fun k => by
    show (decide (0 ≤ drw row k n) && decide (drw row k n < n)) = true
    rw [decide_eq_true (drw_0 row k hn), decide_eq_true (drw_lt row k hn)]
    rfl
  have h1 : ((ruSrc row a n).isNon || isBelow n (ruSrc row a n)) = true := by
    unfold ruSrc
    refine getD_cases (Q := fun d => (d.isNon || isBelow n d) = true) (drw_0 row _ (by decide)) (drw_lt row _ (by decide)) ?_
    intro d hd
    simp only [List.mem_cons, List.not_mem_nil, or_false] at hd
    rcases hd with rfl | rfl
    · rfl
    · rw [below, Bool.or_true]
  have h2 : ((ruKind row a).isNon || isWord KINDS (ruKind row a)) = true := by
    unfold ruKind
    split
    · show ((_ : D).isNon || isWord KINDS ((KINDS.map D.str).getD (drw row (a + 2) 5).toNat .non)) = true
      have q : isWord KINDS ((KINDS.map D.str).getD (drw row (a + 2) 5).toNat .non) = true := getD_cases (Q := fun d => isWord KINDS d = true) (drw_0 row _ (by decide)) (drw_lt row _ (by decide)) (by
        intro d hd
        obtain ⟨k, hk, rfl⟩ := List.mem_map.mp hd
        rw [isWord_mem, decide_eq_true hk])
      rw [q, Bool.or_true]
    · rfl
  have h3 : ((ruSide row a).isNon || isWord SIDES (ruSide row a)) = true := by
    unfold ruSide
    refine getD_cases (Q := fun d => (d.isNon || isWord SIDES d) = true) (drw_0 row _ (by decide)) (drw_lt row _ (by decide)) ?_
    intro d hd
    simp only [List.mem_cons, List.not_mem_nil, or_false] at hd
    rcases hd with rfl | rfl | rfl | rfl | rfl <;> decide +kernel
  have h4 : ((ruSame row a).isNon || isaBool (ruSame row a)) = true := by
    unfold ruSame
    refine getD_cases (Q := fun d => (d.isNon || isaBool d) = true) (drw_0 row _ (by decide)) (drw_lt row _ (by decide)) ?_
    intro d hd
    simp only [List.mem_cons, List.not_mem_nil, or_false] at hd
    rcases hd with rfl | rfl | rfl | rfl <;> rfl
  have h5 : ((ruRel row a).isNon || isWord RELS (ruRel row a)) = true := by
    unfold ruRel
    refine getD_cases (Q := fun d => (d.isNon || isWord RELS d) = true) (drw_0 row _ (by decide)) (drw_lt row _ (by decide)) ?_
    intro d hd
    simp only [List.mem_cons, List.not_mem_nil, or_false] at hd
    rcases hd with rfl | rfl | rfl | rfl | rfl | rfl <;> decide +kernel
  show ((_ || _) && ((_ || _) && ((_ || _) && ((_ || _) && ((_ || _) && _))))) = true
  rw [h1, h2, h3, h4, h5, below]
  rfl
/-- a told listener's parts are in order -/
structure LiOk (n : Int) (os : List Int) (rs : List D) : Prop where
  n1 : 1 ≤ n
  n2 : n ≤ 60
  asc : os.Pairwise (· < ·)
  lt : ∀ o ∈ os, 0 ≤ o ∧ o < n
  ol : os.length ≤ 60
  r : ∀ r ∈ rs, isRule n r = true
  rl : rs.length ≤ 100
theorem samp_rules {z : Str} {n : Int} {rs : List D} (h : (z, n, rs) ∈ SAMP) : ∀ r ∈ rs ++ COMMON, isRule n r = true := by
  have h' : (rs ++ COMMON).all (isRule n) = true := by
    have h' : (z, n, rs) = (("simple" : Str), (2 : Int), rs_simple) ∨ (z, n, rs) = (("counting" : Str), (3 : Int), rs_counting) ∨ (z, n, rs) = (("latest" : Str), (2 : Int), rs_latest) ∨ (z, n, rs) = (("over" : Str), (2 : Int), rs_over) ∨ (z, n, rs) = (("related" : Str), (2 : Int), rs_related) := by unfold SAMP at h; simp only [List.mem_cons, List.not_mem_nil, or_false] at h; exact h
    rcases h' with h' | h' | h' | h' | h' <;> (cases h'; decide +kernel)
  rw [List.all_eq_true] at h'
  exact h'
theorem rg_small {n : Int} (h2 : 2 ≤ n) (h3 : n ≤ 3) : (rgI 1 n).Pairwise (· < ·) ∧ (∀ o ∈ rgI 1 n, 0 ≤ o ∧ o < n) ∧ (rgI 1 n).length ≤ 60 := by
  have : n = 2 ∨ n = 3 := by omega
  rcases this with rfl | rfl <;> decide +kernel
theorem range_pairwise (m : Nat) : ((List.range m).map fun i : Nat => (i : Int)).Pairwise (· < ·) := by
  rw [List.pairwise_map]
  exact List.pairwise_lt_range.imp fun h => by exact_mod_cast h
theorem li_ok (row : List Int) (a : Nat) {most : Int} (h0 : 0 < most) (h1 : most ≤ 50) : ∃ os, liO row a most = os.map .int ∧ LiOk (liN row a most) os (liR row a most) := by
  by_cases z : liK row a = true
  · obtain ⟨zz, n, rs, es, hmem, hat⟩ := sAt_mem z
    obtain ⟨_, _, hl, hn2, hn3⟩ := samp_at hmem
    have eR0 : liR0 row a = rs ++ COMMON := by unfold liR0; rw [es]
    have eN : liN row a most = n := by unfold liN; rw [if_pos z, es]
    have eO : liO row a most = (rgI 1 n).map .int := by unfold liO; rw [if_pos z, es]
    obtain ⟨p1, p2, p3⟩ := rg_small hn2 hn3
    have hr := samp_rules hmem
    have hlen : (rs ++ COMMON).length ≤ 12 := by rw [List.length_append]; show rs.length + 2 ≤ 12; omega
    refine ⟨rgI 1 n, eO, ?_⟩
    rw [eN]
    refine ⟨by omega, by omega, p1, p2, p3, ?_, ?_⟩
    · unfold liR
      rw [if_pos z, eR0, es]
      split
      · intro r hm
        rcases List.mem_or_eq_of_mem_set hm with hm | rfl
        · exact hr r hm
        · exact ruleD_is row _ (by show 0 < n; omega)
      · exact hr
    · unfold liR
      rw [if_pos z, eR0]
      split
      · rw [List.length_set]; omega
      · omega
  · have d0 := drw_0 row (a + 1) h0
    have d1 := drw_lt row (a + 1) h0
    have eN : liN row a most = 1 + drw row (a + 1) most := by unfold liN; rw [if_neg z]
    have n1 : 1 ≤ liN row a most := by rw [eN]; omega
    have n2 : liN row a most ≤ 50 := by rw [eN]; omega
    have eO : liO row a most = sel row 2 eq0 (a + 2) (rangeD (liN row a most)) := by unfold liO; rw [if_neg z]
    have eR : liR row a most = (List.range (drw row (liE row a most) 8).toNat).map fun i => ruleD row (liE row a most + 1 + 8 * i) (liN row a most) := by unfold liR; rw [if_neg z]
    have k1 := drw_lt row (liE row a most) (many := 8) (by decide)
    generalize liN row a most = n at *
    have eD : rangeD n = ((List.range n.toNat).map fun i : Nat => (i : Int)).map .int := by unfold rangeD; rw [List.map_map]; rfl
    have hs := sel_sub row 2 eq0 ((List.range n.toNat).map fun i : Nat => (i : Int)) (a + 2)
    refine ⟨sel row 2 eq0 (a + 2) ((List.range n.toNat).map fun i : Nat => (i : Int)), by rw [eO, eD, sel_map], n1, by omega, (range_pairwise _).sublist hs, fun o ho => ?_, ?_, ?_, ?_⟩
    · obtain ⟨i, hi, rfl⟩ := List.mem_map.mp (hs.subset ho)
      have := List.mem_range.mp hi
      omega
    · have := hs.length_le
      rw [List.length_map, List.length_range] at this
      omega
    · rw [eR]
      intro r hr
      obtain ⟨i, _, rfl⟩ := List.mem_map.mp hr
      exact ruleD_is row _ (by omega)
    · rw [eR, List.length_map, List.length_range]
      omega
section
variable {n : Int} {os : List Int} {rs : List D}
theorem LiOk.all (h : LiOk n os rs) : rs.all (isRule n) = true := List.all_eq_true.mpr h.r
theorem states_of {os : List Int} (hl : ∀ o ∈ os, 0 ≤ o ∧ o < n) (hn : os.Nodup) : isStates n (.lst (os.map .int)) = true := by
  show ((os.map D.int).all (isBelow n) && decide (((DzS.dd (intsOf (os.map .int))).length : Int) = (os.map D.int).length)) = true
  have e : (os.map D.int).all (isBelow n) = true := by
    rw [List.all_map, List.all_eq_true]
    intro o ho
    show (decide (0 ≤ o) && decide (o < n)) = true
    rw [decide_eq_true (hl o ho).1, decide_eq_true (hl o ho).2]
    rfl
  rw [e, intsOf_map, dd_len.mpr hn, List.length_map, Bool.true_and]
  exact decide_eq_true rfl
theorem LiOk.nd (h : LiOk n os rs) : os.Nodup := h.asc.imp fun hlt => Int.ne_of_lt hlt
theorem LiOk.srt (h : LiOk n os rs) {os' : List Int} (hp : os.Perm os') : onD (.lst (os'.map .int)) = .lst (os.map .int) := by
  show D.lst ((Dz.srt (intsOf (os'.map .int))).map .int) = _
  rw [intsOf_map, ← srt_eq hp (h.asc.imp fun hlt => Int.le_of_lt hlt)]
theorem rules_of (h : ∀ r ∈ rs, isRule n r = true) (hl : rs.length ≤ 1200) : isRules n (.lst rs) = true := by
  show (decide ((rs.length : Int) ≤ 1200) && rs.all (isRule n)) = true
  rw [List.all_eq_true.mpr h, decide_eq_true (by omega)]
  rfl
theorem okSt_of (h1 : 1 ≤ n) (h2 : n ≤ 60) : okSt (.int n) = true := by
  show (decide (0 ≤ n) && (decide (1 ≤ n) && decide (n ≤ 60))) = true
  rw [decide_eq_true (by omega), decide_eq_true h1, decide_eq_true h2]
  rfl
theorem LiOk.ok (h : LiOk n os rs) {os' : List Int} (hp : os.Perm os') : okList (.int n) (.lst (os'.map .int)) (.lst rs) = true := by
  show (okSt (.int n) && (isStates n _ && isRules n _)) = true
  rw [okSt_of h.n1 h.n2, states_of (fun o ho => h.lt o (hp.mem_iff.mpr ho)) (hp.nodup_iff.mp h.nd), rules_of h.r (by have := h.rl; omega)]
  rfl
theorem LiOk.plrs (h : LiOk n os rs) : PlRs (.lst rs) := ⟨by have := h.rl; omega, fun d hd => ⟨(rule_pl (h.r d hd)).1, (rule_pl (h.r d hd)).2.1⟩⟩
theorem pls_ints {os : List Int} (h : os.length ≤ 4000) : PlS (.lst (os.map .int)) := ⟨by rw [List.length_map]; exact h, fun d hd => by
  obtain ⟨o, _, rfl⟩ := List.mem_map.mp hd
  exact .int o⟩
end
end Dg

namespace Dg
open PySem PySem.Spec PyProof.Rows L2 GxR Dz
theorem liA_le (row : List Int) (a : Nat) {most : Int} (h0 : 0 < most) (h1 : most ≤ 50) : liA row a most ≤ a + 120 := by
  have d0 := drw_0 row (a + 1) h0
  have d1 := drw_lt row (a + 1) h0
  have k1 := drw_lt row (liE row a most) (many := 8) (by decide)
  unfold liA
  split
  · split <;> omega
  · rename_i z
    have eN : liN row a most = 1 + drw row (a + 1) most := by unfold liN; rw [if_neg z]
    have eE : liE row a most = a + 2 + (liN row a most).toNat := rfl
    omega
theorem ok_strsL (ks : List Str) (k : Nat) : D.ok (k + 1) (.lst (ks.map .str)) = true := ok_lst fun d hd => by
  obtain ⟨x, _, rfl⟩ := List.mem_map.mp hd
  cases k <;> rfl
theorem ok_strsT (ks : List Str) (k : Nat) : D.ok (k + 1) (.tup (ks.map .str)) = true := ok_tup fun d hd => by
  obtain ⟨x, _, rfl⟩ := List.mem_map.mp hd
  cases k <;> rfl
theorem ok_intsL (ks : List Int) (k : Nat) : D.ok (k + 1) (.lst (ks.map .int)) = true := ok_lst fun d hd => by
  obtain ⟨x, _, rfl⟩ := List.mem_map.mp hd
  cases k <;> rfl
theorem ok_listD {n : Int} {os : List Int} {rs : List D} (h : ∀ r ∈ rs, D.ok 30 r = true) : D.ok 32 (.lst [.int n, .lst (os.map .int), .lst rs]) = true := ok_lst fun d hd => by
  simp only [List.mem_cons, List.not_mem_nil, or_false] at hd
  rcases hd with rfl | rfl | rfl
  · rfl
  · exact ok_intsL os 30
  · exact ok_lst h
theorem rule_ok30 {n : Int} {r : D} (h : isRule n r = true) : D.ok 30 r = true := by
  unfold isRule at h
  split at h
  · rename_i a b c d e f
    simp only [Bool.and_eq_true] at h
    obtain ⟨h1, h2, h3, h4, h5, h6⟩ := h
    have ok1 : ∀ {x : D}, ((x.isNon || isBelow n x) = true ∨ (∃ ws, (x.isNon || isWord ws x) = true) ∨ (x.isNon || isaBool x) = true) → D.ok 29 x = true := by
      intro x hx
      cases x <;> first | rfl | (simp [D.isNon, isBelow, isWord, isaBool] at hx; done)
    refine ok_tup ?_
    intro x hx
    simp only [List.mem_cons, List.not_mem_nil, or_false] at hx
    rcases hx with rfl | rfl | rfl | rfl | rfl | rfl
    · exact ok1 (.inl h1)
    · exact ok1 (.inr (.inl ⟨_, h2⟩))
    · exact ok1 (.inr (.inl ⟨_, h3⟩))
    · exact ok1 (.inr (.inr h4))
    · exact ok1 (.inr (.inl ⟨_, h5⟩))
    · exact ok1 (.inl (by rw [h6, Bool.or_true]))
  · cases h
end Dg

namespace Dg
open PySem PySem.Spec PyProof.Rows L2 GxR Dz
/-- a def that is had by its name -/
def HasF (P : Program) (w : World) (K : PySem.W.Frag) (mg : Str → Option Value) (base : Heap) (CX : CXT) (k : Nat) (n : Str) (ps : List Str) (sp : Sp) : Prop := ∃ f fd, FnOk P w K mg base CX k f fd ps sp ∧ mg n = some (.ref f) ∧ PySem.W.keepIn K (.ref f) = true ∧ Binds K fd ps []
def lO (acc : List D) : OD := .lst (acc.map .dat)
section
variable {T : List Addr} {X : Cx} {CE : Addr} {ρ : List Dz.Slot} {O O1 O2 : OH} {e a b : Expr} {es : List Expr} {rest : List Stmt} {st : Stmt} {pos pos' : Pos} {d : D} {ss : List Dz.Slot} {ds acc : List D} {E : DEn} {q : Bool}
theorem de_callH {k : Nat} {ps : List Str} {P : List Dz.Slot → OH → D → OH → Prop} {n : Str} {p : Pos} (G : HasF X.prog X.w X.K X.mg X.base CX0 k n ps (spF T X.K P)) (hr : Room k X.A) (ha : DA T X (e :: es) ρ O ss O1) (h : P ss O1 d O2) (hg : Gl X n := by rfl) (hdb : (n == ("__debug__" : Str)) = false := by decide)
    (hs : starEach (e :: es) X.env = (false, eval e X.env) :: starEach es X.env := by rfl) (hpl : (backTo pos (starEach es X.env)).any (·.1) = false := by rfl) : DE T X (.Call (.Name n p) (e :: es) [] pos) ρ O d O2 := by
  obtain ⟨f, fd, F, hm, hk, hb⟩ := G
  exact de_call F hr hm hk hb pass0 ha h hg hdb hs hpl
theorem de_callH0 {k : Nat} {ps : List Str} {P : List Dz.Slot → OH → D → OH → Prop} {n : Str} {p : Pos} (G : HasF X.prog X.w X.K X.mg X.base CX0 k n ps (spF T X.K P)) (hr : Room k X.A) (h : P [] O d O2) (hg : Gl X n := by rfl) (hdb : (n == ("__debug__" : Str)) = false := by decide) : DE T X (.Call (.Name n p) [] [] pos) ρ O d O2 := by
  obtain ⟨f, fd, F, hm, hk, hb⟩ := G
  exact de_call0 F hr hm hk hb pass0 h hg hdb
theorem ds_mid (I : List Dz.Slot → OH → Prop) (h : D1 T X CE st ρ O { E with nx := I }) (k : ∀ ρ' O', I ρ' O' → DS T X CE rest ρ' O' E) : DS T X CE (st :: rest) ρ O E :=
  ds_cons (.mk fun σ B H hE hA Dn W tk l => h σ B H hE hA Dn W tk ⟨fun ρ' O' σ' B' H' q => l.nx ρ' O' σ' B' H' (k ρ' O' q), l.rt, l.bk, l.ct, l.ex⟩)
theorem d1_app (i : Nat) {n : Str} {c : Addr} {apos npos : Pos} (hi : ρ[i]? = some (.val (.ref c))) (he : DE T X e ρ (put O c (lO acc)) d (put O c (lO acc))) (hl : acc.length < 100000) (h : E.nx ρ (put O c (lO (acc ++ [d]))))
    (pe : PE X (.Call (.Attribute (.Name n npos) "append" apos) [e] [] pos) (tBM X.K "list" rAppend (tVar i) (tCons (WE X e) tNil)) := by exact pe_bm PySem.F.plainAttrs_list PySem.F.slot_list_append PySem.F.type_list_append mt_append (pv _) (pa_cons pe_we pa_nil)) (hs : swapsWith (.Call (.Attribute (.Name n npos) "append" apos) [e] [] pos) none pos'.line X.env = pure false := by rfl) :
    D1 T X CE (.Expr (.Call (.Attribute (.Name n npos) "append" apos) [e] [] pos) pos') ρ (put O c (lO acc)) E :=
  d1_append i hi put_same he.dv put_same (by rw [List.length_map]; exact hl) (by
    rw [put_put]
    have q : acc.map Dz.Slot.dat ++ [.dat d] = (acc ++ [d]).map .dat := by rw [List.map_append]; rfl
    rw [q]
    exact h) pe hs
theorem d1_ext (i : Nat) {n : Str} {c : Addr} {apos npos : Pos} (hi : ρ[i]? = some (.val (.ref c))) (he : DE T X e ρ (put O c (lO acc)) (.lst ds) (put O c (lO acc))) (hl : acc.length + ds.length ≤ 100000) (h : E.nx ρ (put O c (lO (acc ++ ds))))
    (pe : PE X (.Call (.Attribute (.Name n npos) "extend" apos) [e] [] pos) (tBM X.K "list" rExtend (tVar i) (tCons (WE X e) tNil)) := by exact pe_bm PySem.F.plainAttrs_list PySem.F.slot_list_extend PySem.F.type_list_extend mt_extend (pv _) (pa_cons pe_we pa_nil)) (hs : swapsWith (.Call (.Attribute (.Name n npos) "extend" apos) [e] [] pos) none pos'.line X.env = pure false := by rfl) :
    D1 T X CE (.Expr (.Call (.Attribute (.Name n npos) "extend" apos) [e] [] pos) pos') ρ (put O c (lO acc)) E :=
  d1_extend i hi put_same he put_same (by rw [List.length_map]; exact hl) (by
    rw [put_put, ← List.map_append]
    exact h) pe hs
theorem ds_ice (i : Nat) {c : Addr} (hi : ρ[i]? = some (.val (.ref c))) (hp : O c = none) (h : DS T X CE rest (ρ.set i (.dat (.lst acc))) O E) : DS T X CE rest ρ (put O c (lO acc)) E :=
  ds_freeze i (ds := acc) hi put_same (by rw [cut_put hp]; exact h)
end
theorem in_ints (ns : List Int) (s : Int) : ((ns.map D.int).any fun z => deq z (.int s)) = decide (s ∈ ns) := by
  induction ns with
  | nil => rfl
  | cons n ns ih =>
    rw [List.map_cons, List.any_cons, ih, deq_int]
    by_cases h : n = s
    · subst h; simp
    · have h' : ¬ s = n := fun z => h z.symm
      simp [h, h']
theorem in_strs (ws : List Str) (x : Str) : ((ws.map D.str).any fun z => deq z (.str x)) = decide (x ∈ ws) := by
  induction ws with
  | nil => rfl
  | cons n ws ih =>
    rw [List.map_cons, List.any_cons, ih, deq_str]
    by_cases h : n = x
    · subst h; simp
    · have h' : ¬ x = n := fun z => h z.symm
      simp [h, h']
def hasT (trs : List Str) (x : Str) : Bool := decide (x ∈ trs)
def driftSides (trs : List Str) (s : Int) : List Int := s :: (if s ∈ ([1, 2] : List Int) then (if hasT trs "removals" = true then [0] else []) ++ (if hasT trs "moves" = true then [3 - s] else []) else [])
section
variable {P : Program} {w : World} {K : PySem.W.Frag} {mg : Str → Option Value} {base : Heap} {T : List Addr}
end
end Dg

namespace Dg
open PySem PySem.Spec PyProof.Rows L2 GxR Dz
section
variable {P : Program} {w : World} {K : PySem.W.Frag} {mg : Str → Option Value} {base : Heap} {T : List Addr}
def d1 (trs : List Str) (l o' : Int) : List (Int × Int) := if l = 4 then [(o', if 0 < o' then 4 else 0)] else (driftSides trs l).map fun l' => (o', l')
end
end Dg

namespace Dg
open PySem PySem.Spec PyProof.Rows L2 GxR Dz
section
variable {P : Program} {w : World} {K : PySem.W.Frag} {mg : Str → Option Value} {base : Heap} {T : List Addr}
end
end Dg

namespace Dz
open PySem PySem.Spec PyProof.Rows L2 GxR
section
variable {T : List Addr} {X : Cx} {CE : Addr} {ρ : List Slot} {O O1 O2 : OH} {a b elt : Expr} {pos pos' lp : Pos} {E : DEn} {n : Str} {scope : Scope}
end
end Dz
namespace Dg
open PySem PySem.Spec PyProof.Rows L2 GxR Dz
end Dg

namespace Dg
open PySem PySem.Spec PyProof.Rows L2 GxR Dz
section
variable {P : Program} {w : World} {K : PySem.W.Frag} {mg : Str → Option Value} {base : Heap} {T : List Addr}
end
end Dg

namespace Dg
open PySem PySem.Spec PyProof.Rows L2 GxR Dz
section
variable {P : Program} {w : World} {K : PySem.W.Frag} {mg : Str → Option Value} {base : Heap} {T : List Addr} {CE : Addr}
end
end Dg

namespace Dg
open PySem PySem.Spec PyProof.Rows L2 GxR Dz
theorem k4 {k : Int} (h : 0 ≤ k ∧ k ≤ 3) : k = 0 ∨ k = 1 ∨ k = 2 ∨ k = 3 := by omega
section
variable {P : Program} {w : World} {K : PySem.W.Frag} {mg : Str → Option Value} {base : Heap} {T : List Addr} {CE : Addr}
end
end Dg

namespace Dg
open PySem PySem.Spec PyProof.Rows L2 GxR Dz
section
variable {P : Program} {w : World} {K : PySem.W.Frag} {mg : Str → Option Value} {base : Heap} {T : List Addr} {CE : Addr}
end
end Dg

namespace Dg
open PySem PySem.Spec PyProof.Rows L2 GxR Dz
section
variable {P : Program} {w : World} {K : PySem.W.Frag} {mg : Str → Option Value} {base : Heap} {T : List Addr} {CE : Addr}
end
end Dg

namespace Dg
open PySem PySem.Spec PyProof.Rows L2 GxR Dz
section
variable {P : Program} {w : World} {K : PySem.W.Frag} {mg : Str → Option Value} {base : Heap} {T : List Addr} {CE : Addr}
end
end Dg

namespace Dg
open PySem PySem.Spec PyProof.Rows L2 GxR Dz
section
variable {P : Program} {w : World} {K : PySem.W.Frag} {mg : Str → Option Value} {base : Heap} {T : List Addr} {CE : Addr}
end
end Dg

namespace Dg
open PySem PySem.Spec PyProof.Rows L2 GxR Dz
structure Pg where
  up : List (Option Int)
  gone : List Bool
  tg : Option Int
  en : Option Int
section
variable {s1 s2 s3 s4 : Dz.Slot}
end
section
variable {P : Program} {w : World} {K : PySem.W.Frag} {mg : Str → Option Value} {base : Heap} {T : List Addr} {X : Cx} {ρ : List Dz.Slot} {O O1 : OH} {e : Expr} {pos kp : Pos} {a u g : Addr} {pg : Pg} {k j : Nat}
end
end Dg

namespace Dg
open PySem PySem.Spec PyProof.Rows L2 GxR Dz
end Dg

namespace Dg
open PySem PySem.Spec PyProof.Rows L2 GxR Dz
section
variable {P : Program} {w : World} {K : PySem.W.Frag} {mg : Str → Option Value} {base : Heap} {T : List Addr} {CE : Addr}
end
end Dg

namespace Dg
open PySem PySem.Spec PyProof.Rows L2 GxR Dz
section
variable {P : Program} {w : World} {K : PySem.W.Frag} {mg : Str → Option Value} {base : Heap} {T : List Addr} {CE : Addr}
end
end Dg

namespace Dg
open PySem PySem.Spec PyProof.Rows L2 GxR Dz
section
variable {P : Program} {w : World} {K : PySem.W.Frag} {mg : Str → Option Value} {base : Heap} {T : List Addr} {CE : Addr}
end
end Dg

namespace Dz
open PySem PySem.Spec PyProof.Rows L2 GxR
end Dz
namespace Dg
open PySem PySem.Spec PyProof.Rows L2 GxR Dz
section
variable {P : Program} {w : World} {K : PySem.W.Frag} {mg : Str → Option Value} {base : Heap} {T : List Addr} {CE : Addr}
end
end Dg

namespace Dg
open PySem PySem.Spec PyProof.Rows L2 GxR Dz
section
variable {P : Program} {w : World} {K : PySem.W.Frag} {mg : Str → Option Value} {base : Heap} {T : List Addr} {CE fI : Addr}
end
end Dg


namespace Dg
open PySem PySem.Spec PyProof.Rows L2 GxR Dz
section
variable {P : Program} {w : World} {K : PySem.W.Frag} {mg : Str → Option Value} {base : Heap} {T : List Addr} {CE fI : Addr}
/-! ### all_signals -/
theorem scAllSig : FnScope ["kind", "side", "same", "related"] [] (defScope s_all_signals) := ⟨rfl, rfl, rfl, by decide +kernel, rfl, by decide +kernel, by decide +kernel⟩
theorem ok_allsig {f : Addr} {fd : FuncData} {cdv uk us ur : Value} (F : FunC K "all_signals" "all_signals" s_all_signals f fd cdv)
    (hk : mg "KINDS" = some uk) (kk : kdB K 1 uk (.tup (KINDS.map .str)) = true) (hs : mg "SIDES" = some us) (ks : kdB K 1 us (.tup (SIDES.map .str)) = true) (hR : mg "RELATED_SIDES" = some ur) (kR : kdB K 1 ur (.tup (RELS.map .str)) = true) :
    FnOk P w K mg base CX0 1 f fd [] (spF T K pSignals) := by
  refine fn_ok (CE := (0 : Addr)) (R := pSignals) F scAllSig (fun ss O d O' ⟨h, _⟩ => by rw [h]; rfl) fun A outer s H E ss O d O' hr h => ?_
  obtain ⟨h1, h2, h3⟩ := h
  subst h1 h2 h3
  have hN := scAllSig.nd
  refine ds_one (d1_ret (s := .dat (.lst signals)) (DE.dv (DE.cast (de_lcN (own := [("kind", 0), ("side", 1), ("same", 2), ("related", 3)]) (ds := KINDS.map .str) (outs := fun j => sigS ((KINDS.map D.str).getD j .non)) (is := [0]) (f := one1) (g := gName 0)
    (cs := [⟨_, _, _, [1, 2, 3], [1], one1, gName 1⟩, ⟨_, _, _, [2, 3], [2], one1, gName 2⟩, ⟨_, _, _, [3], [3], one1, gName 3⟩])
    (src_tup (de_gk hk kk)) (pgb_name 0 hN) (tg_name 0) (by decide) ?_ ⟨by decide, by decide, by decide, True.intro⟩ (.cons rfl (.cons rfl (.cons rfl (.nil rfl)))) ?_ (by decide +kernel) hN (blkOk_by rfl)) rfl)) ⟨rfl, rfl⟩)
  · intro c hc
    simp only [List.mem_cons, List.not_mem_nil, or_false] at hc
    rcases hc with rfl | rfl | rfl
    · exact ⟨pgb_name 1 hN, ⟨tg_name 1, by decide⟩, fun _ _ => rfl⟩
    · exact ⟨pgb_name 2 hN, ⟨tg_name 2, by decide⟩, fun _ _ => rfl⟩
    · exact ⟨pgb_name 3 hN, ⟨tg_name 3, by decide⟩, fun _ _ => rfl⟩
  · intro j dk hj
    refine ⟨[dk], rfl, .inl ⟨difs_nil, SIDES.map .str, fun i => sigM dk ((SIDES.map D.str).getD i .non), fun s H C cl fp => src_tup (de_gk hs ks), ?_, fun i dd hi => ⟨[dd], rfl, .inl ⟨difs_nil, ?_⟩⟩⟩⟩
    · rw [getD_at hj]
      rfl
    · refine ⟨MS, fun i => sigR dk dd (MS.getD i .non), fun s H C cl fp => src_tup (de_tup (da_d de_bl (da_d de_bl da_nil))), ?_, fun t dm ht => ⟨[dm], rfl, .inl ⟨difs_nil, ?_⟩⟩⟩
      · show sigM dk ((SIDES.map D.str).getD i .non) = _
        rw [getD_at hi]
        rfl
      · refine ⟨RELS.map .str, fun i => [sigD dk dd dm ((RELS.map D.str).getD i .non)], fun s H C cl fp => src_tup (de_gk hR kR), ?_, fun q dr hq => ⟨[dr], rfl, .inl ⟨difs_nil, _, rfl, ?_⟩⟩⟩
        · show sigR dk dd (MS.getD t .non) = _
          rw [getD_at ht]
          rfl
        · rw [getD_at hq]
          exact fun s H C cl fp => de_tup (da_d (de_var 0) (da_d (de_var 1) (da_d (de_var 2) (da_d (de_var 3) da_nil)))) (by show 4 ≤ 10000; decide)
end
end Dg

namespace Dz
open PySem PySem.Spec PyProof.Rows L2 GxR
section
variable {T : List Addr} {X : Cx} {CE : Addr} {ρ : List Slot} {O O1 O2 : OH} {a b e : Expr} {pos p0 p pos2 : Pos} {ds : List D}
theorem cut_swap {O : OH} {p q : Addr} {a b : OD} (h : O p = none) (hq : q ≠ p) : cut (put (put O p a) q b) p = put O q b := by
  funext c
  unfold cut put
  by_cases z : c = p
  · subst z
    rw [if_pos rfl, if_neg (fun w => hq w.symm)]
    exact h.symm
  · rw [if_neg z]
    by_cases y : c = q
    · rw [if_pos y, if_pos y]
    · rw [if_neg y, if_neg y, if_neg z]
/-- [..] * k, the new list owned -/
theorem dvx_rep {k : Int} (ha : DE T X a ρ O (.lst ds) O1) (hb : DE T X b ρ O1 (.int k) O2) (hk : k ≤ 100000) (hk0 : 0 ≤ k) (hl : ds.length * k.toNat ≤ 100000) : DVX T X CE (.BinOp a .Mult b pos) ρ O (fun s' O' => ∃ p, O2 p = none ∧ s' = .val (.ref p) ∧ O' = put O2 p (.lst ((timesD k.toNat ds).map .dat))) (fun _ _ => False) := fun σ B H hE hA Q W tk q _ => by
  refine we_of (pe_op op_rep pe_we pe_we) (two ha hb hE hA fun v w B' H' p1 rv rw' => ?_)
  cases rv with
  | lst h r =>
    cases rw'
    refine ⟨_, k, _, rfl, rfl, p1.at'.base _ _ h, by omega, by omega, by rw [r.length]; exact Nat.le_trans hl (by decide), fun p hp => ?_⟩
    have po := Post.madeO (o := .lst _) (od := .lst ((timesD k.toNat ds).map .dat)) p1.at' hp (Args.of (rp_times r k.toNat))
    exact q _ _ (.ref p) _ _ ⟨p, p1.at'.noO hp, rfl, rfl⟩ (p1.trans po) rfl
/-- list(range(j)), owned -/
theorem dvx_listRg {j : Int} (hm : X.mg "list" = none) (hm2 : X.mg "range" = none) (ha : DE T X a ρ O (.int j) O1) (h : -100000 ≤ j ∧ j ≤ 100000) (hc : X.calm = true := by rfl) (hg : Gl X "list" := by rfl) (hg2 : Gl X "range" := by rfl)
    (na : starEach [.Call (.Name "range" p) [a] [] pos2] X.env = (false, eval (.Call (.Name "range" p) [a] [] pos2) X.env) :: starEach [] X.env := by rfl) (nb : starEach [a] X.env = (false, eval a X.env) :: starEach [] X.env := by rfl) :
    DVX T X CE (.Call (.Name "list" p0) [.Call (.Name "range" p) [a] [] pos2] [] pos) ρ O (fun s' O' => ∃ p, O1 p = none ∧ s' = .val (.ref p) ∧ O' = put O1 p (.lst (((rgI 0 j).map D.int).map .dat))) (fun _ _ => False) := fun σ B H hE hA Q W tk q _ => by
  refine we_of (pe_listRg hc hg hm (prg_1 hg2 hm2 pe_we nb) na) (ha σ B H hE hA _ fun v B' H' p1 r1 => ?_)
  cases r1
  refine ⟨j, rfl, ⟨by omega, by omega, by omega, by omega, by omega⟩, fun l hl => ?_⟩
  rw [rgV_eq]
  have po := Post.madeO (o := .lst _) (od := .lst (((rgI 0 j).map D.int).map .dat)) p1.at' hl (Args.of (ints_rp _))
  exact q _ _ (.ref l) _ _ ⟨l, p1.at'.noO hl, rfl, rfl⟩ (p1.trans po) rfl
/-- x, y = a, b with plain names -/
theorem d1_par {E : DEn} (i j : Nat) {x y : Str} {px py pt : Pos} {kt k2 : Nat} {pt2 : Pos} {u v : Slot} (hc : X.calm = true) (hij : i ≠ j) (ha : DA T X [a, b] ρ O [u, v] O1) (h : E.nx ((ρ.set i u).set j v) O1) (hN : X.N.Nodup) (hi : X.N[i]? = some x := by rfl) (hj : X.N[j]? = some y := by rfl)
    (hx : X.env.scope.names.lookup x = some .local := by rfl) (hy : X.env.scope.names.lookup y = some .local := by rfl)
    (hw : swappedStores [.Tuple [.Name x px, .Name y py] kt pt] (.Tuple [a, b] k2 pt2) X.env = pure (some [x, y]) := by rfl)
    (hs : swapsWithSole [.Tuple [.Name x px, .Name y py] kt pt] (.Tuple [a, b] k2 pt2) pos.line X.env = pure false := by rfl) : D1 T X CE (.Assign [.Tuple [.Name x px, .Name y py] kt pt] (.Tuple [a, b] k2 pt2) pos) ρ O E := .mk fun σ B H hE hA Dn W tk l => by
  refine ws_of (ps_par hc hN hi hj hij hx hy pa_wa hw hs) ?_
  refine ha σ B H hE hA _ fun vs B1 H1 p1 r1 => ?_
  cases r1 with
  | cons h1 r1 =>
    cases r1 with
    | cons h2 r1 =>
      cases r1
      exact ⟨_, _, rfl, l.nx _ _ _ B1 H1 h p1 (((hE.mono p1.bb).set h1 i).set h2 j)⟩
theorem ixN_in {n : Nat} {i : Int} (h0 : 0 ≤ i) (h1 : i < n) : ixN n i = some i.toNat := by
  unfold ixN
  first
    | (rw [if_pos h0, if_pos (by omega)])
    | (rw [if_pos ⟨h0, h1⟩])
    | (simp only [h0, if_true]; rw [if_pos (by omega)])
end
end Dz
namespace Dg
open PySem PySem.Spec PyProof.Rows L2 GxR Dz
/-! ### states_behind -/
/-- the state behind a signal, for each state -/
def stD (n : Nat) (h1 h2 h3 h4 : D) (rs : List D) : List D := (List.range n).map fun (s : Nat) => nextD (.int (s : Int)) h1 h2 h3 h4 rs
theorem stD_nil {n : Nat} {h1 h2 h3 h4 : D} : stD n h1 h2 h3 h4 [] = (rgI 0 (n : Int)).map .int := by
  unfold stD rgI
  rw [List.map_map]
  have e : ((n : Int) - 0).toNat = n := by omega
  rw [e]
  refine List.map_congr_left fun s _ => ?_
  show D.int (s : Int) = D.int (0 + (s : Int))
  rw [Int.zero_add]
theorem stD_len {n : Nat} {h1 h2 h3 h4 : D} {rs : List D} : (stD n h1 h2 h3 h4 rs).length = n := by
  unfold stD
  simp
theorem stD_skip {n : Nat} {h1 h2 h3 h4 r : D} {rs : List D} (h : takD h1 h2 h3 h4 r = false) : stD n h1 h2 h3 h4 (r :: rs) = stD n h1 h2 h3 h4 rs := by
  unfold stD
  refine List.map_congr_left fun s _ => ?_
  rw [nextD_cons, if_neg]
  intro z
  unfold appl at z
  unfold takD at h
  split at z
  · rename_i a b c d e f
    rw [Bool.and_eq_true] at z
    have h' : ((b.isNon || deq b h1) && ((c.isNon || deq c h2) && ((d.isNon || deq d h3) && (e.isNon || deq e h4)))) = false := h
    rw [z.2] at h'
    cases h'
  · cases z
theorem times1 (n : Nat) (d : D) : timesD n [d] = List.replicate n d := by
  unfold timesD
  induction n with
  | zero => rfl
  | succ n ih => rw [List.replicate_succ, List.flatten_cons, ih]; rfl
theorem stD_all {n : Nat} {h1 h2 h3 h4 b c d e f : D} {rs : List D} (h : takD h1 h2 h3 h4 (.tup [.non, b, c, d, e, f]) = true) : stD n h1 h2 h3 h4 (.tup [.non, b, c, d, e, f] :: rs) = timesD n [f] := by
  rw [times1]
  unfold stD
  have ek : ∀ s ∈ List.range n, nextD (.int (s : Int)) h1 h2 h3 h4 (.tup [.non, b, c, d, e, f] :: rs) = f := fun s _ => by
    rw [nextD_cons, if_pos]
    · rfl
    · show ((D.non.isNon || deq .non (.int (s : Int))) && takD h1 h2 h3 h4 (.tup [.non, b, c, d, e, f])) = true
      rw [h]
      rfl
  rw [List.map_congr_left ek, List.map_const', List.length_range]
theorem stD_one {n : Nat} {h1 h2 h3 h4 b c d e f : D} {i : Int} {rs : List D} (h0 : 0 ≤ i) (h : takD h1 h2 h3 h4 (.tup [.int i, b, c, d, e, f]) = true) : stD n h1 h2 h3 h4 (.tup [.int i, b, c, d, e, f] :: rs) = (stD n h1 h2 h3 h4 rs).set i.toNat f := by
  refine List.ext_getElem? fun j => ?_
  unfold stD
  rw [List.getElem?_set, List.getElem?_map, List.getElem?_map, List.length_map, List.length_range]
  by_cases hj : j < n
  · rw [List.getElem?_range hj]
    show some (nextD (.int (j : Int)) h1 h2 h3 h4 (.tup [.int i, b, c, d, e, f] :: rs)) = _
    have ea : appl (.int (j : Int)) h1 h2 h3 h4 (.tup [.int i, b, c, d, e, f]) = decide (i = (j : Int)) := by
      show ((false || deq (.int i) (.int (j : Int))) && takD h1 h2 h3 h4 (.tup [.int i, b, c, d, e, f])) = _
      rw [h, Bool.and_true, Bool.false_or]
      rfl
    rw [nextD_cons, ea]
    by_cases z : i = (j : Int)
    · have e2 : i.toNat = j := by omega
      rw [if_pos (decide_eq_true z), if_pos e2, e2, if_pos hj]
      rfl
    · have e2 : ¬ i.toNat = j := by omega
      rw [if_neg (by simpa using z), if_neg e2]
      rfl
  · have e1 : (List.range n)[j]? = none := List.getElem?_eq_none (by simp; omega)
    rw [e1]
    by_cases z : i.toNat = j
    · rw [if_pos z, z, if_neg hj]
      rfl
    · rw [if_neg z]
      rfl
section
variable {P : Program} {w : World} {K : PySem.W.Frag} {mg : Str → Option Value} {base : Heap} {T : List Addr} {CE fI : Addr}
theorem scBehind : FnScope ["listener", "signal", "states", "rule", "source", "following"] ["listener", "signal"] (defScope s_states_behind) := ⟨rfl, rfl, rfl, by decide +kernel, rfl, by decide +kernel, by decide +kernel⟩
def pBehind (CL : Addr) (ss : List Slot) (O : OH) (d : D) (O' : OH) : Prop := ∃ (n : Nat) (on : D) (rs : List D) (h1 h2 h3 h4 : D), ss = [.dat (insList CL (.int (n : Int)) on (.lst rs)), .dat (.tup [h1, h2, h3, h4])] ∧ n ≤ 60 ∧ (∀ r ∈ rs, isRule (n : Int) r = true) ∧ rs.length ≤ 100 ∧ D.ok 32 h1 = true ∧ D.ok 32 h2 = true ∧ D.ok 32 h3 = true ∧ D.ok 32 h4 = true ∧ d = .lst (stD n h1 h2 h3 h4 rs) ∧ O' = O
theorem ok_behind {f g CL : Addr} {fd gd : FuncData} {cdv : Value} (F : FunC K "states_behind" "states_behind" s_states_behind f fd cdv) (L : Blt mg) (A3 : Fld3 K CL "states" "on" "rules") (G : FnOk P w K mg base CX0 1 g gd ["rule", "signal"] (spF T K pTakes)) (hg : mg "takes_signal" = some (.ref g)) (kg : PySem.W.keepIn K (.ref g) = true) (bg : Binds K gd ["rule", "signal"] []) (hrv : mg "reversed" = none) :
    FnOk P w K mg base CX0 2 f fd ["listener", "signal"] (spF T K (pBehind CL)) := by
  refine fn_ok (CE := (0 : Addr)) (R := pBehind CL) F scBehind (fun ss O d O' ⟨n, on, rs, h1, h2, h3, h4, h, _⟩ => by rw [h]; rfl) fun A outer s H E ss O d O' hr h => ?_
  obtain ⟨n, on, rs, h1, h2, h3, h4, e1, hn, hrs, hl, k1, k2, k3, k4, e2, e3⟩ := h
  subst e1 e2 e3
  refine ds_cons (d1_setX 2 (dvx_listRg (j := (n : Int)) L.list L.range (de_fld A3.cl A3.a (de_var 0) rfl) (by omega)) (fun s' O1 ⟨p, hp, e1, e2⟩ => ?_) scBehind.nd)
  subst e1 e2
  refine ds_cons (d1_forW (ds := rs.reverse) (is := [3]) (g := gName 3) (f := one1) (fun j ρ' O2 => ∃ p s3 s4 s5, O' p = none ∧ ρ' = [.dat (insList CL (.int (n : Int)) on (.lst rs)), .dat (.tup [h1, h2, h3, h4]), .val (.ref p), s3, s4, s5] ∧ O2 = put O' p (.lst ((stD n h1 h2 h3 h4 (rs.drop (rs.length - j))).map .dat)))
    (src_rev (de_fld A3.cl A3.c (de_var 0) rfl) hrv) (pg_nameN 3 scBehind.nd) (tg_name 3) ⟨p, _, _, _, hp, rfl, ?_⟩ (fun d _ => ⟨[d], rfl⟩) ?_ ?_ PassesOwn.never)
  · have e : rs.length - 0 = rs.length := rfl
    rw [e, List.drop_length, stD_nil]
  · rintro j d cs ρ' O2 hj hcs ⟨p, s3, s4, s5, hp, rfl, rfl⟩
    cases hcs
    have hjl : j < rs.length := by
      have := (List.getElem?_eq_some_iff.mp hj).1
      simpa using this
    have hd : rs[rs.length - 1 - j]? = some d := by rw [List.getElem?_reverse hjl] at hj; exact hj
    have hdr : rs.drop (rs.length - (j + 1)) = d :: rs.drop (rs.length - j) := by
      have ei : rs.length - (j + 1) = rs.length - 1 - j := by omega
      have ej : rs.length - j = rs.length - 1 - j + 1 := by omega
      rw [ei, ej]
      exact List.drop_eq_getElem?_toList_append.trans (by rw [hd]; rfl)
    have hrule := hrs d (List.mem_of_getElem? hd)
    obtain ⟨a, b, c, d', e, f', er, ka, kb, kc, kd, ke⟩ := rule_shape hrule
    subst er
    have hsh : RShape (.tup [a, b, c, d', e, f']) := ⟨a, b, c, d', e, f', rfl, ka, kb, kc, kd, ke⟩
    refine ds_one (d1_if (p := takD h1 h2 h3 h4 (.tup [a, b, c, d', e, f'])) (O1 := put O' p (.lst ((stD n h1 h2 h3 h4 (rs.drop (rs.length - j))).map .dat))) (dt_val (de_call G hr hg kg bg pass0 (da_d (de_var 3) (da_d (de_var 1) da_nil)) ⟨_, h1, h2, h3, h4, rfl, hsh, k1, k2, k3, k4, rfl, rfl⟩)) (fun z => ?_) (fun z => ds_nil ?_))
    · rw [isRule_tup] at hrule
      simp only [Bool.and_eq_true] at hrule
      obtain ⟨ra, _⟩ := hrule
      refine ds_cons (d1_par (u := .dat a) (v := .dat f') 4 5 rfl (by decide) (da_d (de_ixT (ds := [a, b, c, d', e, f']) (de_var 3) de_int rfl) (da_d (de_ixT (ds := [a, b, c, d', e, f']) (de_var 3) de_int rfl) da_nil)) ?_ scBehind.nd)
      refine ds_one (d1_if (p := a.isNon) (dt_isN (de_var 4) de_non) (fun zn => ?_) (fun zn => ?_))
      · have ea : a = .non := by cases a <;> first | rfl | cases zn
        subst ea
        refine ds_cons (d1_setX 2 (dvx_rep (ds := [f']) (k := (n : Int)) (de_lst (da_d (de_var 5) da_nil) (by show 1 ≤ 10000; decide)) (de_fld A3.cl A3.a (de_var 0) rfl) (by omega) (by omega) (by simp; omega)) (fun s' O3 ⟨q, hq, e1, e2⟩ => ?_) scBehind.nd)
        subst e1 e2
        have hqp : q ≠ p := fun z => by
          rw [z, put_same] at hq
          cases hq
        refine ds_forget p (ds_nil ⟨q, _, _, _, ?_, rfl, ?_⟩)
        · rw [put_ne hqp] at hq
          exact hq
        · rw [cut_swap hp hqp, hdr, stD_all z]
          have e : (n : Int).toNat = n := by omega
          rw [e]
      · have : ∃ i : Int, a = .int i ∧ 0 ≤ i ∧ i < n := by
          rw [zn, Bool.false_or] at ra
          cases a <;> first | (cases ra; done) | skip
          rename_i i
          have ra' : (decide (0 ≤ i) && decide (i < (n : Int))) = true := ra
          rw [Bool.and_eq_true] at ra'
          exact ⟨i, rfl, of_decide_eq_true ra'.1, of_decide_eq_true ra'.2⟩
        obtain ⟨i, rfl, i0, i1⟩ := this
        refine ds_one (d1_setitem (k := i) (j := i.toNat) 2 rfl (DE.dv (de_var 5)) (de_var 4) put_same (ixN_in i0 (by rw [List.length_map, stD_len]; exact i1)) ⟨p, _, _, _, hp, rfl, ?_⟩)
        rw [put_put, hdr, stD_one i0 z, List.map_set]
    · exact ⟨p, _, _, _, hp, rfl, by rw [hdr, stD_skip z]⟩
  · rintro ρ' O2 ⟨p, s3, s4, s5, hp, rfl, rfl⟩
    have e0 : rs.length - rs.reverse.length = 0 := by simp
    rw [e0, List.drop_zero]
    refine ds_freeze 2 rfl put_same (ds_one (d1_ret (DE.dv (de_var 2)) ⟨rfl, ?_⟩))
    rw [cut_put hp]
end
end Dg

namespace Dg
open PySem PySem.Spec PyProof.Rows L2 GxR Dz
/-! ### table_of -/
def stS (n : Nat) (rs : List D) : D → List D
  | .tup [h1, h2, h3, h4] => stD n h1 h2 h3 h4 rs
  | _ => []
def tabD (n : Nat) (rs : List D) : List (D × D) := signals.map fun s => (s, D.lst (stS n rs s))
def tabF (n : Nat) (rs : List D) : List D → Option (D × D)
  | [s] => some (s, D.lst (stS n rs s))
  | _ => none
theorem tab_eq (n : Nat) (rs : List D) : (signals.filterMap fun d => (one1 d).bind (tabF n rs)) = tabD n rs := by
  show signals.filterMap (fun d => some (d, D.lst (stS n rs d))) = _
  rw [List.filterMap_eq_map']
  rfl
theorem sig_nd : (signals.map keyD).Nodup := by decide +kernel
theorem sig_key : ∀ s ∈ signals, (keyD s).isSome = true := by
  have h : signals.all (fun s => (keyD s).isSome) = true := by decide +kernel
  exact List.all_eq_true.mp h
theorem sig_len : signals.length = 90 := by decide +kernel
theorem sig_parts : ∀ s ∈ signals, ∃ h1 h2 h3 h4, s = .tup [h1, h2, h3, h4] ∧ D.ok 32 h1 = true ∧ D.ok 32 h2 = true ∧ D.ok 32 h3 = true ∧ D.ok 32 h4 = true := by
  have h : signals.all (fun s => match s with | .tup [h1, h2, h3, h4] => D.ok 32 h1 && (D.ok 32 h2 && (D.ok 32 h3 && D.ok 32 h4)) | _ => false) = true := by decide +kernel
  intro s hs
  have q := List.all_eq_true.mp h s hs
  split at q
  · simp only [Bool.and_eq_true] at q
    exact ⟨_, _, _, _, rfl, q.1, q.2.1, q.2.2.1, q.2.2.2⟩
  · cases q
section
variable {P : Program} {w : World} {K : PySem.W.Frag} {mg : Str → Option Value} {base : Heap} {T : List Addr} {CE fI : Addr}
theorem scTable : FnScope ["listener", "signal"] ["listener"] (defScope s_table_of) := ⟨rfl, rfl, rfl, by decide +kernel, rfl, by decide +kernel, by decide +kernel⟩
def pTable (CL : Addr) (w : World) (ss : List Slot) (O : OH) (d : D) (O' : OH) : Prop := ∃ (n : Nat) (on : D) (rs : List D), ss = [.dat (insList CL (.int (n : Int)) on (.lst rs))] ∧ n ≤ 60 ∧ (∀ r ∈ rs, isRule (n : Int) r = true) ∧ rs.length ≤ 100 ∧ d = .dicN w (tabD n rs) ∧ O' = O
theorem ok_table {f g g2 CL : Addr} {fd gd gd2 : FuncData} {cdv : Value} (F : FunC K "table_of" "table_of" s_table_of f fd cdv) (L : Blt mg) (G : FnOk P w K mg base CX0 2 g gd ["listener", "signal"] (spF T K (pBehind CL))) (hg : mg "states_behind" = some (.ref g)) (kg : PySem.W.keepIn K (.ref g) = true) (bg : Binds K gd ["listener", "signal"] [])
    (G2 : FnOk P w K mg base CX0 1 g2 gd2 [] (spF T K pSignals)) (hg2 : mg "all_signals" = some (.ref g2)) (kg2 : PySem.W.keepIn K (.ref g2) = true) (bg2 : Binds K gd2 [] []) :
    FnOk P w K mg base CX0 3 f fd ["listener"] (spF T K (pTable CL w)) := by
  refine fn_ok (CE := (0 : Addr)) (R := pTable CL w) F scTable (fun ss O d O' ⟨n, on, rs, h, _⟩ => by rw [h]; rfl) fun A outer s H E ss O d O' hr h => ?_
  obtain ⟨n, on, rs, e1, hn, hrs, hl, e2, e3⟩ := h
  subst e1 e2 e3
  refine ds_one (d1_ret (s := .dat (.dicN w (tabD n rs))) (DE.dv (DE.cast (de_dcN (own := [("signal", 1)]) (ds := signals) (is := [1]) (f := one1) (g := gName 1) (F := tabF n rs) hr (src_list (de_call0 G2 (hr.mono (by decide)) hg2 kg2 bg2 pass0 ⟨rfl, rfl, rfl⟩)) (pgb_name 1 scTable.nd) (tg_name 1) (by decide) (fun d _ => ⟨[d], rfl⟩) (by rw [sig_len]; decide) ?_ ?_ scTable.nd (blkOk_by rfl)) ?_)) ⟨rfl, rfl⟩)
  · intro d hd cs hcs
    cases hcs
    obtain ⟨h1, h2, h3, h4, rfl, k1, k2, k3, k4⟩ := sig_parts d hd
    exact .inl ⟨(.tup [h1, h2, h3, h4], .lst (stD n h1 h2 h3 h4 rs)), rfl, sig_key _ hd, difs_nil, fun s H C cl fp => de_var 1, fun s H C cl fp => de_call G hr hg kg bg pass0 (da_d (de_var 0) (da_d (de_var 1) da_nil)) ⟨n, on, rs, h1, h2, h3, h4, rfl, hn, hrs, hl, k1, k2, k3, k4, rfl, rfl⟩⟩
  · rw [tab_eq]
    unfold tabD
    rw [List.map_map]
    exact sig_nd
  · rw [tab_eq]
    rfl
/-! ### on_list -/
def onB (n : Nat) (os : List Int) : List D := (List.range n).map fun (s : Nat) => .bl (decide ((s : Int) ∈ os))
theorem scOnL : FnScope ["listener", "state"] ["listener"] (defScope s_on_list) := ⟨rfl, rfl, rfl, by decide +kernel, rfl, by decide +kernel, by decide +kernel⟩
def pOnL (CL : Addr) (ss : List Slot) (O : OH) (d : D) (O' : OH) : Prop := ∃ (n : Nat) (os : List Int) (rs : D), ss = [.dat (insList CL (.int (n : Int)) (.lst (os.map .int)) rs)] ∧ n ≤ 60 ∧ d = .lst (onB n os) ∧ O' = O
theorem ok_onl {f CL : Addr} {fd : FuncData} {cdv : Value} (F : FunC K "on_list" "on_list" s_on_list f fd cdv) (L : Blt mg) (A3 : Fld3 K CL "states" "on" "rules") : FnOk P w K mg base CX0 1 f fd ["listener"] (spF T K (pOnL CL)) := by
  refine fn_ok (CE := (0 : Addr)) (R := pOnL CL) F scOnL (fun ss O d O' ⟨n, os, rs, h, _⟩ => by rw [h]; rfl) fun A outer s H E ss O d O' hr h => ?_
  obtain ⟨n, os, rs, e1, hn, e2, e3⟩ := h
  subst e1 e2 e3
  refine ds_one (d1_ret (s := .dat (.lst (onB n os))) (DE.dv (de_lcR (m := (n : Int)) 1 (de_fld A3.cl A3.a (de_var 0) rfl) (fun j acc O2 => acc = onB j os ∧ O2 = O') ⟨rfl, rfl⟩ ?_ (fun acc O2 h => ?_) (by omega) (by omega) L.range scOnL.nd (blkOk_by rfl))) ⟨rfl, rfl⟩)
  · rintro j acc O2 hj ⟨rfl, rfl⟩
    refine ⟨true, O2, difs_nil, (fun _ => ⟨.bl (decide ((j : Int) ∈ os)), O2, fun s H C cl fp => ?_, ?_, rfl⟩), fun z => by cases z⟩
    · exact DE.cast (de_inL (ds := os.map .int) hr rfl (by rw [oks_all]; exact List.all_eq_true.mpr fun d hd => by obtain ⟨i, _, rfl⟩ := List.mem_map.mp hd; rfl) (de_var 1) (de_fld A3.cl A3.b (de_var 0) rfl)) (by rw [in_ints])
    · unfold onB
      rw [List.range_succ, List.map_append]
      rfl
  · have e : (n : Int).toNat = n := by omega
    rw [e] at h
    exact h
end
end Dg

namespace Dz
open PySem PySem.Spec PyProof.Rows L2 GxR
/-! ### numbers of keys, in the order in which they come -/
section
variable {κ : Type} [DecidableEq κ]
def ddl (l : List κ) : List κ := l.foldl (fun acc k => if k ∈ acc then acc else acc ++ [k]) []
theorem ddl_snoc (l : List κ) (k : κ) : ddl (l ++ [k]) = if k ∈ ddl l then ddl l else ddl l ++ [k] := by
  unfold ddl
  rw [List.foldl_append]
  rfl
theorem mem_ddl {k : κ} {l : List κ} : k ∈ ddl l ↔ k ∈ l := by
  suffices h : ∀ (r : List κ) (acc : List κ), (k ∈ r.foldl (fun acc k => if k ∈ acc then acc else acc ++ [k]) acc ↔ k ∈ acc ∨ k ∈ r) by
    have q := h l []
    simpa [ddl] using q
  intro r
  induction r with
  | nil => intro acc; simp
  | cons x r ih =>
    intro acc
    rw [List.foldl_cons, ih]
    by_cases hx : x ∈ acc
    · rw [if_pos hx, List.mem_cons]
      constructor
      · rintro (q | q)
        · exact .inl q
        · exact .inr (.inr q)
      · rintro (q | q | q)
        · exact .inl q
        · exact .inl (q ▸ hx)
        · exact .inr q
    · rw [if_neg hx, List.mem_append, List.mem_singleton, List.mem_cons, or_assoc]
theorem ddl_nodup (l : List κ) : (ddl l).Nodup := by
  suffices h : ∀ (r : List κ) (acc : List κ), acc.Nodup → (r.foldl (fun acc k => if k ∈ acc then acc else acc ++ [k]) acc).Nodup from h l [] List.nodup_nil
  intro r
  induction r with
  | nil => exact fun _ h => h
  | cons x r ih =>
    intro acc h
    rw [List.foldl_cons]
    refine ih _ ?_
    by_cases hx : x ∈ acc
    · rw [if_pos hx]
      exact h
    · rw [if_neg hx]
      refine List.nodup_append.mpr ⟨h, by simp, fun a ha b hb e => ?_⟩
      rw [List.mem_singleton] at hb
      exact hx (by rw [← hb, ← e]; exact ha)
theorem ddl_len (l : List κ) : (ddl l).length ≤ l.length := by
  suffices h : ∀ (r : List κ) (acc : List κ), (r.foldl (fun acc k => if k ∈ acc then acc else acc ++ [k]) acc).length ≤ acc.length + r.length by
    have q := h l []
    simpa [ddl] using q
  intro r
  induction r with
  | nil => intro acc; simp
  | cons x r ih =>
    intro acc
    rw [List.foldl_cons]
    refine Nat.le_trans (ih _) ?_
    split
    · rw [List.length_cons]; omega
    · simp only [List.length_append, List.length_cons, List.length_nil]; omega
def idx (l : List κ) (k : κ) : Nat := l.idxOf k
theorem idx_self (k : κ) (l : List κ) : idx (k :: l) k = 0 := by
  unfold idx
  rw [List.idxOf_cons_self]
theorem idx_ne {a k : κ} (l : List κ) (h : ¬ a = k) : idx (a :: l) k = idx l k + 1 := by
  unfold idx
  have e : (a == k) = false := beq_eq_false_iff_ne.mpr h
  rw [List.idxOf_cons, e]
  rfl
def numb (l : List κ) : List Nat := l.map fun k => idx (ddl l) k
theorem numb_len (l : List κ) : (numb l).length = l.length := List.length_map ..
end
/-- the owned dict of the keys' numbers -/
def nmD : Nat → List D → List (D × Slot)
  | _, [] => []
  | b, d :: ds => (d, .dat (.int (b : Int))) :: nmD (b + 1) ds
theorem nmD_snoc : ∀ (b : Nat) (ds : List D) (d : D), nmD b (ds ++ [d]) = nmD b ds ++ [(d, .dat (.int ((b + ds.length : Nat) : Int)))]
  | b, [], d => rfl
  | b, x :: ds, d => by
    show (x, _) :: nmD (b + 1) (ds ++ [d]) = _
    rw [nmD_snoc (b + 1) ds d]
    have e : b + 1 + ds.length = b + (x :: ds).length := by rw [List.length_cons]; omega
    rw [e]
    rfl
theorem nmD_len : ∀ (b : Nat) (ds : List D), (nmD b ds).length = ds.length
  | _, [] => rfl
  | b, _ :: ds => congrArg Nat.succ (nmD_len (b + 1) ds)
theorem nmD_get (k : NestedKey) : ∀ (b : Nat) (ds : List D), getD (nmD b ds) k = if some k ∈ ds.map keyD then some (.dat (.int ((b + idx (ds.map keyD) (some k) : Nat) : Int))) else none
  | _, [] => rfl
  | b, d :: ds => by
    by_cases h : keyD d = some k
    · show getD ((d, _) :: nmD (b + 1) ds) k = _
      rw [getD_pos h, if_pos (by rw [List.map_cons, h]; exact List.mem_cons_self), List.map_cons, h, idx_self]
      rfl
    · show getD ((d, _) :: nmD (b + 1) ds) k = _
      rw [getD_neg h, nmD_get k (b + 1) ds, List.map_cons]
      by_cases m : some k ∈ ds.map keyD
      · rw [if_pos m, if_pos (List.mem_cons_of_mem _ m), idx_ne _ h]
        have e : b + 1 + idx (ds.map keyD) (some k) = b + (idx (ds.map keyD) (some k) + 1) := by omega
        rw [e]
      · rw [if_neg m, if_neg (fun z => (List.mem_cons.mp z).elim (fun q => h q.symm) m)]
def nmL : Nat → List Leaf → List (Leaf × Slot)
  | _, [] => []
  | b, d :: ds => (d, .dat (.int (b : Int))) :: nmL (b + 1) ds
theorem nmL_snoc : ∀ (b : Nat) (ds : List Leaf) (d : Leaf), nmL b (ds ++ [d]) = nmL b ds ++ [(d, .dat (.int ((b + ds.length : Nat) : Int)))]
  | b, [], d => rfl
  | b, x :: ds, d => by
    show (x, _) :: nmL (b + 1) (ds ++ [d]) = _
    rw [nmL_snoc (b + 1) ds d]
    have e : b + 1 + ds.length = b + (x :: ds).length := by rw [List.length_cons]; omega
    rw [e]
    rfl
theorem nmL_len : ∀ (b : Nat) (ds : List Leaf), (nmL b ds).length = ds.length
  | _, [] => rfl
  | b, _ :: ds => congrArg Nat.succ (nmL_len (b + 1) ds)
theorem nmL_get (k : Leaf) : ∀ (b : Nat) (ds : List Leaf), (nmL b ds).lookup k = if k ∈ ds then some (.dat (.int ((b + idx ds k : Nat) : Int))) else none
  | _, [] => rfl
  | b, d :: ds => by
    show List.lookup k ((d, _) :: nmL (b + 1) ds) = _
    rw [List.lookup_cons]
    by_cases h : d = k
    · subst h
      rw [if_pos List.mem_cons_self, idx_self]
      simp
    · have e : (k == d) = false := by simpa using fun q => h q.symm
      rw [e, nmL_get k (b + 1) ds]
      by_cases m : k ∈ ds
      · rw [if_pos m, if_pos (List.mem_cons_of_mem _ m), idx_ne _ h]
        have e : b + 1 + idx ds k = b + (idx ds k + 1) := by omega
        rw [e]
      · rw [if_neg m, if_neg (fun z => (List.mem_cons.mp z).elim (fun q => h q.symm) m)]
/-- return e, what is owned at c forgotten -/
theorem d1_retC {T : List Addr} {X : Cx} {CE : Addr} {ρ : List Slot} {O O1 : OH} {e : Expr} {pos : Pos} {s : Slot} {E : DEn} (c : Addr) (he : DV T X e ρ O s O1) (h : E.rt s (cut O1 c)) : D1 T X CE (.Return (some e) pos) ρ O E :=
  .mk fun σ B H hE hA Dn W tk l => ws_of (ps_ret pe_we) (he σ B H hE hA _ fun v B1 H1 p1 r1 => l.rt _ _ v B1 H1 h (p1.forget c) r1)
end Dz
namespace Dg
open PySem PySem.Spec PyProof.Rows L2 GxR Dz
def lb (b : Bool) : Leaf := .num (if b = true then 1 else 0)
def natD (l : List Nat) : List D := l.map fun (i : Nat) => .int (i : Int)
section
variable {P : Program} {w : World} {K : PySem.W.Frag} {mg : Str → Option Value} {base : Heap} {T : List Addr} {CE fI : Addr}
theorem scNumd : FnScope ["keys", "numbers", "key"] ["keys"] (defScope s_numbered) := ⟨rfl, rfl, rfl, by decide +kernel, rfl, by decide +kernel, by decide +kernel⟩
def pNumdN (ss : List Slot) (O : OH) (d : D) (O' : OH) : Prop := ∃ ks : List D, ss = [.dat (.lst ks)] ∧ ks.length ≤ 100 ∧ (∀ x ∈ ks, (keyD x).isSome = true) ∧ d = .lst (natD (numb (ks.map keyD))) ∧ O' = O
def pNumdB (ss : List Slot) (O : OH) (d : D) (O' : OH) : Prop := ∃ bs : List Bool, ss = [.dat (.lst (bs.map .bl))] ∧ bs.length ≤ 100 ∧ d = .lst (natD (numb (bs.map lb))) ∧ O' = O
def pNumd (ss : List Slot) (O : OH) (d : D) (O' : OH) : Prop := pNumdN ss O d O' ∨ pNumdB ss O d O'
theorem ok_numd {f : Addr} {fd : FuncData} {cdv : Value} (F : FunC K "numbered" "numbered" s_numbered f fd cdv) (L : Blt mg) : FnOk P w K mg base CX0 1 f fd ["keys"] (spF T K pNumd) := by
  refine fn_ok (CE := (0 : Addr)) (R := pNumd) F scNumd (fun ss O d O' h => by rcases h with ⟨_, h, _⟩ | ⟨_, h, _⟩ <;> (rw [h]; rfl)) fun A outer s H E ss O d O' hr h => ?_
  rcases h with ⟨ks, e1, hl, hk, e2, e3⟩ | ⟨bs, e1, hl, e2, e3⟩
  · subst e1 e2 e3
    refine ds_cons (d1_ownN0 1 (fun p hp => ?_) scNumd.nd)
    refine ds_cons (d1_forW (ds := ks) (is := [2]) (g := gName 2) (f := one1) (fun j ρ' O2 => ∃ kds s2, ρ' = [.dat (.lst ks), .val (.ref p), s2] ∧ kds.map keyD = ddl ((ks.take j).map keyD) ∧ O2 = put O' p (.dicN w p (nmD 0 kds))) (src_list (de_var 0)) (pg_nameN 2 scNumd.nd) (tg_name 2) ⟨[], _, rfl, rfl, rfl⟩ (fun d _ => ⟨[d], rfl⟩) ?_ ?_ PassesOwn.never)
    · rintro j d cs ρ' O2 hj hcs ⟨kds, s2, rfl, hkd, rfl⟩
      cases hcs
      obtain ⟨k, hkk⟩ := Option.isSome_iff_exists.mp (hk d (List.mem_of_getElem? hj))
      have et : (ks.take (j + 1)).map keyD = (ks.take j).map keyD ++ [keyD d] := by rw [List.take_add_one, hj, List.map_append]; rfl
      have hlen : kds.length ≤ 100 := by
        have e1 : kds.length = (kds.map keyD).length := by rw [List.length_map]
        rw [e1, hkd]
        refine Nat.le_trans (ddl_len _) ?_
        rw [List.length_map, List.length_take]
        omega
      refine ds_one (d1_exprX (R := fun s O3 => ∃ kds, kds.map keyD = ddl ((ks.take (j + 1)).map keyD) ∧ O3 = put O' p (.dicN w p (nmD 0 kds))) (dvx_nsetd (c := p) (k := k) hr (dv_var 1 rfl) ⟨_, put_same⟩ (de_var 2) hkk (dvx_dv (DE.dv (de_lenNO (so := nmD 0 kds) L.len (dv_var 1 rfl) put_same))) ?_) (fun s O3 ⟨kds, h1, h2⟩ => ⟨kds, _, rfl, h1, h2⟩))
      rintro s O3 ⟨rfl, rfl⟩
      refine ⟨nmD 0 kds, put_same, by rw [nmD_len]; omega, fun s0 hs => ⟨kds, ?_, rfl⟩, fun hn => ⟨kds ++ [d], ?_, ?_⟩⟩
      · have m : some k ∈ kds.map keyD := by
          rw [nmD_get] at hs
          by_cases m : some k ∈ kds.map keyD
          · exact m
          · rw [if_neg m] at hs
            cases hs
        rw [et, ddl_snoc, hkk, ← hkd, if_pos m]
      · have m : some k ∉ kds.map keyD := fun m => by
          rw [nmD_get, if_pos m] at hn
          cases hn
        rw [et, ddl_snoc, hkk, ← hkd, if_neg m, List.map_append, List.map_cons, List.map_nil, hkk]
      · rw [put_put]
        unfold putD
        rw [hn, nmD_snoc, nmD_len, Nat.zero_add]
        rfl
    · rintro ρ' O2 ⟨kds, s2, rfl, hkd, rfl⟩
      rw [List.take_length] at hkd
      refine ds_one (d1_retC p (s := .dat (.lst (natD (numb (ks.map keyD))))) (O1 := put O' p (.dicN w p (nmD 0 kds))) (DE.dv (DE.cast (de_lcW (own := [("key", 2)]) (ds := ks) (is := [2]) (f := one1) (g := gName 2) (O1 := put O' p (.dicN w p (nmD 0 kds))) (O2 := put O' p (.dicN w p (nmD 0 kds))) (src_list (de_var 0)) (pgb_name 2 scNumd.nd) (tg_name 2) _ ⟨by rfl, rfl⟩ (by decide) (fun d _ => ⟨[d], rfl⟩) (by omega) (lcW_pure (F := fun cs => match cs with | [d] => some (.int ((idx (ddl (ks.map keyD)) (keyD d) : Nat) : Int)) | _ => none) ?_) (fun acc O3 h => h) scNumd.nd (blkOk_by rfl)) ?_)) ⟨rfl, cut_put hp⟩)
      · intro d hd cs hcs
        cases hcs
        obtain ⟨k, hkk⟩ := Option.isSome_iff_exists.mp (hk d hd)
        refine .inl ⟨_, rfl, difs_nil, fun s H C cl fp => (dv_ngetO (c := p) (k := k) hr (dv_var 1 rfl) (de_var 2) hkk put_same ?_).de⟩
        rw [nmD_get, hkd, hkk, if_pos, Nat.zero_add]
        rw [mem_ddl, ← hkk]
        exact List.mem_map.mpr ⟨d, hd, rfl⟩
      · rw [List.take_length]
        show D.lst (ks.filterMap fun d => some (D.int ((idx (ddl (ks.map keyD)) (keyD d) : Nat) : Int))) = _
        rw [List.filterMap_eq_map']
        unfold natD numb
        rw [List.map_map, List.map_map]
        rfl
  · subst e1 e2 e3
    refine ds_cons (d1_ownL0 1 (fun p hp => ?_) scNumd.nd)
    refine ds_cons (d1_forW (ds := bs.map .bl) (is := [2]) (g := gName 2) (f := one1) (fun j ρ' O2 => ∃ s2, ρ' = [.dat (.lst (bs.map .bl)), .val (.ref p), s2] ∧ O2 = put O' p (.dicL P w p (nmL 0 (ddl ((bs.take j).map lb))))) (src_list (de_var 0)) (pg_nameN 2 scNumd.nd) (tg_name 2) ⟨_, rfl, rfl⟩ (fun d _ => ⟨[d], rfl⟩) ?_ ?_ PassesOwn.never)
    · rintro j d cs ρ' O2 hj hcs ⟨s2, rfl, rfl⟩
      cases hcs
      rw [List.getElem?_map] at hj
      obtain ⟨b, hb, rfl⟩ := Option.map_eq_some_iff.mp hj
      have et : (bs.take (j + 1)).map lb = (bs.take j).map lb ++ [lb b] := by rw [List.take_add_one, hb, List.map_append]; rfl
      have hlen : (ddl ((bs.take j).map lb)).length ≤ 100 := by
        refine Nat.le_trans (ddl_len _) ?_
        rw [List.length_map, List.length_take]
        omega
      refine ds_one (d1_exprX (R := fun s O3 => O3 = put O' p (.dicL P w p (nmL 0 (ddl ((bs.take (j + 1)).map lb))))) (dv_lsetd (c := p) (k := lb b) (dv_var 1 rfl) put_same (de_var 2) rfl (DE.dv (de_lenLO L.len (dv_var 1 rfl) put_same)) (by rw [nmL_len]; omega) (fun s0 hs => ?_) (fun hn => ?_)) (fun s O3 h => ⟨_, rfl, h⟩))
      · have m : lb b ∈ ddl ((bs.take j).map lb) := by
          rw [nmL_get] at hs
          by_cases m : lb b ∈ ddl ((bs.take j).map lb)
          · exact m
          · rw [if_neg m] at hs
            cases hs
        rw [et, ddl_snoc, if_pos m]
      · have m : lb b ∉ ddl ((bs.take j).map lb) := fun m => by
          rw [nmL_get, if_pos m] at hn
          cases hn
        rw [put_put, et, ddl_snoc, if_neg m, nmL_snoc, nmL_len, Nat.zero_add]
        rfl
    · rintro ρ' O2 ⟨s2, rfl, rfl⟩
      rw [List.length_map, List.take_length]
      refine ds_one (d1_retC p (s := .dat (.lst (natD (numb (bs.map lb))))) (O1 := put O' p (.dicL P w p (nmL 0 (ddl (bs.map lb))))) (DE.dv (DE.cast (de_lcW (own := [("key", 2)]) (ds := bs.map .bl) (is := [2]) (f := one1) (g := gName 2) (O1 := put O' p (.dicL P w p (nmL 0 (ddl (bs.map lb))))) (O2 := put O' p (.dicL P w p (nmL 0 (ddl (bs.map lb))))) (src_list (de_var 0)) (pgb_name 2 scNumd.nd) (tg_name 2) _ ⟨by rfl, rfl⟩ (by decide) (fun d _ => ⟨[d], rfl⟩) (by rw [List.length_map]; omega) (lcW_pure (F := fun cs => match cs with | [.bl b] => some (.int ((idx (ddl (bs.map lb)) (lb b) : Nat) : Int)) | _ => none) ?_) (fun acc O3 h => h) scNumd.nd (blkOk_by rfl)) ?_)) ⟨rfl, cut_put hp⟩)
      · intro d hd cs hcs
        cases hcs
        obtain ⟨b, hb, rfl⟩ := List.mem_map.mp hd
        refine .inl ⟨_, rfl, difs_nil, fun s H C cl fp => (dv_lgetO (c := p) (k := lb b) (dv_var 1 rfl) (de_var 2) rfl put_same ?_).de⟩
        rw [nmL_get, if_pos, Nat.zero_add]
        rw [mem_ddl]
        exact List.mem_map.mpr ⟨b, hb, rfl⟩
      · rw [List.take_length]
        unfold natD numb
        rw [List.filterMap_map, List.map_map, List.map_map]
        show D.lst (bs.filterMap fun b => some (D.int ((idx (ddl (bs.map lb)) (lb b) : Nat) : Int))) = _
        rw [List.filterMap_eq_map']
        rfl
end
end Dg

/-! the classes, reckoned -/
namespace Dz
section
variable {α β : Type} [DecidableEq α] [DecidableEq β]
theorem ddl_nd : ∀ {l : List α}, l.Nodup → ddl l = l := by
  intro l
  suffices h : ∀ (r acc : List α), (acc ++ r).Nodup → r.foldl (fun acc k => if k ∈ acc then acc else acc ++ [k]) acc = acc ++ r from fun hn => h l [] hn
  intro r
  induction r with
  | nil => intro acc _; simp
  | cons x r ih =>
    intro acc hn
    have hx : x ∉ acc := fun m => (List.nodup_append.mp hn).2.2 x m x List.mem_cons_self rfl
    rw [List.foldl_cons, if_neg hx, ih (acc ++ [x]) (by rw [List.append_assoc]; exact hn), List.append_assoc]
    rfl
theorem nd_of_len : ∀ {l : List α}, (ddl l).length = l.length → l.Nodup := by
  intro l
  suffices h : ∀ (r acc : List α), acc.Nodup → (r.foldl (fun acc k => if k ∈ acc then acc else acc ++ [k]) acc).length = acc.length + r.length → (acc ++ r).Nodup from fun hl => h l [] List.nodup_nil (by simpa [ddl] using hl)
  have le : ∀ (r acc : List α), (r.foldl (fun acc k => if k ∈ acc then acc else acc ++ [k]) acc).length ≤ acc.length + r.length := by
    intro r
    induction r with
    | nil => intro acc; simp
    | cons x r ih =>
      intro acc
      rw [List.foldl_cons]
      refine Nat.le_trans (ih _) ?_
      split
      · rw [List.length_cons]; omega
      · simp only [List.length_append, List.length_cons, List.length_nil]; omega
  intro r
  induction r with
  | nil => intro acc hn _; simpa using hn
  | cons x r ih =>
    intro acc hn hl
    rw [List.foldl_cons] at hl
    by_cases hx : x ∈ acc
    · rw [if_pos hx] at hl
      have := le r acc
      rw [List.length_cons] at hl
      omega
    · rw [if_neg hx] at hl
      have q := ih (acc ++ [x]) (List.nodup_append.mpr ⟨hn, by simp, fun a ha b hb e => hx (by rw [List.mem_singleton] at hb; rw [← hb, ← e]; exact ha)⟩) (by rw [hl]; simp only [List.length_append, List.length_cons, List.length_nil]; omega)
      rw [List.append_assoc] at q
      exact q
/-- the first of each kind -/
theorem firsts {z : List (α × β)} (h : ∀ p ∈ z, ∀ q ∈ z, p.1 = q.1 → p.2 = q.2) : ∃ d : List (α × β), (∀ p ∈ d, p ∈ z) ∧ ddl (z.map (·.1)) = d.map (·.1) ∧ ddl (z.map (·.2)) = ddl (d.map (·.2)) := by
  suffices H : ∀ k, k ≤ z.length → ∃ d : List (α × β), (∀ p ∈ d, p ∈ z) ∧ ddl ((z.take k).map (·.1)) = d.map (·.1) ∧ ddl ((z.take k).map (·.2)) = ddl (d.map (·.2)) by
    have q := H z.length (Nat.le_refl _)
    rw [List.take_length] at q
    exact q
  intro k
  induction k with
  | zero => exact fun _ => ⟨[], (fun p hp => (nomatch hp)), rfl, rfl⟩
  | succ k ih =>
    intro hk
    obtain ⟨d, h1, h2, h3⟩ := ih (by omega)
    have hz : z[k]? = some z[k] := List.getElem?_eq_getElem (by omega)
    have hzm : z[k] ∈ z := List.getElem_mem _
    have et : z.take (k + 1) = z.take k ++ [z[k]] := by rw [List.take_add_one, hz]; rfl
    rw [et, List.map_append, List.map_append]
    show ∃ d : List (α × β), _ ∧ ddl (_ ++ [z[k].1]) = _ ∧ ddl (_ ++ [z[k].2]) = _
    rw [ddl_snoc, ddl_snoc, h2, h3]
    by_cases m : z[k].1 ∈ d.map (·.1)
    · obtain ⟨p, hp, ep⟩ := List.mem_map.mp m
      have e2 : p.2 = z[k].2 := h p (h1 p hp) _ hzm ep
      refine ⟨d, h1, if_pos m, if_pos ?_⟩
      rw [mem_ddl, ← e2]
      exact List.mem_map.mpr ⟨p, hp, rfl⟩
    · refine ⟨d ++ [z[k]], fun p hp => ?_, ?_, ?_⟩
      · rcases List.mem_append.mp hp with q | q
        · exact h1 p q
        · rw [List.mem_singleton] at q
          rw [q]
          exact hzm
      · rw [if_neg m, List.map_append]
        rfl
      · rw [List.map_append]
        show _ = ddl (d.map (·.2) ++ [z[k].2])
        rw [ddl_snoc]
theorem idx_pat : ∀ {d : List (α × β)} {a : α} {b : β}, (∀ p ∈ d, (p.1 = a ↔ p.2 = b)) → idx (d.map (·.1)) a = idx (d.map (·.2)) b
  | [], _, _, _ => rfl
  | p :: d, a, b, h => by
    rw [List.map_cons, List.map_cons]
    by_cases e : p.1 = a
    · have e2 := (h p List.mem_cons_self).mp e
      rw [e, e2, idx_self, idx_self]
    · have e2 : ¬ p.2 = b := fun q => e ((h p List.mem_cons_self).mpr q)
      rw [idx_ne _ e, idx_ne _ e2, idx_pat fun q hq => h q (List.mem_cons_of_mem _ hq)]
theorem nd_map {d : List (α × β)} (hn : (d.map (·.1)).Nodup) (h : ∀ p ∈ d, ∀ q ∈ d, p.2 = q.2 → p.1 = q.1) : (d.map (·.2)).Nodup := by
  induction d with
  | nil => exact List.nodup_nil
  | cons p d ih =>
    rw [List.map_cons, List.nodup_cons] at hn ⊢
    refine ⟨fun m => ?_, ih hn.2 fun a ha b hb => h a (List.mem_cons_of_mem _ ha) b (List.mem_cons_of_mem _ hb)⟩
    obtain ⟨q, hq, e⟩ := List.mem_map.mp m
    exact hn.1 (List.mem_map.mpr ⟨q, hq, h q (List.mem_cons_of_mem _ hq) p List.mem_cons_self e⟩)
/-- the numbers depend on what is alike alone -/
theorem numb_pat {z : List (α × β)} (h : ∀ p ∈ z, ∀ q ∈ z, (p.1 = q.1 ↔ p.2 = q.2)) : numb (z.map (·.1)) = numb (z.map (·.2)) := by
  obtain ⟨d, h1, h2, h3⟩ := firsts fun p hp q hq e => (h p hp q hq).mp e
  have nd1 : (d.map (·.1)).Nodup := by rw [← h2]; exact ddl_nodup _
  have nd2 := nd_map nd1 fun p hp q hq e => (h p (h1 p hp) q (h1 q hq)).mpr e
  rw [ddl_nd nd2] at h3
  unfold numb
  rw [h2, h3, List.map_map, List.map_map]
  refine List.map_congr_left fun p hp => ?_
  exact idx_pat fun q hq => h q (h1 q hq) p hp
/-- how many kinds -/
def cnt (l : List α) : Nat := (ddl l).length
/-- what is finer has as many kinds only if it is alike -/
theorem cnt_le {z : List (α × β)} (h : ∀ p ∈ z, ∀ q ∈ z, p.1 = q.1 → p.2 = q.2) : cnt (z.map (·.2)) ≤ cnt (z.map (·.1)) := by
  obtain ⟨d, _, h2, h3⟩ := firsts h
  unfold cnt
  rw [h2, h3]
  refine Nat.le_trans (ddl_len _) ?_
  rw [List.length_map, List.length_map]
  exact Nat.le_refl _
theorem cnt_eq {z : List (α × β)} (h : ∀ p ∈ z, ∀ q ∈ z, p.1 = q.1 → p.2 = q.2) (e : cnt (z.map (·.2)) = cnt (z.map (·.1))) : ∀ p ∈ z, ∀ q ∈ z, p.2 = q.2 → p.1 = q.1 := by
  obtain ⟨d, h1, h2, h3⟩ := firsts h
  unfold cnt at e
  rw [h2, h3, List.length_map] at e
  have nd : (d.map (·.2)).Nodup := nd_of_len (by rw [e, List.length_map])
  have nd1 : (d.map (·.1)).Nodup := by rw [← h2]; exact ddl_nodup _
  have rep : ∀ p ∈ z, p ∈ d := fun p hp => by
    have m : p.1 ∈ d.map (·.1) := by
      rw [← h2, mem_ddl]
      exact List.mem_map.mpr ⟨p, hp, rfl⟩
    obtain ⟨q, hq, eq⟩ := List.mem_map.mp m
    have e2 := h q (h1 q hq) p hp eq
    have : q = p := Prod.ext eq e2
    rw [← this]
    exact hq
  intro p hp q hq e2
  have inj : ∀ {d : List (α × β)}, (d.map (·.2)).Nodup → ∀ p ∈ d, ∀ q ∈ d, p.2 = q.2 → p = q := by
    intro d
    induction d with
    | nil => intro _ p hp; exact nomatch hp
    | cons x d ih =>
      intro nd p hp q hq e
      rw [List.map_cons, List.nodup_cons] at nd
      rcases List.mem_cons.mp hp with rfl | hp'
      · rcases List.mem_cons.mp hq with rfl | hq'
        · rfl
        · exact absurd (List.mem_map.mpr ⟨q, hq', e.symm⟩) nd.1
      · rcases List.mem_cons.mp hq with rfl | hq'
        · exact absurd (List.mem_map.mpr ⟨p, hp', e⟩) nd.1
        · exact ih nd.2 p hp' q hq' e
  rw [inj nd p (rep p hp) q (rep q hq) e2]
end
section
variable {α : Type} [DecidableEq α]
theorem idx_inj : ∀ {l : List α} {a b : α}, a ∈ l → b ∈ l → idx l a = idx l b → a = b
  | x :: l, a, b, ha, hb, e => by
    by_cases h1 : x = a
    · subst h1
      by_cases h2 : x = b
      · exact h2
      · rw [idx_self, idx_ne _ h2] at e
        cases e
    · by_cases h2 : x = b
      · subst h2
        rw [idx_self, idx_ne _ h1] at e
        cases e
      · rw [idx_ne _ h1, idx_ne _ h2] at e
        exact idx_inj ((List.mem_cons.mp ha).resolve_left fun q => h1 q.symm) ((List.mem_cons.mp hb).resolve_left fun q => h2 q.symm) (Nat.succ.inj e)
theorem idx_lt : ∀ {l : List α} {a : α}, a ∈ l → idx l a < l.length
  | x :: l, a, h => by
    by_cases h1 : x = a
    · subst h1
      rw [idx_self]
      exact Nat.succ_pos _
    · rw [idx_ne _ h1]
      exact Nat.succ_lt_succ (idx_lt ((List.mem_cons.mp h).resolve_left fun q => h1 q.symm))
theorem idx_at : ∀ {l : List α} {i : Nat} {a : α}, l.Nodup → l[i]? = some a → idx l a = i
  | x :: l, 0, a, _, h => by
    cases h
    exact idx_self _ _
  | x :: l, i + 1, a, hn, h => by
    rw [List.nodup_cons] at hn
    have h' : l[i]? = some a := by simpa using h
    have h1 : ¬ x = a := fun z => hn.1 (by rw [z]; exact List.mem_of_getElem? h')
    rw [idx_ne _ h1, idx_at hn.2 h']
/-- the numbers are alike where the keys are -/
theorem numb_at {l : List α} {i : Nat} {a : α} (h : l[i]? = some a) : (numb l)[i]? = some (idx (ddl l) a) := by
  unfold numb
  rw [List.getElem?_map, h]
  rfl
theorem numb_max {l : List α} (h : l ≠ []) : cnt l - 1 ∈ numb l ∧ ∀ y ∈ numb l, y ≤ cnt l - 1 := by
  have pos : 0 < (ddl l).length := by
    cases l with
    | nil => exact absurd rfl h
    | cons x l =>
      refine List.length_pos_of_mem (a := x) ?_
      rw [mem_ddl]
      exact List.mem_cons_self
  refine ⟨?_, fun y hy => ?_⟩
  · have hl : (ddl l)[(ddl l).length - 1]? = some (ddl l)[(ddl l).length - 1] := List.getElem?_eq_getElem (by omega)
    have e := idx_at (ddl_nodup l) hl
    unfold numb cnt
    refine List.mem_map.mpr ⟨(ddl l)[(ddl l).length - 1], ?_, e⟩
    rw [← mem_ddl]
    exact List.getElem_mem _
  · unfold numb at hy
    obtain ⟨a, ha, e⟩ := List.mem_map.mp hy
    have := idx_lt (mem_ddl.mpr ha)
    unfold cnt
    omega
theorem cnt_numb (l : List α) : cnt (numb l) = cnt l := by
  have z1 : ((l.map fun a => (a, idx (ddl l) a)).map (·.1)) = l := by rw [List.map_map]; exact List.map_id _
  have z2 : ((l.map fun a => (a, idx (ddl l) a)).map (·.2)) = numb l := by rw [List.map_map]; rfl
  have h1 : ∀ p ∈ (l.map fun a => (a, idx (ddl l) a)), ∀ q ∈ (l.map fun a => (a, idx (ddl l) a)), (p.1 = q.1 ↔ p.2 = q.2) := by
    intro p hp q hq
    obtain ⟨a, ha, rfl⟩ := List.mem_map.mp hp
    obtain ⟨b, hb, rfl⟩ := List.mem_map.mp hq
    exact ⟨fun e => congrArg (idx (ddl l)) e, fun e => idx_inj (mem_ddl.mpr ha) (mem_ddl.mpr hb) e⟩
  have a1 := cnt_le fun p hp q hq e => (h1 p hp q hq).mp e
  rw [z1, z2] at a1
  refine Nat.le_antisymm a1 ?_
  have sw : ((l.map fun a => (idx (ddl l) a, a)).map (·.1)) = numb l := by rw [List.map_map]; rfl
  have sw2 : ((l.map fun a => (idx (ddl l) a, a)).map (·.2)) = l := by rw [List.map_map]; exact List.map_id _
  have a2 := cnt_le (z := l.map fun a => (idx (ddl l) a, a)) fun p hp q hq e => by
    obtain ⟨a, ha, rfl⟩ := List.mem_map.mp hp
    obtain ⟨b, hb, rfl⟩ := List.mem_map.mp hq
    exact idx_inj (mem_ddl.mpr ha) (mem_ddl.mpr hb) e
  rw [sw, sw2] at a2
  exact a2
end
/-! ### the steps -/
/-- a state's key: its own class, and those behind each signal -/
def keyN (tb : List (List Nat)) (c : List Nat) (s : Nat) : List Nat := c.getD s 0 :: tb.map fun l => c.getD (l.getD s 0) 0
def stepC (n : Nat) (tb : List (List Nat)) (c : List Nat) : List Nat := numb ((List.range n).map (keyN tb c))
def pit (n : Nat) (tb : List (List Nat)) (c : List Nat) : Nat → List Nat
  | 0 => numb c
  | k + 1 => stepC n tb (pit n tb c k)
/-- the table's states are states -/
def TbOk (n : Nat) (tb : List (List Nat)) : Prop := ∀ l ∈ tb, ∀ s, s < n → l.getD s 0 < n
/-- alike at the same places -/
def Alk (n : Nat) (c c' : List Nat) : Prop := ∀ s, s < n → ∀ t, t < n → (c.getD s 0 = c.getD t 0 ↔ c'.getD s 0 = c'.getD t 0)
theorem map_inj_key {tb : List (List Nat)} {c : List Nat} {s t : Nat} : keyN tb c s = keyN tb c t ↔ c.getD s 0 = c.getD t 0 ∧ ∀ l ∈ tb, c.getD (l.getD s 0) 0 = c.getD (l.getD t 0) 0 := by
  unfold keyN
  rw [List.cons.injEq]
  refine and_congr_right fun _ => ?_
  constructor
  · intro h l hl
    have : ∀ (tb : List (List Nat)), tb.map (fun l => c.getD (l.getD s 0) 0) = tb.map (fun l => c.getD (l.getD t 0) 0) → ∀ l ∈ tb, c.getD (l.getD s 0) 0 = c.getD (l.getD t 0) 0 := by
      intro tb
      induction tb with
      | nil => intro _ l hl; exact nomatch hl
      | cons x tb ih =>
        intro e l hl
        rw [List.map_cons, List.map_cons, List.cons.injEq] at e
        rcases List.mem_cons.mp hl with rfl | hl
        · exact e.1
        · exact ih e.2 l hl
    exact this tb h l hl
  · intro h
    exact List.map_congr_left h
theorem stepC_alk {n : Nat} {tb : List (List Nat)} {c c' : List Nat} (ok : TbOk n tb) (h : Alk n c c') : stepC n tb c = stepC n tb c' := by
  unfold stepC
  have q := numb_pat (z := (List.range n).map fun s => (keyN tb c s, keyN tb c' s)) fun p hp q hq => by
    obtain ⟨s, hs, rfl⟩ := List.mem_map.mp hp
    obtain ⟨t, ht, rfl⟩ := List.mem_map.mp hq
    rw [List.mem_range] at hs ht
    show keyN tb c s = keyN tb c t ↔ keyN tb c' s = keyN tb c' t
    rw [map_inj_key, map_inj_key]
    constructor
    · rintro ⟨a, b⟩
      exact ⟨(h s hs t ht).mp a, fun l hl => (h _ (ok l hl s hs) _ (ok l hl t ht)).mp (b l hl)⟩
    · rintro ⟨a, b⟩
      exact ⟨(h s hs t ht).mpr a, fun l hl => (h _ (ok l hl s hs) _ (ok l hl t ht)).mpr (b l hl)⟩
  rw [List.map_map, List.map_map] at q
  exact q
theorem getD_some {l : List Nat} {s : Nat} (h : s < l.length) : l[s]? = some (l.getD s 0) := by
  rw [List.getD_eq_getElem?_getD, List.getElem?_eq_getElem h]
  rfl
theorem numb_alk {α : Type} [DecidableEq α] {n : Nat} {l : List α} (hl : l.length = n) {s t : Nat} (hs : s < n) (ht : t < n) : ((numb l).getD s 0 = (numb l).getD t 0 ↔ l[s]? = l[t]?) := by
  have es : l[s]? = some l[s] := List.getElem?_eq_getElem (by omega)
  have et : l[t]? = some l[t] := List.getElem?_eq_getElem (by omega)
  rw [List.getD_eq_getElem?_getD, List.getD_eq_getElem?_getD, numb_at es, numb_at et, es, et]
  show idx _ _ = idx _ _ ↔ _
  constructor
  · intro e
    exact congrArg some (idx_inj (mem_ddl.mpr (List.getElem_mem _)) (mem_ddl.mpr (List.getElem_mem _)) e)
  · intro e
    rw [Option.some.inj e]
section
variable {n : Nat} {tb : List (List Nat)} {c : List Nat}
theorem stepC_len : (stepC n tb c).length = n := by
  unfold stepC
  rw [numb_len, List.length_map, List.length_range]
theorem pit_len (hc : c.length = n) : ∀ k, (pit n tb c k).length = n
  | 0 => by
    show (numb c).length = n
    rw [numb_len, hc]
  | k + 1 => stepC_len
/-- a step is finer -/
theorem step_finer {d : List Nat} {s t : Nat} (hs : s < n) (ht : t < n) (e : (stepC n tb d).getD s 0 = (stepC n tb d).getD t 0) : d.getD s 0 = d.getD t 0 := by
  have q := (numb_alk (n := n) (l := (List.range n).map (keyN tb d)) (by simp) hs ht).mp e
  rw [List.getElem?_map, List.getElem?_map, List.getElem?_range hs, List.getElem?_range ht] at q
  exact (map_inj_key.mp (Option.some.inj q)).1
def cntP (n : Nat) (tb : List (List Nat)) (c : List Nat) (k : Nat) : Nat := cnt (pit n tb c k)
theorem list_map {l : List Nat} (h : l.length = n) : (List.range n).map (fun s => l.getD s 0) = l := by
  refine List.ext_getElem? fun j => ?_
  rw [List.getElem?_map]
  by_cases hj : j < n
  · rw [List.getElem?_range hj, getD_some (by omega)]
    rfl
  · rw [List.getElem?_eq_none (by simp; omega), List.getElem?_eq_none (by omega)]
    rfl
theorem cnt_step (hc : c.length = n) (k : Nat) : cntP n tb c k ≤ cntP n tb c (k + 1) := by
  have h1 := list_map (pit_len (tb := tb) hc k)
  have h2 := list_map (pit_len (tb := tb) hc (k + 1))
  have q := cnt_le (z := (List.range n).map fun s => ((pit n tb c (k + 1)).getD s 0, (pit n tb c k).getD s 0)) fun p hp q hq e => by
    obtain ⟨s, hs, rfl⟩ := List.mem_map.mp hp
    obtain ⟨t, ht, rfl⟩ := List.mem_map.mp hq
    rw [List.mem_range] at hs ht
    exact step_finer hs ht e
  rw [List.map_map, List.map_map] at q
  have e1 : (List.range n).map ((fun p : Nat × Nat => p.2) ∘ fun s => ((pit n tb c (k + 1)).getD s 0, (pit n tb c k).getD s 0)) = pit n tb c k := h1
  have e2 : (List.range n).map ((fun p : Nat × Nat => p.1) ∘ fun s => ((pit n tb c (k + 1)).getD s 0, (pit n tb c k).getD s 0)) = pit n tb c (k + 1) := h2
  rw [e1, e2] at q
  exact q
/-- where no new class comes, the classes stay -/
theorem step_same (ok : TbOk n tb) (hc : c.length = n) (k : Nat) (e : cntP n tb c (k + 1) = cntP n tb c k) : pit n tb c (k + 2) = pit n tb c (k + 1) ∧ Alk n (pit n tb c k) (pit n tb c (k + 1)) := by
  have h1 := list_map (pit_len (tb := tb) hc k)
  have h2 := list_map (pit_len (tb := tb) hc (k + 1))
  have al : Alk n (pit n tb c k) (pit n tb c (k + 1)) := by
    have q := cnt_eq (z := (List.range n).map fun s => ((pit n tb c (k + 1)).getD s 0, (pit n tb c k).getD s 0)) (fun p hp q hq e => by
      obtain ⟨s, hs, rfl⟩ := List.mem_map.mp hp
      obtain ⟨t, ht, rfl⟩ := List.mem_map.mp hq
      rw [List.mem_range] at hs ht
      exact step_finer hs ht e) (by
        rw [List.map_map, List.map_map]
        have e1 : (List.range n).map ((fun p : Nat × Nat => p.2) ∘ fun s => ((pit n tb c (k + 1)).getD s 0, (pit n tb c k).getD s 0)) = pit n tb c k := h1
        have e2 : (List.range n).map ((fun p : Nat × Nat => p.1) ∘ fun s => ((pit n tb c (k + 1)).getD s 0, (pit n tb c k).getD s 0)) = pit n tb c (k + 1) := h2
        rw [e1, e2]
        exact e.symm)
    intro s hs t ht
    refine ⟨fun z => ?_, fun z => step_finer hs ht z⟩
    exact q _ (List.mem_map.mpr ⟨s, List.mem_range.mpr hs, rfl⟩) _ (List.mem_map.mpr ⟨t, List.mem_range.mpr ht, rfl⟩) z
  exact ⟨(stepC_alk ok al).symm, al⟩
theorem numb_of_alk {x y : List Nat} (hx : x.length = n) (hy : y.length = n) (h : Alk n x y) : numb x = numb y := by
  have q := numb_pat (z := (List.range n).map fun s => (x.getD s 0, y.getD s 0)) fun p hp q hq => by
    obtain ⟨s, hs, rfl⟩ := List.mem_map.mp hp
    obtain ⟨t, ht, rfl⟩ := List.mem_map.mp hq
    exact h s (List.mem_range.mp hs) t (List.mem_range.mp ht)
  rw [List.map_map, List.map_map] at q
  have e1 : (List.range n).map ((fun p : Nat × Nat => p.1) ∘ fun s => (x.getD s 0, y.getD s 0)) = x := list_map hx
  have e2 : (List.range n).map ((fun p : Nat × Nat => p.2) ∘ fun s => (x.getD s 0, y.getD s 0)) = y := list_map hy
  rw [e1, e2] at q
  exact q
theorem numb_numb {l : List Nat} : numb (numb l) = numb l := by
  refine (numb_of_alk (n := l.length) rfl (numb_len l) fun s hs t ht => ?_).symm
  rw [numb_alk rfl hs ht, getD_some hs, getD_some ht]
  exact ⟨fun e => congrArg some e, fun e => Option.some.inj e⟩
theorem numb_stepC {d : List Nat} : numb (stepC n tb d) = stepC n tb d := by
  unfold stepC
  have e : ∀ (l : List (List Nat)), numb (numb l) = numb l := fun l => by
    have q := numb_pat (z := (List.range l.length).map fun s => ((numb l).getD s 0, l.getD s [])) fun p hp q hq => by
      obtain ⟨s, hs, rfl⟩ := List.mem_map.mp hp
      obtain ⟨t, ht, rfl⟩ := List.mem_map.mp hq
      rw [List.mem_range] at hs ht
      show (numb l).getD s 0 = (numb l).getD t 0 ↔ l.getD s [] = l.getD t []
      rw [numb_alk rfl hs ht, List.getElem?_eq_getElem hs, List.getElem?_eq_getElem ht, List.getD_eq_getElem?_getD, List.getD_eq_getElem?_getD, List.getElem?_eq_getElem hs, List.getElem?_eq_getElem ht]
      exact ⟨fun e => Option.some.inj e, fun e => congrArg some e⟩
    rw [List.map_map, List.map_map] at q
    have e1 : (List.range l.length).map ((fun p : Nat × List Nat => p.1) ∘ fun s => ((numb l).getD s 0, l.getD s [])) = numb l := list_map (numb_len l)
    have e2 : (List.range l.length).map ((fun p : Nat × List Nat => p.2) ∘ fun s => ((numb l).getD s 0, l.getD s [])) = l := by
      refine List.ext_getElem? fun j => ?_
      rw [List.getElem?_map]
      by_cases hj : j < l.length
      · rw [List.getElem?_range hj, List.getElem?_eq_getElem hj]
        show some (l.getD j []) = _
        rw [List.getD_eq_getElem?_getD, List.getElem?_eq_getElem hj]
        rfl
      · rw [List.getElem?_eq_none (by simp; omega), List.getElem?_eq_none (by omega)]
        rfl
    rw [e1, e2] at q
    exact q
  exact e _
theorem numb_pit (k : Nat) : numb (pit n tb c k) = pit n tb c k := by
  cases k with
  | zero => exact numb_numb
  | succ k => exact numb_stepC
theorem same_next (ok : TbOk n tb) (hc : c.length = n) (k : Nat) (e : cntP n tb c (k + 1) = cntP n tb c k) : pit n tb c (k + 1) = pit n tb c k := by
  have al := (step_same ok hc k e).2
  have q := numb_of_alk (pit_len (tb := tb) hc k) (pit_len (tb := tb) hc (k + 1)) al
  rw [numb_pit, numb_pit] at q
  exact q.symm
theorem same_on {k : Nat} (e : pit n tb c (k + 1) = pit n tb c k) : ∀ j, pit n tb c (k + j) = pit n tb c k
  | 0 => rfl
  | j + 1 => by
    show stepC n tb (pit n tb c (k + j)) = _
    rw [same_on e j]
    exact e
end
end Dz

namespace Dg
open PySem PySem.Spec PyProof.Rows L2 GxR Dz
theorem fm_congr {α β : Type} {f g : α → Option β} : ∀ {l : List α}, (∀ x ∈ l, f x = g x) → l.filterMap f = l.filterMap g
  | [], _ => rfl
  | x :: l, h => by
    rw [List.filterMap_cons, List.filterMap_cons, h x List.mem_cons_self, fm_congr fun y hy => h y (List.mem_cons_of_mem _ hy)]
theorem enD_eq (ds : List D) : enD 0 ds = (List.range ds.length).map fun (j : Nat) => D.tup [.int (j : Int), ds.getD j .non] := by
  refine List.ext_getElem? fun j => ?_
  rw [List.getElem?_map]
  by_cases hj : j < ds.length
  · have q := enD_get (k := 0) (List.getElem?_eq_getElem hj)
    rw [q, List.getElem?_range hj, Nat.zero_add]
    show _ = some (D.tup [.int (j : Int), ds.getD j .non])
    rw [List.getD_eq_getElem?_getD, List.getElem?_eq_getElem hj]
    rfl
  · rw [List.getElem?_eq_none (by rw [enD_length]; omega), List.getElem?_eq_none (by simp; omega)]
    rfl
theorem enD_mem {ds : List D} {d : D} (h : d ∈ enD 0 ds) : ∃ j, j < ds.length ∧ d = .tup [.int (j : Int), ds.getD j .non] := by
  rw [enD_eq] at h
  obtain ⟨j, hj, e⟩ := List.mem_map.mp h
  exact ⟨j, List.mem_range.mp hj, e.symm⟩
theorem natD_getD {l : List Nat} {j : Nat} (h : j < l.length) : (natD l).getD j .non = .int (l.getD j 0 : Nat) := by
  unfold natD
  rw [List.getD_eq_getElem?_getD, List.getElem?_map, getD_some h]
  rfl
/-! ### the table as numbers -/
def stN (n : Nat) (rs : List D) : D → List Nat
  | .tup [h1, h2, h3, h4] => (List.range n).map fun (s : Nat) => (valI (nextD (.int (s : Int)) h1 h2 h3 h4 rs)).toNat
  | _ => []
def tblN (n : Nat) (rs : List D) : List (List Nat) := signals.map (stN n rs)
theorem next_in {n : Nat} {h1 h2 h3 h4 : D} : ∀ {rs : List D} {s : Nat}, s < n → (∀ r ∈ rs, isRule (n : Int) r = true) → ∃ i : Nat, nextD (.int (s : Int)) h1 h2 h3 h4 rs = .int (i : Int) ∧ i < n
  | [], s, hs, _ => ⟨s, rfl, hs⟩
  | r :: rs, s, hs, h => by
    rw [nextD_cons]
    split
    · have hr := h r List.mem_cons_self
      obtain ⟨a, b, c, d, e, f, er, _⟩ := rule_shape hr
      subst er
      rw [isRule_tup] at hr
      simp only [Bool.and_eq_true] at hr
      have hf := hr.2.2.2.2.2
      show ∃ i : Nat, f = .int (i : Int) ∧ i < n
      cases f with
      | int i =>
        have hf' : (decide (0 ≤ i) && decide (i < (n : Int))) = true := hf
        rw [Bool.and_eq_true] at hf'
        have h0 := of_decide_eq_true hf'.1
        have h1 := of_decide_eq_true hf'.2
        exact ⟨i.toNat, congrArg D.int (by omega), by omega⟩
      | _ => cases hf
    · exact next_in hs fun r' hr' => h r' (List.mem_cons_of_mem _ hr')
theorem stS_eq {n : Nat} {rs : List D} (h : ∀ r ∈ rs, isRule (n : Int) r = true) {s : D} (hs : s ∈ signals) : stS n rs s = natD (stN n rs s) := by
  obtain ⟨h1, h2, h3, h4, rfl, _⟩ := sig_parts s hs
  show stD n h1 h2 h3 h4 rs = natD ((List.range n).map fun (s : Nat) => (valI (nextD (.int (s : Int)) h1 h2 h3 h4 rs)).toNat)
  unfold stD natD
  rw [List.map_map]
  refine List.map_congr_left fun s hs => ?_
  obtain ⟨i, e, _⟩ := next_in (h1 := h1) (h2 := h2) (h3 := h3) (h4 := h4) (List.mem_range.mp hs) h
  show nextD _ _ _ _ _ _ = D.int ((valI (nextD _ _ _ _ _ _)).toNat : Int)
  rw [e]
  rfl
theorem tab_vals {n : Nat} {rs : List D} (h : ∀ r ∈ rs, isRule (n : Int) r = true) : (tabD n rs).map (·.2) = (tblN n rs).map fun l => D.lst (natD l) := by
  unfold tabD tblN
  rw [List.map_map, List.map_map]
  refine List.map_congr_left fun s hs => ?_
  show D.lst (stS n rs s) = D.lst (natD (stN n rs s))
  rw [stS_eq h hs]
theorem stN_len {n : Nat} {rs : List D} {s : D} (hs : s ∈ signals) : (stN n rs s).length = n := by
  obtain ⟨h1, h2, h3, h4, rfl, _⟩ := sig_parts s hs
  show ((List.range n).map _).length = n
  simp
theorem tbl_ok {n : Nat} {rs : List D} (h : ∀ r ∈ rs, isRule (n : Int) r = true) : TbOk n (tblN n rs) := by
  intro l hl s hs
  obtain ⟨sg, hsg, rfl⟩ := List.mem_map.mp hl
  obtain ⟨h1, h2, h3, h4, rfl, _⟩ := sig_parts sg hsg
  show ((List.range n).map fun (s : Nat) => (valI (nextD (.int (s : Int)) h1 h2 h3 h4 rs)).toNat).getD s 0 < n
  rw [List.getD_eq_getElem?_getD, List.getElem?_map, List.getElem?_range hs]
  obtain ⟨i, e, hi⟩ := next_in (h1 := h1) (h2 := h2) (h3 := h3) (h4 := h4) hs h
  show (valI (nextD _ _ _ _ _ _)).toNat < n
  rw [e]
  show ((i : Int)).toNat < n
  omega
theorem tbl_len {n : Nat} {rs : List D} : ∀ l ∈ tblN n rs, l.length = n := fun l hl => by
  obtain ⟨sg, hsg, rfl⟩ := List.mem_map.mp hl
  exact stN_len hsg
def bitsN (n : Nat) (os : List Int) : List Nat := (List.range n).map fun (s : Nat) => if (s : Int) ∈ os then 1 else 0
theorem bits_len (n : Nat) (os : List Int) : (bitsN n os).length = n := by unfold bitsN; simp
def bitsB (n : Nat) (os : List Int) : List Bool := (List.range n).map fun (s : Nat) => decide ((s : Int) ∈ os)
theorem onB_eq (n : Nat) (os : List Int) : onB n os = (bitsB n os).map .bl := by
  unfold onB bitsB
  rw [List.map_map]
  rfl
theorem numb_bits (n : Nat) (os : List Int) : numb ((bitsB n os).map lb) = numb (bitsN n os) := by
  have q := numb_pat (z := (List.range n).map fun (s : Nat) => (lb (decide ((s : Int) ∈ os)), if (s : Int) ∈ os then 1 else 0)) fun p hp q hq => by
    obtain ⟨s, hs, rfl⟩ := List.mem_map.mp hp
    obtain ⟨t, ht, rfl⟩ := List.mem_map.mp hq
    show lb (decide ((s : Int) ∈ os)) = lb (decide ((t : Int) ∈ os)) ↔ (if (s : Int) ∈ os then 1 else 0) = (if (t : Int) ∈ os then 1 else 0)
    by_cases h1 : (s : Int) ∈ os
    · by_cases h2 : (t : Int) ∈ os
      · simp [h1, h2]
      · simp [h1, h2, lb]
    · by_cases h2 : (t : Int) ∈ os
      · simp [h1, h2, lb]
      · simp [h1, h2]
  rw [List.map_map, List.map_map] at q
  unfold bitsB bitsN
  rw [List.map_map]
  exact q
/-- the classes that stay -/
def clsN (n : Nat) (rs : List D) (os : List Int) : List Nat := pit n (tblN n rs) (bitsN n os) n
theorem nkDs_nat : ∀ l : List Nat, nkDs (natD l) = some (l.map fun (i : Nat) => NestedKey.num (i : Int))
  | [] => by
    show nkDs [] = _
    rw [nkDs]
    rfl
  | x :: l => by
    show nkDs (D.int (x : Int) :: natD l) = _
    rw [nkDs, nkDs_nat l, nkD]
    rfl
theorem depth_nums : ∀ l : List Nat, NestedKey.depthAll (l.map fun (i : Nat) => NestedKey.num (i : Int)) = 0
  | [] => by
    show NestedKey.depthAll [] = 0
    rw [NestedKey.depthAll]
  | x :: l => by
    show NestedKey.depthAll (NestedKey.num (x : Int) :: _) = 0
    rw [NestedKey.depthAll, depth_nums l, NestedKey.depth]
    rfl
theorem keyD_nat (l : List Nat) : keyD (.tup (natD l)) = some (.tup (l.map fun (i : Nat) => NestedKey.num (i : Int))) := by
  unfold keyD
  rw [nkD, nkDs_nat l]
  show (if (NestedKey.tup (l.map fun (i : Nat) => NestedKey.num (i : Int))).depth ≤ 8 then _ else none) = _
  rw [if_pos]
  rw [NestedKey.depth, depth_nums]
  decide
theorem keyD_inj {l l' : List Nat} : keyD (.tup (natD l)) = keyD (.tup (natD l')) ↔ l = l' := by
  rw [keyD_nat, keyD_nat]
  constructor
  · intro h
    injection h with h
    injection h with h
    induction l generalizing l' with
    | nil => cases l' with
      | nil => rfl
      | cons y l' => cases h
    | cons x l ih => cases l' with
      | nil => cases h
      | cons y l' =>
        rw [List.map_cons, List.map_cons, List.cons.injEq] at h
        obtain ⟨h1, h2⟩ := h
        injection h1 with h1
        rw [ih h2, Int.ofNat.inj h1]
  · intro h
    rw [h]
theorem numb_keys {n : Nat} {tb : List (List Nat)} {c : List Nat} : numb (((List.range n).map fun s => D.tup (natD (keyN tb c s))).map keyD) = stepC n tb c := by
  unfold stepC
  have q := numb_pat (z := (List.range n).map fun s => (keyD (.tup (natD (keyN tb c s))), keyN tb c s)) fun p hp q hq => by
    obtain ⟨s, hs, rfl⟩ := List.mem_map.mp hp
    obtain ⟨t, ht, rfl⟩ := List.mem_map.mp hq
    exact keyD_inj
  rw [List.map_map, List.map_map] at q
  rw [List.map_map]
  exact q
theorem natD_at {l : List Nat} {i : Int} (h0 : 0 ≤ i) (h : i < l.length) : atI (natD l) i = some (.int (l.getD i.toNat 0 : Nat)) := by
  have hl : (natD l).length = l.length := by unfold natD; simp
  rw [atI_D h0 (by rw [hl]; exact h)]
  unfold natD
  rw [List.getD_eq_getElem?_getD, List.getElem?_map, getD_some (show i.toNat < l.length by omega)]
  rfl
theorem natD_map (l : List Nat) : natD l = (l.map fun (i : Nat) => (i : Int)).map D.int := by
  unfold natD
  rw [List.map_map]
  rfl
theorem natD_len (l : List Nat) : (natD l).length = l.length := by unfold natD; simp
section
variable {P : Program} {w : World} {K : PySem.W.Frag} {mg : Str → Option Value} {base : Heap} {T : List Addr} {CE fI : Addr}
theorem scClasses : FnScope ["table", "on", "classes", "finer", "state", "own", "states"] ["table", "on"] (defScope s_classes_of) := ⟨rfl, rfl, rfl, by decide +kernel, rfl, by decide +kernel, by decide +kernel⟩
def pClasses (w : World) (ss : List Slot) (O : OH) (d : D) (O' : OH) : Prop := ∃ (n : Nat) (rs : List D) (os : List Int), ss = [.dat (.dicN w (tabD n rs)), .dat (.lst (onB n os))] ∧ 0 < n ∧ n ≤ 60 ∧ (∀ r ∈ rs, isRule (n : Int) r = true) ∧ d = .lst (natD (clsN n rs os)) ∧ O' = O
theorem ok_classes {f g : Addr} {fd gd : FuncData} {cdv : Value} (F : FunC K "classes_of" "classes_of" s_classes_of f fd cdv) (L : Blt mg) (G : FnOk P w K mg base CX0 1 g gd ["keys"] (spF T K pNumd)) (hg : mg "numbered" = some (.ref g)) (kg : PySem.W.keepIn K (.ref g) = true) (bg : Binds K gd ["keys"] []) (hmx : mg "max" = none) (hen : mg "enumerate" = none) :
    FnOk P w K mg base CX0 2 f fd ["table", "on"] (spF T K (pClasses w)) := by
  refine fn_ok (CE := (0 : Addr)) (R := pClasses w) F scClasses (fun ss O d O' ⟨n, rs, os, h, _⟩ => by rw [h]; rfl) fun A outer s H E ss O d O' hr h => ?_
  obtain ⟨n, rs, os, e1, n0, n1, hrs, e2, e3⟩ := h
  subst e1 e2 e3
  have hbl := bits_len n os
  have hok := tbl_ok (n := n) hrs
  refine ds_cons (d1_set 2 (s := .dat (.lst (natD (pit n (tblN n rs) (bitsN n os) 0)))) (O1 := O') (DE.dv (de_call G hr hg kg bg pass0 (da_d (de_var 1) da_nil) (.inr ⟨bitsB n os, by rw [onB_eq], by unfold bitsB; simp; omega, by rw [numb_bits]; rfl, rfl⟩))) ?_ scClasses.nd)
  refine ds_one (d1_while (fun m ρ' O2 => ∃ k s3, ρ' = [.dat (.dicN w (tabD n rs)), .dat (.lst (onB n os)), .dat (.lst (natD (pit n (tblN n rs) (bitsN n os) k))), s3, .no, .no, .no] ∧ O2 = O' ∧ m = n - cntP n (tblN n rs) (bitsN n os) k ∧ k < cntP n (tblN n rs) (bitsN n os) k) (n - cntP n (tblN n rs) (bitsN n os) 0) ⟨0, _, rfl, rfl, rfl, ?_⟩ ?_ PassesOwn.never)
  · have := numb_max (l := pit n (tblN n rs) (bitsN n os) 0) (by
      intro z
      have q := pit_len (tb := tblN n rs) hbl 0
      rw [z] at q
      exact absurd q (by show ¬ 0 = n; omega))
    unfold cntP Dz.cnt
    refine List.length_pos_of_mem (a := (pit n (tblN n rs) (bitsN n os) 0).getD 0 0) ?_
    rw [mem_ddl]
    exact List.mem_of_getElem? (getD_some (by rw [pit_len hbl]; exact n0))
  · rintro m ρ' O2 ⟨k, s3, rfl, rfl, rfl, hk⟩
    have hpl := pit_len (tb := tblN n rs) hbl k
    have hpl1 := pit_len (tb := tblN n rs) hbl (k + 1)
    have hne : pit n (tblN n rs) (bitsN n os) k ≠ [] := fun z => by rw [z] at hpl; exact absurd hpl (by show ¬ 0 = n; omega)
    have hne1 : pit n (tblN n rs) (bitsN n os) (k + 1) ≠ [] := fun z => by rw [z] at hpl1; exact absurd hpl1 (by show ¬ 0 = n; omega)
    have hcn : cntP n (tblN n rs) (bitsN n os) (k + 1) ≤ n := by
      unfold cntP Dz.cnt
      refine Nat.le_trans (ddl_len _) ?_
      rw [hpl1]
      exact Nat.le_refl _
    refine ⟨true, O2, dt_val de_bl, fun _ => ?_, fun z => by cases z⟩
    generalize hc : pit n (tblN n rs) (bitsN n os) k = c at hpl hne
    have hc1 : pit n (tblN n rs) (bitsN n os) (k + 1) = stepC n (tblN n rs) c := by rw [← hc]; rfl
    refine ds_cons (d1_set 3 (s := .dat (.lst (natD (pit n (tblN n rs) (bitsN n os) (k + 1))))) (O1 := O2) (DE.dv (de_call G hr hg kg bg pass0 (da_d (d := .lst ((List.range n).map fun s => D.tup (natD (keyN (tblN n rs) c s)))) ?_ da_nil) (.inl ⟨_, rfl, by simp; omega, ?_, by rw [numb_keys, hc1], rfl⟩))) ?_ scClasses.nd)
    · refine DE.cast (de_lcW (own := [("state", 4), ("own", 5)]) (ds := enD 0 (natD c)) (is := [4, 5]) (f := parts 2) (src_enL (de_var 2) hen) (pgb_tup [4, 5] scClasses.nd (fun s H C cl fp => by repeat' (first | exact Dz.Names.nil | refine Dz.Names.cons rfl (by first | exact Or.inl rfl | exact Or.inr rfl) (by first | exact .inl rfl | exact .inr rfl) rfl ?_))) (tg_tup [4, 5]) _ ⟨by rfl, rfl⟩ (by decide) ?_ (by rw [enD_length, natD_len]; omega) (lcW_pure (F := fun cs => match cs with | [.int j, _] => some (D.tup (natD (keyN (tblN n rs) c j.toNat))) | _ => none) ?_) (fun acc O3 h => h) scClasses.nd (blkOk_by rfl)) ?_
      · intro d hd
        obtain ⟨j, _, rfl⟩ := enD_mem hd
        exact ⟨_, rfl⟩
      · intro d hd cs hcs
        obtain ⟨j, hj, rfl⟩ := enD_mem hd
        rw [natD_len, hpl] at hj
        rw [natD_getD (by rw [hpl]; exact hj)] at hcs
        cases hcs
        refine .inl ⟨_, rfl, difs_nil, fun s H C cl fp => ?_⟩
        refine de_tup (ds := .int (c.getD j 0 : Nat) :: natD ((tblN n rs).map fun l => c.getD (l.getD j 0) 0)) ?_ (by rw [List.length_cons, natD_len, List.length_map]; unfold tblN; rw [List.length_map, sig_len]; decide)
        show DA T _ _ _ O2 (.dat (.int (c.getD j 0 : Nat)) :: (natD ((tblN n rs).map fun l => c.getD (l.getD j 0) 0)).map .dat) O2
        have en : (natD ((tblN n rs).map fun l => c.getD (l.getD j 0) 0)).map Slot.dat = (natD ((tblN n rs).map fun l => c.getD (l.getD j 0) 0)).map Slot.dat ++ [] := (List.append_nil _).symm
        rw [en]
        refine da_d (de_var 5) (da_starL (DE.cast (de_lcW (own := [("states", 6)]) (ds := (tabD n rs).map (·.2)) (is := [6]) (f := one1) (g := gName 6) (src_nv (de_var 0)) (pgb_name 6 scClasses.nd) (tg_name 6) _ ⟨by rfl, rfl⟩ (by decide) (fun d _ => ⟨[d], rfl⟩) (by rw [List.length_map]; unfold tabD; rw [List.length_map, sig_len]; decide) (lcW_pure (F := fun cs => match cs with | [.lst xs] => some (D.int (c.getD (valI (xs.getD j .non)).toNat 0 : Nat)) | _ => none) ?_) (fun acc O3 h => h) scClasses.nd (blkOk_by rfl)) ?_) da_nil)
        · intro d hd cs hcs
          cases hcs
          rw [tab_vals hrs] at hd
          obtain ⟨l, hl, rfl⟩ := List.mem_map.mp hd
          have hll := tbl_len l hl
          have hlj := hok l hl j hj
          refine .inl ⟨_, rfl, difs_nil, fun s H C cl fp => ?_⟩
          rw [natD_getD (by rw [hll]; exact hj)]
          refine de_ixL (ds := natD c) (i := (l.getD j 0 : Nat)) (de_var 2) (de_ixL (ds := natD l) (i := (j : Int)) (de_var 6) (de_var 4) ?_) ?_
          · exact natD_at (by omega) (by rw [hll]; omega)
          · exact natD_at (by omega) (by rw [hpl]; omega)
        · rw [List.take_length, tab_vals hrs, List.filterMap_map]
          refine congrArg D.lst ?_
          have e : (tblN n rs).filterMap ((fun d => (one1 d).bind fun cs => match cs with | [.lst xs] => some (D.int (c.getD (valI (xs.getD j .non)).toNat 0 : Nat)) | _ => none) ∘ fun l => D.lst (natD l)) = (tblN n rs).filterMap fun l => some (D.int (c.getD (l.getD j 0) 0 : Nat)) := by
            refine fm_congr fun l hl => ?_
            show some (D.int (c.getD (valI ((natD l).getD j .non)).toNat 0 : Nat)) = _
            rw [natD_getD (by rw [tbl_len l hl]; exact hj)]
            rfl
          rw [e, List.filterMap_eq_map']
          unfold natD
          rw [List.map_map]
          rfl
      · rw [List.take_length, enD_eq, List.filterMap_map, natD_len, hpl]
        refine congrArg D.lst ?_
        show (List.range n).filterMap (fun (j : Nat) => some (D.tup (natD (keyN (tblN n rs) c ((j : Int)).toNat)))) = _
        rw [List.filterMap_eq_map']
        rfl
    · intro x hx
      obtain ⟨s, _, rfl⟩ := List.mem_map.mp hx
      rw [keyD_nat]
      rfl
    · have p0 : 0 < cntP n (tblN n rs) (bitsN n os) k := by omega
      have m0 := numb_max (l := c) hne
      have m1 := numb_max (l := pit n (tblN n rs) (bitsN n os) (k + 1)) hne1
      rw [numb_pit] at m1
      rw [← hc, numb_pit, hc] at m0
      have ec : Dz.cnt c = cntP n (tblN n rs) (bitsN n os) k := by unfold cntP; rw [hc]
      have hst := cnt_step (tb := tblN n rs) hbl k
      have eq0 : (decide (((cntP n (tblN n rs) (bitsN n os) (k + 1) - 1 : Nat) : Int) = ((cntP n (tblN n rs) (bitsN n os) k - 1 : Nat) : Int))) = decide (cntP n (tblN n rs) (bitsN n os) (k + 1) = cntP n (tblN n rs) (bitsN n os) k) := by
        rw [decide_eq_decide]
        omega
      refine ds_cons (d1_if (p := decide (cntP n (tblN n rs) (bitsN n os) (k + 1) = cntP n (tblN n rs) (bitsN n os) k)) (O1 := O2) (DT.cast (dt_eq (O1 := O2) (x := .int ((cntP n (tblN n rs) (bitsN n os) (k + 1) - 1 : Nat) : Int)) (y := .int ((cntP n (tblN n rs) (bitsN n os) k - 1 : Nat) : Int)) hr rfl rfl ?_ ?_) ((deq_int _ _).trans eq0)) (fun z => ?_) (fun z => ?_))
      · refine de_maxL (ns := (pit n (tblN n rs) (bitsN n os) (k + 1)).map fun (i : Nat) => (i : Int)) hmx (DE.cast (de_var 3) (by rw [natD_map])) ?_ ?_
        · exact List.mem_map.mpr ⟨_, m1.1, rfl⟩
        · intro y hy
          obtain ⟨i, hi, rfl⟩ := List.mem_map.mp hy
          exact Int.ofNat_le.mpr (m1.2 i hi)
      · refine de_maxL (ns := c.map fun (i : Nat) => (i : Int)) hmx (DE.cast (de_var 2) (by rw [natD_map])) ?_ ?_
        · rw [← ec]
          exact List.mem_map.mpr ⟨_, m0.1, rfl⟩
        · intro y hy
          rw [← ec]
          obtain ⟨i, hi, rfl⟩ := List.mem_map.mp hy
          exact Int.ofNat_le.mpr (m0.2 i hi)
      · have z' := of_decide_eq_true z
        have hs := same_next hok hbl k z'
        have hkn : k ≤ n := by omega
        have e : clsN n rs os = c := by
          unfold clsN
          have q := same_on hs (n - k)
          have ek : k + (n - k) = n := by omega
          rw [ek] at q
          rw [q, hc]
        refine ds_one (d1_ret (s := .dat (.lst (natD c))) (DE.dv (de_var 2)) ⟨?_, rfl⟩)
        rw [e]
      · have z' := of_decide_eq_false z
        refine ds_nil (ds_one (d1_set 2 (DE.dv (de_var 3)) ⟨n - cntP n (tblN n rs) (bitsN n os) (k + 1), by omega, k + 1, _, rfl, rfl, rfl, by omega⟩ scClasses.nd))
end
end Dg

namespace Dz
open PySem PySem.Spec PyProof.Rows L2 GxR
section
variable {T : List Addr} {X : Cx} {ρ : List Slot} {O O1 : OH} {e : Expr} {ds : List D}
/-- if x, x a list -/
theorem dt_truL (ha : DE T X e ρ O (.lst ds) O1) (he : ∀ whole, isTrue e X.env whole = (do let v ← whole; standAt e.pos; holding [v] (truthy v)) := by intro _; rfl) : DT T X e ρ O (!ds.isEmpty) O1 :=
  .mk fun σ B H hE hA Q q => wt_of (pt_truth pe_we he) (ha σ B H hE hA _ fun v B1 H1 p1 r1 => by
    cases r1 with
    | lst hq r =>
      rename_i a xs
      refine ⟨!ds.isEmpty, .inl ⟨xs, SqL.of (p1.at'.base _ _ hq), ?_⟩, q B1 H1 p1⟩
      cases r <;> rfl)
end
/-! ### the members, one after another -/
theorem nd_lt : ∀ (n : Nat) (l : List Nat), l.Nodup → (∀ x ∈ l, x < n) → l.length ≤ n
  | 0, [], _, _ => Nat.le_refl _
  | 0, x :: _, _, h => absurd (h x List.mem_cons_self) (Nat.not_lt_zero _)
  | n + 1, l, hn, h => by
    have q := nd_lt n (l.erase n) (hn.erase n) fun x hx => by
      have h1 := h x (List.mem_of_mem_erase hx)
      have h2 : x ≠ n := fun e => by
        rw [e] at hx
        exact (List.Nodup.mem_erase_iff hn).mp hx |>.1 rfl
      omega
    by_cases m : n ∈ l
    · rw [List.length_erase_of_mem m] at q
      omega
    · rw [List.erase_of_not_mem m] at q
      omega
def vis (c ord : List Nat) (to : Nat) : List Nat := if c.getD to 0 ∈ ord.map (fun s => c.getD s 0) then ord else ord ++ [to]
def visS (tb : List (List Nat)) (c ord : List Nat) (s : Nat) : List Nat := tb.foldl (fun o l => vis c o (l.getD s 0)) ord
def ordK (tb : List (List Nat)) (c : List Nat) : Nat → List Nat
  | 0 => [0]
  | k + 1 => if k < (ordK tb c k).length then visS tb c (ordK tb c k) ((ordK tb c k).getD k 0) else ordK tb c k
section
variable {n : Nat} {tb : List (List Nat)} {c : List Nat}
theorem vis_pre (c ord : List Nat) (to : Nat) : ∃ m, vis c ord to = ord ++ m := by
  unfold vis
  split
  · exact ⟨[], by simp⟩
  · exact ⟨_, rfl⟩
theorem fold_pre (c : List Nat) (s : Nat) : ∀ (tb : List (List Nat)) (ord : List Nat), ∃ m, tb.foldl (fun o l => vis c o (l.getD s 0)) ord = ord ++ m
  | [], ord => ⟨[], by simp⟩
  | l :: tb, ord => by
    obtain ⟨m1, e1⟩ := vis_pre c ord (l.getD s 0)
    obtain ⟨m2, e2⟩ := fold_pre c s tb (vis c ord (l.getD s 0))
    exact ⟨m1 ++ m2, by rw [List.foldl_cons, e2, e1, List.append_assoc]⟩
theorem ord_pre (k : Nat) : ∃ m, ordK tb c (k + 1) = ordK tb c k ++ m := by
  show ∃ m, (if k < (ordK tb c k).length then visS tb c (ordK tb c k) ((ordK tb c k).getD k 0) else ordK tb c k) = _
  split
  · exact fold_pre c _ tb _
  · exact ⟨[], by simp⟩
theorem ord_pre2 (k : Nat) : ∀ j, ∃ m, ordK tb c (k + j) = ordK tb c k ++ m
  | 0 => ⟨[], by simp⟩
  | j + 1 => by
    obtain ⟨m1, e1⟩ := ord_pre2 k j
    obtain ⟨m2, e2⟩ := ord_pre (tb := tb) (c := c) (k + j)
    exact ⟨m1 ++ m2, by rw [← Nat.add_assoc, e2, e1, List.append_assoc]⟩
theorem ord_at {k j i : Nat} {x : Nat} (h : (ordK tb c k)[i]? = some x) : (ordK tb c (k + j))[i]? = some x := by
  obtain ⟨m, e⟩ := ord_pre2 (tb := tb) (c := c) k j
  rw [e, List.getElem?_append_left (List.getElem?_eq_some_iff.mp h).1]
  exact h
/-- distinct classes, states of the listener -/
structure OrdOk (n : Nat) (c ord : List Nat) : Prop where
  nd : (ord.map fun s => c.getD s 0).Nodup
  lt : ∀ s ∈ ord, s < n
theorem OrdOk.vis {ord : List Nat} {to : Nat} (h : OrdOk n c ord) (ht : to < n) : OrdOk n c (Dz.vis c ord to) := by
  unfold Dz.vis
  split
  · exact h
  · rename_i hn
    refine ⟨?_, fun s hs => ?_⟩
    · rw [List.map_append]
      refine List.nodup_append.mpr ⟨h.nd, by simp, fun a ha b hb e => ?_⟩
      rw [List.map_cons, List.map_nil, List.mem_singleton] at hb
      exact hn (by rw [← hb, ← e]; exact ha)
    · rcases List.mem_append.mp hs with q | q
      · exact h.lt s q
      · rw [List.mem_singleton] at q
        rw [q]
        exact ht
theorem OrdOk.fold {s : Nat} (hs : s < n) : ∀ (tb : List (List Nat)) (ord : List Nat), TbOk n tb → OrdOk n c ord → OrdOk n c (tb.foldl (fun o l => Dz.vis c o (l.getD s 0)) ord)
  | [], ord, _, h => h
  | l :: tb, ord, ok, h => by
    rw [List.foldl_cons]
    exact OrdOk.fold hs tb _ (fun l' hl' => ok l' (List.mem_cons_of_mem _ hl')) (h.vis (ok l List.mem_cons_self s hs))
theorem OrdOk.k (n0 : 0 < n) (ok : TbOk n tb) : ∀ k, OrdOk n c (ordK tb c k)
  | 0 => ⟨by show [c.getD 0 0].Nodup; simp, fun s hs => by
      rw [show ordK tb c 0 = [0] from rfl, List.mem_singleton] at hs
      rw [hs]
      exact n0⟩
  | k + 1 => by
    show OrdOk n c (if k < (ordK tb c k).length then visS tb c (ordK tb c k) ((ordK tb c k).getD k 0) else ordK tb c k)
    have h := OrdOk.k n0 ok k
    split
    · rename_i hk
      exact OrdOk.fold (h.lt _ (List.mem_of_getElem? (getD_some hk))) tb _ ok h
    · exact h
theorem OrdOk.len {ord : List Nat} (h : OrdOk n c ord) : ord.length ≤ n := by
  refine nd_lt n ord ?_ h.lt
  have q := h.nd
  clear h
  induction ord with
  | nil => exact List.nodup_nil
  | cons x ord ih =>
    rw [List.map_cons, List.nodup_cons] at q
    rw [List.nodup_cons]
    exact ⟨fun m => q.1 (List.mem_map.mpr ⟨x, m, rfl⟩), ih q.2⟩
theorem ord_stay {k : Nat} (h : (ordK tb c k).length ≤ k) : ∀ j, ordK tb c (k + j) = ordK tb c k
  | 0 => rfl
  | j + 1 => by
    show (if k + j < (ordK tb c (k + j)).length then _ else ordK tb c (k + j)) = _
    rw [ord_stay h j, if_neg (by omega)]
end
end Dz
namespace Dg
open PySem PySem.Spec PyProof.Rows L2 GxR Dz
/-- the dict of the members by their classes -/
def fdD (c ord : List Nat) : List (Key × D) := ord.map fun s => (.inl (c.getD s 0 : Nat), .int (s : Nat))
def memN (n : Nat) (rs : List D) (os : List Int) : List Nat := ordK (tblN n rs) (clsN n rs os) n
theorem fdD_any (c ord : List Nat) (k : Nat) : ((fdD c ord).map fun q => (q.1, Slot.dat q.2)).any (fun kv => decide (kv.1 = (.inl (k : Int) : Key))) = decide (k ∈ ord.map fun s => c.getD s 0) := by
  unfold fdD
  rw [List.map_map, List.any_map]
  induction ord with
  | nil => rfl
  | cons x ord ih =>
    rw [List.any_cons, ih, List.map_cons]
    show (decide ((.inl ((c.getD x 0 : Nat) : Int) : Key) = .inl (k : Int)) || decide (k ∈ ord.map fun s => c.getD s 0)) = decide (k ∈ c.getD x 0 :: ord.map fun s => c.getD s 0)
    rw [← Bool.decide_or, decide_eq_decide, List.mem_cons]
    refine or_congr_left ⟨fun z => (Int.ofNat.inj (Sum.inl.inj z)).symm, fun z => ?_⟩
    rw [← z]
theorem fdD_snoc (c ord : List Nat) (x : Nat) : fdD c (ord ++ [x]) = fdD c ord ++ [(.inl (c.getD x 0 : Nat), .int (x : Nat))] := by
  unfold fdD
  rw [List.map_append]
  rfl
theorem put_cm {O : OH} {p q : Addr} {a b : OD} (h : p ≠ q) : put (put O p a) q b = put (put O q b) p a := by
  funext c
  unfold put
  by_cases h1 : c = q
  · by_cases h2 : c = p
    · exact absurd (h2.symm.trans h1) h
    · rw [if_pos h1, if_neg h2, if_pos h1]
  · rw [if_neg h1]
    by_cases h2 : c = p
    · rw [if_pos h2, if_pos h2]
    · rw [if_neg h2, if_neg h2, if_neg h1]
/-- the owned dict, the owned row -/
def oFd (c ord : List Nat) : OD := .dic ((fdD c ord).map fun q => (q.1, Slot.dat q.2))
def oRw (l : List Nat) : OD := .lst ((natD l).map .dat)
theorem natD_snoc (l : List Nat) (x : Nat) : natD (l ++ [x]) = natD l ++ [.int (x : Nat)] := by
  unfold natD
  rw [List.map_append]
  rfl
section
variable {P : Program} {w : World} {K : PySem.W.Frag} {mg : Str → Option Value} {base : Heap} {T : List Addr} {CE fI : Addr}
theorem scFirst : FnScope ["table", "classes", "found", "row", "longer", "state", "states", "following"] ["table", "classes"] (defScope s_first_members) := ⟨rfl, rfl, rfl, by decide +kernel, rfl, by decide +kernel, by decide +kernel⟩
def pFirst (w : World) (ss : List Slot) (O : OH) (d : D) (O' : OH) : Prop := ∃ (n : Nat) (rs : List D) (c : List Nat), ss = [.dat (.dicN w (tabD n rs)), .dat (.lst (natD c))] ∧ 0 < n ∧ n ≤ 60 ∧ c.length = n ∧ (∀ r ∈ rs, isRule (n : Int) r = true) ∧ d = .lst (natD (ordK (tblN n rs) c n)) ∧ O' = O
theorem ok_first {f : Addr} {fd : FuncData} {cdv : Value} (F : FunC K "first_members" "first_members" s_first_members f fd cdv) (L : Blt mg) : FnOk P w K mg base CX0 1 f fd ["table", "classes"] (spF T K (pFirst w)) := by
  refine fn_ok (CE := (0 : Addr)) (R := pFirst w) F scFirst (fun ss O d O' ⟨n, rs, c, h, _⟩ => by rw [h]; rfl) fun A outer s H E ss O d O' hr h => ?_
  obtain ⟨n, rs, c, e1, n0, n1, hcl, hrs, e2, e3⟩ := h
  subst e1 e2 e3
  have hok := tbl_ok (n := n) hrs
  have c0 : atI (natD c) 0 = some (.int (c.getD 0 0 : Nat)) := natD_at (i := 0) (by decide) (by rw [hcl]; omega)
  refine ds_cons (d1_ownDic 2 (kd := fdD c [0]) (dp_key (k := .inl (c.getD 0 0 : Nat)) (kx := .int (c.getD 0 0 : Nat)) keyI (de_ixL (ds := natD c) (i := 0) (de_var 1) de_int c0) (de_int (i := 0)) dp_nil) (fun p hp => ?_) scFirst.nd (by simp [fdD]) (by show 1 ≤ 15; decide))
  refine ds_cons (d1_set 3 (s := .dat (.lst (natD [0]))) (DE.dv (de_lst (ds := natD [0]) (da_d de_int da_nil) (by decide))) ?_ scFirst.nd)
  generalize htb : tblN n rs = tb at hok
  have tbv : (tabD n rs).map (·.2) = tb.map fun l => D.lst (natD l) := by rw [tab_vals hrs, htb]
  have tbl : ∀ l ∈ tb, l.length = n := by rw [← htb]; exact tbl_len
  have cls : ∀ {x : Nat}, x < n → atI (natD c) (x : Int) = some (.int (c.getD x 0 : Nat)) := fun {x} hx => natD_at (by omega) (by rw [hcl]; omega)
  refine ds_mid (fun ρ' O2 => ∃ s3 s4 s5 s6 s7, ρ' = [.dat (.dicN w (tabD n rs)), .dat (.lst (natD c)), .val (.ref p), s3, s4, s5, s6, s7] ∧ O2 = put O' p (oFd c (ordK tb c n)))
    (d1_while (fun m ρ' O2 => ∃ i s4 s5 s6 s7, ρ' = [.dat (.dicN w (tabD n rs)), .dat (.lst (natD c)), .val (.ref p), .dat (.lst (natD ((ordK tb c i).drop i))), s4, s5, s6, s7] ∧ O2 = put O' p (oFd c (ordK tb c i)) ∧ m = n - i ∧ i ≤ (ordK tb c i).length) n ⟨0, _, _, _, _, rfl, rfl, rfl, Nat.zero_le _⟩ ?_ PassesOwn.never) ?_
  · rintro m ρ' O2 ⟨i, s4, s5, s6, s7, rfl, rfl, rfl, hi⟩
    have hio := OrdOk.k (c := c) n0 hok i
    have hiL := hio.len
    refine ⟨!(natD ((ordK tb c i).drop i)).isEmpty, _, dt_truL (de_var 3), fun z => ?_, fun z => ?_⟩
    · have hlt : i < (ordK tb c i).length := by
        rcases Nat.lt_or_ge i (ordK tb c i).length with q | q
        · exact q
        · rw [List.drop_of_length_le q] at z
          cases z
      generalize hL : (ordK tb c i).length = L at hlt hiL
      refine ds_cons (d1_own 4 da_nil (fun q hq => ?_) scFirst.nd)
      have hqp : p ≠ q := fun e => by
        rw [← e, put_same] at hq
        cases hq
      have hqO : O' q = none := by
        rw [put_ne (fun e => hqp e.symm)] at hq
        exact hq
      have dropL : ∀ j, ∃ mm, ordK tb c (i + j) = ordK tb c i ++ mm := fun j => ord_pre2 i j
      have lenL : ∀ j, L ≤ (ordK tb c (i + j)).length := fun j => by
        obtain ⟨mm, e⟩ := dropL j
        rw [e, List.length_append, hL]
        omega
      refine ds_mid (fun ρ' O2 => ∃ s5 s6 s7, ρ' = [.dat (.dicN w (tabD n rs)), .dat (.lst (natD c)), .val (.ref p), .dat (.lst (natD ((ordK tb c i).drop i))), .val (.ref q), s5, s6, s7] ∧ O2 = put (put O' p (oFd c (ordK tb c L))) q (oRw ((ordK tb c L).drop L)))
        (d1_forW (ds := natD ((ordK tb c i).drop i)) (is := [5]) (g := gName 5) (f := one1) (fun j ρ' O2 => ∃ s5 s6 s7, ρ' = [.dat (.dicN w (tabD n rs)), .dat (.lst (natD c)), .val (.ref p), .dat (.lst (natD ((ordK tb c i).drop i))), .val (.ref q), s5, s6, s7] ∧ O2 = put (put O' p (oFd c (ordK tb c (i + j)))) q (oRw ((ordK tb c (i + j)).drop L)))
          (src_list (de_var 3)) (pg_nameN 5 scFirst.nd) (tg_name 5) ⟨_, _, _, rfl, ?_⟩ (fun d _ => ⟨[d], rfl⟩) ?_ ?_ PassesOwn.never) ?_
      · rw [Nat.add_zero, ← hL, List.drop_length]
        rfl
      · rintro j d cs ρ' O2 hj hcs ⟨s5, s6, s7, rfl, rfl⟩
        cases hcs
        unfold natD at hj
        rw [List.getElem?_map, List.getElem?_drop] at hj
        obtain ⟨x, hx, rfl⟩ := Option.map_eq_some_iff.mp hj
        have hxn : x < n := hio.lt x (List.mem_of_getElem? hx)
        have hij : i + j < L := by rw [← hL]; exact (List.getElem?_eq_some_iff.mp hx).1
        have hx2 := ord_at (j := j) hx
        have hx3 : (ordK tb c (i + j)).getD (i + j) 0 = x := by rw [List.getD_eq_getElem?_getD, hx2]; rfl
        have hnext : ordK tb c (i + (j + 1)) = visS tb c (ordK tb c (i + j)) x := by
          show (if i + j < (ordK tb c (i + j)).length then visS tb c (ordK tb c (i + j)) ((ordK tb c (i + j)).getD (i + j) 0) else ordK tb c (i + j)) = _
          rw [if_pos (by have := lenL j; omega), hx3]
        have hll := lenL j
        have hO0 := OrdOk.k (c := c) n0 hok (i + j)
        rw [hnext]
        unfold visS
        generalize ordK tb c (i + j) = o0 at hll hO0
        refine ds_one (d1_forW (ds := (tabD n rs).map (·.2)) (is := [6]) (g := gName 6) (f := one1) (fun t ρ' O2 => ∃ s6 s7, ρ' = [.dat (.dicN w (tabD n rs)), .dat (.lst (natD c)), .val (.ref p), .dat (.lst (natD ((ordK tb c i).drop i))), .val (.ref q), .dat (.int (x : Nat)), s6, s7] ∧ L ≤ ((tb.take t).foldl (fun o l => vis c o (l.getD x 0)) o0).length ∧ O2 = put (put O' p (oFd c ((tb.take t).foldl (fun o l => vis c o (l.getD x 0)) o0))) q (oRw (((tb.take t).foldl (fun o l => vis c o (l.getD x 0)) o0).drop L)))
          (src_nv (de_var 0)) (pg_nameN 6 scFirst.nd) (tg_name 6) ⟨_, _, rfl, hll, rfl⟩ (fun d _ => ⟨[d], rfl⟩) ?_ ?_ PassesOwn.never)
        · rintro t d cs ρ' O2 ht hcs ⟨s6, s7, rfl, hLt, rfl⟩
          cases hcs
          rw [tbv, List.getElem?_map] at ht
          obtain ⟨l, hl, rfl⟩ := Option.map_eq_some_iff.mp ht
          have hlm := List.mem_of_getElem? hl
          have hln := tbl l hlm
          have hto := hok l hlm x hxn
          have et : tb.take (t + 1) = tb.take t ++ [l] := by rw [List.take_add_one, hl]; rfl
          rw [et, List.foldl_append, List.foldl_cons, List.foldl_nil]
          have hO1 := (OrdOk.fold hxn (tb.take t) o0 (fun l' hl' => hok l' (List.mem_of_mem_take hl')) hO0).len
          generalize (tb.take t).foldl (fun o l => vis c o (l.getD x 0)) o0 = o1 at hLt hO1
          generalize hf : l.getD x 0 = y at hto
          refine ds_cons (d1_set 7 (s := .dat (.int (y : Nat))) (DE.dv (de_ixL (ds := natD l) (i := (x : Int)) (de_var 6) (de_var 5) (by rw [natD_at (by omega) (by rw [hln]; omega)]; show some (D.int (l.getD ((x : Int)).toNat 0 : Nat)) = _; rw [show ((x : Int)).toNat = x by omega, hf]))) ?_ scFirst.nd)
          have hany := fdD_any c o1 (c.getD y 0)
          refine ds_one (d1_if (p := !decide (c.getD y 0 ∈ o1.map fun s => c.getD s 0)) (O1 := put (put O' p (oFd c o1)) q (oRw (o1.drop L))) (DT.cast (dt_nkinO (key := .inl (c.getD y 0 : Nat)) (so := (fdD c o1).map fun q => (q.1, Slot.dat q.2)) hr (de_ixL (ds := natD c) (i := (y : Int)) (de_var 1) (de_var 7) (cls hto)) keyI (dv_var 2 rfl) (by rw [put_ne hqp, put_same]; rfl)) (by rw [hany])) (fun z => ?_) (fun z => ds_nil ?_))
          · have hn : c.getD y 0 ∉ o1.map fun s => c.getD s 0 := by simpa using z
            have ev : vis c o1 y = o1 ++ [y] := if_neg hn
            rw [ev]
            have hanyF : (((fdD c o1).map fun q => (q.1, Slot.dat q.2)).any fun kv => decide (kv.1 = (.inl ((c.getD y 0 : Nat) : Int) : Key))) = false := by rw [hany]; exact decide_eq_false hn
            refine ds_cons (d1_dput (j := 0) (k := .inl (c.getD y 0 : Nat)) (so := (fdD c o1).map fun q => (q.1, Slot.dat q.2)) 2 hr rfl (DE.dv (de_var 7)) (de_ixL (ds := natD c) (i := (y : Int)) (de_var 1) (de_var 7) (cls hto)) keyI (by rw [put_ne hqp, put_same]; rfl) (by rw [List.length_map]; unfold fdD; rw [List.length_map]; omega) ?_)
            have eS : putKS ((fdD c o1).map fun q => (q.1, Slot.dat q.2)) (.inl ((c.getD y 0 : Nat) : Int)) (.dat (.int (y : Nat))) = (fdD c (o1 ++ [y])).map fun q => (q.1, Slot.dat q.2) := by
              unfold putKS
              rw [if_neg (by rw [hanyF]; exact Bool.false_ne_true), fdD_snoc, List.map_append]
              rfl
            rw [eS]
            have eO : put (put (put O' p (oFd c o1)) q (oRw (o1.drop L))) p (.dic ((fdD c (o1 ++ [y])).map fun q => (q.1, Slot.dat q.2))) = put (put O' p (oFd c (o1 ++ [y]))) q (oRw (o1.drop L)) := by
              rw [put_cm hqp, put_put]
              exact (put_cm hqp).symm
            rw [eO]
            refine ds_one (d1_append (ss := (natD (o1.drop L)).map .dat) (s0 := (natD (o1.drop L)).map .dat) 4 rfl put_same (DE.dv (de_var 7)) put_same (by rw [List.length_map, natD_len, List.length_drop]; omega) ⟨_, _, rfl, by rw [List.length_append]; omega, ?_⟩)
            rw [put_put, List.drop_append_of_le_length hLt]
            unfold oRw
            rw [natD_snoc, List.map_append]
            rfl
          · have hm : c.getD y 0 ∈ o1.map fun s => c.getD s 0 := by simpa using z
            have ev : vis c o1 y = o1 := if_pos hm
            rw [ev]
            exact ⟨_, _, rfl, hLt, rfl⟩
        · rintro ρ' O2 ⟨s6, s7, rfl, hLt, rfl⟩
          have e : ((tabD n rs).map (·.2)).length = tb.length := by rw [tbv, List.length_map]
          rw [e, List.take_length]
          exact ⟨_, _, _, rfl, rfl⟩
      · rintro ρ' O2 ⟨s5, s6, s7, rfl, rfl⟩
        have e : i + (natD ((ordK tb c i).drop i)).length = L := by rw [natD_len, List.length_drop, hL]; omega
        rw [e]
        exact ⟨_, _, _, rfl, rfl⟩
      · rintro ρ' O2 ⟨s5, s6, s7, rfl, rfl⟩
        refine ds_freeze 4 rfl put_same (ds_one (d1_set 3 (DE.dv (de_var 4)) ⟨n - L, by omega, L, _, _, _, _, rfl, ?_, rfl, ?_⟩ scFirst.nd))
        · exact cut_put (by rw [put_ne (fun e => hqp e.symm)]; exact hqO)
        · have q2 := lenL (L - i)
          have e : i + (L - i) = L := by omega
          rw [e] at q2
          exact q2
    · have hge : (ordK tb c i).length ≤ i := by
        rcases Nat.lt_or_ge i (ordK tb c i).length with q | q
        · have h2 : (natD ((ordK tb c i).drop i)).length = (ordK tb c i).length - i := by rw [natD_len, List.length_drop]
          have z' : (natD ((ordK tb c i).drop i)).isEmpty = true := by simpa using z
          rw [List.isEmpty_iff] at z'
          rw [z'] at h2
          have : (ordK tb c i).length - i = 0 := h2.symm
          omega
        · exact q
      have e : ordK tb c n = ordK tb c i := by
        have q := ord_stay hge (n - i)
        have ei : i + (n - i) = n := by omega
        rw [ei] at q
        exact q
      exact ⟨_, _, _, _, _, rfl, by rw [e]⟩
  · rintro ρ' O2 ⟨s3, s4, s5, s6, s7, rfl, rfl⟩
    refine ds_one (d1_retC p (s := .dat (.lst (natD (ordK tb c n)))) (DE.dv (DE.cast (de_listVals (kd := fdD c (ordK tb c n)) L.list (dv_var 2 rfl) put_same) ?_)) ⟨rfl, cut_put hp⟩)
    unfold fdD natD
    rw [List.map_map]
    rfl
end
end Dg

namespace Dz
open PySem PySem.Spec PyProof.Rows L2 GxR
/-! ### what is reached is among the members -/
section
variable {n : Nat} {tb : List (List Nat)} {c : List Nat}
theorem vis_has (c ord : List Nat) (to : Nat) : c.getD to 0 ∈ (vis c ord to).map fun s => c.getD s 0 := by
  unfold vis
  split
  · assumption
  · rw [List.map_append]
    exact List.mem_append_right _ (by simp)
theorem fold_has (c : List Nat) (s : Nat) : ∀ (tb : List (List Nat)) (ord : List Nat) (l : List Nat), l ∈ tb → c.getD (l.getD s 0) 0 ∈ (tb.foldl (fun o l => vis c o (l.getD s 0)) ord).map fun s => c.getD s 0
  | x :: tb, ord, l, hl => by
    rw [List.foldl_cons]
    rcases List.mem_cons.mp hl with rfl | hl
    · obtain ⟨m, e⟩ := fold_pre c s tb (vis c ord (l.getD s 0))
      rw [e, List.map_append]
      exact List.mem_append_left _ (vis_has c ord _)
    · exact fold_has c s tb _ l hl
theorem ord_closed (n0 : 0 < n) (ok : TbOk n tb) {k : Nat} (hk : k < (ordK tb c n).length) {l : List Nat} (hl : l ∈ tb) : c.getD (l.getD ((ordK tb c n).getD k 0) 0) 0 ∈ (ordK tb c n).map fun s => c.getD s 0 := by
  have hn := (OrdOk.k (c := c) n0 ok n).len
  have hkn : k < n := by omega
  have hkk : k < (ordK tb c k).length := by
    rcases Nat.lt_or_ge k (ordK tb c k).length with q | q
    · exact q
    · have e := ord_stay q (n - k)
      have ek : k + (n - k) = n := by omega
      rw [ek] at e
      rw [e] at hk
      exact absurd hk (by omega)
  have e1 : (ordK tb c n).getD k 0 = (ordK tb c k).getD k 0 := by
    have h1 := ord_at (j := n - k) (getD_some hkk)
    have ek : k + (n - k) = n := by omega
    rw [ek] at h1
    rw [List.getD_eq_getElem?_getD, h1]
    rfl
  have e2 : ordK tb c (k + 1) = visS tb c (ordK tb c k) ((ordK tb c k).getD k 0) := by
    show (if k < (ordK tb c k).length then _ else _) = _
    rw [if_pos hkk]
  obtain ⟨m, e3⟩ := ord_pre2 (tb := tb) (c := c) (k + 1) (n - (k + 1))
  have ek : k + 1 + (n - (k + 1)) = n := by omega
  rw [ek] at e3
  rw [e1, e3, List.map_append, e2]
  exact List.mem_append_left _ (fold_has c _ tb _ l hl)
end
end Dz
namespace Dg
open PySem PySem.Spec PyProof.Rows L2 GxR Dz
/-- a rule of the merged listener -/
def ruleAt (k : Nat) (sig : D) (i : Nat) : D := match sig with
  | .tup [h1, h2, h3, h4] => .tup [.int (k : Int), h1, h2, h3, h4, .int (i : Int)]
  | _ => .non
def ruleTo (n : Nat) (rs : List D) (c mem : List Nat) (k : Nat) (sig : D) : Option D :=
  if c.getD ((stN n rs sig).getD (mem.getD k 0) 0) 0 = c.getD (mem.getD k 0) 0 then none else some (ruleAt k sig (idx (mem.map fun s => c.getD s 0) (c.getD ((stN n rs sig).getD (mem.getD k 0) 0) 0)))
def rulN (n : Nat) (rs : List D) (c mem : List Nat) : List D := (List.range mem.length).flatMap fun k => signals.filterMap (ruleTo n rs c mem k)
def onN (os : List Int) (mem : List Nat) : List Int := (List.range mem.length).filterMap fun (k : Nat) => if ((mem.getD k 0 : Nat) : Int) ∈ os then some (k : Int) else none
theorem onN_asc (os : List Int) (mem : List Nat) : (onN os mem).Pairwise (· < ·) := by
  unfold onN
  rw [List.pairwise_filterMap]
  refine List.Pairwise.imp ?_ List.pairwise_lt_range
  intro a b h x hx y hy
  split at hx
  · cases hx
    split at hy
    · cases hy
      omega
    · cases hy
  · cases hx
theorem onN_lt (os : List Int) (mem : List Nat) : ∀ o ∈ onN os mem, 0 ≤ o ∧ o < (mem.length : Int) := by
  intro o ho
  unfold onN at ho
  obtain ⟨k, hk, e⟩ := List.mem_filterMap.mp ho
  rw [List.mem_range] at hk
  split at e
  · cases e
    omega
  · cases e
theorem sig_words : ∀ s ∈ signals, ∃ h1 h2 h3 h4, s = .tup [h1, h2, h3, h4] ∧ isWord KINDS h1 = true ∧ isWord SIDES h2 = true ∧ isaBool h3 = true ∧ isWord RELS h4 = true := by
  have h : signals.all (fun s => match s with | .tup [h1, h2, h3, h4] => isWord KINDS h1 && (isWord SIDES h2 && (isaBool h3 && isWord RELS h4)) | _ => false) = true := by decide +kernel
  intro s hs
  have q := List.all_eq_true.mp h s hs
  split at q
  · simp only [Bool.and_eq_true] at q
    exact ⟨_, _, _, _, rfl, q.1, q.2.1, q.2.2.1, q.2.2.2⟩
  · cases q
theorem ruleAt_ok {m k i : Nat} {sig : D} (hs : sig ∈ signals) (hk : k < m) (hi : i < m) : isRule (m : Int) (ruleAt k sig i) = true := by
  obtain ⟨h1, h2, h3, h4, rfl, w1, w2, w3, w4⟩ := sig_words sig hs
  show isRule (m : Int) (.tup [.int (k : Int), h1, h2, h3, h4, .int (i : Int)]) = true
  rw [isRule_tup, w1, w2, w3, w4]
  have b : ∀ {j : Nat}, j < m → isBelow (m : Int) (.int (j : Int)) = true := fun {j} hj => by
    show (decide (0 ≤ (j : Int)) && decide ((j : Int) < (m : Int))) = true
    rw [decide_eq_true (by omega), decide_eq_true (by omega)]
    rfl
  rw [b hk, b hi]
  simp
theorem rul_len {n : Nat} {rs : List D} {c mem : List Nat} : (rulN n rs c mem).length ≤ mem.length * 90 := by
  unfold rulN
  have h : ∀ m : Nat, ((List.range m).flatMap fun k => signals.filterMap (ruleTo n rs c mem k)).length ≤ m * 90 := by
    intro m
    induction m with
    | zero => simp
    | succ m ih =>
      rw [List.range_succ, List.flatMap_append, List.length_append]
      have : ([m].flatMap fun k => signals.filterMap (ruleTo n rs c mem k)).length ≤ 90 := by
        rw [List.flatMap_cons, List.flatMap_nil, List.append_nil]
        refine Nat.le_trans (List.length_filterMap_le _ _) ?_
        rw [sig_len]
        exact Nat.le_refl _
      omega
  exact h _
theorem rul_ok {n : Nat} {rs : List D} {c mem : List Nat} (cl : ∀ k, k < mem.length → ∀ l ∈ tblN n rs, c.getD (l.getD (mem.getD k 0) 0) 0 ∈ mem.map fun s => c.getD s 0) : ∀ r ∈ rulN n rs c mem, isRule (mem.length : Int) r = true := by
  intro r hr
  unfold rulN at hr
  obtain ⟨k, hk, h2⟩ := List.mem_flatMap.mp hr
  rw [List.mem_range] at hk
  obtain ⟨sig, hs, e⟩ := List.mem_filterMap.mp h2
  unfold ruleTo at e
  split at e
  · cases e
  · cases e
    refine ruleAt_ok hs hk ?_
    have q := idx_lt (cl k hk _ (List.mem_map.mpr ⟨sig, hs, rfl⟩))
    rw [List.length_map] at q
    exact q
/-- what the comprehension over the members and the table tells -/
def ruleF (c mem : List Nat) : List D → List D → Option D
  | [.int at_, .int s], [sig, .lst xs] => if c.getD (valI (xs.getD s.toNat .non)).toNat 0 = c.getD s.toNat 0 then none else some (ruleAt at_.toNat sig (idx (mem.map fun s => c.getD s 0) (c.getD (valI (xs.getD s.toNat .non)).toNat 0)))
  | _, _ => none
theorem rul_eq {n : Nat} {rs : List D} {c mem : List Nat} (hrs : ∀ r ∈ rs, isRule (n : Int) r = true) (hm : ∀ s ∈ mem, s < n) : lc2 (parts 2) (parts 2) (fun _ => itD (tabD n rs)) (ruleF c mem) (enD 0 (natD mem)) = rulN n rs c mem := by
  unfold lc2 rulN
  rw [enD_eq, List.flatMap_map, natD_len]
  have fl : ∀ {f g : Nat → List D} {l : List Nat}, (∀ k ∈ l, f k = g k) → l.flatMap f = l.flatMap g := by
    intro f g l
    induction l with
    | nil => exact fun _ => rfl
    | cons x l ih => intro h; rw [List.flatMap_cons, List.flatMap_cons, h x List.mem_cons_self, ih fun y hy => h y (List.mem_cons_of_mem _ hy)]
  refine fl fun k hk => ?_
  rw [List.mem_range] at hk
  have hs := hm _ (List.mem_of_getElem? (getD_some hk))
  rw [natD_getD hk]
  show (itD (tabD n rs)).filterMap (fun e => (parts 2 e).bind (ruleF c mem [.int (k : Int), .int (mem.getD k 0 : Nat)])) = _
  unfold itD tabD
  rw [List.map_map, List.filterMap_map]
  refine fm_congr fun sig hsig => ?_
  show ruleF c mem [.int (k : Int), .int (mem.getD k 0 : Nat)] [sig, .lst (stS n rs sig)] = _
  rw [stS_eq hrs hsig]
  show (if c.getD (valI ((natD (stN n rs sig)).getD (((mem.getD k 0 : Nat) : Int)).toNat .non)).toNat 0 = c.getD (((mem.getD k 0 : Nat) : Int)).toNat 0 then none else _) = _
  have e1 : (((mem.getD k 0 : Nat) : Int)).toNat = mem.getD k 0 := by omega
  rw [e1, natD_getD (by rw [stN_len hsig]; exact hs)]
  rfl
end Dg

namespace Dg
open PySem PySem.Spec PyProof.Rows L2 GxR Dz
def onF (os : List Int) : List D → Option D
  | [.int j, .int s] => if s ∈ os then some (.int j) else none
  | _ => none
theorem onN_dat (os : List Int) (mem : List Nat) : ((enD 0 (natD mem)).filterMap fun d => (parts 2 d).bind (onF os)) = (onN os mem).map .int := by
  rw [enD_eq, List.filterMap_map, natD_len]
  unfold onN
  rw [List.map_filterMap]
  refine fm_congr fun k hk => ?_
  rw [List.mem_range] at hk
  show ((parts 2 (D.tup [.int (k : Int), (natD mem).getD k .non])).bind (onF os)) = _
  rw [natD_getD hk]
  show (if ((mem.getD k 0 : Nat) : Int) ∈ os then some (D.int (k : Int)) else none) = _
  split <;> rfl
def numbD (c mem : List Nat) : List (Key × D) := (List.range mem.length).map fun (k : Nat) => (.inl ((c.getD (mem.getD k 0) 0 : Nat) : Int), .int (k : Int))
def numbF (c : List Nat) : List D → Option (Key × D)
  | [.int j, .int s] => some (.inl ((c.getD s.toNat 0 : Nat) : Int), .int j)
  | _ => none
theorem numbD_eq (c mem : List Nat) : ((enD 0 (natD mem)).filterMap fun d => (parts 2 d).bind (numbF c)) = numbD c mem := by
  rw [enD_eq, List.filterMap_map, natD_len]
  unfold numbD
  rw [← List.filterMap_eq_map']
  refine fm_congr fun k hk => ?_
  rw [List.mem_range] at hk
  show ((parts 2 (D.tup [.int (k : Int), (natD mem).getD k .non])).bind (numbF c)) = _
  rw [natD_getD hk]
  show some ((.inl ((c.getD (((mem.getD k 0 : Nat) : Int)).toNat 0 : Nat) : Int) : Key), D.int (k : Int)) = _
  have e1 : (((mem.getD k 0 : Nat) : Int)).toNat = mem.getD k 0 := by omega
  rw [e1]
theorem numbD_keys (c mem : List Nat) : (numbD c mem).map (·.1) = (mem.map fun s => c.getD s 0).map fun (i : Nat) => (.inl (i : Int) : Key) := by
  unfold numbD
  rw [List.map_map]
  have e : mem.map (fun s => c.getD s 0) = (List.range mem.length).map fun k => c.getD (mem.getD k 0) 0 := by
    have q := Dz.list_map (n := mem.length) (l := mem) rfl
    conv => lhs; rw [← q]
    rw [List.map_map]
    rfl
  rw [e, List.map_map]
  rfl
theorem numbD_get (c mem : List Nat) {i : Nat} (h : i ∈ mem.map fun s => c.getD s 0) : ((numbD c mem).find? fun kv => decide (kv.1 = (.inl (i : Int) : Key))).map (·.2) = some (.int (idx (mem.map fun s => c.getD s 0) i : Nat)) := by
  have gen : ∀ (l : List Nat) (b : Nat), i ∈ l → (((l.zipIdx b).map fun p => ((.inl ((p.1 : Nat) : Int) : Key), D.int (p.2 : Nat))).find? fun kv => decide (kv.1 = (.inl (i : Int) : Key))).map (·.2) = some (.int ((b + idx l i : Nat) : Int)) := by
    intro l
    induction l with
    | nil => intro b h; exact nomatch h
    | cons x l ih =>
      intro b hx
      rw [List.zipIdx_cons, List.map_cons]
      by_cases e : x = i
      · subst e
        rw [List.find?_cons_of_pos (by simp), idx_self]
        rfl
      · have e2 : ¬ ((.inl ((x : Nat) : Int) : Key) = .inl (i : Int)) := fun z => e (Int.ofNat.inj (Sum.inl.inj z))
        rw [List.find?_cons_of_neg (by simpa using fun z => e (by omega)), ih (b + 1) ((List.mem_cons.mp hx).resolve_left fun q => e q.symm), idx_ne _ e]
        have e3 : b + 1 + idx l i = b + (idx l i + 1) := by omega
        rw [e3]
  have e : numbD c mem = ((mem.map fun s => c.getD s 0).zipIdx 0).map fun p => ((.inl ((p.1 : Nat) : Int) : Key), D.int (p.2 : Nat)) := by
    unfold numbD
    refine List.ext_getElem? fun j => ?_
    rw [List.getElem?_map, List.getElem?_map, List.getElem?_zipIdx, List.getElem?_map]
    by_cases hj : j < mem.length
    · rw [List.getElem?_range hj, getD_some hj]
      simp
    · rw [List.getElem?_eq_none (by simp; omega), List.getElem?_eq_none (by omega)]
      rfl
  rw [e, gen _ 0 h, Nat.zero_add]
section
variable {P : Program} {w : World} {K : PySem.W.Frag} {mg : Str → Option Value} {base : Heap} {T : List Addr} {CE fI : Addr}
theorem scMerged : FnScope ["listener", "table", "classes", "members", "number", "rules", "at", "state", "signal", "states"] ["listener"] (defScope s_merged) := ⟨rfl, rfl, rfl, by decide +kernel, rfl, by decide +kernel, by decide +kernel⟩
def mgD (CL : Addr) (n : Nat) (os : List Int) (rs : List D) : D := insList CL (.int ((memN n rs os).length : Nat)) (.lst ((onN os (memN n rs os)).map .int)) (.lst (rulN n rs (clsN n rs os) (memN n rs os)))
def pMerged (CL : Addr) : PR := fun ss O Rn Rx => ∃ (n : Nat) (os : List Int) (rs : List D), ss = [.dat (insList CL (.int (n : Int)) (.lst (os.map .int)) (.lst rs))] ∧
  ((0 < n ∧ n ≤ 12 ∧ (∀ r ∈ rs, isRule (n : Int) r = true) ∧ rs.length ≤ 100 ∧ Rn = (fun v O' => v = .dat (mgD CL n os rs) ∧ O' = O) ∧ Rx = fun _ _ => False) ∨ (12 < n ∧ Rn = (fun _ _ => False) ∧ Rx = fun r O' => r = .str "too many states" ∧ O' = O))
theorem ok_merged {f g g1 g2 g3 g4 CL : Addr} {fd gd gd1 gd2 gd3 gd4 fdI : FuncData} {cdv um : Value} (F : FunC K "merged" "merged" s_merged f fd cdv) (L : Blt mg) (V : Err K mg CE fI) (A3 : Fld3 K CL "states" "on" "rules")
    (hM : mg "MOST_MERGED_STATES" = some um) (kM : kdB K 0 um (.int 12) = true) (EI : FnOk P w K mg base CX0 1 fI fdI ["self", "reason"] (spI CE)) (bI : Binds K fdI ["self", "reason"] [])
    (G1 : FnOk P w K mg base CX0 3 g1 gd1 ["listener"] (spF T K (pTable CL w))) (hg1 : mg "table_of" = some (.ref g1)) (kg1 : PySem.W.keepIn K (.ref g1) = true) (bg1 : Binds K gd1 ["listener"] [])
    (G2 : FnOk P w K mg base CX0 2 g2 gd2 ["table", "on"] (spF T K (pClasses w))) (hg2 : mg "classes_of" = some (.ref g2)) (kg2 : PySem.W.keepIn K (.ref g2) = true) (bg2 : Binds K gd2 ["table", "on"] [])
    (G3 : FnOk P w K mg base CX0 1 g3 gd3 ["listener"] (spF T K (pOnL CL))) (hg3 : mg "on_list" = some (.ref g3)) (kg3 : PySem.W.keepIn K (.ref g3) = true) (bg3 : Binds K gd3 ["listener"] [])
    (G4 : FnOk P w K mg base CX0 1 g4 gd4 ["table", "classes"] (spF T K (pFirst w))) (hg4 : mg "first_members" = some (.ref g4)) (kg4 : PySem.W.keepIn K (.ref g4) = true) (bg4 : Binds K gd4 ["table", "classes"] [])
    (M : Mk K CL g) (gS : mg "Listener" = some (.ref CL)) (G : FnOk P w K mg base (L2.CX P w) 6 g gd ["self", "states", "on", "rules"] (spX T K CE (pList CL))) (bg : Binds K gd ["self", "states", "on", "rules"] []) (hen : mg "enumerate" = none) :
    FnOk P w K mg base (L2.CX P w) 8 f fd ["listener"] (spX T K CE (pMerged CL)) := by
  refine fn_okX (R := pMerged CL) F scMerged (fun ss O Rn Rx ⟨n, os, rs, h, _⟩ => by rw [h]; rfl) fun A outer s H E ss O Rn Rx hr h => ?_
  obtain ⟨n, os, rs, e1, hcase⟩ := h
  subst e1
  have hN := scMerged.nd
  refine ds_cons (d1_if (p := decide ((12 : Int) < (n : Int))) (O1 := O) (dt_gt (de_fld A3.cl A3.a (de_var 0) rfl) (de_gk hM kM)) (fun z => ?_) (fun z => ds_nil ?_))
  · have z' := of_decide_eq_true z
    rcases hcase with ⟨_, h, _⟩ | ⟨_, eN, eX⟩
    · omega
    · subst eN eX
      exact ds_one (d1_raise V.o V.iC V.tI EI (hr.mono (by decide)) bI pass0 V.gC de_str ⟨rfl, rfl⟩)
  · have z' := of_decide_eq_false z
    rcases hcase with ⟨n0, n1, hrs, hrl, eN, eX⟩ | ⟨h, _⟩
    · subst eN eX
      have hok := tbl_ok (n := n) hrs
      have hcl : (clsN n rs os).length = n := pit_len (bits_len n os) n
      have hmo : OrdOk n (clsN n rs os) (memN n rs os) := OrdOk.k n0 hok n
      have hml := hmo.len
      have hmp : 0 < (memN n rs os).length := by
        obtain ⟨m, e⟩ := ord_pre2 (tb := tblN n rs) (c := clsN n rs os) 0 n
        rw [Nat.zero_add] at e
        unfold memN
        rw [e, List.length_append]
        show 0 < 1 + _
        omega
      have hclo : ∀ k, k < (memN n rs os).length → ∀ l ∈ tblN n rs, (clsN n rs os).getD (l.getD ((memN n rs os).getD k 0) 0) 0 ∈ (memN n rs os).map fun s => (clsN n rs os).getD s 0 := fun k hk l hl => ord_closed n0 hok hk hl
      have hrok := rul_ok hclo
      have hrle := rul_len (n := n) (rs := rs) (c := clsN n rs os) (mem := memN n rs os)
      refine ds_cons (d1_set 1 (s := .dat (.dicN w (tabD n rs))) (O1 := O) (DE.dv (de_call G1 (hr.mono (by decide)) hg1 kg1 bg1 pass0 (da_d (de_var 0) da_nil) ⟨n, _, rs, rfl, by omega, hrs, hrl, rfl, rfl⟩)) ?_ hN)
      refine ds_cons (d1_set 2 (s := .dat (.lst (natD (clsN n rs os)))) (O1 := O) (DE.dv (de_call G2 (hr.mono (by decide)) hg2 kg2 bg2 pass0 (da_d (de_var 1) (da_d (de_call G3 (hr.mono (by decide)) hg3 kg3 bg3 pass0 (da_d (de_var 0) da_nil) ⟨n, os, _, rfl, by omega, rfl, rfl⟩) da_nil)) ⟨n, rs, os, rfl, n0, by omega, hrs, rfl, rfl⟩)) ?_ hN)
      refine ds_cons (d1_set 3 (s := .dat (.lst (natD (memN n rs os)))) (O1 := O) (DE.dv (de_call G4 (hr.mono (by decide)) hg4 kg4 bg4 pass0 (da_d (de_var 1) (da_d (de_var 2) da_nil)) ⟨n, rs, clsN n rs os, rfl, n0, by omega, hcl, hrs, rfl, rfl⟩)) ?_ hN)
      have hmg : mgD CL n os rs = insList CL (.int ((memN n rs os).length : Nat)) (.lst ((onN os (memN n rs os)).map .int)) (.lst (rulN n rs (clsN n rs os) (memN n rs os))) := rfl
      rw [hmg]
      generalize clsN n rs os = c at hcl hmo hclo hrok hrle
      generalize memN n rs os = mem at hmo hml hmp hclo hrok hrle
      have hlt : ∀ k, k < mem.length → mem.getD k 0 < n := fun k hk => hmo.lt _ (List.mem_of_getElem? (getD_some hk))
      have cls : ∀ {x : Nat}, x < n → atI (natD c) (x : Int) = some (.int (c.getD x 0 : Nat)) := fun {x} hx => natD_at (by omega) (by rw [hcl]; omega)
      have nmz : ∀ {j : Nat}, j < mem.length → parts 2 (.tup [.int (j : Int), (natD mem).getD j .non]) = some [.int (j : Int), .int (mem.getD j 0 : Nat)] := fun {j} hj => by
        rw [natD_getD hj]
        rfl
      refine ds_cons (d1_set 4 (s := .dat (.dic (numbD c mem))) (O1 := O) (DE.dv (DE.cast (de_dcI (KD := fun k => match k with | .inl i => .int i | .inr x => .str x) (fun k B v r => by cases k <;> (cases r; rfl)) (own := [("at", 6), ("state", 7)]) (ds := enD 0 (natD mem)) (is := [6, 7]) (f := parts 2) (G := numbF c) (src_enL (de_var 3) hen) (pgb_tup [6, 7] hN (fun s H C cl fp => by repeat' (first | exact Dz.Names.nil | refine Dz.Names.cons rfl (by first | exact Or.inl rfl | exact Or.inr rfl) (by first | exact .inl rfl | exact .inr rfl) rfl ?_))) (tg_tup [6, 7]) (by decide) (fun d hd => by
          obtain ⟨j, _, rfl⟩ := enD_mem hd
          exact ⟨_, rfl⟩) (by rw [enD_length, natD_len]; omega) ?_ ?_ hN (blkOk_by rfl)) (by rw [numbD_eq]))) ?_ hN)
      · intro d hd cs hcs
        obtain ⟨j, hj, rfl⟩ := enD_mem hd
        rw [natD_len] at hj
        rw [nmz hj] at hcs
        cases hcs
        refine .inl ⟨_, rfl, difs_nil, fun s H C cl fp => ?_, fun s H C cl fp => de_var 6⟩
        have e1 : (((mem.getD j 0 : Nat) : Int)).toNat = mem.getD j 0 := by omega
        show DE T _ _ _ O (.int ((c.getD (((mem.getD j 0 : Nat) : Int)).toNat 0 : Nat) : Int)) O
        rw [e1]
        exact de_ixL (ds := natD c) (de_var 2) (de_var 7) (cls (hlt j hj))
      · rw [numbD_eq, numbD_keys]
        exact hmo.nd.map _ (fun a b hab e => hab (Int.ofNat.inj (Sum.inl.inj e)))
      · refine ds_cons (d1_setLcW2 (own := [("at", 6), ("state", 7), ("signal", 8), ("states", 9)]) (vs1 := [8, 9]) (ds := enD 0 (natD mem)) (is := [6, 7]) (is1 := [8, 9]) (f := parts 2) (f1 := parts 2) (S := fun _ => itD (tabD n rs)) (F := ruleF c mem) 5 (src_enL (de_var 3) hen)
          (pgb_tup [6, 7] hN (fun s H C cl fp => by repeat' (first | exact Dz.Names.nil | refine Dz.Names.cons rfl (by first | exact Or.inl rfl | exact Or.inr rfl) (by first | exact .inl rfl | exact .inr rfl) rfl ?_)))
          (pgb_tup [8, 9] hN (fun s H C cl fp => by repeat' (first | exact Dz.Names.nil | refine Dz.Names.cons rfl (by first | exact Or.inl rfl | exact Or.inr rfl) (by first | exact .inl rfl | exact .inr rfl) rfl ?_)))
          (tg_tup [6, 7]) (tg_tup [8, 9]) (by decide) (by decide) (by decide) (fun d hd => by
            obtain ⟨j, _, rfl⟩ := enD_mem hd
            exact ⟨_, rfl⟩) (by rw [rul_eq hrs hmo.lt]; omega) (fun d hd cs hcs s H C cl fp => by
            obtain ⟨k, hk, rfl⟩ := enD_mem hd
            rw [natD_len] at hk
            rw [nmz hk] at hcs
            cases hcs
            exact src_ni (de_var 1)) (fun d hd cs hcs e he => by
            unfold itD at he
            obtain ⟨q, _, rfl⟩ := List.mem_map.mp he
            exact ⟨_, rfl⟩) ?_ ?_ hN (blkOk_by rfl) (hsw := by exact sw_true rfl rfl rfl (by decide +kernel)))
        · intro d hd cs hcs e he es hes
          obtain ⟨k, hk, rfl⟩ := enD_mem hd
          rw [natD_len] at hk
          rw [nmz hk] at hcs
          cases hcs
          unfold itD at he
          obtain ⟨q, hq, rfl⟩ := List.mem_map.mp he
          cases hes
          unfold tabD at hq
          obtain ⟨sig, hsig, rfl⟩ := List.mem_map.mp hq
          have hs := hlt k hk
          have htl : stN n rs sig ∈ tblN n rs := List.mem_map.mpr ⟨sig, hsig, rfl⟩
          have hto := hok _ htl _ hs
          have hin := hclo k hk _ htl
          have hln := stN_len (n := n) (rs := rs) hsig
          have hsd := stS_eq hrs hsig
          obtain ⟨h1, h2, h3, h4, rfl, _⟩ := sig_parts sig hsig
          generalize hxs : stS n rs (.tup [h1, h2, h3, h4]) = xs at hsd
          generalize stN n rs (.tup [h1, h2, h3, h4]) = l at htl hto hin hln hsd
          subst hsd
          generalize hy : l.getD (mem.getD k 0) 0 = y at hto hin
          generalize mem.getD k 0 = x at hs hy
          have ax : atI (natD l) (x : Int) = some (.int (y : Nat)) := by
            rw [natD_at (by omega) (by rw [hln]; omega)]
            show some (D.int (l.getD ((x : Int)).toNat 0 : Nat)) = _
            rw [show ((x : Int)).toNat = x by omega, hy]
          have eF : ruleF c mem [.int (k : Int), .int (x : Nat)] [.tup [h1, h2, h3, h4], .lst (natD l)] = if c.getD y 0 = c.getD x 0 then none else some (.tup [.int (k : Int), h1, h2, h3, h4, .int (idx (mem.map fun s => c.getD s 0) (c.getD y 0) : Nat)]) := by
            show (if c.getD (valI ((natD l).getD ((x : Int)).toNat .non)).toNat 0 = c.getD ((x : Int)).toNat 0 then none else some (ruleAt ((k : Int)).toNat (.tup [h1, h2, h3, h4]) (idx (mem.map fun s => c.getD s 0) (c.getD (valI ((natD l).getD ((x : Int)).toNat .non)).toNat 0)))) = _
            rw [show ((x : Int)).toNat = x by omega, natD_getD (by rw [hln]; exact hs), hy]
            rfl
          rw [eF]
          by_cases e : c.getD y 0 = c.getD x 0
          · rw [if_pos e]
            refine .inr ⟨rfl, difs_one fun s H C cl fp => (DT.cast (dt_ne hr rfl rfl (de_ixL (ds := natD c) (i := (y : Int)) (de_var 2) (de_ixL (ds := natD l) (i := (x : Int)) (de_var 9) (de_var 7) ax) (cls hto)) (de_ixL (ds := natD c) (i := (x : Int)) (de_var 2) (de_var 7) (cls hs))) (by rw [deq_int, decide_eq_true (congrArg (fun (i : Nat) => (i : Int)) e)]; rfl))⟩
          · rw [if_neg e]
            refine .inl ⟨_, rfl, difs_one fun s H C cl fp => (DT.cast (dt_ne hr rfl rfl (de_ixL (ds := natD c) (i := (y : Int)) (de_var 2) (de_ixL (ds := natD l) (i := (x : Int)) (de_var 9) (de_var 7) ax) (cls hto)) (de_ixL (ds := natD c) (i := (x : Int)) (de_var 2) (de_var 7) (cls hs))) (by rw [deq_int, decide_eq_false (p := ((c.getD y 0 : Nat) : Int) = ((c.getD x 0 : Nat) : Int)) (fun z => e (by omega))]; rfl)), fun s H C cl fp => ?_⟩
            exact de_tup (ds := [.int (k : Int), h1, h2, h3, h4, .int (idx (mem.map fun s => c.getD s 0) (c.getD y 0) : Nat)]) (da_d (de_var 6) (da_starT (ds := [h1, h2, h3, h4]) (de_var 8) (da_d (de_dgetI hr (de_var 4) (de_ixL (ds := natD c) (i := (y : Int)) (de_var 2) (de_ixL (ds := natD l) (i := (x : Int)) (de_var 9) (de_var 7) ax) (cls hto)) (numbD_get c mem hin)) da_nil))) (by show 6 ≤ 10000; decide)
        · rw [rul_eq hrs hmo.lt]
          have okL : okList (.int (mem.length : Nat)) (.lst ((onN os mem).map .int)) (.lst (rulN n rs c mem)) = true := by
            show (okSt (.int (mem.length : Nat)) && (isStates (mem.length : Nat) _ && isRules (mem.length : Nat) _)) = true
            rw [okSt_of (by omega) (by omega), states_of (onN_lt os mem) ((onN_asc os mem).imp fun h => Int.ne_of_lt h), rules_of hrok (by omega)]
            rfl
          have onl : (onN os mem).length ≤ 4000 := by
            unfold onN
            refine Nat.le_trans (List.length_filterMap_le _ _) ?_
            rw [List.length_range]
            omega
          have onE : onD (.lst ((onN os mem).map .int)) = .lst ((onN os mem).map .int) := by
            show D.lst ((Dz.srt (intsOf ((onN os mem).map D.int))).map .int) = _
            rw [intsOf_map, ← srt_eq (List.Perm.refl _) ((onN_asc os mem).imp fun h => Int.le_of_lt h)]
          have hin2 : ∀ k, k < mem.length → parts 2 (.tup [.int (k : Int), (natD mem).getD k .non]) = some [.int (k : Int), .int (mem.getD k 0 : Nat)] := fun k hk => by
            rw [natD_getD hk]
            rfl
          refine ds_one (d1_retX (R := fun s' O' => s' = .dat (insList CL (.int (mem.length : Nat)) (onD (.lst ((onN os mem).map .int))) (.lst (rulN n rs c mem))) ∧ O' = O) (dvx_makeF (O1 := O) M G hr gS bg
            (da_d (d := .int (mem.length : Nat)) (DE.cast (de_lenL L.len (de_var 3)) (by rw [natD_len])) (da_d (d := .lst ((onN os mem).map .int)) (DE.cast (de_lcW (own := [("at", 6), ("state", 7)]) (ds := enD 0 (natD mem)) (is := [6, 7]) (f := parts 2) (src_enL (de_var 3) hen)
              (pgb_tup [6, 7] hN (fun s H C cl fp => by repeat' (first | exact Dz.Names.nil | refine Dz.Names.cons rfl (by first | exact Or.inl rfl | exact Or.inr rfl) (by first | exact .inl rfl | exact .inr rfl) rfl ?_)))
              (tg_tup [6, 7]) (fun j acc O' => acc = ((enD 0 (natD mem)).take j).filterMap (fun d => (parts 2 d).bind (onF os)) ∧ O' = O) ⟨rfl, rfl⟩ (by decide) (fun d hd => by
                obtain ⟨j, _, rfl⟩ := enD_mem hd
                exact ⟨_, rfl⟩) (by rw [enD_length, natD_len]; omega) (lcW_pure (F := onF os) fun d hd cs hcs => by
                obtain ⟨k, hk, rfl⟩ := enD_mem hd
                rw [natD_len] at hk
                rw [show parts 2 (D.tup [.int (k : Int), (natD mem).getD k .non]) = some [.int (k : Int), .int (mem.getD k 0 : Nat)] from hin2 k hk] at hcs
                cases hcs
                by_cases e : ((mem.getD k 0 : Nat) : Int) ∈ os
                · exact .inl ⟨_, if_pos e, difs_one fun s H C cl fp => DT.cast (dt_inL (x := .int ((mem.getD k 0 : Nat) : Int)) (ds := os.map .int) hr rfl (by rw [oks_all]; exact List.all_eq_true.mpr fun d hd => by obtain ⟨i, _, rfl⟩ := List.mem_map.mp hd; rfl) (de_var 7) (de_fld A3.cl A3.b (de_var 0) rfl)) (by rw [in_ints, decide_eq_true e]), fun s H C cl fp => de_var 6⟩
                · exact .inr ⟨if_neg e, difs_one fun s H C cl fp => DT.cast (dt_inL (x := .int ((mem.getD k 0 : Nat) : Int)) (ds := os.map .int) hr rfl (by rw [oks_all]; exact List.all_eq_true.mpr fun d hd => by obtain ⟨i, _, rfl⟩ := List.mem_map.mp hd; rfl) (de_var 7) (de_fld A3.cl A3.b (de_var 0) rfl)) (by rw [in_ints, decide_eq_false e])⟩) (fun acc O' h => by
                obtain ⟨h1, h2⟩ := h
                rw [List.take_length] at h1
                exact ⟨h1, h2⟩) hN (blkOk_by rfl)) (congrArg D.lst (onN_dat os mem))) (da_d (d := .lst (rulN n rs c mem)) (de_var 5) da_nil))) fun x hx => ?_) fun s' O' q => by
              obtain ⟨q1, q2⟩ := q
              rw [onE] at q1
              exact ⟨q1, q2⟩)
          refine ⟨_, _, ⟨x, .int (mem.length : Nat), .lst ((onN os mem).map .int), .lst (rulN n rs c mem), rfl, put_same, .int _, .lst _, pls_ints onl, .lst _, ⟨by omega, fun d hd => ⟨(rule_pl (hrok d hd)).1, (rule_pl (hrok d hd)).2.1⟩⟩, .inl ⟨okL, rfl, rfl⟩⟩, fun s' O' h => ?_, fun r O' h => h.elim⟩
          obtain ⟨q1, q2⟩ := h
          subst q1 q2
          refine ⟨rfl, [("states", .int (mem.length : Nat)), ("on", onD (.lst ((onN os mem).map .int))), ("rules", .lst (rulN n rs c mem))], ?_, rfl, ?_⟩
          · rw [put_same]; rfl
          · rw [put_put, cut_put hx]
    · omega
end
end Dg

namespace Dg
open PySem PySem.Spec PyProof.Rows L2 GxR Dz
/-- what _law_told tells of a listener -/
def tldN (n : Nat) (os : List Int) (rs : List D) : D := .lst [.int ((memN n rs os).length : Nat), .lst ((onN os (memN n rs os)).map .int), .lst (rulN n rs (clsN n rs os) (memN n rs os))]
def tldD (n : Nat) (os : List Int) (rs : List D) : D := if n ≤ 12 then tldN n os rs else .str "too many states"
def pLTold : PR := fun ss O Rn Rx => ∃ (n : Nat) (os : List Int) (rs : List D), ss = [.dat (.lst [.int (n : Int), .lst (os.map .int), .lst rs])] ∧ LiOk (n : Int) os rs ∧ Rn = (fun v O' => v = .dat (tldD n os rs) ∧ O' = O) ∧ Rx = fun _ _ => False
section
variable {P : Program} {w : World} {K : PySem.W.Frag} {mg : Str → Option Value} {base : Heap} {T : List Addr} {CE fI : Addr}
theorem dvx_imp7 {T : List Addr} {X : Cx} {CE : Addr} {e : Expr} {ρ : List Slot} {O : OH} {R R' : Slot → OH → Prop} {Rx Rx' : D → OH → Prop} (h : DVX T X CE e ρ O R Rx) (h1 : ∀ s O', R s O' → R' s O') (h2 : ∀ r O', Rx r O' → Rx' r O') : DVX T X CE e ρ O R' Rx' :=
  fun σ B H hE hA Q W tk q qx => h σ B H hE hA Q W tk (fun s O' v B' H' hr p r => q s O' v B' H' (h1 s O' hr) p r) (fun r O' v dd σ' B' H' hr p e1 r1 => qx r O' v dd σ' B' H' (h2 r O' hr) p e1 r1)
theorem scLTold : FnScope ["listener", "told", "e"] ["listener"] (defScope s_law_told) := ⟨rfl, rfl, rfl, by decide +kernel, rfl, by decide +kernel, by decide +kernel⟩
theorem ok_lmtold {f g1 g2 CL : Addr} {fd gd1 gd2 : FuncData} {cdv : Value} (F : FunC K "_law_told" "_law_told" s_law_told f fd cdv) (V : Err K mg CE fI) (A3 : Fld3 K CL "states" "on" "rules")
    (G1 : FnOk P w K mg base (L2.CX P w) 8 g1 gd1 ["told"] (spX T K CE (pListening CL))) (hg1 : mg "_law_listening" = some (.ref g1)) (kg1 : PySem.W.keepIn K (.ref g1) = true) (bg1 : Binds K gd1 ["told"] [])
    (G2 : FnOk P w K mg base (L2.CX P w) 8 g2 gd2 ["listener"] (spX T K CE (pMerged CL))) (hg2 : mg "merged" = some (.ref g2)) (kg2 : PySem.W.keepIn K (.ref g2) = true) (bg2 : Binds K gd2 ["listener"] []) :
    FnOk P w K mg base (L2.CX P w) 9 f fd ["listener"] (spX T K CE pLTold) := by
  refine fn_okX (R := pLTold) F scLTold (fun ss O Rn Rx ⟨n, os, rs, h, _⟩ => by rw [h]; rfl) fun A outer s H E ss O Rn Rx hr h => ?_
  obtain ⟨n, os, rs, e1, lo, eN, eX⟩ := h
  subst e1 eN eX
  have pLi : pListening CL [.dat (.lst [.int (n : Int), .lst (os.map .int), .lst rs])] O (fun s' O' => s' = .dat (insList CL (.int (n : Int)) (.lst (os.map .int)) (.lst rs)) ∧ O' = O) (fun _ _ => False) :=
    ⟨.int (n : Int), os.map .int, rs, rfl, .int _, pls_ints (by have := lo.ol; omega), lo.plrs, lo.ok (List.Perm.refl _), by rw [lo.srt (List.Perm.refl _)], rfl⟩
  refine ds_cons (d1_try 2 V.xf V.no V.me V.gC scLTold.nd fun pn xe pa => ds_one (d1_setX (R := fun s' O' => n ≤ 12 ∧ s' = .dat (mgD CL n os rs) ∧ O' = O) 1 ?_ (fun s' O' q => ?_) scLTold.nd))
  · by_cases ok : n ≤ 12
    · exact dvx_imp7 (dvx_call (O1 := O) (P := pMerged CL) G2 hr hg2 kg2 bg2 (da_v (dv_callX G1 hr hg1 kg1 bg1 (da_d (de_var 0) da_nil) pLi) da_nil) ⟨n, os, rs, rfl, .inl ⟨by have := lo.n1; omega, ok, lo.r, lo.rl, rfl, rfl⟩⟩) (fun s' O' h => ⟨ok, h.1, h.2⟩) (fun r O' h => h.elim)
    · refine dvx_imp7 (dvx_call (O1 := O) (P := pMerged CL) G2 hr hg2 kg2 bg2 (da_v (dv_callX G1 hr hg1 kg1 bg1 (da_d (de_var 0) da_nil) pLi) da_nil) ⟨n, os, rs, rfl, .inr ⟨by omega, rfl, rfl⟩⟩) (fun s' O' h => h.elim) (fun r O' h => ?_)
      obtain ⟨q1, q2⟩ := h
      subst q1 q2
      show Slot.dat (.str "too many states") = .dat (tldD n os rs) ∧ _
      unfold tldD
      rw [if_neg ok]
      exact ⟨rfl, rfl⟩
  · obtain ⟨ok, q1, q2⟩ := q
    subst q1 q2
    refine ds_one (d1_ret (s := .dat (tldD n os rs)) (O1 := O') (DE.dv (DE.cast (de_lst (ds := [.int ((memN n rs os).length : Nat), .lst ((onN os (memN n rs os)).map .int), .lst (rulN n rs (clsN n rs os) (memN n rs os))]) (da_d (de_fld A3.cl A3.a (de_var 1) rfl) (da_d (de_fld A3.cl A3.b (de_var 1) rfl) (da_d (de_fld A3.cl A3.c (de_var 1) rfl) da_nil))) (by show 3 ≤ 10000; decide)) (by unfold tldD; rw [if_pos ok]; rfl))) ⟨rfl, rfl⟩)
end
end Dg

namespace Dz
open PySem PySem.Spec PyProof.Rows L2 GxR
section
variable {κ : Type} [DecidableEq κ]
theorem idx_app {a : κ} : ∀ {l m : List κ}, a ∈ l → idx (l ++ m) a = idx l a
  | x :: l, m, h => by
    rw [List.cons_append]
    by_cases e : x = a
    · subst e
      rw [idx_self, idx_self]
    · rw [idx_ne _ e, idx_ne _ e, idx_app ((List.mem_cons.mp h).resolve_left fun q => e q.symm)]
theorem idx_get {a : κ} : ∀ {l : List κ}, a ∈ l → l[idx l a]? = some a
  | x :: l, h => by
    by_cases e : x = a
    · subst e
      rw [idx_self]
      rfl
    · rw [idx_ne _ e, List.getElem?_cons_succ]
      exact idx_get ((List.mem_cons.mp h).resolve_left fun q => e q.symm)
theorem idx_min {a : κ} : ∀ {l : List κ} {m : Nat} {z : κ}, m < idx l a → l[m]? = some z → z ≠ a
  | x :: l, m, z, hm, hz => by
    by_cases e : x = a
    · subst e
      rw [idx_self] at hm
      exact absurd hm (Nat.not_lt_zero _)
    · rw [idx_ne _ e] at hm
      cases m with
      | zero =>
        cases hz
        exact e
      | succ m => exact idx_min (l := l) (m := m) (by omega) hz
theorem numb_snoc (l : List κ) (k : κ) : numb (l ++ [k]) = numb l ++ [idx (ddl (l ++ [k])) k] := by
  unfold numb
  rw [List.map_append, List.map_cons, List.map_nil]
  congr 1
  refine List.map_congr_left fun x hx => ?_
  rw [ddl_snoc]
  split
  · rfl
  · exact idx_app (mem_ddl.mpr hx)
end
end Dz
namespace Dg
open PySem PySem.Spec PyProof.Rows L2 GxR Dz
/-- a key as the law writes it -/
def kOf : List Nat → D
  | [] => .non
  | x :: xs => .tup [.int (x : Nat), .lst (natD xs)]
theorem eqv_nat : ∀ a b : List Nat, PyData.eqvAll (D.pys (natD a)) (D.pys (natD b)) = decide (a = b) := by
  intro a
  induction a with
  | nil => intro b; cases b <;> (unfold natD; simp [D.pys, PyData.eqvAll])
  | cons x a ih =>
    intro b
    cases b with
    | nil => unfold natD; simp [D.pys, PyData.eqvAll]
    | cons y b =>
      have q := ih b
      unfold natD at q ⊢
      rw [List.map_cons, List.map_cons, D.pys, D.pys, PyData.eqvAll, q]
      have e := deq_int (x : Int) (y : Int)
      unfold deq at e
      rw [e]
      by_cases h1 : x = y
      · subst h1
        simp
      · have h2 : ¬ ((x : Int) = (y : Int)) := by omega
        simp [h1, h2]
theorem deq_natL (a b : List Nat) : deq (.lst (natD a)) (.lst (natD b)) = decide (a = b) := by
  unfold deq
  rw [D.py, D.py, PyData.eqv]
  exact eqv_nat a b
theorem deq_kOf {a b : List Nat} (ha : a ≠ []) (hb : b ≠ []) : deq (kOf a) (kOf b) = decide (a = b) := by
  cases a with
  | nil => exact absurd rfl ha
  | cons x a =>
    cases b with
    | nil => exact absurd rfl hb
    | cons y b =>
      show PyData.eqv (D.py (.tup [.int (x : Nat), .lst (natD a)])) (D.py (.tup [.int (y : Nat), .lst (natD b)])) = _
      have e1 := deq_int (x : Int) (y : Int)
      have e2 := deq_natL a b
      unfold deq at e1 e2
      rw [D.py, D.py, PyData.eqv]
      simp only [D.pys, PyData.eqvAll]
      rw [e1, e2]
      by_cases h1 : x = y
      · subst h1
        simp
      · have h2 : ¬ ((x : Int) = (y : Int)) := by omega
        simp [h1, h2]
theorem lay_nat : ∀ a : List Nat, PyData.canLayAll0 (D.pys (natD a)) = true ∧ D.oks 30 (natD a) = true
  | [] => ⟨by unfold natD; rw [List.map_nil, D.pys]; rfl, rfl⟩
  | x :: a => by
    obtain ⟨h1, h2⟩ := lay_nat a
    unfold natD at h1 h2 ⊢
    rw [List.map_cons]
    constructor
    · rw [D.pys]
      simp only [PyData.canLayAll0, h1, Bool.and_true]
      rfl
    · rw [D.oks, h2]
      rfl
theorem lay_kOf {a : List Nat} : layD (kOf a) = true := by
  cases a with
  | nil => rfl
  | cons x a =>
    obtain ⟨h1, h2⟩ := lay_nat a
    show (PyData.canLay0 (D.py (.tup [.int (x : Nat), .lst (natD a)])) && D.ok 32 (.tup [.int (x : Nat), .lst (natD a)])) = true
    rw [Bool.and_eq_true]
    constructor
    · simp only [D.py, D.pys, PyData.canLay0, PyData.canLayAll0, h1, Bool.and_true]
    · rw [D.ok, D.oks, D.oks, D.oks, D.ok]
      rw [D.ok, h2]
      rfl
/-- a state's row of the table -/
def colN (n : Nat) (rs : List D) (s : Nat) : List Nat := (tblN n rs).map fun l => l.getD s 0
def tabL (n : Nat) (rs : List D) : List D := (List.range n).map fun s => .lst (natD (colN n rs s))
theorem col_eq {n : Nat} {rs : List D} (h : ∀ r ∈ rs, isRule (n : Int) r = true) {s : Nat} (hs : s < n) : natD (colN n rs s) = signals.map fun g => match g with | .tup [h1, h2, h3, h4] => nextD (.int (s : Int)) h1 h2 h3 h4 rs | _ => .non := by
  unfold natD colN tblN
  rw [List.map_map, List.map_map]
  refine List.map_congr_left fun g hg => ?_
  obtain ⟨h1, h2, h3, h4, rfl, _⟩ := sig_parts g hg
  obtain ⟨i, e, _⟩ := next_in (h1 := h1) (h2 := h2) (h3 := h3) (h4 := h4) hs h
  show D.int ((((List.range n).map fun (s : Nat) => (valI (nextD (.int (s : Int)) h1 h2 h3 h4 rs)).toNat).getD s 0 : Nat) : Int) = nextD (.int (s : Int)) h1 h2 h3 h4 rs
  rw [List.getD_eq_getElem?_getD, List.getElem?_map, List.getElem?_range hs]
  show D.int (((valI (nextD (.int (s : Int)) h1 h2 h3 h4 rs)).toNat : Nat) : Int) = _
  rw [e]
  rfl
end Dg

namespace Dg
open PySem PySem.Spec PyProof.Rows L2 GxR Dz
theorem tabL_at {n : Nat} {rs : List D} {j : Nat} (h : j < n) : atI (tabL n rs) (j : Int) = some (.lst (natD (colN n rs j))) := by
  have hl : (tabL n rs).length = n := by unfold tabL; simp
  rw [atI_D (by omega) (by rw [hl]; omega), show ((j : Int)).toNat = j by omega]
  unfold tabL
  rw [List.getD_eq_getElem?_getD, List.getElem?_map, List.getElem?_range h]
  rfl
/-- what stands before the law's turn t -/
def lcl (n : Nat) (rs : List D) (os : List Int) : Nat → List Nat
  | 0 => bitsN n os
  | t + 1 => pit n (tblN n rs) (bitsN n os) (t + 1)
def kys (n : Nat) (rs : List D) (c : List Nat) (j : Nat) : List (List Nat) := (List.range j).map (keyN (tblN n rs) c)
def kyO (n : Nat) (rs : List D) (c : List Nat) (j : Nat) : OD := .lst (((ddl (kys n rs c j)).map kOf).map .dat)
def frO (n : Nat) (rs : List D) (c : List Nat) (j : Nat) : OD := .lst ((natD (numb (kys n rs c j))).map .dat)
theorem kys_succ {n : Nat} {rs : List D} {c : List Nat} {j : Nat} : kys n rs c (j + 1) = kys n rs c j ++ [keyN (tblN n rs) c j] := by
  unfold kys
  rw [List.range_succ, List.map_append]
  rfl
theorem kys_ne {n : Nat} {rs : List D} {c : List Nat} {j : Nat} : ∀ k ∈ kys n rs c j, k ≠ [] := by
  intro k hk
  obtain ⟨s, _, rfl⟩ := List.mem_map.mp hk
  exact fun z => by cases z
theorem any_kOf {k : List Nat} (h0 : k ≠ []) : ∀ {l : List (List Nat)}, (∀ x ∈ l, x ≠ []) → ((l.map kOf).any fun z => deq z (kOf k)) = decide (k ∈ l)
  | [], _ => rfl
  | x :: l, h => by
    rw [List.map_cons, List.any_cons, deq_kOf (h x List.mem_cons_self) h0, any_kOf h0 fun y hy => h y (List.mem_cons_of_mem _ hy)]
    by_cases e : x = k
    · subst e
      simp
    · have e' : ¬ k = x := fun z => e z.symm
      simp [e, e']
section
variable {P : Program} {w : World} {K : PySem.W.Frag} {mg : Str → Option Value} {base : Heap} {T : List Addr} {CE fI : Addr}
theorem scLClasses : FnScope ["listener", "signals", "table", "classes", "turn", "keys", "fresh", "state", "key", "signal", "to"] ["listener"] (defScope s_law_classes) := ⟨rfl, rfl, rfl, by decide +kernel, rfl, by decide +kernel, by decide +kernel⟩
def pLClasses (ss : List Slot) (O : OH) (d : D) (O' : OH) : Prop := ∃ (n : Nat) (os : List Int) (rs : List D), ss = [.dat (.lst [.int (n : Int), .lst (os.map .int), .lst rs])] ∧ LiOk (n : Int) os rs ∧ d = .lst [.lst (tabL n rs), .lst (natD (clsN n rs os))] ∧ O' = O
theorem ok_lclasses {f g g2 : Addr} {fd gd gd2 : FuncData} {cdv : Value} (F : FunC K "_law_classes" "_law_classes" s_law_classes f fd cdv) (L : Blt mg) (G : FnOk P w K mg base CX0 1 g gd ["listener", "state", "signal"] (spF T K pLNext)) (hg : mg "_law_next" = some (.ref g)) (kg : PySem.W.keepIn K (.ref g) = true) (bg : Binds K gd ["listener", "state", "signal"] [])
    (G2 : FnOk P w K mg base CX0 2 g2 gd2 [] (spF T K pSignals)) (hg2 : mg "_law_signals" = some (.ref g2)) (kg2 : PySem.W.keepIn K (.ref g2) = true) (bg2 : Binds K gd2 [] []) :
    FnOk P w K mg base CX0 3 f fd ["listener"] (spF T K pLClasses) := by
  refine fn_ok (CE := (0 : Addr)) (R := pLClasses) F scLClasses (fun ss O d O' ⟨n, os, rs, h, _⟩ => by rw [h]; rfl) fun A outer s H E ss O d O' hr h => ?_
  obtain ⟨n, os, rs, e1, lo, e2, e3⟩ := h
  subst e1 e2 e3
  have hN := scLClasses.nd
  have n1 := lo.n1
  have n2 := lo.n2
  have hok := tbl_ok (n := n) lo.r
  refine ds_cons (d1_set 1 (s := .dat (.lst signals)) (O1 := O') (DE.dv (de_call0 G2 (hr.mono (by decide)) hg2 kg2 bg2 pass0 ⟨rfl, rfl, rfl⟩)) ?_ hN)
  have rgT : rgD 0 (n : Int).toNat = (List.range n).map fun (j : Nat) => D.int (j : Int) := by
    unfold rgD
    rw [show (n : Int).toNat = n by omega]
    exact List.map_congr_left fun j _ => congrArg D.int (Int.zero_add _)
  have rgF : ∀ (F : Nat → D), ((List.range n).map fun (j : Nat) => D.int (j : Int)).filterMap (fun d => (one1 d).bind fun cs => match cs with | [.int j] => some (F j.toNat) | _ => none) = (List.range n).map F := fun F => by
    rw [List.filterMap_map, ← List.filterMap_eq_map']
    refine fm_congr fun j _ => ?_
    show some (F ((j : Int)).toNat) = some (F j)
    rw [show ((j : Int)).toNat = j by omega]
  refine ds_cons (d1_setLcW (own := [("state", 7)]) (ds := rgD 0 (n : Int).toNat) (is := [7]) (f := one1) (g := gName 7) (out := tabL n rs) (O2 := O') 2 (src_range (de_ixL (ds := [.int (n : Int), .lst (os.map .int), .lst rs]) (de_var 0) de_int rfl) (by omega) (by omega) L.range) (pgb_name 7 hN) (tg_name 7) _ ⟨by rfl, rfl⟩ (by decide) (fun d _ => ⟨[d], rfl⟩) (by rw [rgT]; simp; omega)
    (lcW_pure (F := fun cs => match cs with | [.int j] => some (D.lst (natD (colN n rs j.toNat))) | _ => none) ?_) (fun acc O3 h => ?_) ?_ hN (blkOk_by rfl))
  · intro d hd cs hcs
    cases hcs
    rw [rgT] at hd
    obtain ⟨j, hj, rfl⟩ := List.mem_map.mp hd
    have hj' : j < n := List.mem_range.mp hj
    have ej : ((j : Int)).toNat = j := by omega
    refine .inl ⟨.lst (natD (colN n rs j)), by show some (D.lst (natD (colN n rs ((j : Int)).toNat))) = _; rw [ej], difs_nil, fun s H C cl fp => ?_⟩
    refine DE.cast (de_lcW (own := [("signal", 9)]) (ds := signals) (is := [9]) (f := one1) (g := gName 9) (src_list (de_var 1)) (pgb_name 9 hN) (tg_name 9) _ ⟨by rfl, rfl⟩ (by decide) (fun d _ => ⟨[d], rfl⟩) (by rw [sig_len]; decide) (lcW_pure (F := fun cs => match cs with | [.tup [h1, h2, h3, h4]] => some (nextD (.int (j : Int)) h1 h2 h3 h4 rs) | _ => none) ?_) (fun acc O3 h => h) hN (blkOk_by rfl)) ?_
    · intro d hd cs hcs
      cases hcs
      obtain ⟨h1, h2, h3, h4, rfl, k1, k2, k3, k4⟩ := sig_parts d hd
      exact .inl ⟨_, rfl, difs_nil, fun s H C cl fp => de_call G (hr.mono (by decide)) hg kg bg pass0 (da_d (de_var 0) (da_d (de_var 7) (da_d (de_var 9) da_nil))) ⟨_, _, rs, _, h1, h2, h3, h4, rfl, fun r hr => rule_shape (lo.r r hr), rfl, k1, k2, k3, k4, rfl, rfl⟩⟩
    · rw [List.take_length, col_eq lo.r hj', ← List.filterMap_eq_map']
      refine congrArg D.lst (fm_congr fun d hd => ?_)
      obtain ⟨h1, h2, h3, h4, rfl, _⟩ := sig_parts d hd
      rfl
  · obtain ⟨h1, h2⟩ := h
    rw [List.take_length, rgT] at h1
    exact ⟨h1.trans (rgF fun j => D.lst (natD (colN n rs j))), h2⟩
  · refine ds_cons (d1_set 3 (s := .dat (.lst (natD (bitsN n os)))) (O1 := O') (DE.dv (de_lcW (own := [("state", 7)]) (ds := rgD 0 (n : Int).toNat) (is := [7]) (f := one1) (g := gName 7) (out := natD (bitsN n os)) (O2 := O') (src_range (de_ixL (ds := [.int (n : Int), .lst (os.map .int), .lst rs]) (de_var 0) de_int rfl) (by omega) (by omega) L.range) (pgb_name 7 hN) (tg_name 7) _ ⟨by rfl, rfl⟩ (by decide) (fun d _ => ⟨[d], rfl⟩) (by rw [rgT]; simp; omega)
      (lcW_pure (F := fun cs => match cs with | [.int j] => some (D.int ((if ((j.toNat : Nat) : Int) ∈ os then 1 else 0 : Nat) : Int)) | _ => none) ?_) (fun acc O3 h => ?_) hN (blkOk_by rfl))) ?_ hN)
    · intro d hd cs hcs
      cases hcs
      rw [rgT] at hd
      obtain ⟨j, hj, rfl⟩ := List.mem_map.mp hd
      have ej : ((j : Int)).toNat = j := by omega
      refine .inl ⟨.int ((if (j : Int) ∈ os then 1 else 0 : Nat) : Int), by show some (D.int ((if ((((j : Int)).toNat : Nat) : Int) ∈ os then 1 else 0 : Nat) : Int)) = _; rw [ej], difs_nil, fun s H C cl fp => ?_⟩
      refine DE.cast (de_intB L.int (de_inL (x := .int (j : Int)) (ds := os.map .int) hr rfl (by rw [oks_all]; exact List.all_eq_true.mpr fun d hd => by obtain ⟨i, _, rfl⟩ := List.mem_map.mp hd; rfl) (de_var 7) (de_ixL (ds := [.int (n : Int), .lst (os.map .int), .lst rs]) (de_var 0) de_int rfl))) ?_
      rw [in_ints]
      by_cases e : (j : Int) ∈ os
      · rw [decide_eq_true e, if_pos e]; rfl
      · rw [decide_eq_false e, if_neg e]; rfl
    · obtain ⟨h1, h2⟩ := h
      rw [List.take_length, rgT] at h1
      refine ⟨h1.trans ((rgF fun j => D.int ((if ((j : Nat) : Int) ∈ os then 1 else 0 : Nat) : Int)).trans ?_), h2⟩
      unfold bitsN natD
      rw [List.map_map]
      rfl
    · have eN : (n : Int).toNat = n := by omega
      have hlen : ∀ t, (lcl n rs os t).length = n := fun t => by
        cases t with
        | zero => exact bits_len n os
        | succ t => exact pit_len (bits_len n os) (t + 1)
      have hstep : ∀ t, numb (kys n rs (lcl n rs os t) n) = lcl n rs os (t + 1) := fun t => by
        cases t with
        | zero =>
          refine stepC_alk (n := n) (tb := tblN n rs) (c := bitsN n os) (c' := numb (bitsN n os)) hok fun s hs u hu => ?_
          rw [numb_alk (bits_len n os) hs hu, getD_some (by rw [bits_len]; exact hs), getD_some (by rw [bits_len]; exact hu)]
          exact ⟨fun e => congrArg some e, fun e => Option.some.inj e⟩
        | succ t => rfl
      refine ds_cons (d1_forR 4 (m := (n : Int)) (fun t ρ' O2 => ∃ s4 s5 s6 s7 s8, ρ' = [.dat (.lst [.int (n : Int), .lst (os.map .int), .lst rs]), .dat (.lst signals), .dat (.lst (tabL n rs)), .dat (.lst (natD (lcl n rs os t))), s4, s5, s6, s7, s8, .no, .no] ∧ O2 = O')
        (de_ixL (ds := [.int (n : Int), .lst (os.map .int), .lst rs]) (de_var 0) de_int rfl) (by omega) ⟨_, _, _, _, _, rfl, rfl⟩ hN ?_ ?_ L.range PassesOwn.never)
      · rintro t ρ' O2 ht ⟨s4, s5, s6, s7, s8, rfl, rfl⟩
        have hl := hlen t
        have hst := hstep t
        generalize lcl n rs os t = c at hl hst
        refine ds_cons (d1_own 5 da_nil (fun p hp => ?_) hN)
        refine ds_cons (d1_own 6 da_nil (fun q hq => ?_) hN)
        have hpq : p ≠ q := fun e => by
          rw [← e, put_same] at hq
          cases hq
        have hqO : O2 q = none := by
          rw [put_ne (fun e => hpq e.symm)] at hq
          exact hq
        refine ds_mid (fun ρ' O3 => ∃ s7 s8, ρ' = [.dat (.lst [.int (n : Int), .lst (os.map .int), .lst rs]), .dat (.lst signals), .dat (.lst (tabL n rs)), .dat (.lst (natD c)), .dat (.int (t : Int)), .val (.ref p), .val (.ref q), s7, s8, .no, .no] ∧ O3 = put (put O2 p (kyO n rs c n)) q (frO n rs c n))
          (d1_forR 7 (m := (n : Int)) (fun j ρ' O3 => ∃ s7 s8, ρ' = [.dat (.lst [.int (n : Int), .lst (os.map .int), .lst rs]), .dat (.lst signals), .dat (.lst (tabL n rs)), .dat (.lst (natD c)), .dat (.int (t : Int)), .val (.ref p), .val (.ref q), s7, s8, .no, .no] ∧ O3 = put (put O2 p (kyO n rs c j)) q (frO n rs c j))
            (de_ixL (ds := [.int (n : Int), .lst (os.map .int), .lst rs]) (de_var 0) de_int rfl) (by omega) ⟨_, _, rfl, rfl⟩ hN ?_ ?_ L.range PassesOwn.never) ?_
        · rintro j ρ' O3 hj ⟨s7, s8, rfl, rfl⟩
          have hj' : j < n := by omega
          have hk0 : keyN (tblN n rs) c j ≠ [] := fun z => by cases z
          have hkl : (kys n rs c j).length = j := by unfold kys; simp
          have hdl : (ddl (kys n rs c j)).length ≤ j := by have := ddl_len (kys n rs c j); omega
          have hdn : ∀ x ∈ ddl (kys n rs c j), x ≠ [] := fun x hx => kys_ne x (mem_ddl.mp hx)
          have lays : ∀ (l : List (List Nat)), ∀ e ∈ l.map kOf, layD e = true := fun l e he => by
            obtain ⟨x, _, rfl⟩ := List.mem_map.mp he
            exact lay_kOf
          refine ds_cons (d1_set 8 (s := .dat (kOf (keyN (tblN n rs) c j))) (O1 := put (put O2 p (kyO n rs c j)) q (frO n rs c j)) (DE.dv (de_tup (ds := [.int (c.getD j 0 : Nat), .lst (natD ((tblN n rs).map fun l => c.getD (l.getD j 0) 0))]) (da_d (de_ixL (ds := natD c) (i := (j : Int)) (de_var 3) (de_var 7) (natD_at (by omega) (by rw [hl]; omega))) (da_d
            (DE.cast (de_lcW (own := [("to", 10)]) (ds := natD (colN n rs j)) (is := [10]) (f := one1) (g := gName 10) (src_list (de_ixL (ds := tabL n rs) (i := (j : Int)) (de_var 2) (de_var 7) ?_)) (pgb_name 10 hN) (tg_name 10) _ ⟨by rfl, rfl⟩ (by decide) (fun d _ => ⟨[d], rfl⟩) (by rw [natD_len]; unfold colN tblN; rw [List.length_map, List.length_map, sig_len]; decide) (lcW_pure (F := fun cs => match cs with | [.int i] => some (D.int (c.getD i.toNat 0 : Nat)) | _ => none) ?_) (fun acc O3 h => h) hN (blkOk_by rfl)) ?_) da_nil)) (by show 2 ≤ 10000; decide))) ?_ hN)
          · exact tabL_at hj'
          · intro d hd cs hcs
            cases hcs
            unfold natD colN at hd
            rw [List.map_map] at hd
            obtain ⟨l, hlm, rfl⟩ := List.mem_map.mp hd
            have hto := hok l hlm j hj'
            refine .inl ⟨_, rfl, difs_nil, fun s H C cl fp => ?_⟩
            show DE T _ _ _ _ (.int (c.getD (((l.getD j 0 : Nat) : Int)).toNat 0 : Nat)) _
            exact de_ixL (ds := natD c) (i := (l.getD j 0 : Nat)) (de_var 3) (de_var 10) (natD_at (by omega) (by rw [hl]; omega))
          · rw [List.take_length]
            unfold natD colN
            rw [List.map_map, List.map_map, List.filterMap_map, ← List.filterMap_eq_map']
            refine congrArg D.lst (fm_congr fun l _ => ?_)
            show some (D.int (c.getD (((l.getD j 0 : Nat) : Int)).toNat 0 : Nat)) = some (D.int (c.getD (l.getD j 0) 0 : Nat))
            rw [show (((l.getD j 0 : Nat) : Int)).toNat = l.getD j 0 by omega]
          · have hsu := kys_succ (n := n) (rs := rs) (c := c) (j := j)
            refine ds_mid (fun ρ' O3 => ρ' = [.dat (.lst [.int (n : Int), .lst (os.map .int), .lst rs]), .dat (.lst signals), .dat (.lst (tabL n rs)), .dat (.lst (natD c)), .dat (.int (t : Int)), .val (.ref p), .val (.ref q), .dat (.int (j : Int)), .dat (kOf (keyN (tblN n rs) c j)), .no, .no] ∧ O3 = put (put O2 p (kyO n rs c (j + 1))) q (frO n rs c j))
              (d1_if (p := !decide (keyN (tblN n rs) c j ∈ ddl (kys n rs c j))) (O1 := put (put O2 p (kyO n rs c j)) q (frO n rs c j)) (DT.cast (dt_ninOL (c := p) (ds := (ddl (kys n rs c j)).map kOf) hr (lay_ok lay_kOf) (lays_all (lays _)).2 (de_var 8) (dv_var 5 rfl) (by rw [put_ne hpq, put_same]; rfl)) (by rw [any_kOf hk0 hdn])) (fun z => ?_) (fun z => ds_nil ?_)) ?_
            · have hn : keyN (tblN n rs) c j ∉ ddl (kys n rs c j) := by simpa using z
              refine ds_one (d1_append (ss := ((ddl (kys n rs c j)).map kOf).map .dat) (s0 := ((ddl (kys n rs c j)).map kOf).map .dat) 5 rfl (by rw [put_ne hpq, put_same]; rfl) (DE.dv (de_var 8)) (by rw [put_ne hpq, put_same]; rfl) (by rw [List.length_map, List.length_map]; omega) ⟨rfl, ?_⟩)
              rw [put_cm hpq, put_put]
              refine (put_cm hpq).symm.trans ?_
              have e : OD.lst (((ddl (kys n rs c j)).map kOf).map Slot.dat ++ [.dat (kOf (keyN (tblN n rs) c j))]) = kyO n rs c (j + 1) := by
                unfold kyO
                rw [hsu, ddl_snoc, if_neg hn, List.map_append, List.map_append]
                rfl
              rw [e]
            · have hm : keyN (tblN n rs) c j ∈ ddl (kys n rs c j) := by simpa using z
              refine ⟨rfl, ?_⟩
              have e : kyO n rs c j = kyO n rs c (j + 1) := by
                unfold kyO
                rw [hsu, ddl_snoc, if_pos hm]
              rw [e]
            · rintro ρ' O3 ⟨rfl, rfl⟩
              have hmem : keyN (tblN n rs) c j ∈ ddl (kys n rs c (j + 1)) := mem_ddl.mpr (by rw [hsu]; exact List.mem_append_right _ (List.mem_singleton.mpr rfl))
              have hdn1 : ∀ x ∈ ddl (kys n rs c (j + 1)), x ≠ [] := fun x hx => kys_ne x (mem_ddl.mp hx)
              refine ds_one (d1_append (ss := (natD (numb (kys n rs c j))).map .dat) (s0 := (natD (numb (kys n rs c j))).map .dat) 6 rfl put_same
                (DE.dv (de_indexO (c := p) (ds := (ddl (kys n rs c (j + 1))).map kOf) (s0 := ((ddl (kys n rs c (j + 1))).map kOf).map .dat) (j := idx (ddl (kys n rs c (j + 1))) (keyN (tblN n rs) c j)) (z := kOf (keyN (tblN n rs) c j)) hr (dv_var 5 rfl) (by rw [put_ne hpq, put_same]; rfl) (de_var 8) (by rw [put_ne hpq, put_same]; rfl) lay_kOf (lays _) (by rw [List.getElem?_map, idx_get hmem]; rfl) (by rw [deq_kOf hk0 hk0]; exact decide_eq_true rfl) (fun m z' hm hz' => by
                  rw [List.getElem?_map] at hz'
                  obtain ⟨x, hx, rfl⟩ := Option.map_eq_some_iff.mp hz'
                  rw [deq_kOf (hdn1 x (List.mem_of_getElem? hx)) hk0]
                  exact decide_eq_false (idx_min hm hx)))) put_same (by rw [List.length_map, natD_len, numb_len, hkl]; omega) ⟨_, _, rfl, ?_⟩)
              rw [put_put]
              have e : OD.lst ((natD (numb (kys n rs c j))).map Slot.dat ++ [.dat (.int (idx (ddl (kys n rs c (j + 1))) (keyN (tblN n rs) c j) : Nat))]) = frO n rs c (j + 1) := by
                unfold frO
                rw [hsu, numb_snoc, natD_snoc, List.map_append]
                rfl
              rw [e]
        · rintro ρ' O3 ⟨s7, s8, rfl, rfl⟩
          rw [eN]
          exact ⟨_, _, rfl, rfl⟩
        · rintro ρ' O3 ⟨s7, s8, rfl, rfl⟩
          refine ds_freeze (ds := natD (numb (kys n rs c n))) 6 rfl put_same ?_
          rw [cut_put (by rw [put_ne (fun e => hpq e.symm)]; exact hqO)]
          refine ds_forget p ?_
          rw [cut_put hp, hst]
          exact ds_one (d1_set 3 (DE.dv (de_var 6)) ⟨_, _, _, _, _, rfl, rfl⟩ hN)
      · rintro ρ' O2 ⟨s4, s5, s6, s7, s8, rfl, rfl⟩
        rw [eN]
        have ec : lcl n rs os n = clsN n rs os := by
          cases n with
          | zero => omega
          | succ t => rfl
        rw [ec]
        exact ds_one (d1_ret (s := .dat (.lst [.lst (tabL n rs), .lst (natD (clsN n rs os))])) (O1 := O2) (DE.dv (de_lst (ds := [.lst (tabL n rs), .lst (natD (clsN n rs os))]) (da_d (de_var 2) (da_d (de_var 3) da_nil)) (by show 2 ≤ 10000; decide))) ⟨rfl, rfl⟩)
end
end Dg

namespace Dg
open PySem PySem.Spec PyProof.Rows L2 GxR Dz
section
variable {n : Nat} {tb : List (List Nat)} {c : List Nat}
/-- the order within row k, after j signals -/
def ordJ (tb : List (List Nat)) (c : List Nat) (k j : Nat) : List Nat := (tb.take j).foldl (fun o l => vis c o (l.getD ((ordK tb c k).getD k 0) 0)) (ordK tb c k)
theorem ordJ_zero {k : Nat} : ordJ tb c k 0 = ordK tb c k := rfl
theorem ordJ_succ {k j : Nat} {l : List Nat} (h : tb[j]? = some l) : ordJ tb c k (j + 1) = vis c (ordJ tb c k j) (l.getD ((ordK tb c k).getD k 0) 0) := by
  unfold ordJ
  rw [List.take_add_one, h, List.foldl_append]
  rfl
theorem ordJ_all {k : Nat} (hk : k < (ordK tb c k).length) : ordJ tb c k tb.length = ordK tb c (k + 1) := by
  unfold ordJ
  rw [List.take_length]
  show _ = if k < (ordK tb c k).length then visS tb c (ordK tb c k) ((ordK tb c k).getD k 0) else ordK tb c k
  rw [if_pos hk]
  rfl
theorem ordJ_pre {k j : Nat} (hk : k < (ordK tb c k).length) (hn : k < n) : ∃ m, ordK tb c n = ordJ tb c k j ++ m := by
  obtain ⟨m1, e1⟩ := fold_pre c ((ordK tb c k).getD k 0) (tb.drop j) (ordJ tb c k j)
  have e2 : (tb.drop j).foldl (fun o l => vis c o (l.getD ((ordK tb c k).getD k 0) 0)) (ordJ tb c k j) = ordK tb c (k + 1) := by
    rw [← ordJ_all hk]
    unfold ordJ
    rw [← List.foldl_append, List.take_append_drop, List.take_length]
  obtain ⟨m2, e3⟩ := ord_pre2 (tb := tb) (c := c) (k + 1) (n - (k + 1))
  rw [show k + 1 + (n - (k + 1)) = n by omega, ← e2, e1, List.append_assoc] at e3
  exact ⟨_, e3⟩
/-- row k is walked just where the members reach -/
theorem row_iff {k : Nat} (hk : k < n) : k < (ordK tb c k).length ↔ k < (ordK tb c n).length := by
  obtain ⟨m, e⟩ := ord_pre2 (tb := tb) (c := c) k (n - k)
  rw [show k + (n - k) = n by omega] at e
  constructor
  · intro h
    rw [e, List.length_append]
    omega
  · intro h
    rcases Nat.lt_or_ge k (ordK tb c k).length with q | q
    · exact q
    · have e2 := ord_stay q (n - k)
      rw [show k + (n - k) = n by omega] at e2
      rw [e2] at h
      omega
theorem idx_pre {o m : List Nat} {x : Nat} (h : x ∈ o.map fun s => c.getD s 0) : idx ((o ++ m).map fun s => c.getD s 0) x = idx (o.map fun s => c.getD s 0) x := by
  rw [List.map_append]
  exact idx_app h
theorem idx_row {o : List Nat} (ho : OrdOk n c o) {k x : Nat} (hk : k < o.length) (hx : x ∈ o.map fun s => c.getD s 0) : idx (o.map fun s => c.getD s 0) x = k ↔ x = c.getD (o.getD k 0) 0 := by
  have hg : (o.map fun s => c.getD s 0)[k]? = some (c.getD (o.getD k 0) 0) := by
    rw [List.getElem?_map, getD_some hk]
    rfl
  constructor
  · intro e
    have q := idx_get hx
    rw [e, hg] at q
    exact (Option.some.inj q).symm
  · intro e
    rw [e]
    exact idx_at ho.nd hg
theorem ordJ_ok {k j : Nat} (n0 : 0 < n) (ok : TbOk n tb) (hk : k < (ordK tb c k).length) : OrdOk n c (ordJ tb c k j) := by
  have h0 := OrdOk.k (c := c) n0 ok k
  exact OrdOk.fold (h0.lt _ (List.mem_of_getElem? (getD_some hk))) (tb.take j) _ (fun l hl => ok l (List.mem_of_mem_take hl)) h0
end
end Dg

namespace Dz
open PySem PySem.Spec PyProof.Rows L2 GxR
/-- a, b, .. = e, e a list that is data -/
theorem d1_unpackL {T : List Addr} {X : Cx} {CE : Addr} {ρ : List Slot} {O O1 : OH} {e : Expr} {pos : Pos} {ds : List D} {E : DEn} {es : List Expr} {k : Nat} {tp : Pos} {is : List Nat} (he : DE T X e ρ O (.lst ds) O1) (hl : ds.length = is.length) (hn : Names X es is) (h : E.nx (setAll ρ is (ds.map .dat)) O1) (hN : X.N.Nodup) (hc : X.calm = true := by rfl)
    (g1 : (assignEach es X.env).length = is.length := by rfl) (g2 : (assignEach es X.env).findIdx? (·.1) = none := by rfl) (h1 : swapsWithSole [.Tuple es k tp] e pos.line X.env = pure false := by rfl) (h2 : swappedStores [.Tuple es k tp] e X.env = pure none := by rfl) (h3 : (assignEach [.Tuple es k tp] X.env).map (·.2) = [assign (.Tuple es k tp) X.env] := by rfl) :
    D1 T X CE (.Assign [.Tuple es k tp] e pos) ρ O E := .mk fun σ B H hE hA Dn W tk l => by
  refine ws_of (ps_asg pe_we (pg_unl hc (pgs_names hN hn) g1 g2) h1 h2 h3) ?_
  refine he σ B H hE hA _ fun w B1 H1 p1 r1 => ?_
  cases r1 with
  | lst hq r =>
    have e1 : _ = is.length := r.length.trans hl
    exact ⟨_, _, rfl, SqL.of (p1.at'.base _ _ hq), e1, e1, l.nx _ _ _ B1 H1 h p1 (Env.setAll is (hE.mono p1.bb) (Args.of r))⟩
end Dz
namespace Dg
open PySem PySem.Spec PyProof.Rows L2 GxR Dz
/-- the rules when k rows are walked -/
def rowN (n : Nat) (rs : List D) (c mem : List Nat) (k : Nat) : List D := signals.filterMap (ruleTo n rs c mem k)
def rulK (n : Nat) (rs : List D) (c mem : List Nat) (k : Nat) : List D := (List.range (min k mem.length)).flatMap (rowN n rs c mem)
theorem rulK_in {n : Nat} {rs : List D} {c mem : List Nat} {k : Nat} (h : k < mem.length) : rulK n rs c mem (k + 1) = rulK n rs c mem k ++ rowN n rs c mem k := by
  unfold rulK
  rw [show min (k + 1) mem.length = k + 1 by omega, show min k mem.length = k by omega, List.range_succ, List.flatMap_append]
  simp
theorem rulK_out {n : Nat} {rs : List D} {c mem : List Nat} {k : Nat} (h : ¬ k < mem.length) : rulK n rs c mem (k + 1) = rulK n rs c mem k := by
  unfold rulK
  rw [show min (k + 1) mem.length = min k mem.length by omega]
theorem rulK_all {n : Nat} {rs : List D} {c mem : List Nat} {k : Nat} (h : mem.length ≤ k) : rulK n rs c mem k = rulN n rs c mem := by
  unfold rulK
  rw [show min k mem.length = mem.length by omega]
  rfl
/-- of row k, the first j -/
def rowJ (n : Nat) (rs : List D) (c mem : List Nat) (k j : Nat) : List D := (signals.take j).filterMap (ruleTo n rs c mem k)
theorem rowJ_succ {n : Nat} {rs : List D} {c mem : List Nat} {k j : Nat} {s : D} (h : signals[j]? = some s) : rowJ n rs c mem k (j + 1) = rowJ n rs c mem k j ++ (ruleTo n rs c mem k s).toList := by
  unfold rowJ
  rw [List.take_add_one, h, List.filterMap_append]
  congr 1
theorem rowJ_len {n : Nat} {rs : List D} {c mem : List Nat} {k j : Nat} : (rowJ n rs c mem k j).length ≤ 90 := by
  unfold rowJ
  refine Nat.le_trans (List.length_filterMap_le _ _) ?_
  rw [List.length_take, sig_len]
  omega
theorem rulK_len {n : Nat} {rs : List D} {c mem : List Nat} {k : Nat} : (rulK n rs c mem k).length ≤ k * 90 := by
  unfold rulK
  have gen : ∀ (l : List Nat), (l.flatMap (rowN n rs c mem)).length ≤ l.length * 90 := by
    intro l
    induction l with
    | nil => simp
    | cons x l ih =>
      rw [List.flatMap_cons, List.length_append, List.length_cons]
      have h1 : (rowN n rs c mem x).length ≤ 90 := by
        unfold rowN
        refine Nat.le_trans (List.length_filterMap_le _ _) ?_
        rw [sig_len]
        exact Nat.le_refl _
      omega
  refine Nat.le_trans (gen _) ?_
  rw [List.length_range]
  exact Nat.mul_le_mul_right _ (Nat.min_le_left _ _)
theorem natD_app (a b : List Nat) : natD (a ++ b) = natD a ++ natD b := List.map_append ..
theorem in_nat (x : Nat) : ∀ l : List Nat, ((natD l).any fun z => deq z (.int (x : Nat))) = decide (x ∈ l)
  | [] => rfl
  | y :: l => by
    show (deq (.int (y : Nat)) (.int (x : Nat)) || (natD l).any fun z => deq z (.int (x : Nat))) = _
    rw [deq_int, in_nat x l]
    by_cases e : y = x
    · subst e
      simp
    · have e1 : ¬ ((y : Int) = (x : Int)) := by omega
      have e2 : ¬ x = y := fun z => e z.symm
      simp [e1, e2]
theorem lay_natD {l : List Nat} : ∀ e ∈ natD l, layD e = true := fun e he => by
  obtain ⟨x, _, rfl⟩ := List.mem_map.mp he
  rfl
theorem slot_at {o : List Nat} {k : Nat} (h : k < o.length) : atI ((natD o).map Slot.dat) (k : Int) = some (.dat (.int (o.getD k 0 : Nat))) := by
  unfold atI
  rw [ixN_in (by omega) (by rw [List.length_map, natD_len]; omega)]
  show ((natD o).map Slot.dat)[((k : Int)).toNat]? = _
  rw [show ((k : Int)).toNat = k by omega, List.getElem?_map]
  unfold natD
  rw [List.getElem?_map, getD_some h]
  rfl
theorem rulK_zero {n : Nat} {rs : List D} {c mem : List Nat} : rulK n rs c mem 0 = [] := by
  unfold rulK
  rw [Nat.zero_min]
  rfl
section
variable {P : Program} {w : World} {K : PySem.W.Frag} {mg : Str → Option Value} {base : Heap} {T : List Addr} {CE fI : Addr}
theorem scLDue17 : FnScope ["listener", "table", "classes", "signals", "order", "rules", "k", "state", "j", "to", "known", "one"] ["listener"] (defScope s_law_due) := ⟨rfl, rfl, rfl, by decide +kernel, rfl, by decide +kernel, by decide +kernel⟩
def pLDue17 (ss : List Slot) (O : OH) (d : D) (O' : OH) : Prop := ∃ (n : Nat) (os : List Int) (rs : List D), ss = [.dat (.lst [.int (n : Int), .lst (os.map .int), .lst rs])] ∧ LiOk (n : Int) os rs ∧ d = tldN n os rs ∧ O' = O
theorem ok_ldue17 {f g g2 : Addr} {fd gd gd2 : FuncData} {cdv : Value} (F : FunC K "_law_due" "_law_due" s_law_due f fd cdv) (L : Blt mg) (G : FnOk P w K mg base CX0 3 g gd ["listener"] (spF T K pLClasses)) (hg : mg "_law_classes" = some (.ref g)) (kg : PySem.W.keepIn K (.ref g) = true) (bg : Binds K gd ["listener"] [])
    (G2 : FnOk P w K mg base CX0 2 g2 gd2 [] (spF T K pSignals)) (hg2 : mg "_law_signals" = some (.ref g2)) (kg2 : PySem.W.keepIn K (.ref g2) = true) (bg2 : Binds K gd2 [] []) :
    FnOk P w K mg base CX0 4 f fd ["listener"] (spF T K pLDue17) := by
  refine fn_ok (CE := (0 : Addr)) (R := pLDue17) F scLDue17 (fun ss O d O' ⟨n, os, rs, h, _⟩ => by rw [h]; rfl) fun A outer s H E ss O d O' hr h => ?_
  obtain ⟨n, os, rs, e1, lo, e2, e3⟩ := h
  subst e1 e2 e3
  have hN := scLDue17.nd
  have n1 := lo.n1
  have n2 := lo.n2
  have n0 : 0 < n := by omega
  have hok := tbl_ok (n := n) lo.r
  have hcl : (clsN n rs os).length = n := pit_len (bits_len n os) n
  have htl : (tblN n rs).length = 90 := by unfold tblN; rw [List.length_map, sig_len]
  refine ds_cons (d1_unpackL (ds := [.lst (tabL n rs), .lst (natD (clsN n rs os))]) (is := [1, 2]) (O1 := O') (de_call G hr hg kg bg pass0 (da_d (de_var 0) da_nil) ⟨n, os, rs, rfl, lo, rfl, rfl⟩) rfl (by repeat' (first | exact Dz.Names.nil | refine Dz.Names.cons rfl (by first | exact Or.inl rfl | exact Or.inr rfl) (by first | exact .inl rfl | exact .inr rfl) rfl ?_)) ?_ hN)
  refine ds_cons (d1_set 3 (s := .dat (.lst signals)) (O1 := O') (DE.dv (de_call0 G2 (hr.mono (by decide)) hg2 kg2 bg2 pass0 ⟨rfl, rfl, rfl⟩)) ?_ hN)
  refine ds_cons (d1_own 4 (ss := [.dat (.int (0 : Nat))]) (da_d de_int da_nil) (fun p hp => ?_) hN)
  refine ds_cons (d1_own 5 da_nil (fun q hq => ?_) hN)
  have hpq : p ≠ q := fun e => by
    rw [← e, put_same] at hq
    cases hq
  have hqO : O' q = none := by
    rw [put_ne (fun e => hpq e.symm)] at hq
    exact hq
  have hd : tldN n os rs = .lst [.int ((ordK (tblN n rs) (clsN n rs os) n).length : Nat), .lst ((onN os (ordK (tblN n rs) (clsN n rs os) n)).map .int), .lst (rulN n rs (clsN n rs os) (ordK (tblN n rs) (clsN n rs os) n))] := rfl
  rw [hd]
  generalize clsN n rs os = c at hcl
  have cls : ∀ {x : Nat}, x < n → atI (natD c) (x : Int) = some (.int (c.getD x 0 : Nat)) := fun {x} hx => natD_at (by omega) (by rw [hcl]; omega)
  have eN : (n : Int).toNat = n := by omega
  generalize hmem : ordK (tblN n rs) c n = mem
  have hml : mem.length ≤ n := by rw [← hmem]; exact (OrdOk.k n0 hok n).len
  refine ds_cons (d1_forR 6 (m := (n : Int)) (fun k ρ' O2 => ∃ s6 s7 s8 s9 s10, ρ' = [.dat (.lst [.int (n : Int), .lst (os.map .int), .lst rs]), .dat (.lst (tabL n rs)), .dat (.lst (natD c)), .dat (.lst signals), .val (.ref p), .val (.ref q), s6, s7, s8, s9, s10, .no] ∧ O2 = put (put O' p (oRw (ordK (tblN n rs) c k))) q (.lst ((rulK n rs c mem k).map .dat)))
    (de_ixL (ds := [.int (n : Int), .lst (os.map .int), .lst rs]) (de_var 0) de_int rfl) (by omega) ⟨_, _, _, _, _, rfl, by rw [rulK_zero]; rfl⟩ hN ?_ ?_ L.range PassesOwn.never)
  · rintro k ρ' O2 hk ⟨s6, s7, s8, s9, s10, rfl, rfl⟩
    have hk' : k < n := by omega
    refine ds_one (d1_if (p := decide ((k : Int) < ((ordK (tblN n rs) c k).length : Int))) (O1 := put (put O' p (oRw (ordK (tblN n rs) c k))) q (.lst ((rulK n rs c mem k).map .dat))) (dt_lt (de_var 6) (DE.cast (de_lenO L.len (p := p) (ss := (natD (ordK (tblN n rs) c k)).map .dat) (dv_var 4 rfl) (by rw [put_ne hpq, put_same]; rfl)) (by rw [List.length_map, natD_len]))) (fun z => ?_) (fun z => ds_nil ?_))
    · have hkl : k < (ordK (tblN n rs) c k).length := by have := of_decide_eq_true z; omega
      have hkm : k < mem.length := by rw [← hmem]; exact (row_iff hk').mp hkl
      have hko := OrdOk.k (c := c) n0 hok k
      generalize hx : (ordK (tblN n rs) c k).getD k 0 = x
      have hxn : x < n := by rw [← hx]; exact hko.lt _ (List.mem_of_getElem? (getD_some hkl))
      have hmx : mem.getD k 0 = x := by
        obtain ⟨m, e⟩ := ord_pre2 (tb := tblN n rs) (c := c) k (n - k)
        rw [show k + (n - k) = n by omega, hmem] at e
        rw [e, List.getD_eq_getElem?_getD, List.getElem?_append_left hkl, ← List.getD_eq_getElem?_getD, hx]
      refine ds_cons (d1_set 7 (s := .dat (.int (x : Nat))) (O1 := put (put O' p (oRw (ordK (tblN n rs) c k))) q (.lst ((rulK n rs c mem k).map .dat))) (dv_ixO (ss := (natD (ordK (tblN n rs) c k)).map .dat) 4 rfl (de_var 6) (by rw [put_ne hpq, put_same]; rfl) (by rw [slot_at hkl, hx])) ?_ hN)
      refine ds_one (d1_forR 8 (m := 90) (fun j ρ' O3 => ∃ s8 s9 s10, ρ' = [.dat (.lst [.int (n : Int), .lst (os.map .int), .lst rs]), .dat (.lst (tabL n rs)), .dat (.lst (natD c)), .dat (.lst signals), .val (.ref p), .val (.ref q), .dat (.int (k : Int)), .dat (.int (x : Nat)), s8, s9, s10, .no] ∧ O3 = put (put O' p (oRw (ordJ (tblN n rs) c k j))) q (.lst ((rulK n rs c mem k ++ rowJ n rs c mem k j).map .dat)))
        de_int (by decide) ⟨_, _, _, rfl, by show _ = put (put O' p (oRw (ordJ (tblN n rs) c k 0))) q (.lst ((rulK n rs c mem k ++ []).map .dat)); rw [List.append_nil]; rfl⟩ hN ?_ ?_ L.range PassesOwn.never)
      · rintro j ρ' O3 hj ⟨s8, s9, s10, rfl, rfl⟩
        have hj' : j < 90 := by omega
        have hjs : signals[j]? = some (signals[j]'(by rw [sig_len]; exact hj')) := List.getElem?_eq_getElem _
        generalize signals[j]'(by rw [sig_len]; exact hj') = sg at hjs
        have hsg := List.mem_of_getElem? hjs
        have hjt : (tblN n rs)[j]? = some (stN n rs sg) := by unfold tblN; rw [List.getElem?_map, hjs]; rfl
        have hto := hok _ (List.mem_of_getElem? hjt) x hxn
        have hoj := ordJ_ok (c := c) (j := j) n0 hok hkl
        have hoj1 := ordJ_ok (c := c) (j := j + 1) n0 hok hkl
        have hos := ordJ_succ (c := c) (k := k) hjt
        rw [hx] at hos
        obtain ⟨mm, hpre⟩ := ordJ_pre (c := c) (j := j + 1) hkl hk'
        obtain ⟨m0, hpre0⟩ := fold_pre c ((ordK (tblN n rs) c k).getD k 0) ((tblN n rs).take (j + 1)) (ordK (tblN n rs) c k)
        rw [hmem] at hpre
        have hrow := rowJ_succ (n := n) (rs := rs) (c := c) (mem := mem) (k := k) hjs
        have hrt : ruleTo n rs c mem k sg = if c.getD ((stN n rs sg).getD x 0) 0 = c.getD x 0 then none else some (ruleAt k sg (idx (mem.map fun s => c.getD s 0) (c.getD ((stN n rs sg).getD x 0) 0))) := by
          unfold ruleTo
          rw [hmx]
        generalize hy : (stN n rs sg).getD x 0 = y at hto hos hrt
        have hko1 : (ordJ (tblN n rs) c k (j + 1)).getD k 0 = x := by
          have e : ordJ (tblN n rs) c k (j + 1) = ordK (tblN n rs) c k ++ m0 := hpre0
          rw [e, List.getD_eq_getElem?_getD, List.getElem?_append_left hkl, ← List.getD_eq_getElem?_getD, hx]
        have hkl1 : k < (ordJ (tblN n rs) c k (j + 1)).length := by
          have e : ordJ (tblN n rs) c k (j + 1) = ordK (tblN n rs) c k ++ m0 := hpre0
          rw [e, List.length_append]
          omega
        have hrl := rulK_len (n := n) (rs := rs) (c := c) (mem := mem) (k := k)
        have hjl := rowJ_len (n := n) (rs := rs) (c := c) (mem := mem) (k := k) (j := j)
        have eR : rulK n rs c mem k ++ rowJ n rs c mem k (j + 1) = (rulK n rs c mem k ++ rowJ n rs c mem k j) ++ (ruleTo n rs c mem k sg).toList := by rw [hrow, List.append_assoc]
        have hrj : (rulK n rs c mem k ++ rowJ n rs c mem k j).length ≤ 6000 := by
          rw [List.length_append]
          have : k * 90 ≤ 60 * 90 := Nat.mul_le_mul_right _ (by omega)
          omega
        rw [eR]
        generalize rulK n rs c mem k ++ rowJ n rs c mem k j = rj at hrj
        have hol := hoj.len
        generalize ordJ (tblN n rs) c k j = o at hoj hos hol
        generalize ordJ (tblN n rs) c k (j + 1) = o1 at hoj1 hos hpre hko1 hkl1
        have hin : c.getD y 0 ∈ o1.map fun s => c.getD s 0 := by rw [hos]; exact vis_has c o y
        refine ds_cons (d1_set 9 (s := .dat (.int (y : Nat))) (O1 := put (put O' p (oRw o)) q (.lst (rj.map .dat))) (DE.dv (de_ixL (ds := natD (colN n rs x)) (i := (j : Int)) (de_ixL (ds := tabL n rs) (i := (x : Int)) (de_var 1) (de_var 7) (tabL_at hxn)) (de_var 8) (by
          have hcl2 : (colN n rs x).length = 90 := by unfold colN; rw [List.length_map, htl]
          rw [natD_at (by omega) (by rw [hcl2]; omega), show ((j : Int)).toNat = j by omega]
          unfold colN
          rw [List.getD_eq_getElem?_getD, List.getElem?_map, hjt]
          show some (D.int ((stN n rs sg).getD x 0 : Nat)) = _
          rw [hy]))) ?_ hN)
        refine ds_cons (d1_setLcO 10 11 (l := p) (ss := (natD o).map .dat) (out := natD (o.map fun s => c.getD s 0)) (dv_var 4 rfl) (by rw [put_ne hpq, put_same]; rfl) (fun i acc => acc = natD ((o.take i).map fun s => c.getD s 0)) rfl ?_ (fun acc h => by rw [h, List.length_map, natD_len, List.take_length]) ?_ (by rw [List.length_map, natD_len]; omega) hN (blkOk_by rfl))
        · rintro i s acc hi hacc
          rw [List.getElem?_map] at hi
          unfold natD at hi
          rw [List.getElem?_map] at hi
          obtain ⟨d, hd1, rfl⟩ := Option.map_eq_some_iff.mp hi
          obtain ⟨u, hu, rfl⟩ := Option.map_eq_some_iff.mp hd1
          have hun := hoj.lt u (List.mem_of_getElem? hu)
          refine ⟨true, _, difs_nil, (fun _ => ⟨.int (c.getD u 0 : Nat), _, fun s H C cl fp => de_ixL (ds := natD c) (i := (u : Int)) (de_var 2) (de_var 11) (cls hun), ?_, rfl⟩), fun z => by cases z⟩
          rw [hacc, List.take_add_one, hu, List.map_append, natD_app]
          rfl
        · refine ds_mid (fun ρ' O3 => ρ' = [.dat (.lst [.int (n : Int), .lst (os.map .int), .lst rs]), .dat (.lst (tabL n rs)), .dat (.lst (natD c)), .dat (.lst signals), .val (.ref p), .val (.ref q), .dat (.int (k : Int)), .dat (.int (x : Nat)), .dat (.int (j : Int)), .dat (.int (y : Nat)), .dat (.lst (natD (o1.map fun s => c.getD s 0))), .no] ∧ O3 = put (put O' p (oRw o1)) q (.lst (rj.map .dat)))
            (d1_if (p := !decide (c.getD y 0 ∈ o.map fun s => c.getD s 0)) (O1 := put (put O' p (oRw o)) q (.lst (rj.map .dat))) (DT.cast (dt_ninL (x := .int (c.getD y 0 : Nat)) (ds := natD (o.map fun s => c.getD s 0)) hr rfl (lays_all lay_natD).2 (de_ixL (ds := natD c) (i := (y : Int)) (de_var 2) (de_var 9) (cls hto)) (de_var 10)) (by rw [in_nat])) (fun z => ?_) (fun z => ds_nil ?_)) ?_
          · have hn : c.getD y 0 ∉ o.map fun s => c.getD s 0 := by simpa using z
            have ev : o1 = o ++ [y] := by rw [hos]; exact if_neg hn
            subst ev
            refine ds_cons (d1_append (ss := (natD o).map .dat) (s0 := (natD o).map .dat) 4 rfl (by rw [put_ne hpq, put_same]; rfl) (DE.dv (de_var 9)) (by rw [put_ne hpq, put_same]; rfl) (by rw [List.length_map, natD_len]; omega) ?_)
            have e : put (put (put O' p (oRw o)) q (.lst (rj.map .dat))) p (.lst ((natD o).map Slot.dat ++ [.dat (.int (y : Nat))])) = put (put O' p (oRw (o ++ [y]))) q (.lst (rj.map .dat)) := by
              rw [put_cm hpq, put_put]
              refine (put_cm hpq).symm.trans ?_
              have e3 : OD.lst ((natD o).map Slot.dat ++ [.dat (.int (y : Nat))]) = oRw (o ++ [y]) := by
                unfold oRw
                rw [natD_snoc, List.map_append]
                rfl
              rw [e3]
            rw [e]
            refine ds_one (d1_set 10 (s := .dat (.lst (natD (o.map fun s => c.getD s 0) ++ [.int (c.getD y 0 : Nat)]))) (DE.dv (de_catL (ds' := [.int (c.getD y 0 : Nat)]) (de_var 10) (de_lst (ds := [.int (c.getD y 0 : Nat)]) (da_d (de_ixL (ds := natD c) (i := (y : Int)) (de_var 2) (de_var 9) (cls hto)) da_nil) (by show 1 ≤ 10000; decide)) (by rw [natD_len, List.length_map]; show o.length + 1 ≤ 100000; omega))) ⟨?_, rfl⟩ hN)
            have e4 : natD ((o ++ [y]).map fun s => c.getD s 0) = natD (o.map fun s => c.getD s 0) ++ [.int (c.getD y 0 : Nat)] := by
              rw [List.map_append, natD_app]
              rfl
            rw [e4]
            rfl
          · have hm : c.getD y 0 ∈ o.map fun s => c.getD s 0 := by simpa using z
            have ev : o1 = o := by rw [hos]; exact if_pos hm
            subst ev
            exact ⟨rfl, rfl⟩
          · rintro ρ' O3 ⟨rfl, rfl⟩
            have eix : idx (mem.map fun s => c.getD s 0) (c.getD y 0) = idx (o1.map fun s => c.getD s 0) (c.getD y 0) := by rw [hpre]; exact idx_pre hin
            have hiff := idx_row hoj1 hkl1 hin
            rw [hko1] at hiff
            rw [eix] at hrt
            have hget := idx_get hin
            have hmin : ∀ m z, m < idx (o1.map fun s => c.getD s 0) (c.getD y 0) → (o1.map fun s => c.getD s 0)[m]? = some z → z ≠ c.getD y 0 := fun m z => idx_min
            generalize idx (o1.map fun s => c.getD s 0) (c.getD y 0) = ix at hrt hiff hget hmin
            have hlen1 : o1.length ≤ n := hoj1.len
            generalize (o1.map fun s => c.getD s 0) = kn at hget hmin
            have hz : (natD kn)[ix]? = some (.int (c.getD y 0 : Nat)) := by
              unfold natD
              rw [List.getElem?_map, hget]
              rfl
            have he : deq (.int (c.getD y 0 : Nat)) (.int (c.getD y 0 : Nat)) = true := by rw [deq_int]; exact decide_eq_true rfl
            have hno : ∀ m z', m < ix → (natD kn)[m]? = some z' → deq z' (.int (c.getD y 0 : Nat)) = false := fun m z' hm hz' => by
              unfold natD at hz'
              rw [List.getElem?_map] at hz'
              obtain ⟨u, hu, rfl⟩ := Option.map_eq_some_iff.mp hz'
              rw [deq_int]
              exact decide_eq_false fun e => hmin m u hm hu (by omega)
            obtain ⟨h1, h2, h3, h4, esg, _⟩ := sig_parts sg hsg
            have hat : atI signals (j : Int) = some (.tup [h1, h2, h3, h4]) := by
              unfold atI
              rw [ixN_in (by omega) (by rw [sig_len]; omega)]
              show signals[((j : Int)).toNat]? = _
              rw [show ((j : Int)).toNat = j by omega, hjs, esg]
            refine ds_one (d1_if (p := !decide (ix = k)) (O1 := put (put O' p (oRw o1)) q (.lst (rj.map .dat))) (DT.cast (dt_ne (x := .int (ix : Nat)) (y := .int (k : Nat)) hr rfl rfl (de_indexL (ds := natD kn) (j := ix) (d := .int (c.getD y 0 : Nat)) hr (de_var 10) (de_ixL (ds := natD c) (i := (y : Int)) (de_var 2) (de_var 9) (cls hto)) rfl lay_natD hz he hno) (de_var 6)) (by
              rw [deq_int]
              by_cases e : ix = k
              · rw [decide_eq_true e, decide_eq_true (congrArg (fun (i : Nat) => (i : Int)) e)]
              · rw [decide_eq_false e, decide_eq_false (p := ((ix : Nat) : Int) = ((k : Nat) : Int)) (fun z => e (by omega))])) (fun z => ?_) (fun z => ds_nil ?_))
            · have hne : ¬ ix = k := by simpa using z
              refine ds_one (d1_append (s := .dat (.tup ([.int (k : Nat), h1, h2, h3, h4] ++ [.int (ix : Nat)]))) (ss := rj.map .dat) (s0 := rj.map .dat) 5 rfl put_same
                (DE.dv (de_catT (ds := [.int (k : Nat), h1, h2, h3, h4]) (ds' := [.int (ix : Nat)]) (de_catT (ds := [.int (k : Nat)]) (ds' := [h1, h2, h3, h4]) (de_tup (ds := [.int (k : Nat)]) (da_d (de_var 6) da_nil) (by show 1 ≤ 10000; decide)) (de_ixL (ds := signals) (i := (j : Int)) (de_var 3) (de_var 8) hat) (by simp) (by show 5 ≤ 100000; decide))
                  (de_tup (ds := [.int (ix : Nat)]) (da_d (de_indexL (ds := natD kn) (j := ix) (d := .int (c.getD y 0 : Nat)) hr (de_var 10) (de_ixL (ds := natD c) (i := (y : Int)) (de_var 2) (de_var 9) (cls hto)) rfl lay_natD hz he hno) da_nil) (by show 1 ≤ 10000; decide)) (by simp) (by show 6 ≤ 100000; decide))) put_same (by rw [List.length_map]; omega) ⟨_, _, _, rfl, ?_⟩)
              rw [put_put, hrt, if_neg (fun e => hne (hiff.mpr e)), List.map_append, esg]
              rfl
            · have hke : ix = k := by simpa using z
              refine ⟨_, _, _, rfl, ?_⟩
              rw [hrt, if_pos (hiff.mp hke)]
              show _ = put (put O' p (oRw o1)) q (.lst ((rj ++ []).map .dat))
              rw [List.append_nil]
      · rintro ρ' O3 ⟨s8, s9, s10, rfl, rfl⟩
        refine ⟨_, _, _, _, _, rfl, ?_⟩
        show put (put O' p (oRw (ordJ (tblN n rs) c k 90))) q (.lst ((rulK n rs c mem k ++ rowJ n rs c mem k 90).map .dat)) = _
        have e1 : ordJ (tblN n rs) c k 90 = ordK (tblN n rs) c (k + 1) := by rw [← ordJ_all hkl, htl]
        have e2 : rowJ n rs c mem k 90 = rowN n rs c mem k := by
          unfold rowJ rowN
          rw [List.take_of_length_le (by rw [sig_len]; exact Nat.le_refl _)]
        rw [e1, e2, ← rulK_in hkm]
    · have hkl : ¬ k < (ordK (tblN n rs) c k).length := by have := of_decide_eq_false z; omega
      have hkm : ¬ k < mem.length := by rw [← hmem]; exact fun z => hkl ((row_iff hk').mpr z)
      refine ⟨_, _, _, _, _, rfl, ?_⟩
      have e : ordK (tblN n rs) c (k + 1) = ordK (tblN n rs) c k := if_neg hkl
      rw [e, rulK_out hkm]
  · rintro ρ' O2 ⟨s6, s7, s8, s9, s10, rfl, rfl⟩
    rw [eN, hmem, rulK_all hml]
    refine ds_freeze (ds := rulN n rs c mem) 5 rfl put_same ?_
    rw [cut_put (by rw [put_ne (fun e => hpq e.symm)]; exact hqO)]
    refine ds_freeze (ds := natD mem) 4 rfl put_same ?_
    rw [cut_put hp]
    refine ds_one (d1_ret (s := .dat (.lst [.int (mem.length : Nat), .lst ((onN os mem).map .int), .lst (rulN n rs c mem)])) (O1 := O') (DE.dv (de_lst (ds := [.int (mem.length : Nat), .lst ((onN os mem).map .int), .lst (rulN n rs c mem)]) (da_d (DE.cast (de_lenL L.len (de_var 4)) (by rw [natD_len])) (da_d
      (DE.cast (de_lcW (own := [("k", 6)]) (ds := rgD 0 (mem.length : Int).toNat) (is := [6]) (f := one1) (g := gName 6) (src_range (m := (mem.length : Int)) (DE.cast (de_lenL (ds := natD mem) L.len (de_var 4)) (by rw [natD_len])) (by omega) (by omega) L.range) (pgb_name 6 hN) (tg_name 6) _ ⟨by rfl, rfl⟩ (by decide) (fun d _ => ⟨[d], rfl⟩) (by unfold rgD; simp; omega)
        (lcW_pure (F := fun cs => match cs with | [.int j] => if ((mem.getD j.toNat 0 : Nat) : Int) ∈ os then some (D.int j) else none | _ => none) ?_) (fun acc O3 h => h) hN (blkOk_by rfl)) ?_) (da_d (de_var 5) da_nil))) (by show 3 ≤ 10000; decide))) ⟨rfl, rfl⟩)
    · intro d hd cs hcs
      cases hcs
      unfold rgD at hd
      obtain ⟨j, hj, rfl⟩ := List.mem_map.mp hd
      have hj' : j < mem.length := by have := List.mem_range.mp hj; omega
      have ej : ((0 : Int) + (j : Int)) = (j : Int) := Int.zero_add _
      rw [ej]
      have hat : atI (natD mem) (j : Int) = some (.int (mem.getD j 0 : Nat)) := by
        rw [natD_at (by omega) (by omega), show ((j : Int)).toNat = j by omega]
      by_cases e : ((mem.getD j 0 : Nat) : Int) ∈ os
      · exact .inl ⟨.int (j : Int), if_pos (by rw [show ((j : Int)).toNat = j by omega]; exact e), difs_one fun s H C cl fp => DT.cast (dt_inL (x := .int ((mem.getD j 0 : Nat) : Int)) (ds := os.map .int) hr rfl (by rw [oks_all]; exact List.all_eq_true.mpr fun d hd => by obtain ⟨i, _, rfl⟩ := List.mem_map.mp hd; rfl) (de_ixL (ds := natD mem) (i := (j : Int)) (de_var 4) (de_var 6) hat) (de_ixL (ds := [.int (n : Int), .lst (os.map .int), .lst rs]) (de_var 0) de_int rfl)) (by rw [in_ints, decide_eq_true e]), fun s H C cl fp => de_var 6⟩
      · exact .inr ⟨if_neg (by rw [show ((j : Int)).toNat = j by omega]; exact e), difs_one fun s H C cl fp => DT.cast (dt_inL (x := .int ((mem.getD j 0 : Nat) : Int)) (ds := os.map .int) hr rfl (by rw [oks_all]; exact List.all_eq_true.mpr fun d hd => by obtain ⟨i, _, rfl⟩ := List.mem_map.mp hd; rfl) (de_ixL (ds := natD mem) (i := (j : Int)) (de_var 4) (de_var 6) hat) (de_ixL (ds := [.int (n : Int), .lst (os.map .int), .lst rs]) (de_var 0) de_int rfl)) (by rw [in_ints, decide_eq_false e])⟩
    · rw [List.take_length]
      unfold rgD onN
      rw [List.filterMap_map, List.map_filterMap, show (mem.length : Int).toNat = mem.length by omega]
      refine congrArg D.lst (fm_congr fun j _ => ?_)
      show (if ((mem.getD (((0 : Int) + (j : Int))).toNat 0 : Nat) : Int) ∈ os then some (D.int ((0 : Int) + (j : Int))) else none) = _
      rw [Int.zero_add, show ((j : Int)).toNat = j by omega]
      split <;> rfl
end
end Dg

namespace Dg
open PySem PySem.Spec PyProof.Rows L2 GxR Dz
theorem liN_12 (row : List Int) (a : Nat) : liN row a 12 ≤ 12 := by
  by_cases z : liK row a = true
  · obtain ⟨zz, n, rs, es, hmem, hat⟩ := sAt_mem z
    obtain ⟨_, _, hl, hn2, hn3⟩ := samp_at hmem
    have eN : liN row a 12 = n := by unfold liN; rw [if_pos z, es]
    omega
  · have d1 := drw_lt row (a + 1) (many := 12) (by decide)
    have eN : liN row a 12 = 1 + drw row (a + 1) 12 := by unfold liN; rw [if_neg z]
    omega
theorem tld_ok {n : Nat} {os : List Int} {rs : List D} (lo : LiOk (n : Int) os rs) : D.ok 32 (tldN n os rs) = true := by
  have n0 : 0 < n := by have := lo.n1; omega
  unfold tldN
  exact ok_listD fun r hr => rule_ok30 (rul_ok (fun k hk l hl => ord_closed n0 (tbl_ok lo.r) hk hl) r hr)
def r13 : D := .tup [.non, .str "over", .non, .non, .non, .int 12]
theorem li13 : LiOk ((13 : Nat) : Int) [1] [r13] where
  n1 := by decide
  n2 := by decide
  asc := List.pairwise_singleton _ _
  lt := by decide
  ol := by decide
  r := by
    intro r hr
    rw [List.mem_singleton] at hr
    subst hr
    decide +kernel
  rl := by decide
section
variable {P : Program} {w : World} {K : PySem.W.Frag} {mg : Str → Option Value} {base : Heap} {T : List Addr} {CE fI : Addr}
theorem scLaw : FnScope ["script", "box", "turn", "listener"] ["script"] (defScope sLaw) := ⟨rfl, rfl, rfl, by decide +kernel, rfl, by decide +kernel, by decide +kernel⟩
def pLaw : PR := fun ss O Rn Rx => ∃ ns : List Int, ss = [.dat (.kst (ns.map .int))] ∧ Rn = (fun v _ => v = .dat (.bl true)) ∧ Rx = fun _ _ => False
theorem ok_law {f : Addr} {fd : FuncData} {cdv : Value} (F : FunC K "law" "law" sLaw f fd cdv) (L : Blt mg)
    (Frow : HasF P w K mg base CX0 2 "_law_row" ["script", "first", "last"] (spF T K pRow)) (Fli : HasF P w K mg base (L2.CX P w) 3 "_law_listener" ["box", "most"] (spX T K CE pLList))
    (Fto : HasF P w K mg base (L2.CX P w) 9 "_law_told" ["listener"] (spX T K CE pLTold)) (Fdu : HasF P w K mg base CX0 4 "_law_due" ["listener"] (spF T K pLDue17)) :
    FnOk P w K mg base (L2.CX P w) 10 f fd ["script"] (spX T K CE pLaw) := by
  obtain ⟨_, _, Gli, hli, kli, bli⟩ := Fli
  obtain ⟨_, _, Gto, hto, kto, bto⟩ := Fto
  refine fn_okX (R := pLaw) F scLaw (fun ss O Rn Rx ⟨ns, h, _⟩ => by rw [h]; rfl) fun A outer s H E ss O Rn Rx hr h => ?_
  obtain ⟨ns, e1, eN, eX⟩ := h
  subst e1 eN eX
  have hr1 := hr.mono (show 1 ≤ 9 by decide)
  have hr2 := hr.mono (show 2 ≤ 9 by decide)
  have hr3 := hr.mono (show 3 ≤ 9 by decide)
  have hr4 := hr.mono (show 4 ≤ 9 by decide)
  refine ds_cons (d1_own 1 (ss := [.dat (.lst ((rowF ns 0 40).map .int)), .dat (.int 0)]) (O1 := O) (da_d (de_callH Frow hr2 (da_d (de_var 0) (da_d de_int (da_d de_int da_nil))) ⟨ns, 0, 40, rfl, by decide, by decide, by decide, by decide, rfl, rfl⟩) (da_d de_int da_nil)) (fun b hb => ?_) scLaw.nd (by show 2 ≤ 10000; decide))
  generalize rowF ns 0 40 = row
  have eB : (OD.lst [.dat (.lst (row.map .int)), .dat (.int 0)]) = Bx row 0 := rfl
  rw [eB]
  refine ds_cons (d1_forR (O1 := put O b (Bx row 0)) 2 (fun j ρ' O2 => (∃ s2 s3, ρ' = [.dat (.kst (ns.map .int)), .val (.ref b), s2, s3]) ∧ ∃ a, O2 = put O b (Bx row a) ∧ a ≤ 200 * j) de_int (by decide) ⟨⟨_, _, rfl⟩, 0, rfl, Nat.le_refl _⟩ scLaw.nd ?_ ?_ L.range (passes_of rfl))
  · rintro j ρ' O2 hj ⟨⟨s2, s3, rfl⟩, a, rfl, hal⟩
    have ha : a ≤ 600 := by omega
    obtain ⟨os, eO, lo⟩ := li_ok row a (most := 12) (by decide) (by decide)
    have hla := liA_le row a (most := 12) (by decide) (by decide)
    have h12 := liN_12 row a
    refine ds_cons (d1_set 3 (s := .dat (listD row a 12)) (O1 := put O b (Bx row (liA row a 12))) (dv_callX Gli hr3 hli kli bli (da_v (dv_var 1 rfl) (da_d de_int da_nil)) ⟨b, row, a, 12, rfl, put_same, by decide, by decide, by omega, by rw [put_put], rfl⟩) ?_ scLaw.nd)
    unfold listD
    rw [eO]
    generalize liR row a 12 = rs at lo
    generalize liA row a 12 = a1 at hla
    have n1 := lo.n1
    obtain ⟨n, en⟩ : ∃ n : Nat, liN row a 12 = (n : Int) := ⟨(liN row a 12).toNat, by omega⟩
    rw [en] at lo h12 ⊢
    have hn : n ≤ 12 := by omega
    have eT : tldD n os rs = tldN n os rs := if_pos hn
    exact ds_one (d1_if (p := false) (O1 := put O b (Bx row a1)) (DT.cast (dt_ne (x := tldN n os rs) (y := tldN n os rs) hr1 (tld_ok lo) (tld_ok lo) (DV.de (dv_callX Gto hr hto kto bto (da_d (de_var 3) da_nil) ⟨n, os, rs, rfl, lo, by rw [eT], rfl⟩)) (de_callH Fdu hr4 (da_d (de_var 3) da_nil) ⟨n, os, rs, rfl, lo, rfl, rfl⟩)) (by rw [deq_refl (tld_ok lo)]; rfl)) (fun z => by cases z) fun _ => ds_nil ⟨⟨_, _, rfl⟩, a1, rfl, by omega⟩)
  · rintro ρ' O2 ⟨⟨s2, s3, rfl⟩, a, rfl, hal⟩
    have e13 : tldD 13 [1] [r13] = .str "too many states" := if_neg (by decide)
    exact ds_one (d1_ret (s := .dat (.bl true)) (O1 := put O b (Bx row a)) (DE.dv (DE.cast (de_eq (x := .str "too many states") (y := .str "too many states") hr1 rfl rfl (DV.de (dv_callX (O2 := put O b (Bx row a)) Gto hr hto kto bto (da_d (de_lst (ds := [.int ((13 : Nat) : Int), .lst ([1].map .int), .lst [r13]]) (da_d de_int (da_d (de_lst (ds := [.int 1]) (da_d de_int da_nil) (by decide)) (da_d (de_lst (ds := [r13]) (da_d (de_tup (ds := [.non, .str "over", .non, .non, .non, .int 12]) (da_d de_non (da_d de_str (da_d de_non (da_d de_non (da_d de_non (da_d de_int da_nil)))))) (by decide)) da_nil) (by decide)) da_nil))) (by decide)) da_nil) ⟨13, [1], [r13], rfl, li13, by rw [e13], rfl⟩)) de_str) (by rw [deq_str]; rfl))) rfl)
end
end Dg

namespace Dg
open PySem PySem.Spec PyProof.Rows L2 GxR Dz
theorem func_mk {K : PySem.W.Frag} {x qual : Str} {st : Stmt} {f : Addr} {oc : Value} {od an : Option Addr} {osl : Array (Option Value)} {kV doc pm cdv ct : Value} (l : K.lookup f = some ⟨oc, od, .func (PySem.W.fnOf x qual (defArgs st) (defBody st) (defScope st) .none kV doc pm an cdv ct), osl⟩)
    (c : PySem.W.codeIn K cdv qual = true) (k : PySem.W.keepIn K (.ref f) = true) : FunC K x qual st f (PySem.W.fnOf x qual (defArgs st) (defBody st) (defScope st) .none kV doc pm an cdv ct) cdv := ⟨⟨oc, od, kV, doc, pm, an, ct, osl, rfl, l, c⟩, k⟩
/-- the end of a law, with the empty tables of its defs' code objects -/
theorem walk_dz {l : PySem.W.OpenLaw} {n k : Nat} {q : Program} {loose : List Str} {XP : (Str → Option Value) → Heap → Prop} {YP : World → Heap → Prop} {d : DefRec} {K : Params → PySem.W.Frag} {CX : World → CXT} {x : Str}
    (hn : l.most = some n) (hz : n ≤ sizeLine) (hdf : d.params.defaults = []) (room : Room k callerA) (hY : ∀ (w : World) (h : Heap), YP w h → (K w.params).In h)
    (F : ∀ (w : World) (mg : Str → Option Value) (fa : Addr) (h : Heap), (K w.params).In h → h.Ns mainGlobals mg → mg d.name = some (.ref fa) →
      (∀ (y : Str) (c P : Addr), ((recsOf q).any fun e => e.name == y) = true → PySem.W.tabIn (K w.params) y = some (c, P) → h.get? P = some { cls := .none, data := .fields #[] }) → LamX.LawAtS l w (K w.params) (CX w) k n x mg fa h)
    (no : ∀ (w : World) (H : Hp) (s : Shared) (e : Value) (s' : Shared), CX w [] H s (fun _ _ _ => False) e s' → False) : PySem.W.WalkO q loose XP YP l.row.toRowW d [] (fun f vs => PySem.call f vs) := by
  refine Att.attach_callB hn hdf fun w s0 s1 mg mb fa o pm cd doc a vs ns G Y ho hd hcd hmg hobj hit short bits gens => ?_
  have KX := hY w _ Y
  obtain ⟨fd, cs, sp, e1, e2, e3, e4, e5, e6⟩ := F w mg fa _ KX G.T.g hmg fun y c P hr ht => by
    obtain ⟨r, m1, m2⟩ := List.any_eq_true.mp hr
    cases hf : (recsOf q).find? fun e => e.name == y with
    | none => exact absurd m2 (by simpa using List.find?_eq_none.mp hf r m1)
    | some r' => exact (PySem.W.tab_of G.T KX hf ht).2
  exact LamX.law_callTs KX G.T.g G.T.b G.T.builtins G.T.nolimit gens e1 e2 e3 G.T.bmain hobj hit (Nat.le_trans short hz) room e6 e4 (fun H hH hS => e5 H a ns short bits hH hS) fun H e s' => no w H s1 e s'
theorem cx_no {P : Program} {w : World} {H : Hp} {s : Shared} {e : Value} {s' : Shared} (z : L2.CX P w [] H s (fun _ _ _ => False) e s') : False := by
  obtain ⟨_, _, _, _, _, _, _, _, _, _, _, _, z⟩ := z
  exact z
def spEnd (K : PySem.W.Frag) (T : List Addr) (CE : Addr) : Sp := spX T K CE pLaw
theorem all_mk {l : PySem.W.OpenLaw} {w : World} {K : PySem.W.Frag} {h : Heap} {mg : Str → Option Value} {fa : Addr} (X : K.In h) (G : h.Ns mainGlobals mg) (hfa : mg "law" = some (.ref fa)) (hT : ∀ P ∈ [133, 140], h.get? P = some { cls := .none, data := .fields #[] })
    {CL : Addr}
    {C0 : Addr}
    {f_n0 : Addr} {od_n0 an_n0 : Option Addr} {sl_n0 : Array (Option Value)} {oc_n0 kV_n0 dc_n0 pm_n0 ct_n0 : Value}
    {cd_n0 : Value}
    {f_n1 : Addr} {od_n1 an_n1 : Option Addr} {sl_n1 : Array (Option Value)} {oc_n1 kV_n1 dc_n1 pm_n1 ct_n1 : Value}
    {cd_n1 : Value}
    {f_n2 : Addr} {od_n2 an_n2 : Option Addr} {sl_n2 : Array (Option Value)} {oc_n2 kV_n2 dc_n2 pm_n2 ct_n2 : Value}
    {cd_n2 : Value}
    {f_n3 : Addr} {od_n3 an_n3 : Option Addr} {sl_n3 : Array (Option Value)} {oc_n3 kV_n3 dc_n3 pm_n3 ct_n3 : Value}
    {cd_n3 : Value}
    {f_n4 : Addr} {od_n4 an_n4 : Option Addr} {sl_n4 : Array (Option Value)} {oc_n4 kV_n4 dc_n4 pm_n4 ct_n4 : Value}
    {cd_n4 : Value}
    {f_n5 : Addr} {od_n5 an_n5 : Option Addr} {sl_n5 : Array (Option Value)} {oc_n5 kV_n5 dc_n5 pm_n5 ct_n5 : Value}
    {cd_n5 : Value}
    {f_n6 : Addr} {od_n6 an_n6 : Option Addr} {sl_n6 : Array (Option Value)} {oc_n6 kV_n6 dc_n6 pm_n6 ct_n6 : Value}
    {cd_n6 : Value}
    {f_n7 : Addr} {od_n7 an_n7 : Option Addr} {sl_n7 : Array (Option Value)} {oc_n7 kV_n7 dc_n7 pm_n7 ct_n7 : Value}
    {cd_n7 : Value}
    {f_n8 : Addr} {od_n8 an_n8 : Option Addr} {sl_n8 : Array (Option Value)} {oc_n8 kV_n8 dc_n8 pm_n8 ct_n8 : Value}
    {cd_n8 : Value}
    {f_n9 : Addr} {od_n9 an_n9 : Option Addr} {sl_n9 : Array (Option Value)} {oc_n9 kV_n9 dc_n9 pm_n9 ct_n9 : Value}
    {f_n10 : Addr} {od_n10 an_n10 : Option Addr} {sl_n10 : Array (Option Value)} {oc_n10 kV_n10 dc_n10 pm_n10 ct_n10 : Value}
    {cd_n10 : Value}
    {f_n11 : Addr} {od_n11 an_n11 : Option Addr} {sl_n11 : Array (Option Value)} {oc_n11 kV_n11 dc_n11 pm_n11 ct_n11 : Value}
    {cd_n11 : Value}
    {f_n12 : Addr} {od_n12 an_n12 : Option Addr} {sl_n12 : Array (Option Value)} {oc_n12 kV_n12 dc_n12 pm_n12 ct_n12 : Value}
    {f_lI : Addr} {od_lI an_lI : Option Addr} {sl_lI : Array (Option Value)} {oc_lI kV_lI dc_lI pm_lI ct_lI : Value}
    {cd_lI : Value}
    {f_n14 : Addr} {od_n14 an_n14 : Option Addr} {sl_n14 : Array (Option Value)} {oc_n14 kV_n14 dc_n14 pm_n14 ct_n14 : Value}
    {cd_n14 : Value}
    {f_n15 : Addr} {od_n15 an_n15 : Option Addr} {sl_n15 : Array (Option Value)} {oc_n15 kV_n15 dc_n15 pm_n15 ct_n15 : Value}
    {cd_n15 : Value}
    {f_n16 : Addr} {od_n16 an_n16 : Option Addr} {sl_n16 : Array (Option Value)} {oc_n16 kV_n16 dc_n16 pm_n16 ct_n16 : Value}
    {cd_n16 : Value}
    {f_n17 : Addr} {od_n17 an_n17 : Option Addr} {sl_n17 : Array (Option Value)} {oc_n17 kV_n17 dc_n17 pm_n17 ct_n17 : Value}
    {cd_n17 : Value}
    {f_n18 : Addr} {od_n18 an_n18 : Option Addr} {sl_n18 : Array (Option Value)} {oc_n18 kV_n18 dc_n18 pm_n18 ct_n18 : Value}
    {cd_n18 : Value}
    {f_n19 : Addr} {od_n19 an_n19 : Option Addr} {sl_n19 : Array (Option Value)} {oc_n19 kV_n19 dc_n19 pm_n19 ct_n19 : Value}
    {cd_n19 : Value}
    {f_n20 : Addr} {od_n20 an_n20 : Option Addr} {sl_n20 : Array (Option Value)} {oc_n20 kV_n20 dc_n20 pm_n20 ct_n20 : Value}
    {cd_n20 : Value}
    {f_n21 : Addr} {od_n21 an_n21 : Option Addr} {sl_n21 : Array (Option Value)} {oc_n21 kV_n21 dc_n21 pm_n21 ct_n21 : Value}
    {cd_n21 : Value}
    {f_n22 : Addr} {od_n22 an_n22 : Option Addr} {sl_n22 : Array (Option Value)} {oc_n22 kV_n22 dc_n22 pm_n22 ct_n22 : Value}
    {cd_n22 : Value}
    {f_n23 : Addr} {od_n23 an_n23 : Option Addr} {sl_n23 : Array (Option Value)} {oc_n23 kV_n23 dc_n23 pm_n23 ct_n23 : Value}
    {cd_n23 : Value}
    {f_n24 : Addr} {od_n24 an_n24 : Option Addr} {sl_n24 : Array (Option Value)} {oc_n24 kV_n24 dc_n24 pm_n24 ct_n24 : Value}
    {cd_n24 : Value}
    {f_n25 : Addr} {od_n25 an_n25 : Option Addr} {sl_n25 : Array (Option Value)} {oc_n25 kV_n25 dc_n25 pm_n25 ct_n25 : Value}
    {cd_n25 : Value}
    {f_n26 : Addr} {od_n26 an_n26 : Option Addr} {sl_n26 : Array (Option Value)} {oc_n26 kV_n26 dc_n26 pm_n26 ct_n26 : Value}
    {cd_n26 : Value}
    {f_n27 : Addr} {od_n27 an_n27 : Option Addr} {sl_n27 : Array (Option Value)} {oc_n27 kV_n27 dc_n27 pm_n27 ct_n27 : Value}
    {cd_n27 : Value}
    {f_n28 : Addr} {od_n28 an_n28 : Option Addr} {sl_n28 : Array (Option Value)} {oc_n28 kV_n28 dc_n28 pm_n28 ct_n28 : Value}
    {cd_n28 : Value}
    {f_n29 : Addr} {od_n29 an_n29 : Option Addr} {sl_n29 : Array (Option Value)} {oc_n29 kV_n29 dc_n29 pm_n29 ct_n29 : Value}
    {cd_n29 : Value}
    {f_eI : Addr} {od_eI an_eI : Option Addr} {sl_eI : Array (Option Value)} {oc_eI kV_eI dc_eI pm_eI ct_eI : Value}
    {cd_eI : Value}
    {nm q : Str} {N : Addr} {bs : List Value} {sn : List Str} {sub : List Value} {ab : Bool} {col : Option Bool} {dd : Option Addr} {m0 m1 m2 m3 m5 : Option Value}
    {u_MOST_STATES : Value}
    {u_MOST_RULES : Value}
    {u_KINDS : Value}
    {u_SIDES : Value}
    {u_RELATED_SIDES : Value}
    {u_MOST_MERGED_STATES : Value}
    (a_n0 : PySem.W.nsIn K mainGlobals "_law_cell" = some (some (.ref f_n0)))
    (l_n0 : K.lookup f_n0 = some ⟨oc_n0, od_n0, .func (PySem.W.fnOf "_law_cell" "_law_cell" (defArgs sLCell) (defBody sLCell) (defScope sLCell) .none kV_n0 dc_n0 pm_n0 an_n0 (cd_n0) ct_n0), sl_n0⟩)
    (c_n0 : PySem.W.codeIn K (cd_n0) "_law_cell" = true)
    (k_n0 : PySem.W.keepIn K (.ref f_n0) = true)
    (a_n1 : PySem.W.nsIn K mainGlobals "_law_row" = some (some (.ref f_n1)))
    (l_n1 : K.lookup f_n1 = some ⟨oc_n1, od_n1, .func (PySem.W.fnOf "_law_row" "_law_row" (defArgs sLRow) (defBody sLRow) (defScope sLRow) .none kV_n1 dc_n1 pm_n1 an_n1 (cd_n1) ct_n1), sl_n1⟩)
    (c_n1 : PySem.W.codeIn K (cd_n1) "_law_row" = true)
    (k_n1 : PySem.W.keepIn K (.ref f_n1) = true)
    (a_n2 : PySem.W.nsIn K mainGlobals "_law_draw" = some (some (.ref f_n2)))
    (l_n2 : K.lookup f_n2 = some ⟨oc_n2, od_n2, .func (PySem.W.fnOf "_law_draw" "_law_draw" (defArgs sLDraw) (defBody sLDraw) (defScope sLDraw) .none kV_n2 dc_n2 pm_n2 an_n2 (cd_n2) ct_n2), sl_n2⟩)
    (c_n2 : PySem.W.codeIn K (cd_n2) "_law_draw" = true)
    (k_n2 : PySem.W.keepIn K (.ref f_n2) = true)
    (a_n3 : PySem.W.nsIn K mainGlobals "_law_kinds" = some (some (.ref f_n3)))
    (l_n3 : K.lookup f_n3 = some ⟨oc_n3, od_n3, .func (PySem.W.fnOf "_law_kinds" "_law_kinds" (defArgs sLKinds) (defBody sLKinds) (defScope sLKinds) .none kV_n3 dc_n3 pm_n3 an_n3 (cd_n3) ct_n3), sl_n3⟩)
    (c_n3 : PySem.W.codeIn K (cd_n3) "_law_kinds" = true)
    (k_n3 : PySem.W.keepIn K (.ref f_n3) = true)
    (a_n4 : PySem.W.nsIn K mainGlobals "_law_rule" = some (some (.ref f_n4)))
    (l_n4 : K.lookup f_n4 = some ⟨oc_n4, od_n4, .func (PySem.W.fnOf "_law_rule" "_law_rule" (defArgs sLRule) (defBody sLRule) (defScope sLRule) .none kV_n4 dc_n4 pm_n4 an_n4 (cd_n4) ct_n4), sl_n4⟩)
    (c_n4 : PySem.W.codeIn K (cd_n4) "_law_rule" = true)
    (k_n4 : PySem.W.keepIn K (.ref f_n4) = true)
    (a_n5 : PySem.W.nsIn K mainGlobals "_law_sample" = some (some (.ref f_n5)))
    (l_n5 : K.lookup f_n5 = some ⟨oc_n5, od_n5, .func (PySem.W.fnOf "_law_sample" "_law_sample" (defArgs sLSample) (defBody sLSample) (defScope sLSample) .none kV_n5 dc_n5 pm_n5 an_n5 (cd_n5) ct_n5), sl_n5⟩)
    (c_n5 : PySem.W.codeIn K (cd_n5) "_law_sample" = true)
    (k_n5 : PySem.W.keepIn K (.ref f_n5) = true)
    (a_n6 : PySem.W.nsIn K mainGlobals "_law_listener" = some (some (.ref f_n6)))
    (l_n6 : K.lookup f_n6 = some ⟨oc_n6, od_n6, .func (PySem.W.fnOf "_law_listener" "_law_listener" (defArgs sLList) (defBody sLList) (defScope sLList) .none kV_n6 dc_n6 pm_n6 an_n6 (cd_n6) ct_n6), sl_n6⟩)
    (c_n6 : PySem.W.codeIn K (cd_n6) "_law_listener" = true)
    (k_n6 : PySem.W.keepIn K (.ref f_n6) = true)
    (a_n7 : PySem.W.nsIn K mainGlobals "is_number" = some (some (.ref f_n7)))
    (l_n7 : K.lookup f_n7 = some ⟨oc_n7, od_n7, .func (PySem.W.fnOf "is_number" "is_number" (defArgs sIsNumber) (defBody sIsNumber) (defScope sIsNumber) .none kV_n7 dc_n7 pm_n7 an_n7 (cd_n7) ct_n7), sl_n7⟩)
    (c_n7 : PySem.W.codeIn K (cd_n7) "is_number" = true)
    (k_n7 : PySem.W.keepIn K (.ref f_n7) = true)
    (a_n8 : PySem.W.nsIn K mainGlobals "is_number_below" = some (some (.ref f_n8)))
    (l_n8 : K.lookup f_n8 = some ⟨oc_n8, od_n8, .func (PySem.W.fnOf "is_number_below" "is_number_below" (defArgs sIsBelow) (defBody sIsBelow) (defScope sIsBelow) .none kV_n8 dc_n8 pm_n8 an_n8 (cd_n8) ct_n8), sl_n8⟩)
    (c_n8 : PySem.W.codeIn K (cd_n8) "is_number_below" = true)
    (k_n8 : PySem.W.keepIn K (.ref f_n8) = true)
    (a_n9 : PySem.W.nsIn K mainGlobals "are_states" = some (some (.ref f_n9)))
    (l_n9 : K.lookup f_n9 = some ⟨oc_n9, od_n9, .func (PySem.W.fnOf "are_states" "are_states" (defArgs sAreStates) (defBody sAreStates) (defScope sAreStates) .none kV_n9 dc_n9 pm_n9 an_n9 (.ref 137) ct_n9), sl_n9⟩)
    (c_n9 : PySem.W.codeIn K (.ref 137) "are_states" = true)
    (k_n9 : PySem.W.keepIn K (.ref f_n9) = true)
    (a_n10 : PySem.W.nsIn K mainGlobals "is_word" = some (some (.ref f_n10)))
    (l_n10 : K.lookup f_n10 = some ⟨oc_n10, od_n10, .func (PySem.W.fnOf "is_word" "is_word" (defArgs sIsWord) (defBody sIsWord) (defScope sIsWord) .none kV_n10 dc_n10 pm_n10 an_n10 (cd_n10) ct_n10), sl_n10⟩)
    (c_n10 : PySem.W.codeIn K (cd_n10) "is_word" = true)
    (k_n10 : PySem.W.keepIn K (.ref f_n10) = true)
    (a_n11 : PySem.W.nsIn K mainGlobals "is_rule" = some (some (.ref f_n11)))
    (l_n11 : K.lookup f_n11 = some ⟨oc_n11, od_n11, .func (PySem.W.fnOf "is_rule" "is_rule" (defArgs sIsRule) (defBody sIsRule) (defScope sIsRule) .none kV_n11 dc_n11 pm_n11 an_n11 (cd_n11) ct_n11), sl_n11⟩)
    (c_n11 : PySem.W.codeIn K (cd_n11) "is_rule" = true)
    (k_n11 : PySem.W.keepIn K (.ref f_n11) = true)
    (a_n12 : PySem.W.nsIn K mainGlobals "are_rules" = some (some (.ref f_n12)))
    (l_n12 : K.lookup f_n12 = some ⟨oc_n12, od_n12, .func (PySem.W.fnOf "are_rules" "are_rules" (defArgs sAreRules) (defBody sAreRules) (defScope sAreRules) .none kV_n12 dc_n12 pm_n12 an_n12 (.ref 144) ct_n12), sl_n12⟩)
    (c_n12 : PySem.W.codeIn K (.ref 144) "are_rules" = true)
    (k_n12 : PySem.W.keepIn K (.ref f_n12) = true)
    (g_lI : PySem.W.nsIn K mainGlobals "Listener" = some (some (.ref CL)))
    (a_lI : PySem.W.findIn K (.ref CL) "__init__" = some (some (.ref f_lI)))
    (l_lI : K.lookup f_lI = some ⟨oc_lI, od_lI, .func (PySem.W.fnOf "__init__" "Listener.__init__" (defArgs sListI) (defBody sListI) (defScope sListI) .none kV_lI dc_lI pm_lI an_lI (cd_lI) ct_lI), sl_lI⟩)
    (c_lI : PySem.W.codeIn K (cd_lI) "Listener.__init__" = true)
    (k_lI : PySem.W.keepIn K (.ref f_lI) = true)
    (fn_lI : PySem.W.isFn K (.ref f_lI) = true)
    (a_n14 : PySem.W.nsIn K mainGlobals "_law_listening" = some (some (.ref f_n14)))
    (l_n14 : K.lookup f_n14 = some ⟨oc_n14, od_n14, .func (PySem.W.fnOf "_law_listening" "_law_listening" (defArgs sLListening) (defBody sLListening) (defScope sLListening) .none kV_n14 dc_n14 pm_n14 an_n14 (cd_n14) ct_n14), sl_n14⟩)
    (c_n14 : PySem.W.codeIn K (cd_n14) "_law_listening" = true)
    (k_n14 : PySem.W.keepIn K (.ref f_n14) = true)
    (a_n15 : PySem.W.nsIn K mainGlobals "takes_signal" = some (some (.ref f_n15)))
    (l_n15 : K.lookup f_n15 = some ⟨oc_n15, od_n15, .func (PySem.W.fnOf "takes_signal" "takes_signal" (defArgs sTakes) (defBody sTakes) (defScope sTakes) .none kV_n15 dc_n15 pm_n15 an_n15 (cd_n15) ct_n15), sl_n15⟩)
    (c_n15 : PySem.W.codeIn K (cd_n15) "takes_signal" = true)
    (k_n15 : PySem.W.keepIn K (.ref f_n15) = true)
    (a_n16 : PySem.W.nsIn K mainGlobals "states_behind" = some (some (.ref f_n16)))
    (l_n16 : K.lookup f_n16 = some ⟨oc_n16, od_n16, .func (PySem.W.fnOf "states_behind" "states_behind" (defArgs s_states_behind) (defBody s_states_behind) (defScope s_states_behind) .none kV_n16 dc_n16 pm_n16 an_n16 (cd_n16) ct_n16), sl_n16⟩)
    (c_n16 : PySem.W.codeIn K (cd_n16) "states_behind" = true)
    (k_n16 : PySem.W.keepIn K (.ref f_n16) = true)
    (a_n17 : PySem.W.nsIn K mainGlobals "all_signals" = some (some (.ref f_n17)))
    (l_n17 : K.lookup f_n17 = some ⟨oc_n17, od_n17, .func (PySem.W.fnOf "all_signals" "all_signals" (defArgs s_all_signals) (defBody s_all_signals) (defScope s_all_signals) .none kV_n17 dc_n17 pm_n17 an_n17 (cd_n17) ct_n17), sl_n17⟩)
    (c_n17 : PySem.W.codeIn K (cd_n17) "all_signals" = true)
    (k_n17 : PySem.W.keepIn K (.ref f_n17) = true)
    (a_n18 : PySem.W.nsIn K mainGlobals "table_of" = some (some (.ref f_n18)))
    (l_n18 : K.lookup f_n18 = some ⟨oc_n18, od_n18, .func (PySem.W.fnOf "table_of" "table_of" (defArgs s_table_of) (defBody s_table_of) (defScope s_table_of) .none kV_n18 dc_n18 pm_n18 an_n18 (cd_n18) ct_n18), sl_n18⟩)
    (c_n18 : PySem.W.codeIn K (cd_n18) "table_of" = true)
    (k_n18 : PySem.W.keepIn K (.ref f_n18) = true)
    (a_n19 : PySem.W.nsIn K mainGlobals "numbered" = some (some (.ref f_n19)))
    (l_n19 : K.lookup f_n19 = some ⟨oc_n19, od_n19, .func (PySem.W.fnOf "numbered" "numbered" (defArgs s_numbered) (defBody s_numbered) (defScope s_numbered) .none kV_n19 dc_n19 pm_n19 an_n19 (cd_n19) ct_n19), sl_n19⟩)
    (c_n19 : PySem.W.codeIn K (cd_n19) "numbered" = true)
    (k_n19 : PySem.W.keepIn K (.ref f_n19) = true)
    (a_n20 : PySem.W.nsIn K mainGlobals "classes_of" = some (some (.ref f_n20)))
    (l_n20 : K.lookup f_n20 = some ⟨oc_n20, od_n20, .func (PySem.W.fnOf "classes_of" "classes_of" (defArgs s_classes_of) (defBody s_classes_of) (defScope s_classes_of) .none kV_n20 dc_n20 pm_n20 an_n20 (cd_n20) ct_n20), sl_n20⟩)
    (c_n20 : PySem.W.codeIn K (cd_n20) "classes_of" = true)
    (k_n20 : PySem.W.keepIn K (.ref f_n20) = true)
    (a_n21 : PySem.W.nsIn K mainGlobals "on_list" = some (some (.ref f_n21)))
    (l_n21 : K.lookup f_n21 = some ⟨oc_n21, od_n21, .func (PySem.W.fnOf "on_list" "on_list" (defArgs s_on_list) (defBody s_on_list) (defScope s_on_list) .none kV_n21 dc_n21 pm_n21 an_n21 (cd_n21) ct_n21), sl_n21⟩)
    (c_n21 : PySem.W.codeIn K (cd_n21) "on_list" = true)
    (k_n21 : PySem.W.keepIn K (.ref f_n21) = true)
    (a_n22 : PySem.W.nsIn K mainGlobals "first_members" = some (some (.ref f_n22)))
    (l_n22 : K.lookup f_n22 = some ⟨oc_n22, od_n22, .func (PySem.W.fnOf "first_members" "first_members" (defArgs s_first_members) (defBody s_first_members) (defScope s_first_members) .none kV_n22 dc_n22 pm_n22 an_n22 (cd_n22) ct_n22), sl_n22⟩)
    (c_n22 : PySem.W.codeIn K (cd_n22) "first_members" = true)
    (k_n22 : PySem.W.keepIn K (.ref f_n22) = true)
    (a_n23 : PySem.W.nsIn K mainGlobals "merged" = some (some (.ref f_n23)))
    (l_n23 : K.lookup f_n23 = some ⟨oc_n23, od_n23, .func (PySem.W.fnOf "merged" "merged" (defArgs s_merged) (defBody s_merged) (defScope s_merged) .none kV_n23 dc_n23 pm_n23 an_n23 (cd_n23) ct_n23), sl_n23⟩)
    (c_n23 : PySem.W.codeIn K (cd_n23) "merged" = true)
    (k_n23 : PySem.W.keepIn K (.ref f_n23) = true)
    (a_n24 : PySem.W.nsIn K mainGlobals "_law_told" = some (some (.ref f_n24)))
    (l_n24 : K.lookup f_n24 = some ⟨oc_n24, od_n24, .func (PySem.W.fnOf "_law_told" "_law_told" (defArgs s_law_told) (defBody s_law_told) (defScope s_law_told) .none kV_n24 dc_n24 pm_n24 an_n24 (cd_n24) ct_n24), sl_n24⟩)
    (c_n24 : PySem.W.codeIn K (cd_n24) "_law_told" = true)
    (k_n24 : PySem.W.keepIn K (.ref f_n24) = true)
    (a_n25 : PySem.W.nsIn K mainGlobals "_law_next" = some (some (.ref f_n25)))
    (l_n25 : K.lookup f_n25 = some ⟨oc_n25, od_n25, .func (PySem.W.fnOf "_law_next" "_law_next" (defArgs sLNext) (defBody sLNext) (defScope sLNext) .none kV_n25 dc_n25 pm_n25 an_n25 (cd_n25) ct_n25), sl_n25⟩)
    (c_n25 : PySem.W.codeIn K (cd_n25) "_law_next" = true)
    (k_n25 : PySem.W.keepIn K (.ref f_n25) = true)
    (a_n26 : PySem.W.nsIn K mainGlobals "_law_signals" = some (some (.ref f_n26)))
    (l_n26 : K.lookup f_n26 = some ⟨oc_n26, od_n26, .func (PySem.W.fnOf "_law_signals" "_law_signals" (defArgs sLSignals) (defBody sLSignals) (defScope sLSignals) .none kV_n26 dc_n26 pm_n26 an_n26 (cd_n26) ct_n26), sl_n26⟩)
    (c_n26 : PySem.W.codeIn K (cd_n26) "_law_signals" = true)
    (k_n26 : PySem.W.keepIn K (.ref f_n26) = true)
    (a_n27 : PySem.W.nsIn K mainGlobals "_law_classes" = some (some (.ref f_n27)))
    (l_n27 : K.lookup f_n27 = some ⟨oc_n27, od_n27, .func (PySem.W.fnOf "_law_classes" "_law_classes" (defArgs s_law_classes) (defBody s_law_classes) (defScope s_law_classes) .none kV_n27 dc_n27 pm_n27 an_n27 (cd_n27) ct_n27), sl_n27⟩)
    (c_n27 : PySem.W.codeIn K (cd_n27) "_law_classes" = true)
    (k_n27 : PySem.W.keepIn K (.ref f_n27) = true)
    (a_n28 : PySem.W.nsIn K mainGlobals "_law_due" = some (some (.ref f_n28)))
    (l_n28 : K.lookup f_n28 = some ⟨oc_n28, od_n28, .func (PySem.W.fnOf "_law_due" "_law_due" (defArgs s_law_due) (defBody s_law_due) (defScope s_law_due) .none kV_n28 dc_n28 pm_n28 an_n28 (cd_n28) ct_n28), sl_n28⟩)
    (c_n28 : PySem.W.codeIn K (cd_n28) "_law_due" = true)
    (k_n28 : PySem.W.keepIn K (.ref f_n28) = true)
    (a_n29 : PySem.W.nsIn K mainGlobals "law" = some (some (.ref f_n29)))
    (l_n29 : K.lookup f_n29 = some ⟨oc_n29, od_n29, .func (PySem.W.fnOf "law" "law" (defArgs sLaw) (defBody sLaw) (defScope sLaw) .none kV_n29 dc_n29 pm_n29 an_n29 (cd_n29) ct_n29), sl_n29⟩)
    (c_n29 : PySem.W.codeIn K (cd_n29) "law" = true)
    (k_n29 : PySem.W.keepIn K (.ref f_n29) = true)
    (g_eI : PySem.W.nsIn K mainGlobals "DragError" = some (some (.ref C0)))
    (a_eI : PySem.W.findIn K (.ref C0) "__init__" = some (some (.ref f_eI)))
    (l_eI : K.lookup f_eI = some ⟨oc_eI, od_eI, .func (PySem.W.fnOf "__init__" "DragError.__init__" (defArgs sErrI) (defBody sErrI) (defScope sErrI) .none kV_eI dc_eI pm_eI an_eI (cd_eI) ct_eI), sl_eI⟩)
    (c_eI : PySem.W.codeIn K (cd_eI) "DragError.__init__" = true)
    (k_eI : PySem.W.keepIn K (.ref f_eI) = true)
    (eX : K.lookup C0 = some (excClassObj nm q C0 N bs [.type "ValueError", .type "Exception", .type "BaseException", .type "object"] true sn sub ab col dd m0 m1 m2 m3 m5 "ValueError.__new__"))
    (eS : PySem.W.findIn K (.ref C0) "__setattr__" = some (some (.builtin "object.__setattr__")))
    (eB : PySem.W.subIn K (.ref C0) (.type "BaseException") = some true)
    (eT : PySem.W.typeIn K (.ref C0) = some (.type "type"))
    (eK : PySem.W.keepIn K (.ref C0) = true)
    (eF : PySem.W.typeIn K (.ref f_eI) = some (.type "function"))
    (eN : PySem.W.findIn K (.ref C0) "reason" = some none)
    (eV : PySem.W.findCls K (.type "ValueError") (.type "type") "__init__" = some (.val (.builtin "ValueError.__init__")))
    (eY : xfB K C0 = true)
    (eE : PySem.W.exmOne K (.ref C0) (.ref C0) = some true)
    (pg_lI : PySem.W.plainGet K CL Str.empty = true)
    (hd_lI : PySem.W.hasDictIn K CL = true)
    (po_lI : PySem.W.plainOver K CL = true)
    (sa_lI : PySem.W.findIn K (.ref CL) "__setattr__" = some (some (.builtin "object.__setattr__")))
    (mk_lI : PySem.W.makesIn K CL = true)
    (kp_lI : PySem.W.keepIn K (.ref CL) = true)
    (no0_lI : PySem.W.findIn K (.ref CL) "states" = some none)
    (no1_lI : PySem.W.findIn K (.ref CL) "on" = some none)
    (no2_lI : PySem.W.findIn K (.ref CL) "rules" = some none)
    (z_isinstance : PySem.W.nsIn K mainGlobals "isinstance" = some none)
    (z_int : PySem.W.nsIn K mainGlobals "int" = some none)
    (z_bool : PySem.W.nsIn K mainGlobals "bool" = some none)
    (z_str : PySem.W.nsIn K mainGlobals "str" = some none)
    (z_list : PySem.W.nsIn K mainGlobals "list" = some none)
    (z_tuple : PySem.W.nsIn K mainGlobals "tuple" = some none)
    (z_len : PySem.W.nsIn K mainGlobals "len" = some none)
    (z_set : PySem.W.nsIn K mainGlobals "set" = some none)
    (z_all : PySem.W.nsIn K mainGlobals "all" = some none)
    (z_sorted : PySem.W.nsIn K mainGlobals "sorted" = some none)
    (z_range : PySem.W.nsIn K mainGlobals "range" = some none)
    (z_abs : PySem.W.nsIn K mainGlobals "abs" = some none)
    (z_reversed : PySem.W.nsIn K mainGlobals "reversed" = some none)
    (z_max : PySem.W.nsIn K mainGlobals "max" = some none)
    (z_enumerate : PySem.W.nsIn K mainGlobals "enumerate" = some none)
    (z_ValueError : PySem.W.nsIn K mainGlobals "ValueError" = some none)
    (a_MOST_STATES : PySem.W.nsIn K mainGlobals "MOST_STATES" = some (some u_MOST_STATES))
    (k_MOST_STATES : kdB K 0 u_MOST_STATES (.int 60) = true)
    (a_MOST_RULES : PySem.W.nsIn K mainGlobals "MOST_RULES" = some (some u_MOST_RULES))
    (k_MOST_RULES : kdB K 0 u_MOST_RULES (.int 1200) = true)
    (a_KINDS : PySem.W.nsIn K mainGlobals "KINDS" = some (some u_KINDS))
    (k_KINDS : kdB K 1 u_KINDS (.tup (KINDS.map .str)) = true)
    (a_SIDES : PySem.W.nsIn K mainGlobals "SIDES" = some (some u_SIDES))
    (k_SIDES : kdB K 1 u_SIDES (.tup (SIDES.map .str)) = true)
    (a_RELATED_SIDES : PySem.W.nsIn K mainGlobals "RELATED_SIDES" = some (some u_RELATED_SIDES))
    (k_RELATED_SIDES : kdB K 1 u_RELATED_SIDES (.tup (RELS.map .str)) = true)
    (a_MOST_MERGED_STATES : PySem.W.nsIn K mainGlobals "MOST_MERGED_STATES" = some (some u_MOST_MERGED_STATES))
    (k_MOST_MERGED_STATES : kdB K 0 u_MOST_MERGED_STATES (.int 12) = true)
    (hd_are_states : PySem.W.codeHdIn K 137 133 = true)
    (nt_are_states : K.lookup 133 = none)
    (hd_are_rules : PySem.W.codeHdIn K 144 140 = true)
    (nt_are_rules : K.lookup 140 = none) :
    LamX.LawAtS l w K (L2.CX l.prog w) 10 63 "script" mg fa h := by
  have e := hfa.symm.trans (PySem.W.mg_of X G a_n29)
  cases e
  have L : Blt mg := ⟨PySem.W.mg_none_of X G z_isinstance, PySem.W.mg_none_of X G z_int, PySem.W.mg_none_of X G z_bool, PySem.W.mg_none_of X G z_str, PySem.W.mg_none_of X G z_list, PySem.W.mg_none_of X G z_tuple, PySem.W.mg_none_of X G z_len, PySem.W.mg_none_of X G z_set, PySem.W.mg_none_of X G z_all, PySem.W.mg_none_of X G z_sorted, PySem.W.mg_none_of X G z_range, PySem.W.mg_none_of X G z_abs⟩
  have V : Err K mg C0 f_eI := ⟨⟨⟨nm, q, N, bs, _, sn, sub, ab, col, dd, m0, m1, m2, m3, m5, eX, by decide +kernel⟩, eS, eB, eT, eK⟩, a_eI, eF, PySem.W.mg_of X G g_eI, eN, eV, PySem.W.mg_none_of X G z_ValueError, xfB_ok eY, eE⟩
  have AL : Fld3 K CL "states" "on" "rules" := ⟨⟨pg_lI, hd_lI, po_lI, sa_lI⟩, no0_lI, no1_lI, no2_lI⟩
  have F_n0 := func_mk (st := sLCell) l_n0 c_n0 k_n0
  have b_n0 := F_n0.binds (ps := ["script", "k"]) fun _ _ _ _ _ _ us hl => match us, hl with | [_, _], _ => rfl
  have m_n0 := PySem.W.mg_of X G a_n0
  have F_n1 := func_mk (st := sLRow) l_n1 c_n1 k_n1
  have b_n1 := F_n1.binds (ps := ["script", "first", "last"]) fun _ _ _ _ _ _ us hl => match us, hl with | [_, _, _], _ => rfl
  have m_n1 := PySem.W.mg_of X G a_n1
  have F_n2 := func_mk (st := sLDraw) l_n2 c_n2 k_n2
  have b_n2 := F_n2.binds (ps := ["box", "many"]) fun _ _ _ _ _ _ us hl => match us, hl with | [_, _], _ => rfl
  have m_n2 := PySem.W.mg_of X G a_n2
  have F_n3 := func_mk (st := sLKinds) l_n3 c_n3 k_n3
  have b_n3 := F_n3.binds (ps := []) fun _ _ _ _ _ _ us hl => match us, hl with | [], _ => rfl
  have m_n3 := PySem.W.mg_of X G a_n3
  have F_n4 := func_mk (st := sLRule) l_n4 c_n4 k_n4
  have b_n4 := F_n4.binds (ps := ["box", "states"]) fun _ _ _ _ _ _ us hl => match us, hl with | [_, _], _ => rfl
  have m_n4 := PySem.W.mg_of X G a_n4
  have F_n5 := func_mk (st := sLSample) l_n5 c_n5 k_n5
  have b_n5 := F_n5.binds (ps := ["name"]) fun _ _ _ _ _ _ us hl => match us, hl with | [_], _ => rfl
  have m_n5 := PySem.W.mg_of X G a_n5
  have F_n6 := func_mk (st := sLList) l_n6 c_n6 k_n6
  have b_n6 := F_n6.binds (ps := ["box", "most"]) fun _ _ _ _ _ _ us hl => match us, hl with | [_, _], _ => rfl
  have m_n6 := PySem.W.mg_of X G a_n6
  have F_n7 := func_mk (st := sIsNumber) l_n7 c_n7 k_n7
  have b_n7 := F_n7.binds (ps := ["value"]) fun _ _ _ _ _ _ us hl => match us, hl with | [_], _ => rfl
  have m_n7 := PySem.W.mg_of X G a_n7
  have F_n8 := func_mk (st := sIsBelow) l_n8 c_n8 k_n8
  have b_n8 := F_n8.binds (ps := ["value", "bound"]) fun _ _ _ _ _ _ us hl => match us, hl with | [_, _], _ => rfl
  have m_n8 := PySem.W.mg_of X G a_n8
  have F_n9 := func_mk (st := sAreStates) l_n9 c_n9 k_n9
  have b_n9 := F_n9.binds (ps := ["on", "states"]) fun _ _ _ _ _ _ us hl => match us, hl with | [_, _], _ => rfl
  have m_n9 := PySem.W.mg_of X G a_n9
  have F_n10 := func_mk (st := sIsWord) l_n10 c_n10 k_n10
  have b_n10 := F_n10.binds (ps := ["value", "words"]) fun _ _ _ _ _ _ us hl => match us, hl with | [_, _], _ => rfl
  have m_n10 := PySem.W.mg_of X G a_n10
  have F_n11 := func_mk (st := sIsRule) l_n11 c_n11 k_n11
  have b_n11 := F_n11.binds (ps := ["rule", "states"]) fun _ _ _ _ _ _ us hl => match us, hl with | [_, _], _ => rfl
  have m_n11 := PySem.W.mg_of X G a_n11
  have F_n12 := func_mk (st := sAreRules) l_n12 c_n12 k_n12
  have b_n12 := F_n12.binds (ps := ["rules", "states"]) fun _ _ _ _ _ _ us hl => match us, hl with | [_, _], _ => rfl
  have m_n12 := PySem.W.mg_of X G a_n12
  have F_lI := func_mk (st := sListI) l_lI c_lI k_lI
  have b_lI := F_lI.binds (ps := ["self", "states", "on", "rules"]) fun _ _ _ _ _ _ us hl => match us, hl with | [_, _, _, _], _ => rfl
  have m_lI := PySem.W.mg_of X G g_lI
  have Mk_lI : Mk K CL f_lI := ⟨mk_lI, a_lI, fn_lI, kp_lI⟩
  have F_n14 := func_mk (st := sLListening) l_n14 c_n14 k_n14
  have b_n14 := F_n14.binds (ps := ["told"]) fun _ _ _ _ _ _ us hl => match us, hl with | [_], _ => rfl
  have m_n14 := PySem.W.mg_of X G a_n14
  have F_n15 := func_mk (st := sTakes) l_n15 c_n15 k_n15
  have b_n15 := F_n15.binds (ps := ["rule", "signal"]) fun _ _ _ _ _ _ us hl => match us, hl with | [_, _], _ => rfl
  have m_n15 := PySem.W.mg_of X G a_n15
  have F_n16 := func_mk (st := s_states_behind) l_n16 c_n16 k_n16
  have b_n16 := F_n16.binds (ps := ["listener", "signal"]) fun _ _ _ _ _ _ us hl => match us, hl with | [_, _], _ => rfl
  have m_n16 := PySem.W.mg_of X G a_n16
  have F_n17 := func_mk (st := s_all_signals) l_n17 c_n17 k_n17
  have b_n17 := F_n17.binds (ps := []) fun _ _ _ _ _ _ us hl => match us, hl with | [], _ => rfl
  have m_n17 := PySem.W.mg_of X G a_n17
  have F_n18 := func_mk (st := s_table_of) l_n18 c_n18 k_n18
  have b_n18 := F_n18.binds (ps := ["listener"]) fun _ _ _ _ _ _ us hl => match us, hl with | [_], _ => rfl
  have m_n18 := PySem.W.mg_of X G a_n18
  have F_n19 := func_mk (st := s_numbered) l_n19 c_n19 k_n19
  have b_n19 := F_n19.binds (ps := ["keys"]) fun _ _ _ _ _ _ us hl => match us, hl with | [_], _ => rfl
  have m_n19 := PySem.W.mg_of X G a_n19
  have F_n20 := func_mk (st := s_classes_of) l_n20 c_n20 k_n20
  have b_n20 := F_n20.binds (ps := ["table", "on"]) fun _ _ _ _ _ _ us hl => match us, hl with | [_, _], _ => rfl
  have m_n20 := PySem.W.mg_of X G a_n20
  have F_n21 := func_mk (st := s_on_list) l_n21 c_n21 k_n21
  have b_n21 := F_n21.binds (ps := ["listener"]) fun _ _ _ _ _ _ us hl => match us, hl with | [_], _ => rfl
  have m_n21 := PySem.W.mg_of X G a_n21
  have F_n22 := func_mk (st := s_first_members) l_n22 c_n22 k_n22
  have b_n22 := F_n22.binds (ps := ["table", "classes"]) fun _ _ _ _ _ _ us hl => match us, hl with | [_, _], _ => rfl
  have m_n22 := PySem.W.mg_of X G a_n22
  have F_n23 := func_mk (st := s_merged) l_n23 c_n23 k_n23
  have b_n23 := F_n23.binds (ps := ["listener"]) fun _ _ _ _ _ _ us hl => match us, hl with | [_], _ => rfl
  have m_n23 := PySem.W.mg_of X G a_n23
  have F_n24 := func_mk (st := s_law_told) l_n24 c_n24 k_n24
  have b_n24 := F_n24.binds (ps := ["listener"]) fun _ _ _ _ _ _ us hl => match us, hl with | [_], _ => rfl
  have m_n24 := PySem.W.mg_of X G a_n24
  have F_n25 := func_mk (st := sLNext) l_n25 c_n25 k_n25
  have b_n25 := F_n25.binds (ps := ["listener", "state", "signal"]) fun _ _ _ _ _ _ us hl => match us, hl with | [_, _, _], _ => rfl
  have m_n25 := PySem.W.mg_of X G a_n25
  have F_n26 := func_mk (st := sLSignals) l_n26 c_n26 k_n26
  have b_n26 := F_n26.binds (ps := []) fun _ _ _ _ _ _ us hl => match us, hl with | [], _ => rfl
  have m_n26 := PySem.W.mg_of X G a_n26
  have F_n27 := func_mk (st := s_law_classes) l_n27 c_n27 k_n27
  have b_n27 := F_n27.binds (ps := ["listener"]) fun _ _ _ _ _ _ us hl => match us, hl with | [_], _ => rfl
  have m_n27 := PySem.W.mg_of X G a_n27
  have F_n28 := func_mk (st := s_law_due) l_n28 c_n28 k_n28
  have b_n28 := F_n28.binds (ps := ["listener"]) fun _ _ _ _ _ _ us hl => match us, hl with | [_], _ => rfl
  have m_n28 := PySem.W.mg_of X G a_n28
  have F_n29 := func_mk (st := sLaw) l_n29 c_n29 k_n29
  have b_n29 := F_n29.binds (ps := ["script"]) fun _ _ _ _ _ _ us hl => match us, hl with | [_], _ => rfl
  have m_n29 := PySem.W.mg_of X G a_n29
  have F_eI := func_mk (st := sErrI) l_eI c_eI k_eI
  have b_eI := F_eI.binds (ps := ["self", "reason"]) fun _ _ _ _ _ _ us hl => match us, hl with | [_, _], _ => rfl
  have m_MOST_STATES := PySem.W.mg_of X G a_MOST_STATES
  have m_MOST_RULES := PySem.W.mg_of X G a_MOST_RULES
  have m_KINDS := PySem.W.mg_of X G a_KINDS
  have m_SIDES := PySem.W.mg_of X G a_SIDES
  have m_RELATED_SIDES := PySem.W.mg_of X G a_RELATED_SIDES
  have m_MOST_MERGED_STATES := PySem.W.mg_of X G a_MOST_MERGED_STATES
  refine ⟨PySem.W.fnOf "law" "law" (defArgs sLaw) (defBody sLaw) (defScope sLaw) .none kV_n29 dc_n29 pm_n29 an_n29 cd_n29 ct_n29, [(137, 133), (144, 140)], spEnd K [133, 140] C0, ?_, ?_, ?_, fun s u => .of_eq rfl, ?_, fun base Xb Gb TB => ?_⟩
  · intro p hp
    simp only [List.mem_cons, List.not_mem_nil, or_false] at hp
    rcases hp with rfl | rfl
    · exact hT 133 (by simp)
    · exact hT 140 (by simp)
  · intro p hp
    simp only [List.mem_cons, List.not_mem_nil, or_false] at hp
    rcases hp with rfl | rfl
    · exact nt_are_states
    · exact nt_are_rules
  · intro p hp
    simp only [List.mem_cons, List.not_mem_nil, or_false] at hp
    rcases hp with rfl | rfl
    · exact PySem.W.codeHd_of_K X hd_are_states
    · exact PySem.W.codeHd_of_K X hd_are_rules
  · intro H a ns hl hb ht hS
    have tb : ∀ P ∈ ([133, 140] : List Addr), H P = some (.tbl #[]) := fun P hP => by
      simp only [List.mem_cons, List.not_mem_nil, or_false] at hP
      rcases hP with rfl | rfl
      · exact ht (137, 133) (by simp)
      · exact ht (144, 140) (by simp)
    have bs : Same (fun b => if b ∈ ([133, 140] : List Addr) then none else H b) H := fun b u e => by
      have e' : (if b ∈ ([133, 140] : List Addr) then none else H b) = some u := e
      split at e'
      · cases e'
      · exact e'
    have sq : SqL K (fun b => if b ∈ ([133, 140] : List Addr) then none else H b) a (ns.map L2.V.int) := by
      have na : ∀ u, H a = some u → u ≠ .tbl #[] → (fun b => if b ∈ ([133, 140] : List Addr) then none else H b) a = some u := fun u e ne => by
        show (if a ∈ ([133, 140] : List Addr) then none else H a) = some u
        rw [if_neg (fun z => by rw [tb a z] at e; exact ne (Option.some.inj e).symm)]
        exact e
      rcases hS with (hS | ⟨o, hS⟩) | hS
      · exact .inl (.inl (na _ hS (fun z => by cases z)))
      · exact .inl (.inr ⟨o, na _ hS (fun z => by cases z)⟩)
      · exact .inr hS
    refine ⟨[.dat (.kst (ns.map .int))], _, O0, _, _, ⟨ns, rfl, rfl, rfl⟩, .cons (show SlotOk K _ (some (.ref a)) (.dat (.kst (ns.map .int))) from .kst sq (ints_rp ns)) .nil, ⟨bs, (fun _ _ e => by cases e), fun P hP => ⟨if_pos hP, rfl⟩, fun P hP => ⟨#[], tb P hP, by trivial⟩⟩, fun s O' v B' H' h _ r => ?_, fun _ _ _ _ _ _ h => h.elim⟩
    subst h
    cases (show Rp K B' v (.bl true) from r)
    rfl
  · have t_are_states : TabB base mg 137 133 := let z := TB (137, 133) (by simp); ⟨z.code, z.bm, z.gP⟩
    have t_are_rules : TabB base mg 144 140 := let z := TB (144, 140) (by simp); ⟨z.code, z.bm, z.gP⟩
    have T_are_states : (133 : Addr) ∈ [133, 140] := by simp
    have T_are_rules : (140 : Addr) ∈ [133, 140] := by simp
    have EI := ok_errI (P := l.prog) (w := w) (base := base) F_eI V
    have G_n0 := ok_cell (mg := mg) (P := l.prog) (w := w) (base := base) (T := [133, 140]) F_n0 L
    have G_n1 := ok_row (mg := mg) (P := l.prog) (w := w) (base := base) (T := [133, 140]) F_n1 L G_n0 m_n0 k_n0 b_n0
    have G_n2 := ok_draw (mg := mg) (P := l.prog) (w := w) (base := base) (T := [133, 140]) F_n2 L
    have G_n3 := ok_kinds (mg := mg) (P := l.prog) (w := w) (base := base) (T := [133, 140]) F_n3 
    have G_n4 := ok_lrule (mg := mg) (P := l.prog) (w := w) (base := base) (T := [133, 140]) F_n4 L G_n2 m_n2 k_n2 b_n2 G_n3 m_n3 k_n3 b_n3
    have G_n5 := ok_lsample (mg := mg) (P := l.prog) (w := w) (base := base) (T := [133, 140]) (CE := C0) F_n5 L
    have G_n6 := ok_llist (mg := mg) (P := l.prog) (w := w) (base := base) (T := [133, 140]) (CE := C0) F_n6 L G_n2 m_n2 k_n2 b_n2 G_n4 m_n4 k_n4 b_n4 G_n5 m_n5 k_n5 b_n5
    have G_n7 := ok_num (mg := mg) (P := l.prog) (w := w) (base := base) (T := [133, 140]) F_n7 L
    have G_n8 := ok_below (mg := mg) (P := l.prog) (w := w) (base := base) (T := [133, 140]) F_n8 L G_n7 m_n7 k_n7 b_n7
    have G_n9 := ok_states (mg := mg) (P := l.prog) (w := w) (base := base) (T := [133, 140]) F_n9 L T_are_states t_are_states G_n8 m_n8 k_n8 b_n8
    have G_n10 := ok_word (mg := mg) (P := l.prog) (w := w) (base := base) (T := [133, 140]) F_n10 L
    have G_n11 := ok_rule (mg := mg) (P := l.prog) (w := w) (base := base) (T := [133, 140]) F_n11 L m_KINDS k_KINDS m_SIDES k_SIDES m_RELATED_SIDES k_RELATED_SIDES G_n8 m_n8 k_n8 b_n8 G_n10 m_n10 k_n10 b_n10
    have G_n12 := ok_rules (mg := mg) (P := l.prog) (w := w) (base := base) (T := [133, 140]) F_n12 L T_are_rules t_are_rules m_MOST_RULES k_MOST_RULES G_n11 m_n11 k_n11 b_n11
    have G_lI := ok_list (mg := mg) (P := l.prog) (w := w) (base := base) (T := [133, 140]) F_lI L V AL m_MOST_STATES k_MOST_STATES EI b_eI G_n7 m_n7 k_n7 b_n7 G_n9 m_n9 k_n9 b_n9 G_n12 m_n12 k_n12 b_n12
    have G_n14 := ok_listening (mg := mg) (P := l.prog) (w := w) (base := base) (T := [133, 140]) (CE := C0) F_n14 L Mk_lI m_lI G_lI b_lI
    have G_n15 := ok_takes (mg := mg) (P := l.prog) (w := w) (base := base) (T := [133, 140]) F_n15 
    have G_n16 := ok_behind (mg := mg) (P := l.prog) (w := w) (base := base) (T := [133, 140]) F_n16 L AL G_n15 m_n15 k_n15 b_n15 (PySem.W.mg_none_of X G z_reversed)
    have G_n17 := ok_allsig (mg := mg) (P := l.prog) (w := w) (base := base) (T := [133, 140]) F_n17 m_KINDS k_KINDS m_SIDES k_SIDES m_RELATED_SIDES k_RELATED_SIDES
    have G_n18 := ok_table (mg := mg) (P := l.prog) (w := w) (base := base) (T := [133, 140]) F_n18 L G_n16 m_n16 k_n16 b_n16 G_n17 m_n17 k_n17 b_n17
    have G_n19 := ok_numd (mg := mg) (P := l.prog) (w := w) (base := base) (T := [133, 140]) F_n19 L
    have G_n20 := ok_classes (mg := mg) (P := l.prog) (w := w) (base := base) (T := [133, 140]) F_n20 L G_n19 m_n19 k_n19 b_n19 (PySem.W.mg_none_of X G z_max) (PySem.W.mg_none_of X G z_enumerate)
    have G_n21 := ok_onl (mg := mg) (P := l.prog) (w := w) (base := base) (T := [133, 140]) F_n21 L AL
    have G_n22 := ok_first (mg := mg) (P := l.prog) (w := w) (base := base) (T := [133, 140]) F_n22 L
    have G_n23 := ok_merged (mg := mg) (P := l.prog) (w := w) (base := base) (T := [133, 140]) F_n23 L V AL m_MOST_MERGED_STATES k_MOST_MERGED_STATES EI b_eI G_n18 m_n18 k_n18 b_n18 G_n20 m_n20 k_n20 b_n20 G_n21 m_n21 k_n21 b_n21 G_n22 m_n22 k_n22 b_n22 Mk_lI m_lI G_lI b_lI (PySem.W.mg_none_of X G z_enumerate)
    have G_n24 := ok_lmtold (mg := mg) (P := l.prog) (w := w) (base := base) (T := [133, 140]) F_n24 V AL G_n14 m_n14 k_n14 b_n14 G_n23 m_n23 k_n23 b_n23
    have G_n25 := ok_lnext (mg := mg) (P := l.prog) (w := w) (base := base) (T := [133, 140]) F_n25 L
    have G_n26 := ok_signals (mg := mg) (P := l.prog) (w := w) (base := base) (T := [133, 140]) F_n26 G_n3 m_n3 k_n3 b_n3
    have G_n27 := ok_lclasses (mg := mg) (P := l.prog) (w := w) (base := base) (T := [133, 140]) F_n27 L G_n25 m_n25 k_n25 b_n25 G_n26 m_n26 k_n26 b_n26
    have G_n28 := ok_ldue17 (mg := mg) (P := l.prog) (w := w) (base := base) (T := [133, 140]) F_n28 L G_n27 m_n27 k_n27 b_n27 G_n26 m_n26 k_n26 b_n26
    exact ok_law (mg := mg) (P := l.prog) (w := w) (base := base) (T := [133, 140]) (CE := C0) F_n29 L ⟨_, _, G_n1, m_n1, k_n1, b_n1⟩ ⟨_, _, G_n6, m_n6, k_n6, b_n6⟩ ⟨_, _, G_n24, m_n24, k_n24, b_n24⟩ ⟨_, _, G_n28, m_n28, k_n28, b_n28⟩
end Dg

open PySem PySem.W PyProof.Rows
set_option maxHeartbeats 0 in
theorem PySem.Challenge.cw_dragtold_k17_merged_holds : PySem.Challenge.rw_dragtold_k17_merged.Holds := by
  w_on; o_law; k_head; (case hw => w_witness2)
  k_fill
  refine Dg.walk_dz (l := PySem.Challenge.rw_dragtold_k17_merged) (n := 63) (k := 10) (x := "script") (CX := fun w => L2.CX PySem.Challenge.rw_dragtold_k17_merged.prog w) rfl (by decide) rfl ⟨rfl, by decide, by decide⟩ (fun w h Y => PySem.W.kIn_of Y) ?F (fun w H s e s' z => Dg.cx_no z)
  case F =>
    intro w mg fa h KX G hmg tabs
    have hT : ∀ P ∈ [133, 140], h.get? P = some { cls := .none, data := .fields #[] } := fun P hP => by
      simp only [List.mem_cons, List.not_mem_nil, or_false] at hP
      rcases hP with e | e
      · rw [e]; exact tabs "are_states" 137 133 (by kernel_rfl) (by kernel_rfl)
      · rw [e]; exact tabs "are_rules" 144 140 (by kernel_rfl) (by kernel_rfl)
    refine' Dg.all_mk KX G hmg hT ?zz_a_n0 ?zz_l_n0 ?zz_c_n0 ?zz_k_n0 ?zz_a_n1 ?zz_l_n1 ?zz_c_n1 ?zz_k_n1 ?zz_a_n2 ?zz_l_n2 ?zz_c_n2 ?zz_k_n2 ?zz_a_n3 ?zz_l_n3 ?zz_c_n3 ?zz_k_n3 ?zz_a_n4 ?zz_l_n4 ?zz_c_n4 ?zz_k_n4 ?zz_a_n5 ?zz_l_n5 ?zz_c_n5 ?zz_k_n5 ?zz_a_n6 ?zz_l_n6 ?zz_c_n6 ?zz_k_n6 ?zz_a_n7 ?zz_l_n7 ?zz_c_n7 ?zz_k_n7 ?zz_a_n8 ?zz_l_n8 ?zz_c_n8 ?zz_k_n8 ?zz_a_n9 ?zz_l_n9 ?zz_c_n9 ?zz_k_n9 ?zz_a_n10 ?zz_l_n10 ?zz_c_n10 ?zz_k_n10 ?zz_a_n11 ?zz_l_n11 ?zz_c_n11 ?zz_k_n11 ?zz_a_n12 ?zz_l_n12 ?zz_c_n12 ?zz_k_n12 ?zz_g_lI ?zz_a_lI ?zz_l_lI ?zz_c_lI ?zz_k_lI ?zz_fn_lI ?zz_a_n14 ?zz_l_n14 ?zz_c_n14 ?zz_k_n14 ?zz_a_n15 ?zz_l_n15 ?zz_c_n15 ?zz_k_n15 ?zz_a_n16 ?zz_l_n16 ?zz_c_n16 ?zz_k_n16 ?zz_a_n17 ?zz_l_n17 ?zz_c_n17 ?zz_k_n17 ?zz_a_n18 ?zz_l_n18 ?zz_c_n18 ?zz_k_n18 ?zz_a_n19 ?zz_l_n19 ?zz_c_n19 ?zz_k_n19 ?zz_a_n20 ?zz_l_n20 ?zz_c_n20 ?zz_k_n20 ?zz_a_n21 ?zz_l_n21 ?zz_c_n21 ?zz_k_n21 ?zz_a_n22 ?zz_l_n22 ?zz_c_n22 ?zz_k_n22 ?zz_a_n23 ?zz_l_n23 ?zz_c_n23 ?zz_k_n23 ?zz_a_n24 ?zz_l_n24 ?zz_c_n24 ?zz_k_n24 ?zz_a_n25 ?zz_l_n25 ?zz_c_n25 ?zz_k_n25 ?zz_a_n26 ?zz_l_n26 ?zz_c_n26 ?zz_k_n26 ?zz_a_n27 ?zz_l_n27 ?zz_c_n27 ?zz_k_n27 ?zz_a_n28 ?zz_l_n28 ?zz_c_n28 ?zz_k_n28 ?zz_a_n29 ?zz_l_n29 ?zz_c_n29 ?zz_k_n29 ?zz_g_eI ?zz_a_eI ?zz_l_eI ?zz_c_eI ?zz_k_eI ?zz_eX ?zz_eS ?zz_eB ?zz_eT ?zz_eK ?zz_eF ?zz_eN ?zz_eV ?zz_eY ?zz_eE ?zz_pg_lI ?zz_hd_lI ?zz_po_lI ?zz_sa_lI ?zz_mk_lI ?zz_kp_lI ?zz_no0_lI ?zz_no1_lI ?zz_no2_lI ?zz_z_isinstance ?zz_z_int ?zz_z_bool ?zz_z_str ?zz_z_list ?zz_z_tuple ?zz_z_len ?zz_z_set ?zz_z_all ?zz_z_sorted ?zz_z_range ?zz_z_abs ?zz_z_reversed ?zz_z_max ?zz_z_enumerate ?zz_z_ValueError ?zz_a_MOST_STATES ?zz_k_MOST_STATES ?zz_a_MOST_RULES ?zz_k_MOST_RULES ?zz_a_KINDS ?zz_k_KINDS ?zz_a_SIDES ?zz_k_SIDES ?zz_a_RELATED_SIDES ?zz_k_RELATED_SIDES ?zz_a_MOST_MERGED_STATES ?zz_k_MOST_MERGED_STATES ?zz_hd_are_states ?zz_nt_are_states ?zz_hd_are_rules ?zz_nt_are_rules
    (case zz_a_n0 => first | k_is | rfl | kernel_rfl)
    (case zz_l_n0 => first | k_is | rfl | kernel_rfl)
    (case zz_c_n0 => first | k_is | rfl | kernel_rfl)
    (case zz_k_n0 => first | k_is | rfl | kernel_rfl)
    (case zz_a_n1 => first | k_is | rfl | kernel_rfl)
    (case zz_l_n1 => first | k_is | rfl | kernel_rfl)
    (case zz_c_n1 => first | k_is | rfl | kernel_rfl)
    (case zz_k_n1 => first | k_is | rfl | kernel_rfl)
    (case zz_a_n2 => first | k_is | rfl | kernel_rfl)
    (case zz_l_n2 => first | k_is | rfl | kernel_rfl)
    (case zz_c_n2 => first | k_is | rfl | kernel_rfl)
    (case zz_k_n2 => first | k_is | rfl | kernel_rfl)
    (case zz_a_n3 => first | k_is | rfl | kernel_rfl)
    (case zz_l_n3 => first | k_is | rfl | kernel_rfl)
    (case zz_c_n3 => first | k_is | rfl | kernel_rfl)
    (case zz_k_n3 => first | k_is | rfl | kernel_rfl)
    (case zz_a_n4 => first | k_is | rfl | kernel_rfl)
    (case zz_l_n4 => first | k_is | rfl | kernel_rfl)
    (case zz_c_n4 => first | k_is | rfl | kernel_rfl)
    (case zz_k_n4 => first | k_is | rfl | kernel_rfl)
    (case zz_a_n5 => first | k_is | rfl | kernel_rfl)
    (case zz_l_n5 => first | k_is | rfl | kernel_rfl)
    (case zz_c_n5 => first | k_is | rfl | kernel_rfl)
    (case zz_k_n5 => first | k_is | rfl | kernel_rfl)
    (case zz_a_n6 => first | k_is | rfl | kernel_rfl)
    (case zz_l_n6 => first | k_is | rfl | kernel_rfl)
    (case zz_c_n6 => first | k_is | rfl | kernel_rfl)
    (case zz_k_n6 => first | k_is | rfl | kernel_rfl)
    (case zz_a_n7 => first | k_is | rfl | kernel_rfl)
    (case zz_l_n7 => first | k_is | rfl | kernel_rfl)
    (case zz_c_n7 => first | k_is | rfl | kernel_rfl)
    (case zz_k_n7 => first | k_is | rfl | kernel_rfl)
    (case zz_a_n8 => first | k_is | rfl | kernel_rfl)
    (case zz_l_n8 => first | k_is | rfl | kernel_rfl)
    (case zz_c_n8 => first | k_is | rfl | kernel_rfl)
    (case zz_k_n8 => first | k_is | rfl | kernel_rfl)
    (case zz_a_n9 => first | k_is | rfl | kernel_rfl)
    (case zz_l_n9 => first | k_is | rfl | kernel_rfl)
    (case zz_c_n9 => first | k_is | rfl | kernel_rfl)
    (case zz_k_n9 => first | k_is | rfl | kernel_rfl)
    (case zz_a_n10 => first | k_is | rfl | kernel_rfl)
    (case zz_l_n10 => first | k_is | rfl | kernel_rfl)
    (case zz_c_n10 => first | k_is | rfl | kernel_rfl)
    (case zz_k_n10 => first | k_is | rfl | kernel_rfl)
    (case zz_a_n11 => first | k_is | rfl | kernel_rfl)
    (case zz_l_n11 => first | k_is | rfl | kernel_rfl)
    (case zz_c_n11 => first | k_is | rfl | kernel_rfl)
    (case zz_k_n11 => first | k_is | rfl | kernel_rfl)
    (case zz_a_n12 => first | k_is | rfl | kernel_rfl)
    (case zz_l_n12 => first | k_is | rfl | kernel_rfl)
    (case zz_c_n12 => first | k_is | rfl | kernel_rfl)
    (case zz_k_n12 => first | k_is | rfl | kernel_rfl)
    (case zz_g_lI => first | k_is | rfl | kernel_rfl)
    (case zz_a_lI => first | k_is | rfl | kernel_rfl)
    (case zz_l_lI => first | k_is | rfl | kernel_rfl)
    (case zz_c_lI => first | k_is | rfl | kernel_rfl)
    (case zz_k_lI => first | k_is | rfl | kernel_rfl)
    (case zz_fn_lI => first | k_is | rfl | kernel_rfl)
    (case zz_a_n14 => first | k_is | rfl | kernel_rfl)
    (case zz_l_n14 => first | k_is | rfl | kernel_rfl)
    (case zz_c_n14 => first | k_is | rfl | kernel_rfl)
    (case zz_k_n14 => first | k_is | rfl | kernel_rfl)
    (case zz_a_n15 => first | k_is | rfl | kernel_rfl)
    (case zz_l_n15 => first | k_is | rfl | kernel_rfl)
    (case zz_c_n15 => first | k_is | rfl | kernel_rfl)
    (case zz_k_n15 => first | k_is | rfl | kernel_rfl)
    (case zz_a_n16 => first | k_is | rfl | kernel_rfl)
    (case zz_l_n16 => first | k_is | rfl | kernel_rfl)
    (case zz_c_n16 => first | k_is | rfl | kernel_rfl)
    (case zz_k_n16 => first | k_is | rfl | kernel_rfl)
    (case zz_a_n17 => first | k_is | rfl | kernel_rfl)
    (case zz_l_n17 => first | k_is | rfl | kernel_rfl)
    (case zz_c_n17 => first | k_is | rfl | kernel_rfl)
    (case zz_k_n17 => first | k_is | rfl | kernel_rfl)
    (case zz_a_n18 => first | k_is | rfl | kernel_rfl)
    (case zz_l_n18 => first | k_is | rfl | kernel_rfl)
    (case zz_c_n18 => first | k_is | rfl | kernel_rfl)
    (case zz_k_n18 => first | k_is | rfl | kernel_rfl)
    (case zz_a_n19 => first | k_is | rfl | kernel_rfl)
    (case zz_l_n19 => first | k_is | rfl | kernel_rfl)
    (case zz_c_n19 => first | k_is | rfl | kernel_rfl)
    (case zz_k_n19 => first | k_is | rfl | kernel_rfl)
    (case zz_a_n20 => first | k_is | rfl | kernel_rfl)
    (case zz_l_n20 => first | k_is | rfl | kernel_rfl)
    (case zz_c_n20 => first | k_is | rfl | kernel_rfl)
    (case zz_k_n20 => first | k_is | rfl | kernel_rfl)
    (case zz_a_n21 => first | k_is | rfl | kernel_rfl)
    (case zz_l_n21 => first | k_is | rfl | kernel_rfl)
    (case zz_c_n21 => first | k_is | rfl | kernel_rfl)
    (case zz_k_n21 => first | k_is | rfl | kernel_rfl)
    (case zz_a_n22 => first | k_is | rfl | kernel_rfl)
    (case zz_l_n22 => first | k_is | rfl | kernel_rfl)
    (case zz_c_n22 => first | k_is | rfl | kernel_rfl)
    (case zz_k_n22 => first | k_is | rfl | kernel_rfl)
    (case zz_a_n23 => first | k_is | rfl | kernel_rfl)
    (case zz_l_n23 => first | k_is | rfl | kernel_rfl)
    (case zz_c_n23 => first | k_is | rfl | kernel_rfl)
    (case zz_k_n23 => first | k_is | rfl | kernel_rfl)
    (case zz_a_n24 => first | k_is | rfl | kernel_rfl)
    (case zz_l_n24 => first | k_is | rfl | kernel_rfl)
    (case zz_c_n24 => first | k_is | rfl | kernel_rfl)
    (case zz_k_n24 => first | k_is | rfl | kernel_rfl)
    (case zz_a_n25 => first | k_is | rfl | kernel_rfl)
    (case zz_l_n25 => first | k_is | rfl | kernel_rfl)
    (case zz_c_n25 => first | k_is | rfl | kernel_rfl)
    (case zz_k_n25 => first | k_is | rfl | kernel_rfl)
    (case zz_a_n26 => first | k_is | rfl | kernel_rfl)
    (case zz_l_n26 => first | k_is | rfl | kernel_rfl)
    (case zz_c_n26 => first | k_is | rfl | kernel_rfl)
    (case zz_k_n26 => first | k_is | rfl | kernel_rfl)
    (case zz_a_n27 => first | k_is | rfl | kernel_rfl)
    (case zz_l_n27 => first | k_is | rfl | kernel_rfl)
    (case zz_c_n27 => first | k_is | rfl | kernel_rfl)
    (case zz_k_n27 => first | k_is | rfl | kernel_rfl)
    (case zz_a_n28 => first | k_is | rfl | kernel_rfl)
    (case zz_l_n28 => first | k_is | rfl | kernel_rfl)
    (case zz_c_n28 => first | k_is | rfl | kernel_rfl)
    (case zz_k_n28 => first | k_is | rfl | kernel_rfl)
    (case zz_a_n29 => first | k_is | rfl | kernel_rfl)
    (case zz_l_n29 => first | k_is | rfl | kernel_rfl)
    (case zz_c_n29 => first | k_is | rfl | kernel_rfl)
    (case zz_k_n29 => first | k_is | rfl | kernel_rfl)
    (case zz_g_eI => first | k_is | rfl | kernel_rfl)
    (case zz_a_eI => first | k_is | rfl | kernel_rfl)
    (case zz_l_eI => first | k_is | rfl | kernel_rfl)
    (case zz_c_eI => first | k_is | rfl | kernel_rfl)
    (case zz_k_eI => first | k_is | rfl | kernel_rfl)
    (case zz_eX => first | k_is | rfl | kernel_rfl)
    (case zz_eS => first | k_is | rfl | kernel_rfl)
    (case zz_eB => first | k_is | rfl | kernel_rfl)
    (case zz_eT => first | k_is | rfl | kernel_rfl)
    (case zz_eK => first | k_is | rfl | kernel_rfl)
    (case zz_eF => first | k_is | rfl | kernel_rfl)
    (case zz_eN => first | k_is | rfl | kernel_rfl)
    (case zz_eV => first | k_is | rfl | kernel_rfl)
    (case zz_eY => first | k_is | rfl | kernel_rfl)
    (case zz_eE => first | k_is | rfl | kernel_rfl)
    (case zz_pg_lI => first | k_is | rfl | kernel_rfl)
    (case zz_hd_lI => first | k_is | rfl | kernel_rfl)
    (case zz_po_lI => first | k_is | rfl | kernel_rfl)
    (case zz_sa_lI => first | k_is | rfl | kernel_rfl)
    (case zz_mk_lI => first | k_is | rfl | kernel_rfl)
    (case zz_kp_lI => first | k_is | rfl | kernel_rfl)
    (case zz_no0_lI => first | k_is | rfl | kernel_rfl)
    (case zz_no1_lI => first | k_is | rfl | kernel_rfl)
    (case zz_no2_lI => first | k_is | rfl | kernel_rfl)
    (case zz_z_isinstance => first | k_is | rfl | kernel_rfl)
    (case zz_z_int => first | k_is | rfl | kernel_rfl)
    (case zz_z_bool => first | k_is | rfl | kernel_rfl)
    (case zz_z_str => first | k_is | rfl | kernel_rfl)
    (case zz_z_list => first | k_is | rfl | kernel_rfl)
    (case zz_z_tuple => first | k_is | rfl | kernel_rfl)
    (case zz_z_len => first | k_is | rfl | kernel_rfl)
    (case zz_z_set => first | k_is | rfl | kernel_rfl)
    (case zz_z_all => first | k_is | rfl | kernel_rfl)
    (case zz_z_sorted => first | k_is | rfl | kernel_rfl)
    (case zz_z_range => first | k_is | rfl | kernel_rfl)
    (case zz_z_abs => first | k_is | rfl | kernel_rfl)
    (case zz_z_reversed => first | k_is | rfl | kernel_rfl)
    (case zz_z_max => first | k_is | rfl | kernel_rfl)
    (case zz_z_enumerate => first | k_is | rfl | kernel_rfl)
    (case zz_z_ValueError => first | k_is | rfl | kernel_rfl)
    (case zz_a_MOST_STATES => first | k_is | rfl | kernel_rfl)
    (case zz_k_MOST_STATES => first | k_is | rfl | kernel_rfl)
    (case zz_a_MOST_RULES => first | k_is | rfl | kernel_rfl)
    (case zz_k_MOST_RULES => first | k_is | rfl | kernel_rfl)
    (case zz_a_KINDS => first | k_is | rfl | kernel_rfl)
    (case zz_k_KINDS => first | k_is | rfl | kernel_rfl)
    (case zz_a_SIDES => first | k_is | rfl | kernel_rfl)
    (case zz_k_SIDES => first | k_is | rfl | kernel_rfl)
    (case zz_a_RELATED_SIDES => first | k_is | rfl | kernel_rfl)
    (case zz_k_RELATED_SIDES => first | k_is | rfl | kernel_rfl)
    (case zz_a_MOST_MERGED_STATES => first | k_is | rfl | kernel_rfl)
    (case zz_k_MOST_MERGED_STATES => first | k_is | rfl | kernel_rfl)
    (case zz_hd_are_states => first | k_is | rfl | kernel_rfl)
    (case zz_nt_are_states => first | k_is | rfl | kernel_rfl)
    (case zz_hd_are_rules => first | k_is | rfl | kernel_rfl)
    (case zz_nt_are_rules => first | k_is | rfl | kernel_rfl)

