/- The walk of HandleWorn. -/
import Derived.Test.YtoahfeckadaomaaP
namespace Go.Proofs.Ytoahfeckadaomaa.handleWorn
open Go.RowKit Go.Proofs.Ytoahfeckadaomaa

/-- Behind i objects put. -/
def Wn (o : Ob) (p i : Nat) : Nat → Pl := fun j => ⟨if j < i then o else noOb, if j < i then 1 else 0, if j = p then 1048575 else 0⟩
theorem wn_start (o : Ob) (p : Nat) : ageT T0 p 1048575 = Wn o p 0 := by
  funext j
  unfold ageT Wn upd
  by_cases e : j = p
  · rw [if_pos e, if_pos e]; rfl
  · rw [if_neg e, if_neg e]; rfl
theorem wn_first (o : Ob) (p : Nat) {i : Nat} (hi : i ≤ 256) : First (Wn o p i) i := ⟨hi, fun _ => by unfold Wn; simp, fun j hj => by unfold Wn; simp [hj]⟩
theorem wn_next (o : Ob) (p i : Nat) : putT (Wn o p i) i o = Wn o p (i + 1) := by
  funext j
  unfold putT upd
  by_cases e : j = i
  · rw [if_pos e, e]; unfold Wn; simp
  · rw [if_neg e]
    unfold Wn
    by_cases c : j < i
    · rw [if_pos c, if_pos c, if_pos (show j < i + 1 by omega), if_pos (show j < i + 1 by omega)]
    · rw [if_neg c, if_neg c, if_neg (show ¬ j < i + 1 by omega), if_neg (show ¬ j < i + 1 by omega)]
theorem wn_put (o : Ob) (p : Nat) {i : Nat} (hi : i < 256) : putA (Wn o p i) i o = (hOf i (if i = p then 1048575 else 0), 0, Wn o p (i + 1)) := by
  unfold putA
  rw [if_pos hi, wn_next]
  rfl
def Wk (o : Ob) (p : Nat) : Nat → Pl := killT (Wn o p 256) p
def Wf3 (o : Ob) (p : Nat) : Nat → Pl := freeT (Wk o p) p
theorem wn_kill (o : Ob) {p : Nat} (hp : p < 256) : killA (Wn o p 256) (268435200 + p) = (0, Wk o p) := by
  have h1 : (268435200 + p) % 256 = p := by omega
  have h2 : (268435200 + p) / 256 = 1048575 := by omega
  have h : isB (Wn o p 256) (268435200 + p) 1 = true := by
    unfold isB
    rw [h1, h2]
    unfold Wn
    simp [hp]
  unfold killA
  rw [if_pos h, h1]
  rfl
theorem wk_free (o : Ob) {p : Nat} (hp : p < 256) : freeA (Wk o p) (268435200 + p) = (o, 0, Wf3 o p) := by
  have h1 : (268435200 + p) % 256 = p := by omega
  have h2 : (268435200 + p) / 256 = 1048575 := by omega
  have hk : Wk o p p = ⟨o, 2, 1048575⟩ := by
    unfold Wk killT
    rw [upd_same]
    unfold Wn
    simp [hp]
  have h : isB (Wk o p) (268435200 + p) 2 = true := by
    unfold isB
    rw [h1, h2, hk]
    rfl
  unfold freeA
  rw [if_pos h, h1, hk]
  rfl
theorem wf_at (o : Ob) {p : Nat} (hp : p < 256) : (Wf3 o p p).st = 3 := by
  have hk : Wk o p p = ⟨o, 2, 1048575⟩ := by
    unfold Wk killT
    rw [upd_same]
    unfold Wn
    simp [hp]
  unfold Wf3 freeT
  rw [upd_same, hk]
  rfl
theorem wf_else (o : Ob) {p j : Nat} (hj : j < 256) (hn : j ≠ p) : (Wf3 o p j).st = 1 := by
  unfold Wf3 freeT
  rw [upd_other _ _ _ hn]
  unfold Wk killT
  rw [upd_other _ _ _ hn]
  unfold Wn
  simp [hj]
theorem wf_first (o : Ob) {p : Nat} (hp : p < 256) : First (Wf3 o p) 256 := ⟨Nat.le_refl _, fun h => by omega, fun j hj => by
  by_cases e : j = p
  · rw [e, wf_at o hp]; decide
  · rw [wf_else o hj e]; decide⟩
theorem wf_live (o : Ob) {p : Nat} (hp : p < 256) : cn (Wf3 o p) 1 256 = 255 := by
  have h1 : cn (Wn o p 256) 1 256 = 256 := cn_all (fun i hi => by unfold Wn; simp [hi])
  have h2 : cn (Wk o p) 1 256 + 1 = 256 := by
    have := cn_upd_out (T := Wn o p 256) (s := 1) (i := p) (n := 256) (p := ⟨(Wn o p 256 p).o, 2, (Wn o p 256 p).ag⟩) (by unfold Wn; simp [hp]) (show 2 ≠ 1 by decide) hp
    rw [h1] at this
    exact this
  have hk : (Wk o p p).st = 2 := by unfold Wk killT; rw [upd_same]
  have h3 : cn (Wf3 o p) 1 256 = cn (Wk o p) 1 256 := cn_upd_not (by rw [hk]; decide) (by
    have := wf_at o hp
    unfold Wf3 freeT at this
    rw [upd_same] at this
    rw [this]; decide)
  omega

set_option maxRecDepth 100000 in
set_option maxHeartbeats 4000000 in
theorem walk (p : Nat) (k a f : Int) (w : World) (hp : p < 256) :
    Calls Try.prog 5 #[.int .u8 (p : Int), .agg #[.int .i64 k, .int .i64 a, .int .i64 f]] w fun e w' => e = .returned (.bool true) ∧ Below w.heap.size w w' := by
  have hp' : (p : Int) < 256 := by omega
  go_enter Try.func5, Try.ntmps5
  go_wp2_with fail
  refine (alive_true _).mono ?_
  rintro e w1 ⟨rfl, hb1⟩
  have o1 := bel_keep hb1 (heap_alloc_new w (.cells #[.int .i64 k, .int .i64 a, .int .i64 f] 31))
  have hb01 : Below w.heap.size w w1 := ((Below.refl _ w).alloc (Nat.le_refl _) _).trans (hb1.mono (by simp))
  have H1 := hid (And.intro o1 hb01)
  clear hb1 o1 hb01
  go_wp2_with fail
  refine (Ht.new w1).mono ?_
  rintro e w2 ⟨rfl, h2⟩
  have o2 : w2.heap[w.heap.size]? = some (.cells #[.int .i64 k, .int .i64 a, .int .i64 f] 31) := bel_keep h2.bel H1.out.1
  have hlt : w.heap.size < w1.heap.size := lt_of H1.out.1
  have H2 := hid (And.intro o2 h2)
  clear o2 h2
  go_wp2_with fail
  have c := H2.out.2.age p 1048575 hp (Nat.le_refl _) rfl
  rw [wn_start ⟨k, a, f⟩ p] at c
  refine c.mono ?_
  rintro e w3 ⟨rfl, h3, hB3⟩
  have o3 := hB3.keep H2.out.1 (by omega)
  have H3 := hid (And.intro o3 h3)
  clear c h3 o3 hB3 H2
  go_wp2_with fail
  go_loopw [6] (fun v wr => ∃ i : Nat, i ≤ 256 ∧ v = .int .i64 (i : Int) ∧ Hid (wr.heap[w.heap.size]? = some (.cells #[.int .i64 k, .int .i64 a, .int .i64 f] 31) ∧ Ht w1 wr w1.heap.size (Wn ⟨k, a, f⟩ p i))) (fun v _ => 256 - (intOf v).toNat)
  case atStart => exact ⟨0, Nat.zero_le _, rfl, H3⟩
  case round =>
    obtain ⟨i, hi, rfl, hH⟩ := hrel
    clear H3
    obtain ⟨⟨c0, c1, c2⟩, _⟩ := row3 hH.out.1
    by_cases hlt2 : i < 256
    · have c := hH.out.2.put i (wn_first _ _ hi) ⟨k, a, f⟩
      rw [wn_put _ _ hlt2] at c
      unfold obv at c
      go_wp2_with fail
      refine c.mono ?_
      rintro e w4 ⟨rfl, h4, hB4⟩
      have o4 := hB4.keep hH.out.1 (by omega)
      have H4 := hid (And.intro o4 h4)
      clear c h4 o4 hB4 hH c0 c1 c2
      go_wp2_with fail
      exact ⟨⟨i + 1, by omega, by go_num, H4⟩, by simp [intOf]; omega⟩
    · obtain rfl : i = 256 := by omega
      obtain ⟨x, hx0⟩ : ∃ x, x = 268435200 + p := ⟨_, rfl⟩
      have hx : (268435200 + (p : Int)) = (x : Int) := by omega
      have hx1 : (x : Int) < 268435456 := by omega
      have c := hH.out.2.kill x (by omega)
      rw [show killA (Wn ⟨k, a, f⟩ p 256) x = (0, Wk ⟨k, a, f⟩ p) by rw [hx0]; exact wn_kill _ hp] at c
      have HX0 := hid hx0
      clear hx0
      go_wp2_with fail
      refine c.mono ?_
      rintro e w4 ⟨rfl, h4, hB4⟩
      have o4 := hB4.keep hH.out.1 (by omega)
      have c' := h4.free x (by omega)
      rw [show freeA (Wk ⟨k, a, f⟩ p) x = (⟨k, a, f⟩, 0, Wf3 ⟨k, a, f⟩ p) by rw [HX0.out]; exact wk_free _ hp] at c'
      have H4 := hid o4
      clear c h4 o4 hB4 hH c0 c1 c2
      go_wp2_with fail
      refine c'.mono ?_
      rintro e w5 ⟨rfl, h5, hB5⟩
      unfold obv
      have o5 := hB5.keep H4.out (by omega)
      have hs5 : w.heap.size < w5.heap.size := lt_of o5
      have hne5 : w5.heap.size ≠ w1.heap.size := by have := h5.tb.lt; omega
      have p5 := heap_alloc_new w5 (.cells #[.int .i64 k, .int .i64 a, .int .i64 f] 31)
      have o5a := alloc_keep (.cells #[.int .i64 k, .int .i64 a, .int .i64 f] 31) o5
      obtain ⟨⟨c0, c1, c2⟩, _⟩ := row3 o5
      have c := (h5.alloc (.cells #[.int .i64 k, .int .i64 a, .int .i64 f] 31)).put 256 (wf_first ⟨k, a, f⟩ hp) ⟨k, a, f⟩
      rw [show putA (Wf3 ⟨k, a, f⟩ p) 256 ⟨k, a, f⟩ = (0, 11, Wf3 ⟨k, a, f⟩ p) from rfl] at c
      unfold obv at c
      have H5 := hid (And.intro p5 o5a)
      clear c' h5 hB5 o5 p5 o5a H4
      go_wp2_with fail
      refine c.mono ?_
      rintro e w6 ⟨rfl, h6, hB6⟩
      have p6 := hB6.keep H5.out.1 hne5
      have o6 := hB6.keep H5.out.2 (by omega)
      have H6 := hid (And.intro p6 (And.intro o6 h6))
      clear c c0 c1 c2 hB6 p6 o6 h6 H5
      go_wp2_with fail
      refine (alive_true _).mono ?_
      rintro e w7 ⟨rfl, hb7⟩
      have p7 := bel_keep hb7 H6.out.1
      have o7 := bel_keep hb7 H6.out.2.1
      obtain ⟨⟨c0, c1, c2⟩, _⟩ := row3 o7
      obtain ⟨⟨d0, d1, d2⟩, _⟩ := row3 p7
      have H7 := hid (H6.out.2.2.below hb7)
      clear hb7 p7 o7 H6
      go_wp2_with fail
      have c := H7.out.live
      rw [wf_live _ hp] at c
      refine c.mono ?_
      rintro e w8 ⟨a8, cap8, rfl, hb8⟩
      have h8 := H7.out.below hb8
      have c' := age_full h8.tb p 0 hp (Int.le_refl _) (by decide) (by rw [wf_at _ hp]; decide)
      have H8 := hid h8
      clear c hb8 h8 c0 c1 c2 d0 d1 d2
      go_wp2_with fail
      refine c'.mono ?_
      rintro e w9 ⟨rfl, rfl⟩
      clear c'
      go_wp2_with fail
      go_ret
      exact ⟨rfl, Below.of_below H1.out.2 H1.out.2.size H8.out.bel⟩

end Go.Proofs.Ytoahfeckadaomaa.handleWorn
