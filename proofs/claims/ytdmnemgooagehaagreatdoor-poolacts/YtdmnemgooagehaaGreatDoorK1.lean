/- The document's rows of numbers: a number is there, put, cut out. -/
import Derived.Test.YtdmnemgooagehaaGreatDoorR8
import Derived.Test.YtdmnemgooagehaaGreatDoorZ2
namespace Go.Proofs.YtdmnemgooagehaaGreatDoor
open Go.RowKit Go.Maps

theorem nums_take (l : List Nat) (i : Nat) : nums (l.take i) = (nums l).take i := by unfold nums; rw [List.map_take]
theorem nums_drop (l : List Nat) (i : Nat) : nums (l.drop i) = (nums l).drop i := by unfold nums; rw [List.map_drop]
theorem nums_app (l m : List Nat) : nums (l ++ m) = nums l ++ nums m := by unfold nums; rw [List.map_append]
theorem nums_len (l : List Nat) : (nums l).length = l.length := by unfold nums; rw [List.length_map]
theorem nums_one (l : List Nat) : ∀ u ∈ nums l, u.oneCell' = true := fun u hu => by
  obtain ⟨x, _, rfl⟩ := List.mem_map.1 hu
  rfl
theorem nums_at {l : List Nat} {j x : Nat} (h : l[j]? = some x) : (nums l)[j]? = some (.int .i64 ((x : Nat) : Int)) := by unfold nums; rw [List.getElem?_map, h]; rfl
theorem row_base {w : World} {b b' k : Nat} {v : Value} {xs : List Value} (h : w.ownsRow b 3 1 v k xs) (hb : b' ≤ b) : w.ownsRow b' 3 1 v k xs :=
  ⟨h.1, h.2.imp id fun ⟨g, cap, cur, h1, h2, h3⟩ => ⟨g, cap, cur, h1, Nat.le_trans hb h2, h3⟩⟩
theorem news_head {w : World} {b g k cap : Nat} {l : List Nat} (h : w.ownsRow b 3 1 (.slice (some ⟨g, 0, none⟩) k cap) k (nums l)) (i : Nat) : ∀ j u, (nums (l.take i))[j]? = some u → w.cell? ((⟨g, 0, none⟩ : Addr).add j) = some u := fun j u hj => by
  rw [nums_take] at hj
  obtain ⟨hlt, _⟩ := List.getElem?_eq_some_iff.1 hj
  rw [List.getElem?_take_of_lt (by simp at hlt; omega)] at hj
  obtain ⟨g', e, hc⟩ := Qu.row_at h hj
  cases e
  rw [addr_add, Nat.zero_add]
  exact hc
theorem news_tail {w : World} {b g k cap : Nat} {l : List Nat} (h : w.ownsRow b 3 1 (.slice (some ⟨g, 0, none⟩) k cap) k (nums l)) (i : Nat) : ∀ j u, (nums (l.drop i))[j]? = some u → w.cell? ((⟨g, i, none⟩ : Addr).add j) = some u := fun j u hj => by
  rw [nums_drop, List.getElem?_drop] at hj
  obtain ⟨g', e, hc⟩ := Qu.row_at h hj
  cases e
  rw [addr_add]
  exact hc
/-- A row of the document's: where it lies is told. -/
def Irow (w : World) (b : Nat) (v : Value) (L : List Nat) : Prop := w.ownsRow b 3 1 v L.length (nums L)
theorem Irow.shape {w : World} {b : Nat} {v : Value} {L : List Nat} (h : Irow w b v L) : (v = .slice none 0 0 ∧ L = []) ∨ ∃ g cap, v = .slice (some ⟨g, 0, none⟩) L.length cap ∧ L.length ≤ cap ∧ cap ≤ maxLen := by
  rcases h.2 with ⟨e, h0⟩ | ⟨g, cap', cur, e, _, _, h1, h2, _⟩
  · exact .inl ⟨e, List.eq_nil_of_length_eq_zero h0⟩
  · exact .inr ⟨g, cap', e, h1, h2⟩
theorem Irow.open {w : World} {b : Nat} {v : Value} {L : List Nat} (h : Irow w b v L) : ∃ a cap, v = .slice a L.length cap := by
  rcases h.shape with ⟨e, rfl⟩ | ⟨g, cap, e, _⟩
  · exact ⟨none, 0, e⟩
  · exact ⟨_, cap, e⟩
theorem Irow.at {w : World} {b cap : Nat} {a : Option Addr} {L : List Nat} (h : Irow w b (.slice a L.length cap) L) {j x : Nat} (hj : L[j]? = some x) : ∃ g, a = some ⟨g, 0, none⟩ ∧ w.cell? ⟨g, j, none⟩ = some (.int .i64 ((x : Nat) : Int)) := by
  obtain ⟨g, e, hc⟩ := Qu.row_at h (nums_at hj)
  exact ⟨g, e, hc⟩
theorem Irow.below {w w' : World} {b : Nat} {v : Value} {L : List Nat} (h : Irow w b v L) (hb : Below w.heap.size w w') : Irow w' b v L := World.ownsRow.bel h hb (Nat.le_refl _)
theorem Irow.keep {w w' : World} {b : Nat} {v : Value} {L : List Nat} (h : Irow w b v L) (ho : ∀ x, v.ownBlock = some x → w'.heap[x]? = w.heap[x]?) : Irow w' b v L := World.ownsRow.other h ho
theorem Irow.lt {w : World} {b : Nat} {v : Value} {L : List Nat} (h : Irow w b v L) : ∀ x, v.ownBlock = some x → b ≤ x ∧ x < w.heap.size := fun x hx => Qu.own_block h x hx

/-- Whether a number is there. -/
def HasN (L : List Nat) (x : Int) (w : World) (e : Ending) (w' : World) : Prop := ∃ f : Bool, e = .returned (.bool f) ∧ Hid (f = true ↔ ∃ y : Nat, y ∈ L ∧ ((y : Nat) : Int) = x) ∧ w' = w
theorem ihas_any (w : World) (b : Nat) (v : Value) (L : List Nat) (x : Int) (hR : Irow w b v L) (hl : L.length ≤ 1000000) : Calls Tryz.prog 82 #[v, .int .i64 x] w (HasN L x w) := by
  obtain ⟨a, cap, rfl⟩ := hR.open
  have HR := hid hR
  clear hR
  go_enter Tryz.func82, Tryz.ntmps82
  go_wp2_with fail
  go_loop [5] (fun t => ∃ k : Nat, k ≤ L.length ∧ t = .int .i64 (k : Int) ∧ Hid (∀ j y : Nat, j < k → L[j]? = some y → ((y : Nat) : Int) ≠ x)) (fun t => L.length - (intOf t).toNat)
  case atStart => exact ⟨0, Nat.zero_le _, rfl, fun j y hj => absurd hj (by omega)⟩
  case round =>
    obtain ⟨k, hk, rfl, HN⟩ := hrel
    by_cases hkl : k = L.length
    · subst hkl
      go_wp2_with fail
      go_ret
      refine ⟨false, rfl, hid ⟨fun h => (by cases h), fun ⟨y, hy, he⟩ => ?_⟩, rfl⟩
      obtain ⟨j, hj, e⟩ := List.getElem_of_mem hy
      exact absurd he (HN.out j y hj (by rw [List.getElem?_eq_getElem hj, e]))
    · have hk2 : k < L.length := by omega
      obtain ⟨y, hy⟩ : ∃ y, L[k]? = some y := ⟨_, List.getElem?_eq_getElem hk2⟩
      obtain ⟨g, rfl, hc⟩ := HR.out.at hy
      have HY := hid hy
      clear hy
      by_cases he : ((y : Nat) : Int) = x
      · have hd : (((y : Nat) : Int) == x) = true := by rw [beq_iff_eq]; exact he
        have HE := hid he
        clear he
        go_wp2_with fail
        go_ret
        exact ⟨true, rfl, hid ⟨fun _ => ⟨y, List.mem_of_getElem? HY.out, HE.out⟩, fun _ => rfl⟩, rfl⟩
      · have hd : (((y : Nat) : Int) == x) = false := by rw [beq_eq_false_iff_ne]; exact he
        have HE := hid he
        clear he
        go_wp2_with fail
        refine ⟨⟨k + 1, by omega, by go_num, hid (fun j z hj hz => ?_)⟩, by simp [intOf]; omega⟩
        by_cases e : j = k
        · subst e
          rw [HY.out] at hz
          cases hz
          exact HE.out
        · exact HN.out j z (by omega) hz
/-- A list without a number. -/
def without (L : List Nat) (x : Int) : List Nat := L.filter fun y => decide (((y : Nat) : Int) ≠ x)
theorem without_snoc (L : List Nat) (y : Nat) (x : Int) : without (L ++ [y]) x = without L x ++ if ((y : Nat) : Int) = x then [] else [y] := by
  unfold without
  rw [List.filter_append]
  congr 1
  by_cases e : ((y : Nat) : Int) = x <;> simp [e]
theorem without_le (L : List Nat) (x : Int) : (without L x).length ≤ L.length := List.length_filter_le _ _
theorem take_snocN {L : List Nat} {k x : Nat} (h : L[k]? = some x) : L.take (k + 1) = L.take k ++ [x] := by
  rw [List.take_add_one, h]; rfl
def CutN (L : List Nat) (x : Int) (w : World) (e : Ending) (w' : World) : Prop := ∃ a cap, e = .returned (.slice a (without L x).length cap) ∧ Hid (Irow w' w.heap.size (.slice a (without L x).length cap) (without L x)) ∧ Below w.heap.size w w'
set_option maxHeartbeats 2000000 in
theorem icut_any (w : World) (b : Nat) (v : Value) (L : List Nat) (x : Int) (hR : Irow w b v L) (hl : L.length ≤ 1000000) : Calls Tryz.prog 84 #[v, .int .i64 x] w (CutN L x w) := by
  obtain ⟨a, cap, rfl⟩ := hR.open
  obtain ⟨i0, hi0, hz0, hz1, hz2⟩ := info_parts Qu.info3
  have HIF := hid (And.intro hi0 (And.intro hz0 (And.intro hz1 hz2)))
  have HR := hid hR
  clear hR hi0 hz0 hz1 hz2
  go_enter Tryz.func84, Tryz.ntmps84
  go_wp2_with fail
  go_loopw [5, 6] (fun u t wr => ∃ k : Nat, k ≤ L.length ∧ t = .int .i64 (k : Int) ∧ Hid (Irow wr w.heap.size u (without (L.take k) x)) ∧ Hid (Below w.heap.size w wr)) (fun _ t _ => L.length - (intOf t).toNat)
  case atStart => exact ⟨0, Nat.zero_le _, rfl, hid (World.ownsRow_nil _ _ _ _), hid (Below.refl _ _)⟩
  case round =>
    obtain ⟨k, hk, rfl, hO, hX⟩ := hrel
    by_cases hkl : k = L.length
    · subst hkl
      have hO2 := hO.out
      rw [List.take_length] at hO2
      obtain ⟨a2, cap2, rfl⟩ := hO2.open
      have HO2 := hid hO2
      clear hO2 hO
      go_wp2_with fail
      go_ret
      exact ⟨a2, cap2, rfl, HO2, hX.out⟩
    · have hk2 : k < L.length := by omega
      obtain ⟨y, hy⟩ : ∃ y, L[k]? = some y := ⟨_, List.getElem?_eq_getElem hk2⟩
      obtain ⟨g, rfl, hc⟩ := (HR.out.below hX.out).at hy
      have HTK := hid (take_snocN hy)
      have hsn := without_snoc (L.take k) y x
      have hwl := without_le (L.take k) x
      rw [List.length_take] at hwl
      clear hy
      by_cases he : ((y : Nat) : Int) = x
      · have hd : (((y : Nat) : Int) != x) = false := by simp [he]
        have HK : Hid (without (L.take (k + 1)) x = without (L.take k) x) := hid (by rw [HTK.out, hsn, if_pos he, List.append_nil])
        clear he hsn hwl
        go_wp2_with fail
        exact ⟨⟨k + 1, by omega, by go_num, hid (by rw [HK.out]; exact hO.out), hX⟩, by simp [intOf]; omega⟩
      · have hd : (((y : Nat) : Int) != x) = true := by rw [bne_iff_ne]; exact he
        have HK : Hid (without (L.take (k + 1)) x = without (L.take k) x ++ [y]) := hid (by rw [HTK.out, hsn, if_neg he])
        have hs5 := hX.out.size
        clear he hsn
        have hO' := hO.out
        unfold Irow at hO'
        have HO := hid hO'
        clear hO' hO
        generalize without (L.take k) x = K at *
        go_wp2_with (first
          | (at_builtin; refine wpList_append_own _ rfl _ _ 34 rfl w.heap.size 3 i0 (.int .i64 0) 1 8 Tryz.underlying34 HIF.out.1 HIF.out.2.1 HIF.out.2.2.1 HIF.out.2.2.2 rfl (by decide) _ _ _ rfl (HO.out.alloc _) ⟨wr.heap.size, 0, none⟩ 1 1 [.int .i64 (y : Int)] rfl rfl (one_new _ _ _) (one_cell _) (by unfold maxLen; omega) (by omega) (by simp; omega) ?_)
          | fail)
        intro v' w6 hown' hgrow _
        have hX6 : Below w.heap.size w w6 := Below.grown (hX.out.alloc hs5 _) hgrow (by simp; omega) (fun r hr => (Qu.own_block HO.out r hr).1)
        have H6 := hid (And.intro hown' hX6)
        clear hown' hX6 hgrow
        go_wp2_with fail
        exact ⟨⟨k + 1, by omega, by go_num, hid (by rw [HK.out]; unfold Irow; rw [List.length_append, nums_app]; exact H6.out.1), hid H6.out.2⟩, by simp [intOf]; omega⟩
/-- The place at which put comes to stand. -/
def StopN (L : List Nat) (x t : Nat) : Prop := t ≤ L.length ∧ (∀ j y : Nat, t ≤ j → L[j]? = some y → x < y) ∧ (t = 0 ∨ ∃ y, L[t - 1]? = some y ∧ y ≤ x)
theorem stop_put {L : List Nat} {x t : Nat} (h : StopN L x t) (hs : L.Pairwise (· < ·)) (hx : x ∉ L) : PutAt L x t := by
  refine ⟨h.1, fun j y hj hy => ?_, h.2.1⟩
  rcases h.2.2 with h0 | ⟨z, hz, hle⟩
  · omega
  · have hne : z ≠ x := fun e => hx (e ▸ List.mem_of_getElem? hz)
    rcases Nat.lt_or_ge j (t - 1) with hlt | hge
    · obtain ⟨h1, rfl⟩ := List.getElem?_eq_some_iff.1 hy
      obtain ⟨h2, rfl⟩ := List.getElem?_eq_some_iff.1 hz
      have := List.pairwise_iff_getElem.1 hs j (t - 1) h1 h2 hlt
      omega
    · obtain rfl : j = t - 1 := by omega
      rw [hy] at hz
      cases hz
      omega
def PutN (L : List Nat) (x : Nat) (w : World) (e : Ending) (w' : World) : Prop := ∃ a cap t, e = .returned (.slice a (L.length + 1) cap) ∧ Hid (StopN L x t) ∧ Hid (Irow w' w.heap.size (.slice a (L.length + 1) cap) (insAt L x t)) ∧ Below w.heap.size w w'
theorem insAt_len {L : List Nat} {x t : Nat} (h : t ≤ L.length) : (insAt L x t).length = L.length + 1 := by
  unfold insAt
  rw [List.length_append, List.length_cons, List.length_take, List.length_drop]; omega
theorem put_row {w : World} {b : Nat} {v : Value} {L : List Nat} {x t : Nat} (ht : t ≤ L.length) (h : w.ownsRow b 3 1 v (0 + t + 1 + (L.length - t)) (([] ++ nums (L.take t)) ++ [.int .i64 (x : Int)] ++ nums (L.drop t))) : ∃ a cap, v = .slice a (L.length + 1) cap ∧ Irow w b v (insAt L x t) := by
  have hl := insAt_len (x := x) ht
  have hb : nums (insAt L x t) = ([] ++ nums (L.take t)) ++ [.int .i64 (x : Int)] ++ nums (L.drop t) := by
    unfold insAt
    rw [nums_app]
    simp [nums]
  have hI : Irow w b v (insAt L x t) := by
    unfold Irow
    rw [hl, hb, show L.length + 1 = 0 + t + 1 + (L.length - t) by omega]
    exact h
  obtain ⟨a, cap, e⟩ := hI.open
  rw [hl] at e
  exact ⟨a, cap, e, hI⟩
end Go.Proofs.YtdmnemgooagehaaGreatDoor
