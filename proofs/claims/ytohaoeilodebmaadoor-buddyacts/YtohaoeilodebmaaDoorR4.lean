/- The document's allocator in memory; contracts of its New, Order and Left. -/
import Derived.Test.YtohaoeilodebmaaDoorR3
namespace Go.Proofs.YtohaoeilodebmaaDoor
open Go.RowKit Go.Maps

/-- The document's allocator at block r: its lists, in memory from base on. -/
structure RefM (w : World) (r base K : Nat) (B : St) (vF vU : Value) (F U : List (Nat × Nat)) : Prop where
  head : w.heap[r]? = some (.cells #[.int .i64 (K : Int), vF, vU] 42)
  sF : Slc w base vF F
  sU : Slc w base vU U
  lF : Lst B .free F
  lU : Lst B .used U
  aF : F.length = 0 ∨ vF.ownBlock ≠ some r
  aU : U.length = 0 ∨ vU.ownBlock ≠ some r
  br : base ≤ r
  small : K ≤ 20

theorem Slc.other {w w' : World} {base r : Nat} {v : Value} {L : List (Nat × Nat)} (h : Slc w base v L) (hs : w.heap.size ≤ w'.heap.size) (ho : ∀ x, x < w.heap.size → base ≤ x → x ≠ r → w'.heap[x]? = w.heap[x]?) (ha : L.length = 0 ∨ v.ownBlock ≠ some r) : Slc w' base v L := by
  obtain ⟨a, cap, rfl, hr, h1⟩ := h
  refine ⟨a, cap, rfl, ?_, h1⟩
  rcases hr with h | ⟨g, rfl, hb, hg, hc⟩
  · exact .inl h
  · rcases ha with ha | ha
    · exact .inl ha
    refine .inr ⟨g, rfl, hb, by omega, fun j p k hj => ?_⟩
    have hgr : g ≠ r := fun e => ha (by rw [e]; rfl)
    have e : ∀ o, w'.cell? ⟨g, o, none⟩ = w.cell? ⟨g, o, none⟩ := fun o => World.cell?_of_block (ho g hg hb hgr)
    rw [e, e]
    exact hc j p k hj
section
variable {w w' : World} {r base K : Nat} {B : St} {vF vU : Value} {F U : List (Nat × Nat)}
theorem RefM.lr (h : RefM w r base K B vF vU F U) : r < w.heap.size := (Array.getElem?_eq_some_iff.1 h.head).1
theorem RefM.cK (h : RefM w r base K B vF vU F U) : w.cell? ⟨r, 0, none⟩ = some (.int .i64 (K : Int)) := by rw [cell_of_row w r 0 _ _ _ h.head]; rfl
theorem RefM.cF (h : RefM w r base K B vF vU F U) : w.cell? ⟨r, 1, none⟩ = some vF := by rw [cell_of_row w r 1 _ _ _ h.head]; rfl
theorem RefM.cU (h : RefM w r base K B vF vU F U) : w.cell? ⟨r, 2, none⟩ = some vU := by rw [cell_of_row w r 2 _ _ _ h.head]; rfl
theorem RefM.other (h : RefM w r base K B vF vU F U) (hs : w.heap.size ≤ w'.heap.size) (ho : ∀ x, x < w.heap.size → base ≤ x → w'.heap[x]? = w.heap[x]?) : RefM w' r base K B vF vU F U :=
  ⟨by rw [ho r h.lr h.br]; exact h.head, h.sF.other hs (fun x hx hb _ => ho x hx hb) h.aF, h.sU.other hs (fun x hx hb _ => ho x hx hb) h.aU, h.lF, h.lU, h.aF, h.aU, h.br, h.small⟩
theorem RefM.below (h : RefM w r base K B vF vU F U) (hb : Below w.heap.size w w') : RefM w' r base K B vF vU F U := h.other hb.size fun x hx _ => hb.block x hx
theorem RefM.turn {S : Nat → Prop} (h : RefM w r base K B vF vU F U) (ht : Turn S w w') (hS : ∀ x, S x → x < base) : RefM w' r base K B vF vU F U :=
  h.other ht.size fun x hx hb => ht.block x hx fun hs => by have := hS x hs; omega
theorem RefM.congr {B' : St} (h : RefM w r base K B vF vU F U) (hf : ∀ k i, B k i = .free ↔ B' k i = .free) (hu : SameUsed B B') : RefM w r base K B' vF vU F U :=
  ⟨h.head, h.sF, h.sU, ⟨h.lF.rise, fun p k => (h.lF.mem p k).trans (exists_congr fun i => and_congr_right fun _ => hf k i)⟩, ⟨h.lU.rise, fun p k => (h.lU.mem p k).trans (exists_congr fun i => and_congr_right fun _ => hu k i)⟩, h.aF, h.aU, h.br, h.small⟩
end

/-- A slice of blocks, opened. -/
theorem Slc.open {w : World} {base : Nat} {v : Value} {L : List (Nat × Nat)} (h : Slc w base v L) : ∃ a cap, v = .slice a L.length cap ∧ Rd w base a L := by
  obtain ⟨a, cap, e, hr, _⟩ := h
  exact ⟨a, cap, e, hr⟩

theorem rorder_any (w : World) (r base K : Nat) (B : St) (vF vU : Value) (F U : List (Nat × Nat)) (a : Int) (h : RefM w r base K B vF vU F U) (hi : Inv K B) :
    Calls Tryd.prog 21 #[.pointer (some ⟨r, 0, none⟩), .int .i64 a] w (OrderPost B a w) := by
  have hlen := h.lU.len hi (by simp)
  have hb := pow_le20 h.small
  have hcU := h.cU
  obtain ⟨aU, cU, rfl, hr⟩ := h.sU.open
  have HL := hid h.lU
  have HR := hid hr
  clear h hr
  go_enter Tryd.func21, Tryd.ntmps21
  go_wp2_with fail
  refine (find_any w U aU base cU a HR.out (by omega)).mono ?_
  rintro e w1 ⟨x, rfl, rfl, ⟨rfl, hn⟩ | ⟨j, p, k, rfl, hx, he⟩⟩
  · have HN := hid hn
    clear hn
    go_wp2_with fail
    go_ret
    refine ⟨_, rfl, .inl ⟨rfl, fun k i hb' ha => ?_⟩, rfl⟩
    obtain ⟨j, hj, e⟩ := List.getElem_of_mem ((HL.out.mem _ _).2 ⟨i, rfl, hb'⟩)
    exact HN.out j (i * 2 ^ k) k (by rw [List.getElem?_eq_getElem hj, e]) ha.symm
  · obtain ⟨g, rfl, c0, c1⟩ := HR.out.at hx
    have hj1 : (j : Int) < (U.length : Int) := by have := (List.getElem?_eq_some_iff.1 hx).1; omega
    obtain ⟨i, hb', ha⟩ := HL.out.blk hx
    have HF := hid (And.intro hb' (he.symm.trans ha))
    clear hx he hb' ha
    go_wp2_with fail
    go_ret
    exact ⟨_, rfl, .inr ⟨k, i, rfl, HF.out.1, HF.out.2⟩, rfl⟩

def TopL (L : List (Nat × Nat)) (top : Int) : Prop := (top = -1 ∧ L = []) ∨ ∃ p k : Nat, top = (k : Int) ∧ (p, k) ∈ L ∧ ∀ x ∈ L, x.2 ≤ k
theorem top_great {B : St} {F : List (Nat × Nat)} {top : Int} (hF : Lst B .free F) (h : TopL F top) : GreatB B top := by
  rcases h with ⟨rfl, rfl⟩ | ⟨p, k, rfl, hm, hx⟩
  · exact .inl ⟨rfl, fun k i hb => by have := (hF.mem (i * 2 ^ k) k).2 ⟨i, rfl, hb⟩; cases this⟩
  · obtain ⟨i, _, hb⟩ := (hF.mem p k).1 hm
    exact .inr ⟨k, i, rfl, hb, fun k' i' hb' => hx (i' * 2 ^ k', k') ((hF.mem _ _).2 ⟨i', rfl, hb'⟩)⟩
theorem lpages_snoc (L : List (Nat × Nat)) (p k : Nat) : lpages (L ++ [(p, k)]) = lpages L + 2 ^ k := by simp [lpages]
theorem lpages_take (L : List (Nat × Nat)) (i : Nat) : lpages (L.take i) ≤ lpages L := by
  have e : lpages L = lpages (L.take i) + lpages (L.drop i) := by
    conv => lhs; rw [← List.take_append_drop i L]
    unfold lpages; rw [List.map_append, List.sum_append]
  omega
theorem take_snoc {L : List (Nat × Nat)} {i : Nat} {x : Nat × Nat} (h : L[i]? = some x) : L.take (i + 1) = L.take i ++ [x] := by
  obtain ⟨hl, e⟩ := List.getElem?_eq_some_iff.1 h
  rw [List.take_succ_eq_append_getElem hl, e]

def LeftPost (B : St) (F : List (Nat × Nat)) (w : World) (e : Ending) (w' : World) : Prop := ∃ top : Int, e = .returned (.tuple #[.int .i64 ((lpages F * 1024 : Nat) : Int), .int .i64 top]) ∧ GreatB B top ∧ w' = w
set_option maxRecDepth 100000 in
set_option maxHeartbeats 1000000 in
theorem rleft_any (w : World) (r base K : Nat) (B : St) (vF vU : Value) (F U : List (Nat × Nat)) (h : RefM w r base K B vF vU F U) (hi : Inv K B) (hn : NoHeld B) :
    Calls Tryd.prog 20 #[.pointer (some ⟨r, 0, none⟩)] w (LeftPost B F w) := by
  have hlen := h.lF.len hi (by simp)
  have hb := pow_le20 h.small
  have hpg : lpages F ≤ 1048576 := by rw [← h.lF.pages hi]; have := pages_le hi hn; omega
  have hord : ∀ j p k : Nat, F[j]? = some (p, k) → k ≤ 20 := fun j p k hj => by have := (h.lF.lt hi (by simp) (List.mem_of_getElem? hj)).1; have := h.small; omega
  have hcF := h.cF
  obtain ⟨aF, cF, rfl, hr⟩ := h.sF.open
  have HL := hid h.lF
  have HR := hid hr
  have HO := hid hord
  clear h hr hord
  go_enter Tryd.func20, Tryd.ntmps20
  go_wp2_with fail
  go_loop [4, 5, 6] (fun t4 t5 t6 => ∃ (i s : Nat) (top : Int), i ≤ F.length ∧ t6 = .int .i64 (i : Int) ∧ t4 = .int .i64 ((s * 1024 : Nat) : Int) ∧ t5 = .int .i64 top ∧ Hid (s = lpages (F.take i) ∧ TopL (F.take i) top)) (fun _ _ t6 => F.length - (intOf t6).toNat)
  case atStart => exact ⟨0, 0, -1, Nat.zero_le _, rfl, rfl, rfl, rfl, .inl ⟨rfl, by simp⟩⟩
  case round =>
    obtain ⟨i, s, top, hil, rfl, rfl, rfl, hH⟩ := hrel
    by_cases hlt : i < F.length
    · obtain ⟨⟨p, k⟩, hx⟩ : ∃ x, F[i]? = some x := ⟨_, List.getElem?_eq_getElem hlt⟩
      obtain ⟨g, rfl, c0, c1⟩ := HR.out.at hx
      have hk20 := HO.out i p k hx
      have hi1 : (i : Int) < (F.length : Int) := by omega
      have hts := take_snoc hx
      obtain ⟨q, hq⟩ : ∃ q, q = 2 ^ k := ⟨_, rfl⟩
      have hs1 : s + q ≤ 1048576 := by
        have h1 := lpages_take F (i + 1)
        rw [hts, lpages_snoc, ← hH.out.1, ← hq] at h1
        omega
      have hs2 : s + q = lpages (F.take (i + 1)) := by rw [hts, lpages_snoc, ← hH.out.1, hq]
      have HS := hid (And.intro hs2 hts)
      have hqq : ((1024 * 2 ^ k : Nat) : Int) = ((q * 1024 : Nat) : Int) := by rw [hq, Nat.mul_comm]
      have HQ := hid hqq
      clear hx hts hs2 hq hqq
      go_wp2_with fail
      refine (rsize_any k _ hk20).mono ?_
      rintro e w1 ⟨rfl, rfl⟩
      rw [HQ.out]
      by_cases hgt : top < (k : Int)
      · have hd : decide (top < (k : Int)) = true := decide_eq_true hgt
        have HT : Hid (TopL (F.take (i + 1)) (k : Int)) := by
          refine .inr ⟨p, k, rfl, by rw [HS.out.2]; simp, fun x hx => ?_⟩
          rw [HS.out.2] at hx
          rcases List.mem_append.1 hx with h | h
          · rcases hH.out.2 with ⟨_, h2⟩ | ⟨_, k2, h2, _, h3⟩
            · rw [h2] at h; cases h
            · have := h3 x h; omega
          · obtain rfl : x = (p, k) := by simpa using h
            exact Nat.le_refl _
        go_wp2_with fail
        go_round
        case rel => exact ⟨i + 1, s + q, k, by omega, by go_num, by go_num, rfl, HS.out.1, HT.out⟩
        case measure => simp [intOf]; omega
      · have hd : decide (top < (k : Int)) = false := decide_eq_false hgt
        have HT : Hid (TopL (F.take (i + 1)) top) := by
          rcases hH.out.2 with ⟨h1, _⟩ | ⟨p2, k2, h2, h3, h4⟩
          · omega
          · refine .inr ⟨p2, k2, h2, by rw [HS.out.2]; simp [h3], fun x hx => ?_⟩
            rw [HS.out.2] at hx
            rcases List.mem_append.1 hx with h | h
            · exact h4 x h
            · obtain rfl : x = (p, k) := by simpa using h
              show k ≤ k2; omega
        go_wp2_with fail
        go_round
        case rel => exact ⟨i + 1, s + q, top, by omega, by go_num, by go_num, rfl, HS.out.1, HT.out⟩
        case measure => simp [intOf]; omega
    · obtain rfl : i = F.length := by omega
      rw [List.take_length] at hH
      go_wp2_with fail
      go_ret2
      exact ⟨top, by rw [hH.out.1]; first | rfl | simp, top_great HL.out hH.out.2, rfl⟩
end Go.Proofs.YtohaoeilodebmaaDoor
