/- The numbers of a slab's used places, one by one: the iterator. -/
import Derived.RangeFuncNested
import Derived.RangeFuncBound
import Derived.RangeFuncCalls
import Derived.RangeFuncLeaves
import Derived.RangeFuncBox
import Derived.Shelf.Abstract
import Derived.Shelf.RegionOpen
import Derived.WalkKit
import Derived.OwnWalkIn
import Derived.TacticsInMore
import Derived.LoopNIn
import Derived.LoopIn
import Derived.Maps.AppendAt
import Derived.Test.YtohaoeilodebmaaDoorS21
namespace Go.Proofs.YtohaoeilodebmaaDoor
open Go.RowKit Go.Maps Go.Shelf
attribute [local go_sem] Oper.semAt_some

theorem ones_skip {f : Nat → Bool} {a b : Nat} (hab : a ≤ b) (h : ∀ j, a ≤ j → j < b → f j = false) : ones f b = ones f a := by
  refine up_ext (ones_up f b) (ones_up f a) (fun x => ?_)
  rw [ones_mem, ones_mem]
  constructor
  · rintro ⟨h1, h2⟩
    refine ⟨?_, h2⟩
    by_cases e : x < a
    · exact e
    · rw [h x (by omega) h1] at h2; cases h2
  · rintro ⟨h1, h2⟩
    exact ⟨by omega, h2⟩
theorem ones_next {f : Nat → Bool} {k : Nat} (h : f k = true) : ones f (k + 1) = ones f k ++ [k] := by
  unfold ones
  rw [List.range_succ, List.filter_append]
  simp [h]

/-- What a round keeps: all below n₀, and the box. -/
def Kp (n₀ Bn : Nat) (A B : World) : Prop := Below n₀ A B ∧ B.heap[Bn]? = A.heap[Bn]?
theorem Kp.trans {n₀ Bn : Nat} {A B C : World} (h : Kp n₀ Bn A B) (k : Kp n₀ Bn B C) : Kp n₀ Bn A C := ⟨h.1.trans k.1, k.2.trans h.2⟩

/-- What the iterator reads. -/
structure Rds (W : World) (n₀ Bn s b g m : Nat) (ws : List Nat) : Prop where
  box : W.cell? ⟨Bn, 0, none⟩ = some (.pointer (some ⟨s, 0, none⟩))
  map : W.cell? ⟨s, 0, none⟩ = some (.pointer (some ⟨b, 0, none⟩))
  bits : Bits W b g m ws
  tab : Tab W
  lt : s < n₀ ∧ b < n₀ ∧ g < n₀ ∧ 1 < n₀
theorem Rds.keep {A B : World} {n₀ Bn s b g m : Nat} {ws : List Nat} (h : Rds A n₀ Bn s b g m ws) (hk : Kp n₀ Bn A B) : Rds B n₀ Bn s b g m ws :=
  ⟨(World.cell?_of_block hk.2).trans h.box, (hk.1.cell (p := ⟨s, 0, none⟩) h.lt.1).trans h.map, h.bits.blocks (hk.1.block b h.lt.2.1) (hk.1.block g h.lt.2.2.1), h.tab.below hk.1 h.lt.2.2.2, h.lt⟩

def toGo (m : Nat) (v : Value) : Nat := match v with | .int _ r => if r < 0 then 0 else m - r.toNat | _ => 0
theorem toGo_nat (m k : Nat) : toGo m (.int .i64 (k : Int)) = m - k := by
  show (if (k : Int) < 0 then 0 else m - (k : Int).toNat) = m - k
  rw [if_neg (by omega), Int.toNat_natCast]

set_option maxRecDepth 100000 in
set_option maxHeartbeats 1000000 in
theorem used1_in (n : Nat) (hn : 1 ≤ n) (l Bn n₀ s b g m : Nat) (ws : List Nat) (hm : m ≤ 1000) (J Jx : List (Fin 1024) → World → Prop)
    (hY : ∀ pre x W, J pre W → pre.length < m → YieldAt Fence.wide (n - 1) Tryd.prog l #[.int .i64 ((x : Fin 1024).val : Int)] W fun e W' =>
      (e = .returned (.bool true) ∧ J (pre ++ [x]) W' ∧ Kp n₀ Bn W W') ∨ (e = .returned (.bool false) ∧ Jx (pre ++ [x]) W'))
    (W : World) (hR : Rds W n₀ Bn s b g m ws) (h0 : J [] W) :
    CallsIn Fence.wide n Tryd.prog 70 #[.func (.yield l) #[] #[], .pointer (some ⟨Bn, 0, none⟩)] W fun e W' => (∃ v, e = .returned v) ∧
      ((∃ ys : List (Fin 1024), ys.map Fin.val = ones (bit ws) m ∧ J ys W') ∨ (∃ pre, True ∧ Jx pre W')) := by
  have hc1 := hR.box
  have hc2 := hR.map
  have HR := hid hR
  clear hR
  have hf40 : Fence.wide.fn 40 := trivial
  refine callsIn_of_wp Tryd.func70 rfl trivial ?_ rfl
  simp only [Tryd.ntmps70, List.size_toArray, List.length_cons, List.length_nil, Nat.reduceAdd, Nat.reduceSub, Array.replicate_succ, Array.replicate_zero, List.push_toArray, List.append_toArray, List.nil_append, List.cons_append]
  gi_wp2_with (gi_at_call 40; refine (callsIn_wide.2 (first_any b g m ws true 0 W HR.out.bits HR.out.tab (by omega))).mono ?_; rintro e w' ⟨r, rfl, hr, ex⟩; rw [ex]; clear ex; have HF := hid hr; clear hr)
  gi_loopw [3] (fun v wr => ∃ (pre : List (Fin 1024)) (fr : Nat) (r : Int), v = .int .i64 r ∧ Hid (pre.map Fin.val = ones (bit ws) fr) ∧ Hid (FirstSo true ws fr m r) ∧ Hid (fr ≤ m) ∧ Hid (Rds wr n₀ Bn s b g m ws) ∧ J pre wr)
    (fun v _ => toGo m v)
  case atStart => exact ⟨[], 0, r, rfl, rfl, HF, Nat.zero_le _, HR, h0⟩
  case round =>
    clear HF HR hc1 hc2 h0
    obtain ⟨pre, fr, r, rfl, hpre, hF, hfr, HR, hJ⟩ := hrel
    rcases hF.out with ⟨rfl, hno⟩ | ⟨k, rfl, hk1, hk2, hkb, hlow⟩
    · have HN := hid hno
      clear hno
      gi_wp2
      go_end0
      refine ⟨⟨_, rfl⟩, .inl ⟨pre, ?_, hJ⟩⟩
      rw [hpre.out]
      refine (ones_skip hfr.out (fun j h1 h2 => ?_)).symm
      cases e : bit ws j
      · rfl
      · exact absurd e (HN.out j h1 h2)
    · have hlen : pre.length < m := by
        have e1 := congrArg List.length hpre.out
        rw [List.length_map, ones_len] at e1
        have := cnt_le (bit ws) fr
        omega
      obtain ⟨fn, tmps, assign, body, hy, hRr⟩ := hY pre ⟨k, by omega⟩ wr hJ hlen
      have HK := hid (And.intro hk1 (And.intro hkb hlow))
      have hk0 : decide ((0 : Int) ≤ (k : Int)) = true := by simp
      clear hk1 hkb hlow hlen
      dsimp only at hy hRr
      gi_wp2
      refine hRr.mono ?_
      rintro e W3 (⟨rfl, hJ3, hk3⟩ | ⟨rfl, hJx3⟩)
      · have hR3 := HR.out.keep hk3
        have hc13 := hR3.box
        have hc23 := hR3.map
        have HR3 := hid hR3
        clear hR3 hk3 hJ HR
        have hF3 := first_any b g m ws true (k + 1) W3 HR3.out.bits HR3.out.tab (by omega)
        have HF3 := hid hF3
        clear hF3
        gi_wp2_with (gi_at_call 40; refine (callsIn_wide.2 HF3.out).mono ?_; rintro e w' ⟨r, rfl, hr, ex⟩; rw [ex]; clear ex; have HF := hid hr; clear hr)
        go_roundw
        case rel =>
          refine ⟨pre ++ [⟨k, by omega⟩], k + 1, r, rfl, ?_, HF, ?_, HR3, hJ3⟩
          · show _ = _
            rw [List.map_append, hpre.out, ones_next HK.out.2.1, ones_skip HK.out.1 (fun j h1 h2 => ?_)]
            · rfl
            · cases e : bit ws j
              · rfl
              · exact absurd e (HK.out.2.2 j h1 h2)
          · show k + 1 ≤ m
            omega
        case measure =>
          rcases HF.out with ⟨rfl, _⟩ | ⟨k', rfl, hk', hk'2, _⟩
          · show toGo m (.int .i64 (-1)) < toGo m (.int .i64 (k : Int))
            rw [toGo_nat]
            show 0 < m - k
            omega
          · show toGo m (.int .i64 (k' : Int)) < toGo m (.int .i64 (k : Int))
            rw [toGo_nat, toGo_nat]
            omega
      · gi_wp2
        refine bodyPost_ret (results_none rfl _ _ _) rfl ?_
        exact ⟨⟨_, rfl⟩, .inr ⟨_, trivial, hJx3⟩⟩

theorem used_in (s : Nat) (w : World) : Calls Tryd.prog 47 #[.pointer (some ⟨s, 0, none⟩)] w fun e w' => e = .returned (.func (.func 70) #[] #[.pointer (some ⟨w.heap.size, 0, none⟩)]) ∧ w' = w.alloc (.cells #[.pointer (some ⟨s, 0, none⟩)] 82) := by
  go_enter Tryd.func47, Tryd.ntmps47
  go_wp2
  go_ret
  exact ⟨rfl, rfl⟩

theorem used_stops (n : Nat) (hn : 1 ≤ n) (Bn n₀ s b g m : Nat) (ws : List Nat) (hm : m ≤ 1000) (w : World) (hBn : Bn < w.heap.size) (hn₀ : n₀ ≤ w.heap.size) (hR : Rds w n₀ Bn s b g m ws) :
    SeqStopsK Fence.wide n Tryd.prog 70 #[.pointer (some ⟨Bn, 0, none⟩)] (fun x : Fin 1024 => #[Value.int .i64 (x.val : Int)]) (Kp n₀ Bn) (fun ys => ys.map Fin.val = ones (bit ws) m) (fun _ => True) m w := fun l J Jx W hW _ _ hY h0 =>
  used1_in n hn l Bn n₀ s b g m ws hm J Jx hY W (hR.keep ⟨hW.mono hn₀, hW.block Bn hBn⟩) h0
end Go.Proofs.YtohaoeilodebmaaDoor
