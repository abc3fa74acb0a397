/- For every number of bits and every two lists of bits: it is all one in which order bits are set, and what is set and taken off again leaves the map as it was: MapOrder returns true. Condition: math/bits' own table starts as the program's text lays it (the card ties that). -/
import Derived.Test.YtdngpppcjindiaaDoorCards
import Derived.Test.YtdngpppcjindiaaDoorTie
import Derived.Test.YtdngpppcjindiaaDoorF
import Derived.OwnWalk
namespace Go.Proofs.YtdngpppcjindiaaDoor.mapOrder
open Go.ChangeShapes Go.WideShapes Go.ChangeAt Go.RowKit Go.Proofs.YtdngpppcjindiaaDoor

theorem core_long (n : Int) (a1 a2 : Option Addr) (len1 len2 c1 c2 : Nat) (w : World) (hT : Tab w) (h : (200 : Int) < len1 ∨ (200 : Int) < len2 ∨ 3000 < n) :
    Calls Tryd.prog 5 #[.int .u16 n, .slice a1 len1 c1, .slice a2 len2 c2] w fun e w' => e = .returned (.bool true) ∧ Below w.heap.size w w' := by
  have HT := hid hT
  have HH := hid h
  clear hT h
  by_cases h1 : (200 : Int) < len1
  · go_enter Tryd.func5, Tryd.ntmps5
    go_wp2_with fail
    refine (alive_true _ HT.out).mono ?_
    rintro e w1 ⟨rfl, hb1⟩
    go_wp2_with fail
    go_ret
    exact ⟨rfl, hb1⟩
  by_cases h2 : (200 : Int) < len2
  · go_enter Tryd.func5, Tryd.ntmps5
    go_wp2_with fail
    refine (alive_true _ HT.out).mono ?_
    rintro e w1 ⟨rfl, hb1⟩
    go_wp2_with fail
    go_ret
    exact ⟨rfl, hb1⟩
  have h3 : 3000 < n := by have := HH.out; omega
  go_enter Tryd.func5, Tryd.ntmps5
  go_wp2_with fail
  refine (alive_true _ HT.out).mono ?_
  rintro e w1 ⟨rfl, hb1⟩
  go_wp2_with fail
  go_ret
  exact ⟨rfl, hb1⟩

theorem zero_bit (m j : Nat) : bit (List.replicate m 0) j = false := by
  unfold bit
  rw [List.getElem?_replicate]
  split <;> simp

/-- The words whose bits are those of the list. -/
def Those (n : Nat) (ws : List Nat) (l : List Int) : Prop := ∀ j, j < n → (bit ws j = true ↔ (j : Int) ∈ l)

theorem those_all (n : Nat) (l : List Int) : Those n (setAll n true (List.replicate ((n + 63) / 64) 0) l).1 l := by
  intro j hj
  rw [setAll_bit true (zero_ok n) l, zero_bit]
  by_cases h : (j : Int) ∈ l
  · rw [if_pos ⟨hj, h⟩]; simp [h]
  · rw [if_neg (fun h' => h h'.2)]; simp [h]

theorem those_one {n : Nat} {ws : List Nat} {r : List Int} (hk : Okm n ws) (h : Those n ws r) (x : Int) : Those n (setAll n true ws [x]).1 (x :: r) := by
  intro j hj
  rw [setAll_bit true hk [x]]
  by_cases he : (j : Int) = x
  · rw [if_pos ⟨hj, by simp [he]⟩]; simp [he]
  · rw [if_neg (fun h' => he (by simpa using h'.2)), h j hj]; simp [he]

theorem those_same {n : Nat} {a b : List Nat} {l : List Int} (ha : Okm n a) (hb : Okm n b) (h1 : Those n a l) (h2 : Those n b l) : a = b := by
  refine ha.ext hb fun i hi => ?_
  have e1 := h1 i hi
  have e2 := h2 i hi
  rw [← e2] at e1
  cases hx : bit a i <;> cases hy : bit b i <;> simp_all

/-- Those of the list that aren't on. -/
def fresh (n : Nat) (ws : List Nat) (m : List Int) : List Int := m.filter (fun x => !getB n ws x)
theorem fresh_mem (n : Nat) (ws : List Nat) (m : List Int) (i : Int) (h0 : 0 ≤ i) (h1 : i < n) : i ∈ fresh n ws m ↔ i ∈ m ∧ bit ws i.toNat = false := by
  unfold fresh getB hasB
  rw [List.mem_filter, decide_eq_true ⟨h0, h1⟩, Bool.true_and]
  simp
theorem fresh_le (n : Nat) (ws : List Nat) (m : List Int) (k : Nat) : (fresh n ws (m.take k)).length ≤ k := by
  have h1 := List.length_filter_le (fun x => !getB n ws x) (m.take k)
  have h2 := List.length_take_le k m
  unfold fresh
  omega
theorem fresh_snoc (n : Nat) (ws : List Nat) (m : List Int) (x : Int) : fresh n ws (m ++ [x]) = if getB n ws x then fresh n ws m else fresh n ws m ++ [x] := by
  unfold fresh
  rw [List.filter_append]
  cases h : getB n ws x <;> simp [h]
theorem take_snoc (m : List Int) (k : Nat) (h : k < m.length) : m.take (k + 1) = m.take k ++ [m[k]?.getD 0] := by
  rw [List.take_succ_eq_append_getElem h, List.getElem?_eq_getElem h]; rfl

/-- What owns these numbers is a slice of them. -/
theorem own_src {w : World} {base g : Nat} {v : Value} {xs : List Int} (h : w.ownsRow base 3 1 v xs.length (xs.map (Value.int .i64))) (hg : g < base) :
    ∃ a cap, v = .slice a xs.length cap ∧ Src w g a xs := by
  rcases h.2 with ⟨rfl, h0⟩ | ⟨r, cap, cur, rfl, hb, hr, _, _, hsz, htake⟩
  · exact ⟨none, 0, by rw [h0], .inl h0⟩
  · refine ⟨_, _, rfl, .inr ⟨r, 0, rfl, by omega, (Array.getElem?_eq_some_iff.1 hr).1, fun j hj => ?_⟩⟩
    rw [cell_of_row w r (0 + j) _ _ _ hr, Nat.zero_add]
    have e := congrArg (fun l : List Value => l[j]?) htake
    simp only [Nat.mul_one] at e
    rw [List.getElem?_take, if_pos hj, Array.getElem?_toList] at e
    rw [e]
    simp [hj]

theorem info3 : (Tryd.prog.info? 3).map (fun i => (i.zero, i.size, i.bytes)) = some (some (.int .i64 0), 1, 8) := by kernel_rfl

theorem pick {w w' : World} {a : Option Addr} {l : List Int} (h : Ints w a l) (hb : Below w.heap.size w w') {k : Nat} (hk : k < l.length) : ∃ s o, a = some ⟨s, o, none⟩ ∧ w'.cell? ⟨s, o + k, none⟩ = some (.int .i64 (l[k]?.getD 0)) := by
  rcases h with h | ⟨s, o, rfl, hs, hc⟩
  · omega
  · exact ⟨s, o, rfl, (hb.cell (p := ⟨s, o + k, none⟩) hs).trans (hc k hk)⟩

theorem set_x (b g n : Nat) (ws ws' : List Nat) (t : Nat) (on : Bool) (l : List Int) (a : Option Addr) (cap : Nat) (w : World) (hB : Bits w b g n ws) (hI : Src w g a l) (hl : l.length ≤ 1000000) (h : setAll n on ws l = (ws', t)) :
    Calls Tryd.prog 8 #[.pointer (some ⟨b, 0, none⟩), .bool on, .slice a l.length cap] w fun e w' => e = .returned (.int .i64 (t : Int)) ∧ Bits w' b g n ws' ∧ But g w w' := by
  have := set_any b g n ws on l a cap w hB hI hl
  rw [h] at this
  exact this

theorem own_block {w : World} {base : Nat} {v : Value} {k : Nat} {xs : List Value} (h : w.ownsRow base 3 1 v k xs) : ∀ r, v.ownBlock = some r → base ≤ r := by
  rcases h.2 with ⟨rfl, _⟩ | ⟨g, cap, cur, rfl, hb, _⟩
  · intro r hr; cases hr
  · intro r hr
    have : g = r := by simpa [Value.ownBlock] using hr
    omega
theorem Bits.under {w w' : World} {b g n B : Nat} {ws : List Nat} (h : Bits w b g n ws) (hb : Below B w w') (h1 : b < B) (h2 : g < B) : Bits w' b g n ws :=
  ⟨by rw [hb.block b h1]; exact h.head, by rw [hb.block g h2]; exact h.body, h.unlike, h.small, h.ok⟩
theorem Src.but {w w' : World} {g : Nat} {a : Option Addr} {l : List Int} (h : Src w g a l) (hb : But g w w') : Src w' g a l := by
  rcases h with h | ⟨s, o, rfl, hs, hlt, hc⟩
  · exact .inl h
  · exact .inr ⟨s, o, rfl, hs, Nat.lt_of_lt_of_le hlt hb.size, fun j hj => by rw [World.cell?_of_block (w := w) (hb.block s hlt hs)]; exact hc j hj⟩

/-- What holds all along the second loop. -/
structure Held (wr : World) (b1 g1 b2 g2 n B : Nat) (ws : List Nat) (v : Value) (xs : List Int) : Prop where
  a : Bits wr b1 g1 n ws
  b : Bits wr b2 g2 n ws
  own : wr.ownsRow B 3 1 v xs.length (xs.map (Value.int .i64))
  size : B ≤ wr.heap.size
theorem Held.drewN {wr : World} {b1 g1 b2 g2 n B : Nat} {ws : List Nat} {v : Value} {xs : List Int} (h : Held wr b1 g1 b2 g2 n B ws v xs) (q : Nat) : Held (wr.drewN q) b1 g1 b2 g2 n B ws v xs :=
  ⟨h.a.same rfl, h.b.same rfl, h.own, h.size⟩
theorem Held.grown {w w' : World} {b1 g1 b2 g2 n B : Nat} {ws : List Nat} {v v' : Value} {xs : List Int} {x : Int} (h : Held w b1 g1 b2 g2 n B ws v xs) (q1 : b1 < B) (q2 : g1 < B) (q3 : b2 < B) (q4 : g2 < B)
    (hown : w'.ownsRow B 3 1 v' (xs.length + 1) (xs.map (Value.int .i64) ++ [.int .i64 x])) (hg : (w.alloc (.cells #[.int .i64 x] 3)).grownBy w' v.ownBlock) : Held w' b1 g1 b2 g2 n B ws v' (xs ++ [x]) ∧ Below B w w' := by
  have hb : Below B w w' := Below.grown ((Below.refl _ _).alloc h.size _) hg (by have := h.size; simp; omega) (own_block h.own)
  exact ⟨⟨Bits.under h.a hb q1 q2, Bits.under h.b hb q3 q4, by simpa using hown, Nat.le_trans h.size hb.size⟩, hb⟩

set_option maxRecDepth 100000 in
set_option maxHeartbeats 4000000 in
theorem core (n : Nat) (a1 a2 : Option Addr) (l m : List Int) (k1 k2 : Nat) (w : World) (hT : Tab w) (hn : (n : Int) ≤ 3000) (hl : (l.length : Int) ≤ 200) (hm : (m.length : Int) ≤ 200) (hI1 : Ints w a1 l) (hI2 : Ints w a2 m) :
    Calls Tryd.prog 5 #[.int .u16 (n : Int), .slice a1 l.length k1, .slice a2 m.length k2] w fun e w' => e = .returned (.bool true) ∧ Below w.heap.size w w' := by
  have HT := hid hT
  have HI1 := hid hI1
  have HI2 := hid hI2
  have hpos := hT.pos
  clear hT hI1 hI2
  go_enter Tryd.func5, Tryd.ntmps5
  go_wp2_with fail
  refine (alive_true _ HT.out).mono ?_
  rintro e w1 ⟨rfl, hb1⟩
  go_wp2_with fail
  refine (new_ok n _ (by omega)).mono ?_
  rintro e w2 ⟨b1, g1, rfl, hA2, hb2, hlb1, hlg1⟩
  have HA2 := hid hA2
  clear hA2
  go_wp2_with fail
  refine (new_ok n _ (by omega)).mono ?_
  rintro e w3 ⟨b2, g2, rfl, hB3, hb3, hlb2, hlg2⟩
  have hA3 := HA2.out.below hb3
  have hX2 := Below.of_below hb1 hb1.size hb2
  have hX3 := Below.of_below hX2 hX2.size hb3
  have q1 := HA2.out.lt
  have q2 := hb1.size
  have q3 := hb2.size
  have d1 : w.heap.size ≤ g1 := by omega
  have d2 : w.heap.size ≤ g2 := by omega
  have d3 : b2 ≠ g1 := by omega
  have d4 : g2 ≠ g1 := by omega
  have d5 : b1 ≠ g2 := by omega
  have HA3 := hid hA3
  have HB3 := hid hB3
  clear hA3 hB3 HA2 hX2 hb1 hb2 hb3 hlb1 hlg1 hlb2 hlg2 q1 q2 q3
  go_wp2_with fail
  refine (set_any b1 g1 n _ true l a1 k1 _ HA3.out (HI1.out.src hX3 d1) (by omega)).mono ?_
  rintro e w4 ⟨rfl, hA4, hb4⟩
  have HB4 := hid (HB3.out.but hb4 d3 d4)
  have hX4 := Below.of_but hX3 hX3.size hb4 d1
  have hTA := hid (those_all n l)
  generalize (setAll n true (List.replicate ((n + 63) / 64) 0) l).1 = wa at *
  generalize (setAll n true (List.replicate ((n + 63) / 64) 0) l).2 = turned at *
  have HA4 := hid hA4
  have hT0 : Hid (Those n (List.replicate ((n + 63) / 64) 0) []) := by
    intro j hj
    rw [zero_bit]; simp
  clear hX3 HA3 HB3 hA4 hb4
  go_wp2_with fail
  go_loopw [9] (fun i wr => ∃ z : Int, -1 ≤ z ∧ z < (l.length : Int) ∧ i = .int .i64 z ∧ (∃ ws, Hid (Bits wr b1 g1 n wa ∧ Bits wr b2 g2 n ws ∧ Those n ws (l.drop (z + 1).toNat))) ∧ Below w.heap.size w wr) (fun i _ => (intOf i + 1).toNat)
  case atStart =>
    refine ⟨(l.length : Int) - 1, by omega, by omega, rfl, ⟨_, HA4.out, HB4.out, ?_⟩, hX4⟩
    rw [show ((l.length : Int) - 1 + 1).toNat = l.length from by omega, List.drop_length]
    exact hT0.out
  case round =>
    obtain ⟨z, hz1, hz2, rfl, ⟨ws, hBB⟩, hX⟩ := hrel
    clear HA4 HB4 hT0 hX4
    by_cases h0 : 0 ≤ z
    · obtain ⟨k, rfl⟩ := Int.eq_ofNat_of_zero_le h0
      have hk : k < l.length := by omega
      obtain ⟨s, o, rfl, hc⟩ := pick HI1.out hX hk
      have hdrop : l.drop k = (l[k]?.getD 0) :: l.drop (k + 1) := by
        rw [List.drop_eq_getElem_cons hk, List.getElem?_eq_getElem hk]; rfl
      generalize l[k]?.getD 0 = x at *
      have HD := hid hdrop
      clear hdrop
      go_wp2_with fail
      have hB5 := hBB.out.2.1.below ((Below.refl _ _).alloc (Nat.le_refl _) (.cells #[.int .i64 x] 3))
      have hA5 := hBB.out.1.below ((Below.refl _ _).alloc (Nat.le_refl _) (.cells #[.int .i64 x] 3))
      have hgl := hBB.out.2.1.lt.2
      refine (set_any b2 g2 n ws true [x] _ 1 _ hB5 (.inr ⟨wr.heap.size, 0, rfl, by omega, by simp, by
        intro j hj
        rw [cell_of_row _ _ _ _ _ _ (heap_alloc_new _ _), Nat.zero_add]
        match j, hj with
        | 0, _ => rfl⟩) (by simp)).mono ?_
      rintro e w5 ⟨rfl, hB6, hb6⟩
      have hX6 := Below.of_but (hX.alloc hX.size _) (by have := hX.size; simp; omega) hb6 d2
      have HN : Hid (Bits w5 b1 g1 n wa ∧ Bits w5 b2 g2 n (setAll n true ws [x]).1 ∧ Those n (setAll n true ws [x]).1 (l.drop k)) := by
        refine ⟨hA5.but hb6 d5 (Ne.symm d4), hB6, ?_⟩
        have := those_one hBB.out.2.1.ok hBB.out.2.2 x
        rw [show ((k : Int) + 1).toNat = k + 1 from by omega] at this
        rw [HD.out]; exact this
      generalize (setAll n true ws [x]).1 = ws' at *
      generalize (setAll n true ws [x]).2 = t' at *
      clear hB5 hA5 hgl hB6 hb6 hX hBB hc
      go_wp2_with fail
      refine ⟨⟨(k : Int) - 1, by omega, by omega, rfl, ⟨ws', ?_⟩, hX6⟩, by simp [intOf]⟩
      rw [show ((k : Int) - 1 + 1).toNat = k from by omega]
      exact HN
    · obtain rfl : z = -1 := by omega
      have hsame : ws = wa := by
        have h1 := hBB.out.2.2
        rw [show ((-1 : Int) + 1).toNat = 0 from rfl, List.drop_zero] at h1
        exact those_same hBB.out.2.1.ok hBB.out.1.ok h1 hTA.out
      subst hsame
      have HAB : Hid (Bits wr b1 g1 n ws ∧ Bits wr b2 g2 n ws) := ⟨hBB.out.1, hBB.out.2.1⟩
      clear hBB hTA
      obtain ⟨i0, hi, hz0, hz1', hz2'⟩ := info_parts info3
      have HIF := hid (And.intro hi (And.intro hz0 (And.intro hz1' hz2')))
      obtain ⟨B, hBd⟩ : ∃ B, B = wr.heap.size := ⟨_, rfl⟩
      have q1 : b1 < B := by rw [hBd]; exact HAB.out.1.lt.1
      have q2 : g1 < B := by rw [hBd]; exact HAB.out.1.lt.2
      have q3 : b2 < B := by rw [hBd]; exact HAB.out.2.lt.1
      have q4 : g2 < B := by rw [hBd]; exact HAB.out.2.lt.2
      have q5 : w.heap.size ≤ B := by rw [hBd]; exact hX.size
      have hH0 : Hid (Held wr b1 g1 b2 g2 n B ws (.slice none 0 0) (fresh n ws (m.take 0))) := ⟨HAB.out.1, HAB.out.2, World.ownsRow_nil _ _ _ _, by omega⟩
      clear HAB hBd hi hz0 hz1' hz2' hz1 hz2 h0
      go_wp2_with fail
      go_loopw [10, 11] (fun v i wr => ∃ k : Nat, k ≤ m.length ∧ i = .int .i64 k ∧ Hid (Held wr b1 g1 b2 g2 n B ws v (fresh n ws (m.take k))) ∧ Below w.heap.size w wr) (fun _ i _ => m.length - (intOf i).toNat)
      case atStart => exact ⟨0, Nat.zero_le _, rfl, hH0, hX⟩
      case round =>
        obtain ⟨k, hk, rfl, hH, hX⟩ := hrel
        clear hH0
        by_cases hkm : k < m.length
        · obtain ⟨s, o, rfl, hc⟩ := pick HI2.out hX hkm
          have hsn := fresh_snoc n ws (m.take k) (m[k]?.getD 0)
          rw [← take_snoc m k hkm] at hsn
          have hfl := fresh_le n ws m k
          generalize m[k]?.getD 0 = x at *
          have HSN := hid hsn
          clear hsn
          go_wp2_with fail
          refine (get_any b2 g2 n ws x _ hH.out.b).mono ?_
          rintro e w6 ⟨rfl, q, rfl⟩
          have hH6 := hid (hH.out.drewN q)
          have hX6 := Below.drewN hX q
          cases hg : getB n ws x
          · have hn1 : fresh n ws (m.take (k + 1)) = fresh n ws (m.take k) ++ [x] := by rw [HSN.out, hg]; simp
            have HN1 := hid hn1
            generalize fresh n ws (m.take k) = xs at *
            clear hn1 hg HSN hH hX
            go_wp2_with (first
              | (at_builtin; refine wpList_append_own _ rfl _ _ 27 rfl B 3 i0 (.int .i64 0) 1 8 Tryd.underlying27 HIF.out.1 HIF.out.2.1 HIF.out.2.2.1 HIF.out.2.2.2 rfl (by decide) _ _ _ rfl (hH6.out.own.alloc _) ⟨wr.heap.size, 0, none⟩ 1 1 [.int .i64 x] rfl rfl ?c1 ?c2 ?c3 ?c4 ?c5 ?_)
              | fail)
            case c1 =>
              intro j u hj
              rw [addr_add, Nat.zero_add]
              match j, hj with
              | 0, hj => rw [← hj]; exact (cell_of_row _ _ _ _ _ _ (heap_alloc_new (wr.drewN q) _))
            case c2 => intro u hu; simp at hu; subst hu; rfl
            case c3 => unfold maxLen; omega
            case c4 => omega
            case c5 => have := hH6.out.size; simp at this ⊢; omega
            intro v' w7 hown' hgrow _
            have HH7 := hid (hH6.out.grown q1 q2 q3 q4 hown' hgrow)
            have hX7 := hX6.trans (HH7.out.2.mono q5)
            clear hown' hgrow hH6 hX6 hc
            go_wp2_with fail
            exact ⟨⟨k + 1, by omega, by go_num, by rw [HN1.out]; exact HH7.out.1, hX7⟩, by simp [intOf]; omega⟩
          · have hn1 : fresh n ws (m.take (k + 1)) = fresh n ws (m.take k) := by rw [HSN.out, hg]; simp
            have HN1 := hid hn1
            clear hn1 hg HSN hH hX hc
            go_wp2_with fail
            exact ⟨⟨k + 1, by omega, by go_num, by rw [HN1.out]; exact hH6, hX6⟩, by simp [intOf]; omega⟩
        · obtain rfl : k = m.length := by omega
          rw [List.take_length] at hH
          obtain ⟨af, kf, rfl, hsf⟩ := own_src hH.out.own q4
          have hback := setAll_back hH.out.b.ok m (fresh n ws m) (fresh_mem n ws m)
          have hfl : (fresh n ws m).length ≤ 200 := by
            have := fresh_le n ws m m.length
            rw [List.take_length] at this
            omega
          have hcell1 := setAll_le n true ws m
          have HSF := hid hsf
          have hA := hid hH.out.a
          have hB := hid hH.out.b
          obtain ⟨wm, t1, hs1⟩ : ∃ wm t1, setAll n true ws m = (wm, t1) := ⟨_, _, rfl⟩
          obtain ⟨wf, t2, hs2⟩ : ∃ wf t2, setAll n false wm (fresh n ws m) = (wf, t2) := ⟨_, _, rfl⟩
          rw [hs1] at hback
          simp only at hback
          rw [hs2] at hback
          obtain ⟨rfl, rfl⟩ : wf = ws ∧ t1 = t2 := hback
          have HS1 := hid hs1
          have HS2 := hid hs2
          clear hs1 hs2 hsf hH
          generalize fresh n wf m = fr at *
          go_wp2_with fail
          refine (set_x b2 g2 n wf wm t1 true m a2 k2 _ hB.out (HI2.out.src hX d2) (by omega) HS1.out).mono ?_
          rintro e w7 ⟨rfl, hB7, hb7⟩
          have HB7 := hid hB7
          have HA7 := hid (hA.out.but hb7 d5 (Ne.symm d4))
          have HF7 := hid (Src.but HSF.out hb7)
          have hX7 := Below.of_but hX hX.size hb7 d2
          clear hB7 hb7 hX hA hB HSF HS1
          go_wp2_with fail
          refine (set_x b2 g2 n wm wf t1 false fr af kf _ HB7.out HF7.out (by omega) HS2.out).mono ?_
          rintro e w8 ⟨rfl, hB8, hb8⟩
          have HAB := hid (And.intro (HA7.out.but hb8 d5 (Ne.symm d4)) hB8)
          have hX8 := Below.of_but hX7 hX7.size hb8 d2
          clear hB8 hb8 hX7 HA7 HB7 HF7 HS2
          go_wp2_with fail
          go_loopw [12] (fun i wr => ∃ k : Nat, k ≤ n ∧ i = .int .i64 k ∧ Hid (Bits wr b1 g1 n wf ∧ Bits wr b2 g2 n wf) ∧ Below w.heap.size w wr) (fun i _ => n - (intOf i).toNat)
          case atStart => exact ⟨0, Nat.zero_le _, rfl, HAB, hX8⟩
          case round =>
            obtain ⟨k, hk, rfl, hAB, hX⟩ := hrel
            clear HAB hX8
            by_cases hkn : k < n
            · go_wp2_with fail
              refine (get_in b1 g1 n wf k _ hAB.out.1 hkn).mono ?_
              rintro e w9 ⟨rfl, p1, rfl⟩
              go_wp2_with fail
              refine (get_in b2 g2 n wf k _ (hAB.out.2.drewN p1) hkn).mono ?_
              rintro e w10 ⟨rfl, p2, rfl⟩
              have HN := hid (And.intro (hAB.out.1.drewN (p1 + p2)) (hAB.out.2.drewN (p1 + p2)))
              have hXN := Below.drewN hX (p1 + p2)
              generalize bit wf k = y at *
              clear hAB hX
              go_wp2_with fail
              exact ⟨⟨k + 1, by omega, by go_num, HN, hXN⟩, by simp [intOf]; omega⟩
            · go_wp2_with fail
              refine (count_any b1 g1 n wf _ hAB.out.1).mono ?_
              rintro e w9 ⟨rfl, rfl⟩
              go_wp2_with fail
              refine (count_any b2 g2 n wf _ hAB.out.2).mono ?_
              rintro e w10 ⟨rfl, rfl⟩
              generalize count wf = c at *
              go_wp2_with fail
              go_ret
              exact ⟨rfl, hX⟩

theorem walk (a0 : Int) (a1 : Option Addr) (l1 : List Int) (cap1 : Nat) (a2 : Option Addr) (l2 : List Int) (cap2 : Nat) (w : World) (hT : Tab w) (w0 : (Lit.int .u16 a0).wf = true) (w1 : Ints w a1 l1) (w2 : Ints w a2 l2) :
    Calls Tryd.prog 5 #[.int .u16 a0, .slice a1 l1.length cap1, .slice a2 l2.length cap2] w fun e w' => e = .returned (.bool true) ∧ Below w.heap.size w w' := by
  have b0 := bounds_u16 w0
  by_cases hl : (200 : Int) < l1.length ∨ (200 : Int) < l2.length ∨ 3000 < a0
  · exact core_long a0 a1 a2 l1.length l2.length cap1 cap2 w hT hl
  obtain ⟨n, rfl⟩ := Int.eq_ofNat_of_zero_le b0.1
  exact core n a1 a2 l1 l2 cap1 cap2 w hT (by omega) (by omega) (by omega) w1 w2

/-- WHAT THE WALK GIVES, FOR EVERY ARGUMENT AND EVERY WORLD THAT HOLDS THE TABLE. -/
theorem contract (H : Type) (enc : TypeId × Value → H) (W : World) (base : Nat) (args : Array Value) (ds gs : List (DataW H)) (before : List MemPlace)
    (hval : ∀ (j : Nat) t v, Tryd.f5.params[j]? = some t → args[j]? = some v → Value.okWide Tryd.prog W .any base t v)
    (hW : DataW.Whole enc Tryd.prog Tryd.f5.params.toList Rows.mapOrderSpec.vars false W args.toList ds gs before) (hL : laidMetH Tryd.prog Rows.mapOrderRow.laid W) :
    Calls Tryd.prog 5 args W fun e W' => ∃ v, e = .returned v ∧ Rows.mapOrderSpec.post enc Tryd.prog Tryd.f5 false true false false W args v W' := by
  have hW' := hW
  obtain ⟨p, q, hA0, hV, rfl, hfz, hnd⟩ := hW
  have hA : DataW.TrodAll enc Tryd.prog W 0 (fun _ => true) true Tryd.f5.params.toList args.toList ds p := hA0
  rw [Tryd.params5] at hA hval
  obtain ⟨v0, vs0, d0, ds0, p0, q0, hargs, rfl, rfl, h0, r0⟩ := trodAll_cons hA
  obtain ⟨v1, vs1, d1, ds1, p1, q1, rfl, rfl, rfl, h1, r1⟩ := trodAll_cons r0
  obtain ⟨v2, vs2, d2, ds2, p2, q2, rfl, rfl, rfl, h2, r2⟩ := trodAll_cons r1
  obtain ⟨rfl, rfl, rfl⟩ := trodAll_nil r2
  obtain rfl : args = #[v0, v1, v2] := by cases args; simp_all
  obtain ⟨rfl, rfl⟩ := trodVars_none hV
  obtain ⟨a0, rfl, rfl, rfl, w0⟩ := open_int Tryd.underlying22 (hval 0 22 v0 rfl rfl) h0
  have k1 := h1
  have lt1 : ∀ x ∈ p1, x.block < W.heap.size := by obtain ⟨m, hm⟩ := k1; exact DataW.trod_lt m _ _ _ hm
  obtain ⟨a1', len1, cap1', rfl⟩ := okWide_slice Tryd.underlying27 (hval 1 27 v1 rfl rfl)
  obtain ⟨a1, cap1, l1, he1, w1, _⟩ : ∃ p cap zs, Value.slice a1' len1 cap1' = .slice p zs.length cap ∧ Ints W p zs ∧ ∀ n ∈ zs, (Lit.int .i64 n).wf = true := by
    obtain ⟨fuel, hf⟩ := h1
    exact ints_of (by simpa [Value.cells] using hf)
  obtain ⟨rfl, rfl, rfl⟩ : a1' = a1 ∧ len1 = l1.length ∧ cap1' = cap1 := by simpa using he1
  have k2 := h2
  have lt2 : ∀ x ∈ p2, x.block < W.heap.size := by obtain ⟨m, hm⟩ := k2; exact DataW.trod_lt m _ _ _ hm
  obtain ⟨a2', len2, cap2', rfl⟩ := okWide_slice Tryd.underlying27 (hval 2 27 v2 rfl rfl)
  obtain ⟨a2, cap2, l2, he2, w2, _⟩ : ∃ p cap zs, Value.slice a2' len2 cap2' = .slice p zs.length cap ∧ Ints W p zs ∧ ∀ n ∈ zs, (Lit.int .i64 n).wf = true := by
    obtain ⟨fuel, hf⟩ := h2
    exact ints_of (by simpa [Value.cells] using hf)
  obtain ⟨rfl, rfl, rfl⟩ : a2' = a2 ∧ len2 = l2.length ∧ cap2' = cap2 := by simpa using he2
  clear hA0
  refine (walk a0 a1' l1 cap1' a2' l2 cap2' W (tab_of hL) w0 w1 w2).mono fun e W' ⟨he, bel⟩ => ?_
  subst he
  exact ⟨_, rfl, _, _, _, [], _, [], hW', trodAll_mk1 (shut_bool Tryd.underlying4 _), (trodAll_cons_mk (shut_int Tryd.underlying22 w0) (trodAll_cons_mk (Below.trod laidOut (by kernel_rfl) (of_decide_eq_true (by kernel_rfl)) k1 bel lt1) (trodAll_cons_mk (Below.trod laidOut (by kernel_rfl) (of_decide_eq_true (by kernel_rfl)) k2 bel lt2) trodAll_mk0))), rfl, bel.frame _, fun h => by cases h⟩

theorem laid_met (os : Os) : laidMet Tryd.prog Rows.mapOrderRow.laid (({ World.holding Tryd.prog os ⟨#[], #[], []⟩ with heap := (World.holding Tryd.prog os ⟨#[], #[], []⟩).heap.modify 0 (lays tabInts) } : World).forCall (fun _ _ => 0) ⟨#[], #[.int .u16 0, .slice none 0 0, .slice none 0 0], []⟩).memory :=
  laidMet_of_run' 8 (by kernel_rfl) (by kernel_rfl)
theorem reads (os : Os) {H : Type} (enc : TypeId × Value → H) : ∃ places, DataW.whole enc Tryd.prog (({ World.holding Tryd.prog os ⟨#[], #[], []⟩ with heap := (World.holding Tryd.prog os ⟨#[], #[], []⟩).heap.modify 0 (lays tabInts) } : World).forCall (fun _ _ => 0) ⟨#[], #[.int .u16 0, .slice none 0 0, .slice none 0 0], []⟩).memory Tryd.f5.params.toList Rows.mapOrderSpec.vars false #[Value.int .u16 0, .slice none 0 0, .slice none 0 0].toList 8 = some ([.lit (.int .u16 0), .nil, .nil], [], places) :=
  ⟨[], by kernel_rfl⟩

set_option maxRecDepth 100000 in
theorem lifted (os : Os) (started : os.Started) (H : Type) (enc : TypeId × Value → H) (F : Stop.Interp) :
    ReturnsInHanded {} Tryd.checked os 5 .any ((OpenSpec.ofChange Rows.mapOrderSpec).preRow enc Tryd.prog Tryd.f5 Rows.mapOrderRow.domain false Rows.mapOrderRow.laid) (((OpenSpec.ofChange Rows.mapOrderSpec).at F).post enc Tryd.prog Tryd.f5 false true false false) := by
  obtain ⟨places, hx⟩ := reads os enc
  refine returnsInHanded_of_row (C := Tryd.checked) (s := OpenSpec.ofChange Rows.mapOrderSpec) own started (by kernel_rfl) Tryd.func5
    (witness_row_at (enc := enc) (C := Tryd.checked) false ({ World.holding Tryd.prog os ⟨#[], #[], []⟩ with heap := (World.holding Tryd.prog os ⟨#[], #[], []⟩).heap.modify 0 (lays tabInts) } : World) #[.int .u16 0, .slice none 0 0, .slice none 0 0] rfl (by kernel_rfl) (by kernel_rfl) (by kernel_rfl)
      (OpenSpec.preRow_of_cond 8 hx (by kernel_rfl) (fun k hk => by cases hk) (by kernel_rfl) (laid_met os))) ?_
  intro W base args ds gs before hval hW _ _ _ hL _ _
  exact contract H enc W base args ds gs before hval hW hL

theorem said : Rows.MapOrderSaid :=
  OpenClaim.holds_of_cond 5 Tryd.f5 rfl rfl rfl rfl rfl rfl rfl ⟨rfl, rfl, rfl, rfl, rfl⟩ rfl rfl rfl rfl rfl (by kernel_rfl) Tryd.func5 (by kernel_rfl)
    (of_decide_eq_true (by kernel_rfl)) (by unfold Func.isWrapper; first | (rw [if_pos (by decide +kernel)]; kernel_rfl) | (rw [if_neg (by decide +kernel)]; exact ⟨rfl, rfl⟩))
    (fun os started H enc _ F => by rw [OpenClaim.pre_eq_preRow]; exact lifted os started H enc F)

/-- No parameter wants a stand-in; the program's own looks are off. -/
theorem plain (f : FuncId) (fn : Func) (hf : Tryd.pinned.checked.prog.funcNamed "quartermaster/quartermasterlaw02.MapOrder" = some f) (hfn : Tryd.pinned.checked.prog.funcs[f]? = some fn) :
    false = Tryd.pinned.checked.prog.looks [] ∧ ∀ (j : Nat) t, fn.params[j]? = some t → Tryd.pinned.checked.prog.wantsStandIn t = false := by
  obtain rfl : f = 5 := Option.some.inj ((show Tryd.prog.funcNamed "quartermaster/quartermasterlaw02.MapOrder" = some 5 by kernel_rfl).symm.trans hf) |>.symm
  obtain rfl : fn = Tryd.f5 := (Option.some.inj (Tryd.func5.symm.trans hfn)).symm
  refine ⟨by kernel_rfl, fun j t ht => ?_⟩
  rw [Tryd.params5] at ht
  have hm : t = 22 ∨ t = 27 := by simpa using Array.mem_of_getElem? ht
  rcases hm with rfl | rfl
  · exact (show Tryd.prog.wantsStandIn 22 = false by kernel_rfl)
  · exact (show Tryd.prog.wantsStandIn 27 = false by kernel_rfl)

theorem card : Rows.MapOrderCardSaid :=
  Claim7.holds_tied_plain_at .later [] _ _ _ _ said (fun _ h => by cases h) (by kernel_rfl) (fun _ h => by cases h) mapOrder_row_tie rfl ⟨rfl, rfl⟩ (by kernel_rfl) rfl plain (by kernel_rfl)
end Go.Proofs.YtdngpppcjindiaaDoor.mapOrder
