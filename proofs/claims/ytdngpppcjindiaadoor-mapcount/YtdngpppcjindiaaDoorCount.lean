/- For every number of bits and every list of acts: the count of bits that are on goes up and down by what Set tells, and bits that are set twice don't turn again: MapCount returns true. Condition: math/bits' own table starts as the program's text lays it (the card ties that). -/
import Derived.Test.YtdngpppcjindiaaDoorCards
import Derived.Test.YtdngpppcjindiaaDoorTie
import Derived.Test.YtdngpppcjindiaaDoorF
import Derived.Deep.RegionHeld3
namespace Go.Proofs.YtdngpppcjindiaaDoor.mapCount
open Go.ChangeShapes Go.WideShapes Go.ChangeAt Go.RowKit Go.Proofs.YtdngpppcjindiaaDoor

/-- An act's first two fields: on or off, and which bits. -/
def ActAt (w : World) (s p : Nat) (on : Bool) (lp : Option Addr) (l : List Int) (lc : Nat) : Prop :=
  w.cell? ⟨s, p, none⟩ = some (.bool on) ∧ w.cell? ⟨s, p + 1, none⟩ = some (.slice lp l.length lc) ∧ Ints w lp l

def Acts (w : World) (a : Option Addr) (len : Nat) : Prop := len = 0 ∨ ∃ s o, a = some ⟨s, o, none⟩ ∧ s < w.heap.size ∧ ∀ i, i < len → ∃ on lp l lc, ActAt w s (o + i * 4) on lp l lc

theorem drewB {w : World} {b g n : Nat} {ws : List Nat} (h : Bits w b g n ws) : Bits w.drew b g n ws := h.same rfl

theorem set_x (b g n : Nat) (ws ws' : List Nat) (t : Nat) (on : Bool) (l : List Int) (a : Option Addr) (cap : Nat) (w : World) (hB : Bits w b g n ws) (hI : Src w g a l) (hl : l.length ≤ 1000000) (h : setAll n on ws l = (ws', t)) :
    Calls Tryd.prog 8 #[.pointer (some ⟨b, 0, none⟩), .bool on, .slice a l.length cap] w fun e w' => e = .returned (.int .i64 (t : Int)) ∧ Bits w' b g n ws' ∧ But g w w' := by
  have := set_any b g n ws on l a cap w hB hI hl
  rw [h] at this
  exact this
theorem count_x (b g n : Nat) (ws : List Nat) (c : Nat) (w : World) (hB : Bits w b g n ws) (h : count ws = c) :
    Calls Tryd.prog 9 #[.pointer (some ⟨b, 0, none⟩)] w fun e w' => e = .returned (.int .i64 (c : Int)) ∧ w' = w := by
  have := count_any b g n ws w hB
  rw [h] at this
  exact this

theorem core_long (n : Int) (a : Option Addr) (len cap : Nat) (w : World) (hT : Tab w) (hl : (60 : Int) < len) :
    Calls Tryd.prog 3 #[.int .u16 n, .slice a len cap] w fun e w' => e = .returned (.bool true) ∧ Below w.heap.size w w' := by
  have HT := hid hT
  clear hT
  go_enter Tryd.func3, Tryd.ntmps3
  go_wp2_with fail
  refine (alive_true _ HT.out).mono ?_
  rintro e w1 ⟨rfl, hb1⟩
  go_wp2_with fail
  go_ret
  exact ⟨rfl, hb1⟩

set_option maxRecDepth 100000 in
set_option maxHeartbeats 2000000 in
theorem core (n : Nat) (a : Option Addr) (len cap : Nat) (w : World) (hT : Tab w) (hn : n < 65536) (hA : Acts w a len) (hl : (len : Int) ≤ 60) :
    Calls Tryd.prog 3 #[.int .u16 (n : Int), .slice a len cap] w fun e w' => e = .returned (.bool true) ∧ Below w.heap.size w w' := by
  have HT := hid hT
  have HA := hid hA
  have hpos := hT.pos
  clear hT hA
  go_enter Tryd.func3, Tryd.ntmps3
  go_wp2_with fail
  refine (alive_true _ HT.out).mono ?_
  rintro e w1 ⟨rfl, hb1⟩
  go_wp2_with fail
  refine (new_ok n _ (by omega)).mono ?_
  rintro e w2 ⟨b, g, rfl, hB2, hb2, hlb, hlg⟩
  have hX2 := Below.of_below hb1 hb1.size hb2
  have hlg' : w.heap.size ≤ g := Nat.le_trans hb1.size hlg
  have hBX : ∃ ws, Hid (Bits w2 b g n ws) ∧ count ws = 0 := ⟨_, hB2, by
    have h1 := (setAll_count (n := n) (zero_ok n) []).1
    unfold count
    generalize (List.replicate ((n + 63) / 64) 0).length = k
    rw [total_eq]
    have : ∀ m, cnt (bit (List.replicate ((n + 63) / 64) 0)) m = 0 := by
      intro m
      induction m with
      | zero => rfl
      | succ m ih =>
        unfold cnt
        rw [ih]
        by_cases hm : n ≤ m
        · rw [(zero_ok n).off m hm]; rfl
        · unfold bit
          rw [List.getElem?_replicate]
          split <;> simp
    exact this _⟩
  clear hb1 hb2 hlb hlg hB2
  go_wp2_with fail
  go_loopw [6, 7] (fun t i wr => ∃ j : Nat, j ≤ len ∧ i = .int .i64 j ∧ (∃ ws c, t = .int .i64 ((c : Nat) : Int) ∧ Hid (Bits wr b g n ws ∧ count ws = c)) ∧ Below w.heap.size w wr) (fun _ i _ => len - (intOf i).toNat)
  case atStart =>
    obtain ⟨ws, h1, h2⟩ := hBX
    exact ⟨0, Nat.zero_le _, rfl, ⟨ws, 0, rfl, h1, h2⟩, hX2⟩
  case round =>
    obtain ⟨j, hj, rfl, ⟨ws, c, rfl, hB⟩, hX⟩ := hrel
    clear hBX hX2
    by_cases hlj : j < len
    · rcases HA.out with h | ⟨s, o, rfl, hs, hacts⟩
      · omega
      obtain ⟨on, lp, l, lc, hc0, hc1, hI⟩ := hacts j hlj
      have c0 : wr.cell? ⟨s, o + j * 4, none⟩ = some (.bool on) := (hX.cell (p := ⟨s, o + j * 4, none⟩) hs).trans hc0
      have c1 : wr.cell? ⟨s, o + j * 4 + 1, none⟩ = some (.slice lp l.length lc) := (hX.cell (p := ⟨s, o + j * 4 + 1, none⟩) hs).trans hc1
      have HI := hid hI
      have HC := hid (And.intro hc0 hc1)
      clear hc0 hc1 hI hacts HA
      by_cases hlong : (100 : Int) < l.length
      · go_wp2_with fail
        go_ret
        exact ⟨rfl, hX⟩
      · have hlen : l.length ≤ 1000000 := by omega
        obtain ⟨ws', t, hset⟩ : ∃ ws' t, setAll n on ws l = (ws', t) := ⟨_, _, rfl⟩
        obtain ⟨c', hc'⟩ : ∃ c', count ws' = c' := ⟨_, rfl⟩
        have hcs : Hid (if on = true then c' = c + t else c' + t = c) := by
          have h := setAll_count hB.out.1.ok l
          rw [← hc', ← hB.out.2]
          cases on
          · rw [hset] at h; exact h.2
          · rw [hset] at h; exact h.1
        have HTW : Hid (setAll n on ws' l = (ws', 0)) := by
          have h := setAll_twice on hB.out.1.ok l
          rw [hset] at h; exact h
        have hle : t ≤ 1000000 := by
          have h := setAll_le n on ws l
          rw [hset] at h
          exact Nat.le_trans h hlen
        have hcl : c ≤ 1048576 := by rw [← hB.out.2]; exact count_le hB.out.1.ok (by omega)
        have hcl' : c' ≤ 1048576 := by
          have h := setAll_ok on hB.out.1.ok l
          rw [hset] at h
          rw [← hc']; exact count_le h (by omega)
        have HS := hid hset
        have hj0 : (0 : Int) ≤ (j : Int) := by omega
        have hj1 : (j : Int) < (len : Int) := by omega
        have HC' := hid hc'
        clear hset hc'
        go_wp2_with fail
        go_region_held3 (fun wx => wx.cell? ⟨s, o + j * 4, none⟩ = some (.bool on) ∧ wx.cell? ⟨s, o + j * 4 + 1, none⟩ = some (.slice lp l.length lc)) (first | exact ⟨d0, d1⟩ | exact ⟨c0, c1⟩)
          ((go_at_call 8; refine (set_x b g n ws ws' t on l lp lc _ (drewB hB.out.1) (HI.out.src hX.drew hlg') hlen HS.out).mono ?_; rintro e w5 ⟨rfl, hB5, hb5⟩
            have d0 : w5.cell? ⟨s, o + j * 4, none⟩ = some (.bool on) := ((Below.of_but hX.drew hX.drew.size hb5 hlg').cell (p := ⟨s, o + j * 4, none⟩) hs).trans HC.out.1
            have d1 : w5.cell? ⟨s, o + j * 4 + 1, none⟩ = some (.slice lp l.length lc) := ((Below.of_but hX.drew hX.drew.size hb5 hlg').cell (p := ⟨s, o + j * 4 + 1, none⟩) hs).trans HC.out.2))
        all_goals
          have hX5 := Below.of_but hX.drew hX.drew.size hb5 hlg'
          have HB5 := hid hB5
          clear hX hb5 c0 c1 hB hB5 HS
          cases on
          · as_aux_lemma =>
            have hce : (c : Int) - (t : Int) = (c' : Int) := by have h : _ := hcs.out; simp at h; omega
            clear hcs
            go_wp2_with fail
            go_region_held3 (fun wx => wx.cell? ⟨s, o + j * 4, none⟩ = some (.bool false) ∧ wx.cell? ⟨s, o + j * 4 + 1, none⟩ = some (.slice lp l.length lc)) (first | exact ⟨e0, e1⟩ | exact ⟨d0, d1⟩)
              (first
                | (go_at_call 9; refine (count_x b g n ws' c' _ (drewB HB5.out) HC'.out).mono ?_; rintro e w6 ⟨rfl, rfl⟩)
                | (go_at_call 8; refine (set_x b g n ws' ws' 0 false l lp lc _ (drewB HB5.out) (HI.out.src hX5.drew hlg') hlen HTW.out).mono ?_; rintro e w7 ⟨rfl, hB7, hb7⟩
                   have e0 : w7.cell? ⟨s, o + j * 4, none⟩ = some (.bool false) := ((Below.of_but hX5.drew hX5.drew.size hb7 hlg').cell (p := ⟨s, o + j * 4, none⟩) hs).trans HC.out.1
                   have e1 : w7.cell? ⟨s, o + j * 4 + 1, none⟩ = some (.slice lp l.length lc) := ((Below.of_but hX5.drew hX5.drew.size hb7 hlg').cell (p := ⟨s, o + j * 4 + 1, none⟩) hs).trans HC.out.2))
            all_goals
              have hX7 := Below.of_but hX5.drew hX5.drew.size hb7 hlg'
              have HB7 := hid hB7
              clear hX5 hb7 hB7 HB5
              go_wp2_with fail
              exact ⟨⟨j + 1, by omega, by go_num, ⟨ws', c', rfl, HB7.out, HC'.out⟩, hX7⟩, by simp [intOf]; omega⟩
          · as_aux_lemma =>
            have hce : (c : Int) + (t : Int) = (c' : Int) := by have h : _ := hcs.out; simp at h; omega
            clear hcs
            go_wp2_with fail
            go_region_held3 (fun wx => wx.cell? ⟨s, o + j * 4, none⟩ = some (.bool true) ∧ wx.cell? ⟨s, o + j * 4 + 1, none⟩ = some (.slice lp l.length lc)) (first | exact ⟨e0, e1⟩ | exact ⟨d0, d1⟩)
              (first
                | (go_at_call 9; refine (count_x b g n ws' c' _ (drewB HB5.out) HC'.out).mono ?_; rintro e w6 ⟨rfl, rfl⟩)
                | (go_at_call 8; refine (set_x b g n ws' ws' 0 true l lp lc _ (drewB HB5.out) (HI.out.src hX5.drew hlg') hlen HTW.out).mono ?_; rintro e w7 ⟨rfl, hB7, hb7⟩
                   have e0 : w7.cell? ⟨s, o + j * 4, none⟩ = some (.bool true) := ((Below.of_but hX5.drew hX5.drew.size hb7 hlg').cell (p := ⟨s, o + j * 4, none⟩) hs).trans HC.out.1
                   have e1 : w7.cell? ⟨s, o + j * 4 + 1, none⟩ = some (.slice lp l.length lc) := ((Below.of_but hX5.drew hX5.drew.size hb7 hlg').cell (p := ⟨s, o + j * 4 + 1, none⟩) hs).trans HC.out.2))
            all_goals
              have hX7 := Below.of_but hX5.drew hX5.drew.size hb7 hlg'
              have HB7 := hid hB7
              clear hX5 hb7 hB7 HB5
              go_wp2_with fail
              exact ⟨⟨j + 1, by omega, by go_num, ⟨ws', c', rfl, HB7.out, HC'.out⟩, hX7⟩, by simp [intOf]; omega⟩
    · go_wp2_with fail
      refine (alive_true _ (HT.out.below hX hpos)).mono ?_
      rintro e w9 ⟨rfl, hb9⟩
      have hX9 := Below.of_below hX hX.size hb9
      go_wp2_with fail
      go_ret
      exact ⟨rfl, hX9⟩

theorem cells3 : Tryd.prog.cellsOf 3 = 1 := by kernel_rfl
theorem cells4 : Tryd.prog.cellsOf 4 = 1 := by kernel_rfl
theorem cells27 : Tryd.prog.cellsOf 27 = 1 := by kernel_rfl
theorem cells29 : Tryd.prog.cellsOf 29 = 4 := by kernel_rfl

theorem act_of {H : Type} {enc : TypeId × Value → H} {w : World} {fuel : Nat} {cs : List Value} {x : DataW H × List MemPlace} {s p : Nat} (h : DataW.trod enc Tryd.prog w 0 (fun _ => true) true fuel 29 cs = some x) (hc : ∀ j, j < 4 → w.cell? ⟨s, p + j, none⟩ = cs[j]?) :
    ∃ on lp l lc, ActAt w s p on lp l lc := by
  obtain ⟨xs, n, _, _, hl, hlen, hf⟩ := DataW.trod_struct Tryd.underlying29 h
  rw [cells29] at hl
  match cs, hl with
  | [v0, v1, v2, v3], _ =>
    match xs, hlen with
    | [y0, y1, y2, y3], _ =>
      have f0 : DataW.trod enc Tryd.prog w 0 (fun _ => true) true n 4 (([v0, v1, v2, v3].drop 0).take (Tryd.prog.cellsOf 4)) = some y0 := hf 0 _ rfl
      rw [cells4] at f0
      have f1 : DataW.trod enc Tryd.prog w 0 (fun _ => true) true n 27 (([v0, v1, v2, v3].drop 1).take (Tryd.prog.cellsOf 27)) = some y1 := hf 1 _ rfl
      rw [cells27] at f1
      obtain ⟨on, e0, _⟩ := DataW.trod_bool Tryd.underlying4 f0
      obtain ⟨lp, lc, l, e1, i1, _⟩ := ints_of f1
      simp at e0
      subst e0 e1
      exact ⟨on, lp, l, lc, hc 0 (by omega), hc 1 (by omega), i1⟩

theorem acts_of {H : Type} {enc : TypeId × Value → H} {w : World} {fuel : Nat} {a : Option Addr} {len cap : Nat} {x : DataW H × List MemPlace} (h : DataW.trod enc Tryd.prog w 0 (fun _ => true) true fuel 23 [.slice a len cap] = some x) : Acts w a len := by
  rcases Deep.open_slice Tryd.underlying23 h with ⟨hcs, _⟩ | ⟨b, l, c, m, n, D, Pl, hcs, _, hl, hm, hmm, _, hx⟩
  · obtain ⟨rfl, rfl, rfl⟩ : a = none ∧ len = 0 ∧ cap = 0 := by simpa using hcs
    exact .inl rfl
  · obtain ⟨rfl, rfl, rfl⟩ : a = some b ∧ len = l ∧ cap = c := by simpa using hcs
    simp only [if_true] at hmm
    subst hmm
    by_cases h0 : len = 0
    · exact .inl h0
    rw [cells29] at hx
    obtain ⟨cs0, hc0, ht0⟩ := hx 0 (by omega)
    obtain ⟨_, hl0, hcell0⟩ := World.cells?_some hc0
    obtain ⟨s, o, spot⟩ := b
    have hsp : spot = none := by
      have h1 := hcell0 0 (by omega)
      rw [List.getElem?_eq_getElem (by omega)] at h1
      have := World.cell?_spot h1
      simpa [Addr.add] using this
    subst hsp
    refine .inr ⟨s, o, rfl, ?_, ?_⟩
    · have h1 := hcell0 0 (by omega)
      rw [List.getElem?_eq_getElem (by omega), Nat.zero_mul, addr_add, addr_add] at h1
      exact block_lt_of_cell h1
    · intro i hi
      obtain ⟨cs, hc, ht⟩ := hx i (by omega)
      obtain ⟨_, hl1, hcell⟩ := World.cells?_some hc
      refine act_of ht (fun j hj => ?_)
      have := hcell j hj
      rw [addr_add, addr_add] at this
      exact this

theorem walk (a0 : Int) (a1 : Option Addr) (len1 cap1 : Nat) (w : World) (hT : Tab w) (w0 : (Lit.int .u16 a0).wf = true) (w1 : Acts w a1 len1) :
    Calls Tryd.prog 3 #[.int .u16 a0, .slice a1 len1 cap1] w fun e w' => e = .returned (.bool true) ∧ Below w.heap.size w w' := by
  have b0 := bounds_u16 w0
  by_cases hl : (60 : Int) < len1
  · exact core_long a0 a1 len1 cap1 w hT hl
  obtain ⟨n, rfl⟩ := Int.eq_ofNat_of_zero_le b0.1
  exact core n a1 len1 cap1 w hT (by omega) w1 (by omega)

/-- WHAT THE WALK GIVES, FOR EVERY ARGUMENT AND EVERY WORLD THAT HOLDS THE TABLE. -/
theorem contract (H : Type) (enc : TypeId × Value → H) (W : World) (base : Nat) (args : Array Value) (ds gs : List (DataW H)) (before : List MemPlace)
    (hval : ∀ (j : Nat) t v, Tryd.f3.params[j]? = some t → args[j]? = some v → Value.okWide Tryd.prog W .any base t v)
    (hW : DataW.Whole enc Tryd.prog Tryd.f3.params.toList Rows.mapCountSpec.vars false W args.toList ds gs before) (hL : laidMetH Tryd.prog Rows.mapCountRow.laid W) :
    Calls Tryd.prog 3 args W fun e W' => ∃ v, e = .returned v ∧ Rows.mapCountSpec.post enc Tryd.prog Tryd.f3 false true false false W args v W' := by
  have hW' := hW
  obtain ⟨p, q, hA0, hV, rfl, hfz, hnd⟩ := hW
  have hA : DataW.TrodAll enc Tryd.prog W 0 (fun _ => true) true Tryd.f3.params.toList args.toList ds p := hA0
  rw [Tryd.params3] at hA hval
  obtain ⟨v0, vs0, d0, ds0, p0, q0, hargs, rfl, rfl, h0, r0⟩ := trodAll_cons hA
  obtain ⟨v1, vs1, d1, ds1, p1, q1, rfl, rfl, rfl, h1, r1⟩ := trodAll_cons r0
  obtain ⟨rfl, rfl, rfl⟩ := trodAll_nil r1
  obtain rfl : args = #[v0, v1] := by cases args; simp_all
  obtain ⟨rfl, rfl⟩ := trodVars_none hV
  obtain ⟨a0, rfl, rfl, rfl, w0⟩ := open_int Tryd.underlying22 (hval 0 22 v0 rfl rfl) h0
  have k1 := h1
  have lt1 : ∀ x ∈ p1, x.block < W.heap.size := by obtain ⟨m, hm⟩ := k1; exact DataW.trod_lt m _ _ _ hm
  obtain ⟨a1, len1, cap1, rfl⟩ := okWide_slice Tryd.underlying23 (hval 1 23 v1 rfl rfl)
  have w1 : Acts W a1 len1 := by
    obtain ⟨fuel, hf⟩ := h1
    exact acts_of (cap := cap1) (by simpa [Value.cells] using hf)
  clear hA0
  refine (walk a0 a1 len1 cap1 W (tab_of hL) w0 w1).mono fun e W' ⟨he, bel⟩ => ?_
  subst he
  exact ⟨_, rfl, _, _, _, [], _, [], hW', trodAll_mk1 (shut_bool Tryd.underlying4 _), (trodAll_cons_mk (shut_int Tryd.underlying22 w0) (trodAll_cons_mk (Below.trod laidOut (by kernel_rfl) (of_decide_eq_true (by kernel_rfl)) k1 bel lt1) trodAll_mk0)), rfl, bel.frame _, fun h => by cases h⟩

theorem laid_met (os : Os) : laidMet Tryd.prog Rows.mapCountRow.laid (({ World.holding Tryd.prog os ⟨#[], #[], []⟩ with heap := (World.holding Tryd.prog os ⟨#[], #[], []⟩).heap.modify 0 (lays tabInts) } : World).forCall (fun _ _ => 0) ⟨#[], #[.int .u16 0, .slice none 0 0], []⟩).memory :=
  laidMet_of_run' 8 (by kernel_rfl) (by kernel_rfl)
theorem reads (os : Os) {H : Type} (enc : TypeId × Value → H) : ∃ places, DataW.whole enc Tryd.prog (({ World.holding Tryd.prog os ⟨#[], #[], []⟩ with heap := (World.holding Tryd.prog os ⟨#[], #[], []⟩).heap.modify 0 (lays tabInts) } : World).forCall (fun _ _ => 0) ⟨#[], #[.int .u16 0, .slice none 0 0], []⟩).memory Tryd.f3.params.toList Rows.mapCountSpec.vars false #[Value.int .u16 0, .slice none 0 0].toList 8 = some ([.lit (.int .u16 0), .nil], [], places) :=
  ⟨[], by kernel_rfl⟩

set_option maxRecDepth 100000 in
theorem lifted (os : Os) (started : os.Started) (H : Type) (enc : TypeId × Value → H) (F : Stop.Interp) :
    ReturnsInHanded {} Tryd.checked os 3 .any ((OpenSpec.ofChange Rows.mapCountSpec).preRow enc Tryd.prog Tryd.f3 Rows.mapCountRow.domain false Rows.mapCountRow.laid) (((OpenSpec.ofChange Rows.mapCountSpec).at F).post enc Tryd.prog Tryd.f3 false true false false) := by
  obtain ⟨places, hx⟩ := reads os enc
  refine returnsInHanded_of_row (C := Tryd.checked) (s := OpenSpec.ofChange Rows.mapCountSpec) own started (by kernel_rfl) Tryd.func3
    (witness_row_at (enc := enc) (C := Tryd.checked) false ({ World.holding Tryd.prog os ⟨#[], #[], []⟩ with heap := (World.holding Tryd.prog os ⟨#[], #[], []⟩).heap.modify 0 (lays tabInts) } : World) #[.int .u16 0, .slice none 0 0] rfl (by kernel_rfl) (by kernel_rfl) (by kernel_rfl)
      (OpenSpec.preRow_of_cond 8 hx (by kernel_rfl) (fun k hk => by cases hk) (by kernel_rfl) (laid_met os))) ?_
  intro W base args ds gs before hval hW _ _ _ hL _ _
  exact contract H enc W base args ds gs before hval hW hL

theorem said : Rows.MapCountSaid :=
  OpenClaim.holds_of_cond 3 Tryd.f3 rfl rfl rfl rfl rfl rfl rfl ⟨rfl, rfl, rfl, rfl, rfl⟩ rfl rfl rfl rfl rfl (by kernel_rfl) Tryd.func3 (by kernel_rfl)
    (of_decide_eq_true (by kernel_rfl)) (by unfold Func.isWrapper; first | (rw [if_pos (by decide +kernel)]; kernel_rfl) | (rw [if_neg (by decide +kernel)]; exact ⟨rfl, rfl⟩))
    (fun os started H enc _ F => by rw [OpenClaim.pre_eq_preRow]; exact lifted os started H enc F)

/-- No parameter wants a stand-in; the program's own looks are off. -/
theorem plain (f : FuncId) (fn : Func) (hf : Tryd.pinned.checked.prog.funcNamed "quartermaster/quartermasterlaw02.MapCount" = some f) (hfn : Tryd.pinned.checked.prog.funcs[f]? = some fn) :
    false = Tryd.pinned.checked.prog.looks [] ∧ ∀ (j : Nat) t, fn.params[j]? = some t → Tryd.pinned.checked.prog.wantsStandIn t = false := by
  obtain rfl : f = 3 := Option.some.inj ((show Tryd.prog.funcNamed "quartermaster/quartermasterlaw02.MapCount" = some 3 by kernel_rfl).symm.trans hf) |>.symm
  obtain rfl : fn = Tryd.f3 := (Option.some.inj (Tryd.func3.symm.trans hfn)).symm
  refine ⟨by kernel_rfl, fun j t ht => ?_⟩
  rw [Tryd.params3] at ht
  have hm : t = 22 ∨ t = 23 := by simpa using Array.mem_of_getElem? ht
  rcases hm with rfl | rfl
  · exact (show Tryd.prog.wantsStandIn 22 = false by kernel_rfl)
  · exact (show Tryd.prog.wantsStandIn 23 = false by kernel_rfl)

theorem card : Rows.MapCountCardSaid :=
  Claim7.holds_tied_plain_at .later [] _ _ _ _ said (fun _ h => by cases h) (by kernel_rfl) (fun _ h => by cases h) mapCount_row_tie rfl ⟨rfl, rfl⟩ (by kernel_rfl) rfl plain (by kernel_rfl)
end Go.Proofs.YtdngpppcjindiaaDoor.mapCount
