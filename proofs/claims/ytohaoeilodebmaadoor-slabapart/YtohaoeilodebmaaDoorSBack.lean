/- SlabBack: the walk. -/
import Derived.Test.YtohaoeilodebmaaDoorS27
namespace Go.Proofs.YtohaoeilodebmaaDoor
open Go.RowKit Go.Maps

theorem used_more {U U' : Pls} {sz m N q i : Nat} (h0 : 0 < sz) (hsz : 64 + m * sz ≤ 1024) (ht : Taken U U' m q i) (hq : q < N) : (usedOf U' sz m N).length = (usedOf U sz m N).length + 1 := by
  have hno : place sz q i ∉ usedOf U sz m N := fun h => by
    have := (used_is h0 hsz hq ht.lt).1 h
    rw [ht.free] at this; cases this
  have hp : (usedOf U' sz m N).Perm (place sz q i :: usedOf U sz m N) := by
    refine (List.perm_ext_iff_of_nodup (usedOf_nodup h0 hsz) (List.nodup_cons.2 ⟨hno, usedOf_nodup h0 hsz⟩)).2 (fun x => ?_)
    rw [ht.now, used_on ht.lt hq, List.mem_cons]
    exact or_comm
  rw [hp.length_eq]; rfl
/-- No place and no block is left. -/
def Stuck (B : St) (U : Pls) (m : Nat) : Prop := (∀ q, ¬ Opened U m q) ∧ ∀ k j, B k j ≠ .free
theorem Stuck.no {B B' : St} {U U' : Pls} {m q i : Nat} (h : Stuck B U m) (ht : Taken U U' m q i) (hc : Came B B' U m q) : False := by
  rcases hc with ⟨h1, _⟩ | ⟨_, _, _, _, k, j, hl, _⟩
  · exact h.1 q ⟨h1, i, ht.lt, ht.free⟩
  · exact h.2 k j hl.2.1
theorem Came.low {B B' : St} {U : Pls} {m q K : Nat} (h : Came B B' U m q) (hF : Fit B U m (2 ^ K)) (hi : Inv K B') : q < 2 ^ K := by
  rcases h with ⟨h1, _⟩ | ⟨_, _, _, hp, _⟩
  · exact (hF.page q h1).2
  · have := (hi.inn 0 q (by rw [(hp 0 q).2 (.inr ⟨rfl, rfl⟩)]; simp)).2
    simpa using this
theorem no_used {U : Pls} {sz m N : Nat} (hF : ∀ q, Slb U m q → q < N) (h : ∀ x, x ∉ usedOf U sz m N) (q : Nat) : ¬ Slb U m q := fun ⟨i, hi, hu⟩ => h _ (usedOf_mem.2 ⟨q, i, hF q ⟨i, hi, hu⟩, hi, hu, rfl⟩)
theorem no_slabs {U : Pls} {m N : Nat} (h : ∀ q, ¬ Slb U m q) : (slabsOf U m N).length = 0 := by
  have : slabsOf U m N = [] := List.eq_nil_iff_forall_not_mem.2 (fun x hx => by
    obtain ⟨p, _, hp, _⟩ := slabsOf_mem.1 hx
    exact h p hp)
  rw [this]; rfl
theorem free_one {K : Nat} {B : St} {L : List (Nat × Nat)} (hi : Inv K B) (hn : NoHeld B) (hu : ∀ k i, B k i ≠ .used) (h : Lst B .free L) : L.length = 1 := by
  have e : L = [(0, K)] := by
    refine rise_ext h.rise (by simp) fun ⟨p, k⟩ => ?_
    rw [h.mem]
    constructor
    · rintro ⟨i, rfl, hb⟩
      obtain ⟨rfl, rfl⟩ := (whole_free hi hn hu k i).1 hb
      simp
    · intro hx
      simp at hx
      obtain ⟨rfl, rfl⟩ := hx
      exact ⟨0, by simp, (whole_free hi hn hu k 0).2 ⟨rfl, rfl⟩⟩
  rw [e]; rfl

theorem ints_at {w : World} {base k cap : Nat} {a : Option Addr} {l : List Nat} (h : w.ownsRow base 3 1 (.slice a k cap) l.length (nums l)) (x : Nat) (hx : ∃ ad, a = some ad ∧ x = ad.block) : base ≤ x ∧ x < w.heap.size := by
  obtain ⟨ad, rfl, rfl⟩ := hx
  rcases h.2 with ⟨e, _⟩ | ⟨g, cap', cur, e, hb, hg, _⟩
  · cases e
  · obtain ⟨rfl, _⟩ : ad = ⟨g, 0, none⟩ ∧ k = l.length ∧ cap = cap' := by simpa using e
    exact ⟨hb, lt_of hg⟩
theorem Ints.base0 {w : World} {base : Nat} {a : Option Addr} {l : List Nat} (h : Ints w base a l) : Ints w 0 a l := by
  rcases h with rfl | ⟨g, cur, rfl, hb, hg, hc⟩
  · exact .inl rfl
  · exact .inr ⟨g, cur, rfl, Nat.zero_le _, hg, hc⟩

set_option maxRecDepth 100000 in
set_option maxHeartbeats 4000000 in
theorem back_core (w : World) (hT : Tab w) (s n f : Nat) (hs : s < 256) (hn : n < 256) (hf : f < 256) :
    Calls Tryd.prog 5 #[.int .u8 (s : Int), .int .u8 (n : Int), .int .u8 (f : Int)] w fun e w' => e = .returned (.bool true) ∧ Below w.heap.size w w' := by
  have HT := hid hT
  clear hT
  obtain ⟨r, hr⟩ : ∃ r, r = s % 32 := ⟨_, rfl⟩
  have hr1 : (s : Int).tmod 32 = (r : Int) := by rw [Int.tmod_eq_emod_of_nonneg (by omega), hr]; omega
  have hr2 : r < 32 := by omega
  clear hr
  go_enter Tryd.func5, Tryd.ntmps5
  go_wp2_with fail
  refine (salive_any w HT.out).mono ?_
  rintro e w1 ⟨rfl, hb1⟩
  have hT1 : Tab w1 := HT.out.below hb1 HT.out.pos
  have H1 := hid (And.intro hb1 hT1)
  clear hb1 hT1
  go_wp2_with fail
  refine (newB_any 6 w1 H1.out.2 (by omega) (by omega)).mono ?_
  rintro e w2 ⟨p, mm, bf, gf, rfl, hm2, hn2, hb2⟩
  have H2 := hid (And.intro hm2 (And.intro hn2 hb2))
  clear hm2 hn2 hb2
  have hsn := snew_any p (16 + 16 * r) w2 (by omega) (by omega) (by omega)
  rw [show (((16 + 16 * r : Nat) : Nat) : Int) = 16 + 16 * (r : Int) by omega] at hsn
  have HSN := hid hsn
  clear hsn
  go_wp2_with fail
  refine HSN.out.mono ?_
  intro e w3 h3
  obtain ⟨z, hz⟩ : ∃ z, z = 16 + 16 * r := ⟨_, rfl⟩
  rw [← hz] at h3
  obtain ⟨m, hm⟩ : ∃ m, m = 960 / z := ⟨_, rfl⟩
  have hzz : Sz z m 6 := ⟨by omega, by omega, hm, by omega, by omega⟩
  obtain ⟨c, rfl, _, hS3⟩ := sys_new (m := m) (w0 := w) (Bd := w.heap.size) (Below.of_below H1.out.1 H1.out.1.size H2.out.2.2) (Nat.le_trans H1.out.1.size H2.out.2.2.size) (H1.out.2.below H2.out.2.2 H1.out.2.pos) HT.out.pos ⟨begin_inv 6, begin_noheld 6, H2.out.1⟩ (by
    have := H1.out.1.size
    rintro x (rfl | ⟨k, hk, rfl⟩)
    · exact Nat.le_trans this H2.out.2.1.2.1
    · exact Nat.le_trans this (H2.out.2.1.2.2 k hk).2) h3
  have h0 : (usedOf none_ z m (2 ^ 6)).length = 0 := by
    have : usedOf none_ z m (2 ^ 6) = [] := List.eq_nil_iff_forall_not_mem.2 (fun x hx => by
      obtain ⟨q, i, _, _, hu, _⟩ := usedOf_mem.1 hx
      cases hu)
    rw [this]; rfl
  have X3 := hid (And.intro hS3 (And.intro (Exact.start 6 m) h0))
  have HZ := hid hzz
  clear h3 hS3 H1 H2 HSN hz hm hzz h0
  go_wp2_with fail
  go_loopw [9] (fun v wr => ∃ i : Nat, v = .int .i64 (i : Int) ∧ i ≤ n ∧ ∃ B U, Hid (Sys w w.heap.size (fun _ => False) wr p c 6 z m i B U ∧ Exact B U m ∧ (usedOf U z m (2 ^ 6)).length ≤ i ∧ ((usedOf U z m (2 ^ 6)).length = i ∨ Stuck B U m))) (fun v _ => n - (intOf v).toNat)
  case atStart => exact ⟨0, rfl, Nat.zero_le _, _, _, X3.out.1, X3.out.2.1, by rw [X3.out.2.2]; exact Nat.le_refl _, .inl X3.out.2.2⟩
  case round =>
    clear X3
    obtain ⟨i, rfl, hi, B, U, HS⟩ := hrel
    by_cases hin : i = n
    · subst hin
      go_wp2_with fail
      refine (HS.out.1.used HZ.out (by omega)).mono ?_
      rintro e w6 ⟨v6, rfl, hrow6, hb6⟩
      obtain ⟨u, hu⟩ : ∃ u, u = usedOf U z m (2 ^ 6) := ⟨_, rfl⟩
      rw [← hu] at hrow6
      obtain ⟨a6, cap6, rfl, hI6⟩ := ints_of hrow6
      have hul : u.length ≤ 255 := by rw [hu]; have := HS.out.2.2.1; omega
      obtain ⟨k, hk⟩ : ∃ k, k = u.length := ⟨_, rfl⟩
      rw [← hk] at hul ⊢
      have hund : u.Nodup := by rw [hu]; exact usedOf_nodup HZ.out.pos HZ.out.page
      have hS6 : Sys w w.heap.size (fun x => ∃ ad, a6 = some ad ∧ x = ad.block) w6 p c 6 z m i B U := (HS.out.1.add hb6).fewer (fun x hx => .inr (ints_at hrow6 x hx))
      have X6 := hid (And.intro hS6 (And.intro HS.out.2.1 (And.intro hu (And.intro hI6.base0 (And.intro hund hk)))))
      clear hrow6 hb6 HS hu hI6 hund hk hS6
      go_wp2_with fail
      go_loopw [13] (fun v wr => ∃ j : Nat, v = .int .i64 (j : Int) ∧ j ≤ k ∧ ∃ B U, Hid (Sys w w.heap.size (fun x => ∃ ad, a6 = some ad ∧ x = ad.block) wr p c 6 z m i B U ∧ Exact B U m ∧ (∀ x, x ∈ usedOf U z m (2 ^ 6) ↔ Still u f j x) ∧ Ints wr 0 a6 u)) (fun v _ => k - (intOf v).toNat)
      case atStart =>
        refine ⟨0, rfl, Nat.zero_le _, _, _, X6.out.1, X6.out.2.1, fun x => ?_, X6.out.2.2.2.1⟩
        rw [← X6.out.2.2.1]
        exact ⟨fun h => ⟨h, fun a ha => absurd ha (Nat.not_lt_zero _)⟩, fun h => h.1⟩
      case round =>
        have HU := hid (And.intro X6.out.2.2.2.2.1 X6.out.2.2.2.2.2)
        clear X6
        obtain ⟨j, rfl, hj, B, U, HS⟩ := hrel
        by_cases hjk : j = k
        · subst hjk
          have hnone : ∀ q, ¬ Slb U m q := no_used (sz := z) (N := 2 ^ 6) (fun q hq => (HS.out.1.fit.page q hq).2) (fun x hx => by
            have := (HS.out.2.2.1 x).1 hx
            rw [HU.out.2] at this
            exact still_end this)
          have hub : ∀ k i, B k i ≠ .used := fun k i e => hnone i ((HS.out.2.1 k i).1 e).2
          have hul0 : (usedOf U z m (2 ^ 6)).length = 0 := by
            have : usedOf U z m (2 ^ 6) = [] := List.eq_nil_iff_forall_not_mem.2 (fun x hx => by
              obtain ⟨q, i, _, hi, hu, _⟩ := usedOf_mem.1 hx
              exact hnone q ⟨i, hi, hu⟩)
            rw [this]; rfl
          have X7 := hid (And.intro HS.out.1 (And.intro HS.out.2.1 (And.intro hub (And.intro hul0 (no_slabs (N := 2 ^ 6) hnone)))))
          clear hnone hub hul0 HS
          go_wp2_with fail
          refine X7.out.1.free.mono ?_
          rintro e w8 ⟨a8, cap8, L8, rfl, hL8, _, _, hb8⟩
          obtain hl8 : L8.length = 1 := free_one X7.out.1.inv.1 X7.out.1.inv.2 X7.out.2.2.1 hL8
          rw [hl8]
          have X8 := hid (And.intro (X7.out.1.below hb8) X7.out.2)
          clear hL8 hb8 hl8 X7
          go_wp2_with fail
          have hTT : Tab _ := HT.out.below X8.out.1.b0 HT.out.pos
          refine (salive_any _ hTT).mono ?_
          rintro e w9 ⟨rfl, hb9⟩
          have X9 := hid (And.intro (X8.out.1.below hb9) X8.out.2)
          clear hb9 hTT X8
          go_wp2_with fail
          refine (X9.out.1.used HZ.out (by omega)).mono ?_
          rintro e w10 ⟨v10, rfl, hrow10, hb10⟩
          obtain ⟨a10, cap10, rfl, _⟩ := ints_len hrow10 X9.out.2.2.2.1
          have X10 := hid (And.intro (X9.out.1.below hb10) X9.out.2)
          clear hrow10 hb10 X9
          go_wp2_with fail
          refine (X10.out.1.slabs (by omega)).mono ?_
          rintro e w11 ⟨v11, rfl, hrow11, hb11⟩
          obtain ⟨a11, cap11, rfl, _⟩ := ints_len hrow11 X10.out.2.2.2.2
          have X11 := hid (And.intro (X10.out.1.below hb11) X10.out.2)
          clear hrow11 hb11 X10
          have hleft : pages 6 (isK B .free) (6 + 1) = 64 := by
            have := X11.out.2.1.left X11.out.1.inv.1 X11.out.1.inv.2
            rw [X11.out.2.2.2.2] at this
            omega
          go_wp2_with fail
          refine X11.out.1.left.mono ?_
          rintro e wx ⟨rfl, ex⟩
          rw [ex, hleft]
          clear ex wx hleft
          go_wp2_with fail
          go_ret
          exact ⟨rfl, X11.out.1.b0⟩
        · have hjl : j < k := by omega
          clear hj hjk
          obtain ⟨x, hx1, hx2, hx3⟩ := still_next (f := f) HU.out.1 (show j < u.length by rw [← HU.out.2]; exact hjl)
          rw [← HU.out.2] at hx1
          obtain ⟨ix, hix⟩ : ∃ ix, ix = (j + f) % k := ⟨_, rfl⟩
          rw [← hix] at hx1
          have hmod : ((j : Int) + (f : Int)).tmod (k : Int) = (ix : Int) := by
            rw [Int.tmod_eq_emod_of_nonneg (by omega), hix, Int.natCast_emod, Int.natCast_add]
          have hk0 : ((k : Int) == 0) = false := by rw [beq_eq_false_iff_ne]; omega
          have hixk : ix < k := by rw [hix]; exact Nat.mod_lt _ (by omega)
          obtain ⟨g6, rfl, _, _, hcell⟩ := HS.out.2.2.2.cell hx1
          obtain ⟨q0, i0, hq0, hi0, hu0, hx0⟩ := usedOf_mem.1 ((HS.out.2.2.1 x).2 hx2)
          have hxb : x < 65536 := by
            have := (place_in (p := q0) HZ.out.page hi0).2
            have := HZ.out.lo
            rw [hx0]; omega
          have HX := hid (And.intro hx2 (And.intro hx3 (And.intro hi0 (And.intro hu0 (And.intro hx0 (And.intro hq0 hix))))))
          clear hx1 hx2 hx3 hi0 hu0 hx0 hq0 hix
          go_wp2_with fail
          refine (HS.out.1.give HZ.out (x : Int) (by omega) (by omega)).mono ?_
          rintro e w8 ⟨B8, U8, hS8, hg8, ⟨rfl, hno, _⟩ | ⟨q, i, rfl, hg, hx, hc⟩⟩
          · exact (hno q0 i0 HX.out.2.2.1 HX.out.2.2.2.1 (by rw [HX.out.2.2.2.2.1])).elim
          have hxe : x = place z q i := by omega
          have X8 := hid (And.intro hS8 (And.intro (HS.out.2.1.give hg hc) (And.intro (fun y => (by
            rw [hg.mem HZ.out.pos HZ.out.page, HS.out.2.2.1 y, HX.out.2.1 y, hxe] : y ∈ usedOf U8 z m (2 ^ 6) ↔ Still u f (j + 1) y)) (HS.out.2.2.2.other (fun g e _ _ => hg8 g ⟨_, e, rfl⟩)))))
          clear hS8 hg8 hg hx hc hxe HX HS
          go_wp2_with fail
          go_roundw
          case rel => exact ⟨j + 1, rfl, by omega, _, _, X8⟩
          case measure => show k - ((j : Int) + 1).toNat < k - (j : Int).toNat; omega
    · have hil : i < n := by omega
      clear hi hin
      go_wp2_with fail
      refine (HS.out.1.take HZ.out (by omega)).mono ?_
      rintro e w5 ⟨B5, U5, hS5, _, ⟨rfl, hno, hnf, rfl, rfl⟩ | ⟨q, j, rfl, ht, hc⟩⟩
      · have hlen : (usedOf U5 z m (2 ^ 6)).length ≤ i := HS.out.2.2.1
        obtain ⟨k, hk⟩ : ∃ k, (usedOf U5 z m (2 ^ 6)).length = k := ⟨_, rfl⟩
        rw [hk] at hlen
        have hne : ((k : Int) == (i : Int) + 1) = false := by rw [beq_eq_false_iff_ne]; omega
        have X5 := hid (And.intro hS5 (And.intro HS.out.2.1 (And.intro hk (And.intro hno hnf : Stuck B5 U5 m))))
        clear hS5 hk hno hnf HS
        go_wp2_with fail
        refine (X5.out.1.used HZ.out (by omega)).mono ?_
        rintro e w6 ⟨v6, rfl, hrow6, hb6⟩
        obtain ⟨a6, cap6, rfl, _⟩ := ints_len hrow6 X5.out.2.2.1
        have X6 := hid (And.intro (X5.out.1.below hb6) X5.out.2)
        clear hrow6 hb6 X5
        go_wp2_with fail
        go_roundw
        case rel => exact ⟨i + 1, rfl, by omega, _, _, X6.out.1, X6.out.2.1, by rw [X6.out.2.2.1]; omega, .inr X6.out.2.2.2⟩
        case measure => show n - ((i : Int) + 1).toNat < n - (i : Int).toNat; omega
      · have hcu : (usedOf U z m (2 ^ 6)).length = i := HS.out.2.2.2.elim id (fun h => (h.no ht hc).elim)
        have hk : (usedOf U5 z m (2 ^ 6)).length = i + 1 := by
          rw [used_more HZ.out.pos HZ.out.page ht (hc.low HS.out.1.fit hS5.inv.1), hcu]
        obtain ⟨pl, hpl⟩ : ∃ pl, pl = place z q j := ⟨_, rfl⟩
        rw [← hpl]
        have X5 := hid (And.intro hS5 (And.intro (HS.out.2.1.take ht hc) hk))
        clear hS5 hk hcu ht hc HS hpl
        go_wp2_with fail
        refine (X5.out.1.used HZ.out (by omega)).mono ?_
        rintro e w6 ⟨v6, rfl, hrow6, hb6⟩
        obtain ⟨a6, cap6, rfl, _⟩ := ints_len hrow6 X5.out.2.2
        have X6 := hid (And.intro (X5.out.1.below hb6) X5.out.2)
        clear hrow6 hb6 X5
        go_wp2_with fail
        go_roundw
        case rel => exact ⟨i + 1, rfl, by omega, _, _, X6.out.1, X6.out.2.1, by rw [X6.out.2.2]; exact Nat.le_refl _, .inl X6.out.2.2⟩
        case measure => show n - ((i : Int) + 1).toNat < n - (i : Int).toNat; omega
end Go.Proofs.YtohaoeilodebmaaDoor
