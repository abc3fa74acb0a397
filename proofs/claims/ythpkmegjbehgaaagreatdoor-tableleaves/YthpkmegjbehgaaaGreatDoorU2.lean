/- PoolSums: the walk. -/
import Derived.Test.YthpkmegjbehgaaaGreatDoorU1
namespace Go.Proofs.YthpkmegjbehgaaaGreatDoor
open Go.RowKit Go.Maps

theorem Pw.used_lt {w0 w : World} {G : Nat → Prop} {P : Pp} {v : Pv} (h : Pw w0 w G P v) (c : Int) (x : Nat) (hx : x ∈ usedK P v c) : (x : Int) < 9223372036854775808 := by
  unfold usedK at hx
  split at hx
  · rename_i hc
    obtain ⟨p, i, hp, hi, _, rfl⟩ := usedOf_mem.1 hx
    have h1 := many_in (k := c.toNat) (by omega) (by omega)
    have h2 := (place_in h1.2.2 hi (p := p)).2
    obtain ⟨tag, hpo, _⟩ := h
    have := (hpo.sz (k := c.toNat) (by omega) (by omega)).pages
    omega
  · cases hx
/-- A slice of numbers whose block stands. -/
theorem row_kept {w w' : World} {base k : Nat} {v : Value} {l : List Nat} (h : w.ownsRow base 3 1 v k (nums l)) (hg : ∀ x, v.ownBlock = some x → w'.heap[x]? = w.heap[x]?) : w'.ownsRow base 3 1 v k (nums l) := by
  refine ⟨h.1, ?_⟩
  rcases h.2 with h2 | ⟨g, cap, cur, rfl, e2, e3, e4⟩
  · exact .inl h2
  · exact .inr ⟨g, cap, cur, rfl, e2, (hg g rfl).trans e3, e4⟩
theorem row_lt {w : World} {base k x : Nat} {v : Value} {l : List Nat} (h : w.ownsRow base 3 1 v k (nums l)) (hx : v.ownBlock = some x) : base ≤ x ∧ x < w.heap.size := by
  rcases h.2 with ⟨rfl, _⟩ | ⟨g, cap, cur, rfl, e2, e3, e4⟩
  · simp [Value.ownBlock] at hx
  · obtain rfl : g = x := by simpa [Value.ownBlock] using hx
    exact ⟨e2, lt_of e3⟩
theorem row_cell {w : World} {base k cap i x : Nat} {a : Option Addr} {l : List Nat} (h : w.ownsRow base 3 1 (.slice a k cap) l.length (nums l)) (hi : l[i]? = some x) : ∃ g, a = some ⟨g, 0, none⟩ ∧ w.cell? ⟨g, i, none⟩ = some (.int .i64 (x : Int)) := by
  obtain ⟨a', cap', e, hI⟩ := ints_of h
  obtain ⟨rfl, rfl, rfl⟩ : a = a' ∧ k = l.length ∧ cap = cap' := by simpa using e
  obtain ⟨g, e1, _, _, e2⟩ := hI.cell hi
  exact ⟨g, e1, e2⟩
theorem free_one {K : Nat} {B : St} {L : List (Nat × Nat)} (hi : Inv K B) (hn : NoHeld B) (hu : ∀ k i, B k i ≠ .used) (h : Lst B .free L) : L.length = 1 := by
  have e : L = [(0, K)] := by
    refine rise_ext h.rise (by simp) fun ⟨p, k⟩ => ?_
    rw [h.mem]
    constructor
    · rintro ⟨i, rfl, hb⟩
      obtain ⟨rfl, rfl⟩ := (whole_free hi hn hu k i).1 hb
      simp
    · intro hx
      simp at hx
      obtain ⟨rfl, rfl⟩ := hx
      exact ⟨0, by simp, (whole_free hi hn hu k 0).2 ⟨rfl, rfl⟩⟩
  rw [e]; rfl
/-- What a Get of whatever class leaves. -/
theorem Sm.get {P : Pp} {v : Pv} {N c i : Nat} {w0 w : World} {G : Nat → Prop} (hp : Pw w0 w G P v) (h : Sm P v N c) (hc : v.ct ≤ i) (hi : i ≤ 1000000) (cc : Int) : Calls Tryz.prog 10 #[.pointer (some ⟨P.pb, 0, none⟩), .int .i64 0, .int .i64 cc] w fun e w' =>
    ∃ (a b : Int) (v' : Pv) (c' : Nat), e = .returned (.tuple #[.int .i64 a, .int .i64 b]) ∧ Hid (Pw w0 w' G P v' ∧ Sm P v' N c' ∧ v'.ct ≤ i + 1) := by
  refine (hp.get (by omega) 0 cc).mono ?_
  rintro e w' ⟨_, ⟨er, rfl, _, _, hp'⟩ | ⟨k, q, i', B', U', hk, rfl, hg, hp'⟩⟩
  · exact ⟨_, _, _, c, rfl, hp', h.more, by show v.ct + 1 ≤ i + 1; omega⟩
  · exact ⟨_, _, _, _, rfl, hp', h.got hg, by show v.ct + 1 ≤ i + 1; omega⟩
theorem Sm.putAny {P : Pp} {v : Pv} {N c i : Nat} {w0 w : World} {G : Nat → Prop} (hp : Pw w0 w G P v) (h : Sm P v N c) (hc : v.ct ≤ i) (cc x : Int) (hx1 : -9223372036854775808 ≤ x) (hx2 : x < 9223372036854775808) : Calls Tryz.prog 11 #[.pointer (some ⟨P.pb, 0, none⟩), .int .i64 0, .int .i64 cc, .int .i64 x] w fun e w' =>
    ∃ (b : Int) (v' : Pv) (c' : Nat), e = .returned (.int .i64 b) ∧ Hid (Pw w0 w' G P v' ∧ Sm P v' N c' ∧ v'.ct ≤ i + 1) ∧ ∀ x, G x → w'.heap[x]? = w.heap[x]? := by
  refine (hp.put 0 cc x hx1 hx2).mono ?_
  rintro e w' ⟨hk0, ⟨er, rfl, _, _, hp'⟩ | ⟨k, q, i', B', hk, rfl, hg, hp'⟩⟩
  · exact ⟨_, _, c, rfl, ⟨hp', h, by omega⟩, hk0⟩
  · obtain ⟨c', hs⟩ := Sm.put hp h hg
    exact ⟨_, _, c', rfl, ⟨hp', hs, by show v.ct ≤ i + 1; omega⟩, hk0⟩
theorem drop_next {L : List Nat} (hn : L.Nodup) {i x y : Nat} (hx : L[i]? = some x) : y ∈ L.drop (i + 1) ↔ y ∈ L.drop i ∧ y ≠ x := by
  obtain ⟨hi, rfl⟩ := List.getElem?_eq_some_iff.1 hx
  have e : L.drop i = L[i] :: L.drop (i + 1) := (List.drop_eq_getElem_cons hi)
  have hd : (L[i] :: L.drop (i + 1)).Nodup := by rw [← e]; exact hn.sublist (List.drop_sublist _ _)
  rw [e, List.mem_cons]
  constructor
  · intro h
    exact ⟨.inr h, fun e2 => (List.nodup_cons.1 hd).1 (e2 ▸ h)⟩
  · rintro ⟨h | h, hne⟩
    · exact absurd h hne
    · exact h
/-- All places of the first classes are put back. -/
def Rid (P : Pp) (v : Pv) (k : Nat) : Prop := ∀ j, 1 ≤ j → j < k → usedOf (v.U j) (cost j) (many j) (2 ^ P.K) = []
theorem Rid.no {w0 w : World} {G : Nat → Prop} {P : Pp} {v : Pv} {N c : Nat} (hr : Rid P v 8) (hp : Pw w0 w G P v) (hs : Sm P v N c) : c = 0 ∧ ∀ k i, v.B k i ≠ .used := by
  constructor
  · rw [← hs.sum]
    exact sumTo_zero (fun k h1 h7 => by show (usedOf _ _ _ _).length * _ = 0; rw [hr k h1 (by omega)]; simp)
  · intro a r e
    obtain ⟨_, j, hj, i, hi, hu⟩ := (hs.ex a r).1 e
    have hc := cost_in hj.1 hj.2
    have hm := many_in hj.1 hj.2
    have := (used_is (sz := cost j) (by omega) hm.2.2 ((hp.fit hj.1 hj.2).page r ⟨i, hi, hu⟩).2 hi).2 hu
    rw [hr j hj.1 (by omega)] at this
    cases this

set_option maxRecDepth 100000 in
set_option maxHeartbeats 8000000 in
theorem psums_core (w : World) (hT : Tab w) (hC : Cst w) (lim : Nat) (hl : lim < 4294967296) (a : Option Addr) (len cap : Nat) (hA : Acts6 w a len) :
    Calls Tryz.prog 3 #[.int .u32 (lim : Int), .slice a len cap] w fun e w' => e = .returned (.bool true) ∧ Below w.heap.size w w' := by
  have HT := hid (And.intro hT (And.intro hC hA))
  clear hT hC hA
  obtain ⟨N, hN⟩ : ∃ N, N = lim % 65537 := ⟨_, rfl⟩
  have hr1 : (lim : Int).tmod 65537 = (N : Int) := by rw [Int.tmod_eq_emod_of_nonneg (by omega), hN]; omega
  have hN2 : N ≤ 65536 := by omega
  clear hN
  go_enter Tryz.func3, Tryz.ntmps3
  go_wp2_with fail
  refine (alive6 w HT.out.1 HT.out.2.1).mono ?_
  rintro e w1 ⟨rfl, hb1⟩
  have H1 := hid (And.intro hb1 (And.intro (HT.out.1.below hb1 HT.out.1.pos) (HT.out.2.1.below hb1)))
  clear hb1
  have HNW := hid (show Calls Tryz.prog 8 #[.int .i64 65536, .int .i64 (N : Int)] w1 _ from Pw.new (w0 := w) (G := fun _ => False) 6 N H1.out.2.1 H1.out.2.2 (by decide) (by omega) (by decide) H1.out.1 (fun x h => h.elim))
  go_wp2_with fail
  refine HNW.out.mono ?_
  rintro e w2 ⟨P, rfl, hK, _, h2, _⟩
  have H2 := hid (And.intro h2 (Sm.start P 6 N))
  clear h2 hK HNW H1
  by_cases h150 : 150 < len
  · go_wp2_with fail
    go_ret
    exact ⟨rfl, H2.out.1.b0⟩
  go_wp2_with fail
  go_loopw [6] (fun t6 wr => ∃ (i : Nat) (v : Pv) (c : Nat), t6 = .int .i64 (i : Int) ∧ i ≤ len ∧ Hid (Pw w wr (fun _ => False) P v ∧ Sm P v N c ∧ v.ct ≤ i)) (fun t6 _ => len - (intOf t6).toNat)
  case atStart => exact ⟨0, v0 6 N, 0, rfl, Nat.zero_le _, H2.out.1, H2.out.2, Nat.le_refl _⟩
  case round =>
    obtain ⟨i, v, c, rfl, hi, HR⟩ := hrel
    clear H2
    by_cases hin : i = len
    · subst hin
      go_wp2_with fail
      go_loopw [11] (fun t11 wq => ∃ (k : Nat) (v : Pv) (c : Nat), t11 = .int .i64 (k : Int) ∧ 1 ≤ k ∧ k ≤ 8 ∧ Hid (Pw w wq (fun _ => False) P v ∧ Sm P v N c ∧ v.ct ≤ 1000 ∧ Rid P v k)) (fun t11 _ => 8 - (intOf t11).toNat)
      case atStart => exact ⟨1, v, c, rfl, by omega, by omega, HR.out.1, HR.out.2.1, by have := HR.out.2.2; omega, fun j h1 h2 => by omega⟩
      case round =>
        clear HR
        obtain ⟨k, v, c, rfl, hk1, hk8, HQ⟩ := hrel
        by_cases hk : k = 8
        · subst hk
          go_wp2_with fail
          refine (alive6 _ HQ.out.1.tabs.1 HQ.out.1.tabs.2).mono ?_
          rintro e w5 ⟨rfl, hb5⟩
          have HW5 := hid (HQ.out.1.below hb5)
          clear hb5
          go_wp2_with (go_at_call 13; refine HW5.out.quota.mono ?_; rintro e wx ⟨rfl, ex⟩; rw [ex]; clear ex wx)
          refine (HW5.out.use 0).mono ?_
          rintro e w6 ⟨rfl, hb6⟩
          have HZ := hid (Rid.no HQ.out.2.2.2 HQ.out.1 HQ.out.2.1)
          rw [HQ.out.2.1.l, root_useA, HZ.out.1]
          have HW6 := hid (HW5.out.below hb6)
          clear hb6
          go_wp2_with (go_at_call 16; refine HW6.out.blocks.mono ?_; rintro e wx ⟨rfl, ex⟩; rw [ex]; clear ex wx)
          refine HW6.out.free.mono ?_
          rintro e w7 ⟨fa, fcap, L, rfl, hL, _, _, hb7⟩
          rw [free_one HQ.out.1.inv.1 HQ.out.1.inv.2 HZ.out.2 hL]
          have HW7 := hid (HW6.out.below hb7)
          clear hb7 hL
          go_wp2_with fail
          go_ret
          exact ⟨rfl, HW7.out.b0⟩
        · have hcls : Cls (k : Int) k := ⟨rfl, hk1, by omega⟩
          have HCL := hid hcls
          clear hcls
          go_wp2_with fail
          refine (HQ.out.1.used (by have := HQ.out.2.2.1; omega) (k : Int)).mono ?_
          rintro e w5 ⟨u, rfl, hrow, hb5⟩
          rw [usedK_of HCL.out] at hrow
          obtain ⟨L, hL⟩ : ∃ L, L = usedOf (v.U k) (cost k) (many k) (2 ^ P.K) := ⟨_, rfl⟩
          rw [← hL] at hrow
          obtain ⟨ua, ucap, rfl, hI⟩ := ints_of hrow
          obtain ⟨n, hn⟩ : ∃ n, n = L.length := ⟨_, rfl⟩
          rw [← hn]
          have hp5 := (HQ.out.1.plus hb5).fewer (G' := fun x => (Value.slice ua L.length ucap).ownBlock = some x) (fun x hx => .inr ⟨(row_lt hrow hx).1, (row_lt hrow hx).2⟩)
          have hnd : L.Nodup := by rw [hL]; exact usedOf_nodup (by have := cost_in HCL.out.2.1 HCL.out.2.2; omega) (many_in HCL.out.2.1 HCL.out.2.2).2.2
          have HS := hid (And.intro hp5 (And.intro hrow (And.intro hnd (And.intro hL hn))))
          have HNL := hid hn
          have hnb : n ≤ 65536 := by
            have e1 := HQ.out.2.1.cost_le HCL.out.2.1 HCL.out.2.2
            have e2 := HQ.out.2.1.le
            have e3 := (cost_in HCL.out.2.1 HCL.out.2.2).1
            have e4 : lenK P v k = n := by rw [hn, hL]; rfl
            rw [e4] at e1
            have e5 : n ≤ n * cost k := Nat.le_mul_of_pos_right _ (by omega)
            omega
          clear hrow hb5 hI hp5 hnd hL hn
          go_wp2_with fail
          go_loopw [13] (fun t13 wz => ∃ (j : Nat) (v' : Pv) (c' : Nat), t13 = .int .i64 (j : Int) ∧ j ≤ n ∧ Hid (Pw w wz (fun x => (Value.slice ua L.length ucap).ownBlock = some x) P v' ∧ Sm P v' N c' ∧ v'.ct ≤ 1000 ∧ Rid P v' k ∧ (∀ y, y ∈ usedOf (v'.U k) (cost k) (many k) (2 ^ P.K) ↔ y ∈ L.drop j) ∧ wz.ownsRow wr.heap.size 3 1 (.slice ua L.length ucap) L.length (nums L))) (fun t13 _ => n - (intOf t13).toNat)
          case atStart => exact ⟨0, v, c, rfl, Nat.zero_le _, HS.out.1, HQ.out.2.1, HQ.out.2.2.1, HQ.out.2.2.2, fun y => by rw [← HS.out.2.2.2.1]; exact Iff.rfl, HS.out.2.1⟩
          case round =>
            obtain ⟨j, v', c', rfl, hj, HZ⟩ := hrel
            by_cases hjn : j = n
            · subst hjn
              have hrid : Rid P v' (k + 1) := fun i' h1 h2 => by
                by_cases e : i' = k
                · subst e
                  refine List.eq_nil_iff_forall_not_mem.2 (fun y hy => ?_)
                  have := (HZ.out.2.2.2.2.1 y).1 hy
                  rw [HNL.out, List.drop_length] at this
                  cases this
                · exact HZ.out.2.2.2.1 i' h1 (by omega)
              have HE := hid hrid
              clear hrid
              go_wp2_with fail
              exact ⟨⟨k + 1, v', c', by go_num, by omega, by omega, hid ⟨HZ.out.1.fewer (fun x h => h.elim), HZ.out.2.1, HZ.out.2.2.1, HE.out⟩⟩, by simp [intOf]; omega⟩
            · obtain ⟨x, hx⟩ : ∃ x, L[j]? = some x := ⟨L[j]'(by have := HNL.out; omega), List.getElem?_eq_getElem _⟩
              obtain ⟨g, hga, hcell⟩ := row_cell HZ.out.2.2.2.2.2 hx
              have hxm : x ∈ usedOf (v'.U k) (cost k) (many k) (2 ^ P.K) := (HZ.out.2.2.2.2.1 x).2 (by
                have hlt := (List.getElem?_eq_some_iff.1 hx).1
                rw [List.drop_eq_getElem_cons hlt]
                have := (List.getElem?_eq_some_iff.1 hx).2
                rw [this]; exact List.mem_cons_self)
              have hxb : x < 9223372036854775807 := by
                obtain ⟨p, i', hp, hi', _, rfl⟩ := usedOf_mem.1 hxm
                have h1 := many_in HCL.out.2.1 HCL.out.2.2
                have h2 := (place_in h1.2.2 hi' (p := p)).2
                have h3 := HZ.out.1.len
                obtain ⟨tag, hpo, _⟩ := HZ.out.1
                have := (hpo.sz HCL.out.2.1 HCL.out.2.2).pages
                omega
              have HX := hid (And.intro hx (And.intro hxm hga))
              subst hga
              have hjl : j < n := by omega
              clear hx hxm
              go_wp2_with fail
              refine (HZ.out.1.put 0 (k : Int) (x : Int) (by omega) (by omega)).mono ?_
              rintro e wy ⟨hkeep, ⟨er, rfl, h0, hno, _⟩ | ⟨k', q, i', B', hk', rfl, hg, hpw⟩⟩
              · exact (HZ.out.2.1.noput HCL.out HX.out.2.1 rfl h0 hno).elim
              obtain rfl : k' = k := by have := hk'.1; omega
              obtain ⟨c2, hs2⟩ := Sm.put HZ.out.1 HZ.out.2.1 hg
              have hmem : ∀ y, y ∈ usedOf ((putV v' 0 k' q i' B').U k') (cost k') (many k') (2 ^ P.K) ↔ y ∈ L.drop (j + 1) := fun y => by
                have hG : Given (v'.U k') (setU (v'.U k') q i' false) (many k') q i' := ⟨hg.lt, hg.used, rfl⟩
                have e1 : (putV v' 0 k' q i' B').U k' = setU (v'.U k') q i' false := now_at _ _ _
                have hc1 := cost_in hg.k1 hg.k7
                have hm1 := many_in hg.k1 hg.k7
                rw [e1, hG.mem (by omega) hm1.2.2, HZ.out.2.2.2.2.1 y, drop_next HS.out.2.2.1 HX.out.1]
                have e2 : x = place (cost k') q i' := by have := hg.at_; omega
                rw [e2]
              have hrid : Rid P (putV v' 0 k' q i' B') k' := fun i2 h1 h2 => by
                have e1 : (putV v' 0 k' q i' B').U i2 = v'.U i2 := now_ne _ _ (by omega)
                rw [e1]; exact HZ.out.2.2.2.1 i2 h1 h2
              have hrow2 := row_kept HZ.out.2.2.2.2.2 hkeep
              have HE := hid (And.intro hpw (And.intro hs2 (And.intro (show (putV v' 0 k' q i' B').ct ≤ 1000 from HZ.out.2.2.1) (And.intro hrid (And.intro hmem hrow2)))))
              clear hpw hs2 hrid hmem hrow2 hkeep hg hk'
              go_wp2_with fail
              exact ⟨⟨j + 1, _, c2, by go_num, by omega, HE⟩, by simp [intOf]; omega⟩
    · have hil : i < len := by omega
      obtain ⟨s, o, kd, fc, cc, nn, rfl, hs, k0, k1, k2, k3, wf0, wf1, wf2, wf3⟩ := HT.out.2.2.at HR.out.1.b0 (Nat.le_refl _) hil
      go_wp2_with fail
      have hal : Below wr.heap.size wr (wr.alloc (.cells #[.int .i64 kd, .int .i64 fc, .int .i64 cc, .int .i64 nn] 28)) := (Below.refl _ _).alloc (Nat.le_refl _) _
      refine ((HR.out.1.below hal).used (by have := HR.out.2.2; omega) cc).mono ?_
      rintro e w3 ⟨u, rfl, hrow, hb3⟩
      obtain ⟨L, hL⟩ : ∃ L, L = usedK P v cc := ⟨_, rfl⟩
      rw [← hL] at hrow
      obtain ⟨ua, ucap, rfl, hI⟩ := ints_of hrow
      have j0 : w3.cell? ⟨wr.heap.size, 0, none⟩ = some (.int .i64 kd) := (hb3.cell (p := ⟨wr.heap.size, 0, none⟩) (by simp)).trans (by rw [cell_of_row _ _ _ _ _ _ (heap_alloc_new _ _)]; rfl)
      have j2 : w3.cell? ⟨wr.heap.size, 2, none⟩ = some (.int .i64 cc) := (hb3.cell (p := ⟨wr.heap.size, 2, none⟩) (by simp)).trans (by rw [cell_of_row _ _ _ _ _ _ (heap_alloc_new _ _)]; rfl)
      have j3 : w3.cell? ⟨wr.heap.size, 3, none⟩ = some (.int .i64 nn) := (hb3.cell (p := ⟨wr.heap.size, 3, none⟩) (by simp)).trans (by rw [cell_of_row _ _ _ _ _ _ (heap_alloc_new _ _)]; rfl)
      have H3 := hid (And.intro (((HR.out.1.plus hal).plus hb3).fewer (G' := fun x => wr.heap.size ≤ x ∧ x < w3.heap.size) (fun x hx => by
        by_cases e : x < (wr.alloc (.cells #[.int .i64 kd, .int .i64 fc, .int .i64 cc, .int .i64 nn] 28)).heap.size
        · exact .inl (.inr ⟨hx.1, e⟩)
        · exact .inr ⟨by omega, hx.2⟩)) (And.intro HR.out.2.1 HR.out.2.2))
      have HI := hid (And.intro hrow hI)
      have HXB := hid (show ∀ x, x ∈ L → (x : Int) < 9223372036854775808 from by rw [hL]; exact HR.out.1.used_lt cc)
      obtain ⟨n, hn⟩ : ∃ n, n = L.length := ⟨_, rfl⟩
      rw [← hn]
      have HLN := hid hn
      have hb : wr.heap.size < w3.heap.size := by have := hb3.size; simp at this; omega
      clear hrow hI hal hb3 hL HR k0 k1 k2 k3 hn
      by_cases hk0 : kd = 0
      · subst hk0
        have HG := hid (Sm.get (H3.out.1.fewer (G' := fun _ => False) (fun x h => h.elim)) H3.out.2.1 (i := i) (by have := H3.out.2.2; omega) (by omega) cc)
        go_wp2_with fail
        refine HG.out.mono ?_
        rintro e w5 ⟨a5, b5, v', c', rfl, HB⟩
        clear H3 HG
        as_aux_lemma =>
          go_wp2_with fail
          go_loopw [9, 10] (fun t9 t10 wq => ∃ k : Nat, 1 ≤ k ∧ k ≤ 8 ∧ t10 = .int .i64 (k : Int) ∧ t9 = .int .i64 ((sumTo (fun j => lenK P v' j * cost j) (k - 1) : Nat) : Int) ∧ Hid (Pw w wq (fun _ => False) P v')) (fun _ t10 _ => 8 - (intOf t10).toNat)
          case atStart => exact ⟨1, by omega, by omega, rfl, rfl, HB.out.1⟩
          case round =>
            obtain ⟨k, hk1, hk8, rfl, rfl, HQ⟩ := hrel
            by_cases hk : k = 8
            · subst hk
              rw [show sumTo (fun j => lenK P v' j * cost j) (8 - 1) = c' from HB.out.2.1.sum]
              have hle : decide (N < c') = false := by have := HB.out.2.1.le; simp; omega
              have HCH := hid (show Calls Tryz.prog 14 #[.pointer (some ⟨P.tb, 0, none⟩), .int .i64 0] _ _ from HQ.out.charged 0)
              rw [HB.out.2.1.l, root_chgA] at HCH
              go_wp2_with (first
                | (go_at_call 13; refine HQ.out.quota.mono ?_; rintro e wx ⟨rfl, ex⟩; rw [ex]; clear ex wx)
                | (go_at_call 14; refine HCH.out.mono ?_; rintro e wx ⟨rfl, ex⟩; rw [ex]; clear ex wx))
              exact ⟨⟨i + 1, v', c', by go_num, by omega, hid ⟨HQ.out, HB.out.2.1, HB.out.2.2⟩⟩, by simp [intOf]; omega⟩
            · have hcls : Cls (k : Int) k := ⟨rfl, hk1, by omega⟩
              have hsum : sumTo (fun j => lenK P v' j * cost j) (k - 1) + lenK P v' k * cost k = sumTo (fun j => lenK P v' j * cost j) k := by
                obtain ⟨k', rfl⟩ : ∃ k', k = k' + 1 := ⟨k - 1, by omega⟩
                rfl
              have hle : sumTo (fun j => lenK P v' j * cost j) k ≤ 65536 := Nat.le_trans (sumTo_mono (show k ≤ 7 by omega)) (by have := HB.out.2.1.sum; have := HB.out.2.1.le; unfold costs at *; omega)
              obtain ⟨S1, hS1⟩ : ∃ S1, S1 = sumTo (fun j => lenK P v' j * cost j) (k - 1) := ⟨_, rfl⟩
              obtain ⟨S2, hS2⟩ : ∃ S2, S2 = sumTo (fun j => lenK P v' j * cost j) k := ⟨_, rfl⟩
              obtain ⟨ln, hln⟩ : ∃ ln, ln = lenK P v' k := ⟨_, rfl⟩
              obtain ⟨zc, hzc⟩ : ∃ zc, zc = cost k := ⟨_, rfl⟩
              rw [← hS1, ← hS2, ← hln, ← hzc] at hsum
              rw [← hS2] at hle
              rw [← hS1]
              obtain ⟨zz, hzz⟩ : ∃ zz, zz = ln * zc := ⟨_, rfl⟩
              rw [← hzz] at hsum
              have hprod : (ln : Int) * (zc : Int) = (zz : Int) := by rw [hzz]; simp
              have HS2 := hid (And.intro hS2 (And.intro hsum (And.intro hcls (And.intro hln hzc))))
              have hz1 : zz ≤ 65536 := by omega
              have hz2 : S1 + zz ≤ 65536 := by omega
              clear hS1 hS2 hcls hln hzc hzz hsum hle
              go_wp2_with fail
              refine (HQ.out.used (by have := HB.out.2.2; omega) (k : Int)).mono ?_
              rintro e wz ⟨u2, rfl, hrow2, hb2⟩
              obtain ⟨ua2, ucap2, rfl, _⟩ := ints_of hrow2
              rw [show (usedK P v' (k : Int)).length = ln from by rw [usedK_of HS2.out.2.2.1, HS2.out.2.2.2.1]; rfl]
              have HQ2 := hid (HQ.out.below hb2)
              clear hrow2 hb2
              go_wp2_with (go_at_call 12; refine (HQ2.out.cost (k : Int)).mono ?_; rintro e wx ⟨rfl, ex⟩; rw [ex, costI_of HS2.out.2.2.1, ← HS2.out.2.2.2.2]; clear ex wx)
              exact ⟨⟨k + 1, by omega, by omega, by go_num, by rw [show k + 1 - 1 = k by omega, ← HS2.out.1, ← HS2.out.2.1]; go_num, HQ2⟩, by simp [intOf]; omega⟩
      by_cases hk3 : kd = 3
      · subst hk3
        have HG := hid (Sm.get (H3.out.1.fewer (G' := fun _ => False) (fun x h => h.elim)) H3.out.2.1 (i := i) (by have := H3.out.2.2; omega) (by omega) cc)
        go_wp2_with fail
        refine HG.out.mono ?_
        rintro e w5 ⟨a5, b5, v', c', rfl, HB⟩
        clear H3 HG
        as_aux_lemma =>
          go_wp2_with fail
          go_loopw [9, 10] (fun t9 t10 wq => ∃ k : Nat, 1 ≤ k ∧ k ≤ 8 ∧ t10 = .int .i64 (k : Int) ∧ t9 = .int .i64 ((sumTo (fun j => lenK P v' j * cost j) (k - 1) : Nat) : Int) ∧ Hid (Pw w wq (fun _ => False) P v')) (fun _ t10 _ => 8 - (intOf t10).toNat)
          case atStart => exact ⟨1, by omega, by omega, rfl, rfl, HB.out.1⟩
          case round =>
            obtain ⟨k, hk1, hk8, rfl, rfl, HQ⟩ := hrel
            by_cases hk : k = 8
            · subst hk
              rw [show sumTo (fun j => lenK P v' j * cost j) (8 - 1) = c' from HB.out.2.1.sum]
              have hle : decide (N < c') = false := by have := HB.out.2.1.le; simp; omega
              have HCH := hid (show Calls Tryz.prog 14 #[.pointer (some ⟨P.tb, 0, none⟩), .int .i64 0] _ _ from HQ.out.charged 0)
              rw [HB.out.2.1.l, root_chgA] at HCH
              go_wp2_with (first
                | (go_at_call 13; refine HQ.out.quota.mono ?_; rintro e wx ⟨rfl, ex⟩; rw [ex]; clear ex wx)
                | (go_at_call 14; refine HCH.out.mono ?_; rintro e wx ⟨rfl, ex⟩; rw [ex]; clear ex wx))
              exact ⟨⟨i + 1, v', c', by go_num, by omega, hid ⟨HQ.out, HB.out.2.1, HB.out.2.2⟩⟩, by simp [intOf]; omega⟩
            · have hcls : Cls (k : Int) k := ⟨rfl, hk1, by omega⟩
              have hsum : sumTo (fun j => lenK P v' j * cost j) (k - 1) + lenK P v' k * cost k = sumTo (fun j => lenK P v' j * cost j) k := by
                obtain ⟨k', rfl⟩ : ∃ k', k = k' + 1 := ⟨k - 1, by omega⟩
                rfl
              have hle : sumTo (fun j => lenK P v' j * cost j) k ≤ 65536 := Nat.le_trans (sumTo_mono (show k ≤ 7 by omega)) (by have := HB.out.2.1.sum; have := HB.out.2.1.le; unfold costs at *; omega)
              obtain ⟨S1, hS1⟩ : ∃ S1, S1 = sumTo (fun j => lenK P v' j * cost j) (k - 1) := ⟨_, rfl⟩
              obtain ⟨S2, hS2⟩ : ∃ S2, S2 = sumTo (fun j => lenK P v' j * cost j) k := ⟨_, rfl⟩
              obtain ⟨ln, hln⟩ : ∃ ln, ln = lenK P v' k := ⟨_, rfl⟩
              obtain ⟨zc, hzc⟩ : ∃ zc, zc = cost k := ⟨_, rfl⟩
              rw [← hS1, ← hS2, ← hln, ← hzc] at hsum
              rw [← hS2] at hle
              rw [← hS1]
              obtain ⟨zz, hzz⟩ : ∃ zz, zz = ln * zc := ⟨_, rfl⟩
              rw [← hzz] at hsum
              have hprod : (ln : Int) * (zc : Int) = (zz : Int) := by rw [hzz]; simp
              have HS2 := hid (And.intro hS2 (And.intro hsum (And.intro hcls (And.intro hln hzc))))
              have hz1 : zz ≤ 65536 := by omega
              have hz2 : S1 + zz ≤ 65536 := by omega
              clear hS1 hS2 hcls hln hzc hzz hsum hle
              go_wp2_with fail
              refine (HQ.out.used (by have := HB.out.2.2; omega) (k : Int)).mono ?_
              rintro e wz ⟨u2, rfl, hrow2, hb2⟩
              obtain ⟨ua2, ucap2, rfl, _⟩ := ints_of hrow2
              rw [show (usedK P v' (k : Int)).length = ln from by rw [usedK_of HS2.out.2.2.1, HS2.out.2.2.2.1]; rfl]
              have HQ2 := hid (HQ.out.below hb2)
              clear hrow2 hb2
              go_wp2_with (go_at_call 12; refine (HQ2.out.cost (k : Int)).mono ?_; rintro e wx ⟨rfl, ex⟩; rw [ex, costI_of HS2.out.2.2.1, ← HS2.out.2.2.2.2]; clear ex wx)
              exact ⟨⟨k + 1, by omega, by omega, by go_num, by rw [show k + 1 - 1 = k by omega, ← HS2.out.1, ← HS2.out.2.1]; go_num, HQ2⟩, by simp [intOf]; omega⟩
      have hb0 : (kd == 0) = false := by rw [beq_eq_false_iff_ne]; exact hk0
      have hb3 : (kd == 3) = false := by rw [beq_eq_false_iff_ne]; exact hk3
      by_cases hn0 : nn < 0
      · have hd0 : decide (0 ≤ nn) = false := by simp; omega
        have HB := hid (show Pw w w3 (fun _ => False) P v ∧ Sm P v N c ∧ v.ct ≤ i + 1 from ⟨H3.out.1.fewer (fun x h => h.elim), H3.out.2.1, by have := H3.out.2.2; omega⟩)
        clear H3
        as_aux_lemma =>
          go_wp2_with fail
          go_loopw [9, 10] (fun t9 t10 wq => ∃ k : Nat, 1 ≤ k ∧ k ≤ 8 ∧ t10 = .int .i64 (k : Int) ∧ t9 = .int .i64 ((sumTo (fun j => lenK P v j * cost j) (k - 1) : Nat) : Int) ∧ Hid (Pw w wq (fun _ => False) P v)) (fun _ t10 _ => 8 - (intOf t10).toNat)
          case atStart => exact ⟨1, by omega, by omega, rfl, rfl, HB.out.1⟩
          case round =>
            obtain ⟨k, hk1, hk8, rfl, rfl, HQ⟩ := hrel
            by_cases hk : k = 8
            · subst hk
              rw [show sumTo (fun j => lenK P v j * cost j) (8 - 1) = c from HB.out.2.1.sum]
              have hle : decide (N < c) = false := by have := HB.out.2.1.le; simp; omega
              have HCH := hid (show Calls Tryz.prog 14 #[.pointer (some ⟨P.tb, 0, none⟩), .int .i64 0] _ _ from HQ.out.charged 0)
              rw [HB.out.2.1.l, root_chgA] at HCH
              go_wp2_with (first
                | (go_at_call 13; refine HQ.out.quota.mono ?_; rintro e wx ⟨rfl, ex⟩; rw [ex]; clear ex wx)
                | (go_at_call 14; refine HCH.out.mono ?_; rintro e wx ⟨rfl, ex⟩; rw [ex]; clear ex wx))
              exact ⟨⟨i + 1, v, c, by go_num, by omega, hid ⟨HQ.out, HB.out.2.1, HB.out.2.2⟩⟩, by simp [intOf]; omega⟩
            · have hcls : Cls (k : Int) k := ⟨rfl, hk1, by omega⟩
              have hsum : sumTo (fun j => lenK P v j * cost j) (k - 1) + lenK P v k * cost k = sumTo (fun j => lenK P v j * cost j) k := by
                obtain ⟨k', rfl⟩ : ∃ k', k = k' + 1 := ⟨k - 1, by omega⟩
                rfl
              have hle : sumTo (fun j => lenK P v j * cost j) k ≤ 65536 := Nat.le_trans (sumTo_mono (show k ≤ 7 by omega)) (by have := HB.out.2.1.sum; have := HB.out.2.1.le; unfold costs at *; omega)
              obtain ⟨S1, hS1⟩ : ∃ S1, S1 = sumTo (fun j => lenK P v j * cost j) (k - 1) := ⟨_, rfl⟩
              obtain ⟨S2, hS2⟩ : ∃ S2, S2 = sumTo (fun j => lenK P v j * cost j) k := ⟨_, rfl⟩
              obtain ⟨ln, hln⟩ : ∃ ln, ln = lenK P v k := ⟨_, rfl⟩
              obtain ⟨zc, hzc⟩ : ∃ zc, zc = cost k := ⟨_, rfl⟩
              rw [← hS1, ← hS2, ← hln, ← hzc] at hsum
              rw [← hS2] at hle
              rw [← hS1]
              obtain ⟨zz, hzz⟩ : ∃ zz, zz = ln * zc := ⟨_, rfl⟩
              rw [← hzz] at hsum
              have hprod : (ln : Int) * (zc : Int) = (zz : Int) := by rw [hzz]; simp
              have HS2 := hid (And.intro hS2 (And.intro hsum (And.intro hcls (And.intro hln hzc))))
              have hz1 : zz ≤ 65536 := by omega
              have hz2 : S1 + zz ≤ 65536 := by omega
              clear hS1 hS2 hcls hln hzc hzz hsum hle
              go_wp2_with fail
              refine (HQ.out.used (by have := HB.out.2.2; omega) (k : Int)).mono ?_
              rintro e wz ⟨u2, rfl, hrow2, hb2⟩
              obtain ⟨ua2, ucap2, rfl, _⟩ := ints_of hrow2
              rw [show (usedK P v (k : Int)).length = ln from by rw [usedK_of HS2.out.2.2.1, HS2.out.2.2.2.1]; rfl]
              have HQ2 := hid (HQ.out.below hb2)
              clear hrow2 hb2
              go_wp2_with (go_at_call 12; refine (HQ2.out.cost (k : Int)).mono ?_; rintro e wx ⟨rfl, ex⟩; rw [ex, costI_of HS2.out.2.2.1, ← HS2.out.2.2.2.2]; clear ex wx)
              exact ⟨⟨k + 1, by omega, by omega, by go_num, by rw [show k + 1 - 1 = k by omega, ← HS2.out.1, ← HS2.out.2.1]; go_num, HQ2⟩, by simp [intOf]; omega⟩
      have hd0 : decide (0 ≤ nn) = true := by simp; omega
      by_cases hl0 : n = 0
      · subst hl0
        have HB := hid (show Pw w w3 (fun _ => False) P v ∧ Sm P v N c ∧ v.ct ≤ i + 1 from ⟨H3.out.1.fewer (fun x h => h.elim), H3.out.2.1, by have := H3.out.2.2; omega⟩)
        clear H3
        as_aux_lemma =>
          go_wp2_with fail
          go_loopw [9, 10] (fun t9 t10 wq => ∃ k : Nat, 1 ≤ k ∧ k ≤ 8 ∧ t10 = .int .i64 (k : Int) ∧ t9 = .int .i64 ((sumTo (fun j => lenK P v j * cost j) (k - 1) : Nat) : Int) ∧ Hid (Pw w wq (fun _ => False) P v)) (fun _ t10 _ => 8 - (intOf t10).toNat)
          case atStart => exact ⟨1, by omega, by omega, rfl, rfl, HB.out.1⟩
          case round =>
            obtain ⟨k, hk1, hk8, rfl, rfl, HQ⟩ := hrel
            by_cases hk : k = 8
            · subst hk
              rw [show sumTo (fun j => lenK P v j * cost j) (8 - 1) = c from HB.out.2.1.sum]
              have hle : decide (N < c) = false := by have := HB.out.2.1.le; simp; omega
              have HCH := hid (show Calls Tryz.prog 14 #[.pointer (some ⟨P.tb, 0, none⟩), .int .i64 0] _ _ from HQ.out.charged 0)
              rw [HB.out.2.1.l, root_chgA] at HCH
              go_wp2_with (first
                | (go_at_call 13; refine HQ.out.quota.mono ?_; rintro e wx ⟨rfl, ex⟩; rw [ex]; clear ex wx)
                | (go_at_call 14; refine HCH.out.mono ?_; rintro e wx ⟨rfl, ex⟩; rw [ex]; clear ex wx))
              exact ⟨⟨i + 1, v, c, by go_num, by omega, hid ⟨HQ.out, HB.out.2.1, HB.out.2.2⟩⟩, by simp [intOf]; omega⟩
            · have hcls : Cls (k : Int) k := ⟨rfl, hk1, by omega⟩
              have hsum : sumTo (fun j => lenK P v j * cost j) (k - 1) + lenK P v k * cost k = sumTo (fun j => lenK P v j * cost j) k := by
                obtain ⟨k', rfl⟩ : ∃ k', k = k' + 1 := ⟨k - 1, by omega⟩
                rfl
              have hle : sumTo (fun j => lenK P v j * cost j) k ≤ 65536 := Nat.le_trans (sumTo_mono (show k ≤ 7 by omega)) (by have := HB.out.2.1.sum; have := HB.out.2.1.le; unfold costs at *; omega)
              obtain ⟨S1, hS1⟩ : ∃ S1, S1 = sumTo (fun j => lenK P v j * cost j) (k - 1) := ⟨_, rfl⟩
              obtain ⟨S2, hS2⟩ : ∃ S2, S2 = sumTo (fun j => lenK P v j * cost j) k := ⟨_, rfl⟩
              obtain ⟨ln, hln⟩ : ∃ ln, ln = lenK P v k := ⟨_, rfl⟩
              obtain ⟨zc, hzc⟩ : ∃ zc, zc = cost k := ⟨_, rfl⟩
              rw [← hS1, ← hS2, ← hln, ← hzc] at hsum
              rw [← hS2] at hle
              rw [← hS1]
              obtain ⟨zz, hzz⟩ : ∃ zz, zz = ln * zc := ⟨_, rfl⟩
              rw [← hzz] at hsum
              have hprod : (ln : Int) * (zc : Int) = (zz : Int) := by rw [hzz]; simp
              have HS2 := hid (And.intro hS2 (And.intro hsum (And.intro hcls (And.intro hln hzc))))
              have hz1 : zz ≤ 65536 := by omega
              have hz2 : S1 + zz ≤ 65536 := by omega
              clear hS1 hS2 hcls hln hzc hzz hsum hle
              go_wp2_with fail
              refine (HQ.out.used (by have := HB.out.2.2; omega) (k : Int)).mono ?_
              rintro e wz ⟨u2, rfl, hrow2, hb2⟩
              obtain ⟨ua2, ucap2, rfl, _⟩ := ints_of hrow2
              rw [show (usedK P v (k : Int)).length = ln from by rw [usedK_of HS2.out.2.2.1, HS2.out.2.2.2.1]; rfl]
              have HQ2 := hid (HQ.out.below hb2)
              clear hrow2 hb2
              go_wp2_with (go_at_call 12; refine (HQ2.out.cost (k : Int)).mono ?_; rintro e wx ⟨rfl, ex⟩; rw [ex, costI_of HS2.out.2.2.1, ← HS2.out.2.2.2.2]; clear ex wx)
              exact ⟨⟨k + 1, by omega, by omega, by go_num, by rw [show k + 1 - 1 = k by omega, ← HS2.out.1, ← HS2.out.2.1]; go_num, HQ2⟩, by simp [intOf]; omega⟩
      have hd1 : decide (0 < n) = true := by simp; omega
      obtain ⟨z, rfl⟩ := Int.eq_ofNat_of_zero_le (show 0 ≤ nn by omega)
      obtain ⟨r, hr⟩ : ∃ r, r = z % n := ⟨_, rfl⟩
      have hrn : r < n := by rw [hr]; exact Nat.mod_lt _ (by omega)
      have hmod : (z : Int).tmod (n : Int) = (r : Int) := by rw [Int.tmod_eq_emod_of_nonneg (by omega), hr]; omega
      have hnz : ((n : Int) == 0) = false := by rw [beq_eq_false_iff_ne]; omega
      obtain ⟨x, hx⟩ : ∃ x, L[r]? = some x := ⟨L[r]'(by have := HLN.out; omega), List.getElem?_eq_getElem _⟩
      obtain ⟨g, hga, hgb, hgl, hcell⟩ := HI.out.2.cell hx
      subst hga
      have hgb' : wr.heap.size ≤ g := by simp at hgb; omega
      have hxb : (x : Int) < 9223372036854775808 := HXB.out x (List.mem_of_getElem? hx)
      have HP := hid (Sm.putAny (H3.out.1.drew) H3.out.2.1 (i := i) (by have := H3.out.2.2; omega) cc (x : Int) (by omega) hxb)
      clear hr hx hgb hxb
      go_wp2_with fail
      go_region_held3 (fun W => W.cell? ⟨wr.heap.size, 2, none⟩ = some (.int .i64 cc) ∧ W.cell? ⟨wr.heap.size, 3, none⟩ = some (.int .i64 (z : Int)) ∧ W.cell? ⟨g, r, none⟩ = some (.int .i64 (x : Int))) (first | exact ⟨j2, j3, hcell⟩ | exact ⟨q2, q3, qc⟩) (first
        | (go_at_call 11; refine HP.out.mono ?_; rintro e w5 ⟨b5, v', c', rfl, HB', hkeep⟩; have q2 : w5.cell? ⟨wr.heap.size, 2, none⟩ = some (.int .i64 cc) := (World.cell?_of_block (hkeep wr.heap.size ⟨Nat.le_refl _, hb⟩)).trans j2; have q3 : w5.cell? ⟨wr.heap.size, 3, none⟩ = some (.int .i64 (z : Int)) := (World.cell?_of_block (hkeep wr.heap.size ⟨Nat.le_refl _, hb⟩)).trans j3; have qc : w5.cell? ⟨g, r, none⟩ = some (.int .i64 (x : Int)) := (World.cell?_of_block (hkeep g ⟨hgb', hgl⟩)).trans hcell))
      have HB := hid (show Pw w w5 (fun _ => False) P v' ∧ Sm P v' N c' ∧ v'.ct ≤ i + 1 from ⟨HB'.out.1.fewer (fun x h => h.elim), HB'.out.2⟩)
      clear H3 HB' q2 q3 qc hkeep HP hcell hgb' hgl hmod hnz hd1 hd0 hrn j0 j2 j3 hb
      as_aux_lemma =>
        go_wp2_with fail
        go_loopw [9, 10] (fun t9 t10 wq => ∃ k : Nat, 1 ≤ k ∧ k ≤ 8 ∧ t10 = .int .i64 (k : Int) ∧ t9 = .int .i64 ((sumTo (fun j => lenK P v' j * cost j) (k - 1) : Nat) : Int) ∧ Hid (Pw w wq (fun _ => False) P v')) (fun _ t10 _ => 8 - (intOf t10).toNat)
        case atStart => exact ⟨1, by omega, by omega, rfl, rfl, HB.out.1⟩
        case round =>
          obtain ⟨k, hk1, hk8, rfl, rfl, HQ⟩ := hrel
          by_cases hk : k = 8
          · subst hk
            rw [show sumTo (fun j => lenK P v' j * cost j) (8 - 1) = c' from HB.out.2.1.sum]
            have hle : decide (N < c') = false := by have := HB.out.2.1.le; simp; omega
            have HCH := hid (show Calls Tryz.prog 14 #[.pointer (some ⟨P.tb, 0, none⟩), .int .i64 0] _ _ from HQ.out.charged 0)
            rw [HB.out.2.1.l, root_chgA] at HCH
            go_wp2_with (first
              | (go_at_call 13; refine HQ.out.quota.mono ?_; rintro e wx ⟨rfl, ex⟩; rw [ex]; clear ex wx)
              | (go_at_call 14; refine HCH.out.mono ?_; rintro e wx ⟨rfl, ex⟩; rw [ex]; clear ex wx))
            exact ⟨⟨i + 1, v', c', by go_num, by omega, hid ⟨HQ.out, HB.out.2.1, HB.out.2.2⟩⟩, by simp [intOf]; omega⟩
          · have hcls : Cls (k : Int) k := ⟨rfl, hk1, by omega⟩
            have hsum : sumTo (fun j => lenK P v' j * cost j) (k - 1) + lenK P v' k * cost k = sumTo (fun j => lenK P v' j * cost j) k := by
              obtain ⟨k', rfl⟩ : ∃ k', k = k' + 1 := ⟨k - 1, by omega⟩
              rfl
            have hle : sumTo (fun j => lenK P v' j * cost j) k ≤ 65536 := Nat.le_trans (sumTo_mono (show k ≤ 7 by omega)) (by have := HB.out.2.1.sum; have := HB.out.2.1.le; unfold costs at *; omega)
            obtain ⟨S1, hS1⟩ : ∃ S1, S1 = sumTo (fun j => lenK P v' j * cost j) (k - 1) := ⟨_, rfl⟩
            obtain ⟨S2, hS2⟩ : ∃ S2, S2 = sumTo (fun j => lenK P v' j * cost j) k := ⟨_, rfl⟩
            obtain ⟨ln, hln⟩ : ∃ ln, ln = lenK P v' k := ⟨_, rfl⟩
            obtain ⟨zc, hzc⟩ : ∃ zc, zc = cost k := ⟨_, rfl⟩
            rw [← hS1, ← hS2, ← hln, ← hzc] at hsum
            rw [← hS2] at hle
            rw [← hS1]
            obtain ⟨zz, hzz⟩ : ∃ zz, zz = ln * zc := ⟨_, rfl⟩
            rw [← hzz] at hsum
            have hprod : (ln : Int) * (zc : Int) = (zz : Int) := by rw [hzz]; simp
            have HS2 := hid (And.intro hS2 (And.intro hsum (And.intro hcls (And.intro hln hzc))))
            have hz1 : zz ≤ 65536 := by omega
            have hz2 : S1 + zz ≤ 65536 := by omega
            clear hS1 hS2 hcls hln hzc hzz hsum hle
            go_wp2_with fail
            refine (HQ.out.used (by have := HB.out.2.2; omega) (k : Int)).mono ?_
            rintro e wz ⟨u2, rfl, hrow2, hb2⟩
            obtain ⟨ua2, ucap2, rfl, _⟩ := ints_of hrow2
            rw [show (usedK P v' (k : Int)).length = ln from by rw [usedK_of HS2.out.2.2.1, HS2.out.2.2.2.1]; rfl]
            have HQ2 := hid (HQ.out.below hb2)
            clear hrow2 hb2
            go_wp2_with (go_at_call 12; refine (HQ2.out.cost (k : Int)).mono ?_; rintro e wx ⟨rfl, ex⟩; rw [ex, costI_of HS2.out.2.2.1, ← HS2.out.2.2.2.2]; clear ex wx)
            exact ⟨⟨k + 1, by omega, by omega, by go_num, by rw [show k + 1 - 1 = k by omega, ← HS2.out.1, ← HS2.out.2.1]; go_num, HQ2⟩, by simp [intOf]; omega⟩
end Go.Proofs.YthpkmegjbehgaaaGreatDoor
