/- PoolZeros: the walk. -/
import Derived.Test.YthpkmegjbehgaaaGreatDoorZ2
namespace Go.Proofs.YthpkmegjbehgaaaGreatDoor
open Go.RowKit Go.Maps

theorem nums_take (l : List Nat) (i : Nat) : nums (l.take i) = (nums l).take i := by unfold nums; rw [List.map_take]
theorem nums_app (l m : List Nat) : nums (l ++ m) = nums l ++ nums m := by unfold nums; rw [List.map_append]
theorem nums_len (l : List Nat) : (nums l).length = l.length := by unfold nums; rw [List.length_map]
theorem nums_one (l : List Nat) : ∀ u ∈ nums l, u.oneCell' = true := fun u hu => by
  obtain ⟨x, _, rfl⟩ := List.mem_map.1 hu
  rfl
theorem row_base {w : World} {b b' k : Nat} {v : Value} {xs : List Value} (h : w.ownsRow b 3 1 v k xs) (hb : b' ≤ b) : w.ownsRow b' 3 1 v k xs :=
  ⟨h.1, h.2.imp id fun ⟨g, cap, cur, h1, h2, h3⟩ => ⟨g, cap, cur, h1, Nat.le_trans hb h2, h3⟩⟩
/-- Cells of a row, for the pieces that are cut out of it. -/
theorem news_head {w : World} {b g k cap : Nat} {l : List Nat} (h : w.ownsRow b 3 1 (.slice (some ⟨g, 0, none⟩) k cap) k (nums l)) (i : Nat) : ∀ j u, (nums (l.take i))[j]? = some u → w.cell? ((⟨g, 0, none⟩ : Addr).add j) = some u := fun j u hj => by
  rw [nums_take] at hj
  obtain ⟨hlt, _⟩ := List.getElem?_eq_some_iff.1 hj
  rw [List.getElem?_take_of_lt (by simp at hlt; omega)] at hj
  obtain ⟨g', e, hc⟩ := Qu.row_at h hj
  cases e
  rw [addr_add, Nat.zero_add]
  exact hc
theorem news_tail {w : World} {b g k cap : Nat} {l : List Nat} (h : w.ownsRow b 3 1 (.slice (some ⟨g, 0, none⟩) k cap) k (nums l)) (i : Nat) : ∀ j u, (nums (l.drop i))[j]? = some u → w.cell? ((⟨g, i, none⟩ : Addr).add j) = some u := fun j u hj => by
  have e2 : nums (l.drop i) = (nums l).drop i := by unfold nums; rw [List.map_drop]
  rw [e2, List.getElem?_drop] at hj
  obtain ⟨g', e, hc⟩ := Qu.row_at h hj
  cases e
  rw [addr_add]
  exact hc
theorem row_cap {w : World} {b k cap : Nat} {a : Option Addr} {xs : List Value} (h : w.ownsRow b 3 1 (.slice a k cap) k xs) (hk : 0 < k) : ∃ g, a = some ⟨g, 0, none⟩ ∧ k ≤ cap ∧ cap ≤ maxLen := by
  rcases h.2 with ⟨e, h0⟩ | ⟨g, cap', cur, e, _, _, h1, h2, _⟩
  · omega
  · have h3 : a = some ⟨g, 0, none⟩ ∧ cap = cap' := by simpa using e
    exact ⟨g, h3.1, by omega, by omega⟩
theorem cut_row {w : World} {b k r : Nat} {v : Value} {l : List Nat} (hr : r < l.length) (hk : l.length = k) (h : w.ownsRow b 3 1 v (0 + r + (k - (r + 1))) ([] ++ nums (l.take r) ++ nums (l.drop (r + 1)))) : w.ownsRow b 3 1 v (l.eraseIdx r).length (nums (l.eraseIdx r)) := by
  have e : l.eraseIdx r = l.take r ++ l.drop (r + 1) := List.eraseIdx_eq_take_drop_succ l r
  have e2 : (l.eraseIdx r).length = 0 + r + (k - (r + 1)) := by rw [e, List.length_append, List.length_take, List.length_drop]; omega
  rw [e2, e, nums_app]
  simpa using h
theorem wrap_one (i : Int) (h0 : 0 ≤ i) (h1 : i < 9223372036854775807) : IntKind.i64.wrap (i + 1) = i + 1 := by rw [IntKind.wrap_i64]; omega
theorem bv_zero {m : List Int} {o n : Nat} (h : o + n ≤ m.length) (hz : ∀ j, j < n → m[o + j]? = some 0) {j : Nat} (hj : j < n) : (Ar.bv ((m.drop o).take n))[j]? = some (.int .u8 0) := by
  rw [Ar.bv_get _ _ (by rw [List.length_take, List.length_drop]; omega), List.getElem?_take_of_lt hj, List.getElem?_drop, hz j hj]
  rfl
theorem order_page {B : St} {q : Nat} {r : Int} {K : Nat} (hI : Inv K B) (hu : B 0 q = .used) (h : OrderB B ((q * 1024 : Nat) : Int) r) : r = 0 := by
  rcases h with ⟨_, h2⟩ | ⟨k, i, rfl, hb, ha⟩
  · exact absurd (show ((q * 1024 : Nat) : Int) = addr 0 q by unfold addr; simp) (h2 0 q hu)
  · obtain ⟨rfl, _⟩ := addr_inj hI (k := 0) (i := q) (by rw [hu]; simp) (by rw [hb]; simp) (show addr 0 q = addr k i by rw [← ha]; unfold addr; simp)
    rfl
theorem zs_erase (zs : List Trip) (f : Trip → Nat) (r : Nat) : (zs.map f).eraseIdx r = (zs.eraseIdx r).map f := by
  rw [List.eraseIdx_eq_take_drop_succ, List.eraseIdx_eq_take_drop_succ, List.map_append, List.map_take, List.map_drop]

theorem kept_row {w8 w9 : World} {b : Nat} {s6 s7 : Value} {k : Nat} {xs : List Value} {o : Obj} (h : w8.ownsRow b 3 1 s7 k xs) (hne : ∀ x, s6.ownBlock = some x → s7.ownBlock ≠ some x) (hg : (w8.alloc o).grownBy w9 s6.ownBlock) : w9.ownsRow b 3 1 s7 k xs :=
  h.other (fun g e => by
    have hl := (Qu.own_block h g e).2
    exact (hg.block g (by simp; omega) (fun e2 => hne g e2.symm e)).trans (Below.heap_alloc _ _ _ hl))
/-- Behind the two appends. -/
theorem app_end {w w8 w9 w10 : World} {P : Pp} {v8 : Pv} {s6 s7 v6 v7 : Value} {zs : List Trip} {t : Trip} {G : Nat → Nat} {c i : Nat} {o6 o7 : Obj} (hp : Pw w w8 (fun x => s6.ownBlock = some x ∨ s7.ownBlock = some x) P v8) (hs : Sm P v8 65536 c) (hg : Gh P v8 G (i + 1)) (hh : Had v8 (zs ++ [t])) (hc : v8.ct ≤ i + 1) (hl : zs.length ≤ i) (hK : P.K = 6) (ne : ∀ x, s6.ownBlock = some x → s7.ownBlock ≠ some x)
    (r6 : w8.ownsRow w.heap.size 3 1 s6 zs.length (nums (zs.map plc))) (r7 : w8.ownsRow w.heap.size 3 1 s7 zs.length (nums (zs.map fun t => t.1)))
    (h6 : w9.ownsRow w.heap.size 3 1 v6 (zs.length + 1) (nums (zs.map plc) ++ [.int .i64 ((plc t : Nat) : Int)])) (g6 : (w8.alloc o6).grownBy w9 s6.ownBlock) (b6 : v6.ownBlock = s6.ownBlock ∨ v6.ownBlock = some (w8.heap.size + 1))
    (h7 : w10.ownsRow w.heap.size 3 1 v7 (zs.length + 1) (nums (zs.map fun t => t.1) ++ [.int .i64 ((t.1 : Nat) : Int)])) (g7 : (w9.alloc o7).grownBy w10 s7.ownBlock) (b7 : v7.ownBlock = s7.ownBlock ∨ v7.ownBlock = some (w9.heap.size + 1)) : Zr w w10 P v8 v6 v7 (zs ++ [t]) G c (i + 1) := by
  have z6 := g6.size
  have z7 := g7.size
  simp only [World.size_alloc] at z6 z7
  have l6 := fun x e => Qu.own_block r6 x e
  have l7 := fun x e => Qu.own_block r7 x e
  have l9 := fun x e => Qu.own_block h6 x e
  have l10 := fun x e => Qu.own_block h7 x e
  have hw : ∀ x, v6.ownBlock = some x → s7.ownBlock ≠ some x := fun x e e2 => by
    rcases b6 with b | b
    · exact ne x (b ▸ e) e2
    · rw [b] at e
      have := (l7 x e2).2
      have : w8.heap.size + 1 = x := by simpa using e
      omega
  have ht : Turn (fun x => s6.ownBlock = some x ∨ s7.ownBlock = some x) w8 w10 := by
    have t1 : Turn (fun x => s6.ownBlock = some x ∨ s7.ownBlock = some x) w8 w9 := ((Turn.refl _ w8).alloc o6).next (Turn.of_grown (S := fun x => s6.ownBlock = some x) g6 (fun j e => .inl e)) (fun x e => .inl (.inl e))
    exact (t1.alloc o7).next (Turn.of_grown (S := fun x => s7.ownBlock = some x) g7 (fun j e => .inl e)) (fun x e => .inl (.inr e))
  have hp10 := hp.grown ht (fun x e => e.elim (fun e => (l6 x e).1) (fun e => (l7 x e).1))
  refine ⟨hp10.fewer (fun x hx => ?_), hs, hg, hh, ?_, ?_, fun x e6 e7 => ?_, hc, by rw [List.length_append]; simp; omega, hK⟩
  · rcases hx with hx | hx
    · rcases b6 with b | b
      · exact .inl (.inl (b ▸ hx))
      · have e : w8.heap.size + 1 = x := by rw [b] at hx; simpa using hx
        exact .inr ⟨by omega, by have := (l9 x hx).2; omega⟩
    · rcases b7 with b | b
      · exact .inl (.inr (b ▸ hx))
      · have e : w9.heap.size + 1 = x := by rw [b] at hx; simpa using hx
        exact .inr ⟨by omega, (l10 x hx).2⟩
  · have h6' : w10.ownsRow w.heap.size 3 1 v6 (zs.length + 1) (nums (zs.map plc) ++ [.int .i64 ((plc t : Nat) : Int)]) := h6.other (fun g e => (g7.block g (by have := (l9 g e).2; simp; omega) (fun e2 => hw g e e2.symm)).trans (Below.heap_alloc _ _ _ (l9 g e).2))
    rw [List.length_append, List.map_append, nums_app]
    exact h6'
  · rw [List.length_append, List.map_append, nums_app]
    exact h7
  · rcases b7 with b | b
    · exact hw x e6 (b ▸ e7)
    · have := (l9 x e6).2
      have e : w9.heap.size + 1 = x := by rw [b] at e7; simpa using e7
      omega
/-- Behind the two cuts. -/
theorem cut_end {w w5 w6 w7 : World} {P : Pp} {v' : Pv} {G : Nat → Nat} {c' i r : Nat} {G0 : Nat → Prop} {zs : List Trip} {v6 v7 : Value} (hp : Pw w w5 G0 P v') (hs : Sm P v' 65536 c') (hg : Gh P v' G i) (hh : Had v' (zs.eraseIdx r)) (hc : v'.ct ≤ i) (hl : zs.length ≤ i) (hK : P.K = 6) (hr : r < zs.length)
    (h6 : w6.ownsRow w5.heap.size 3 1 v6 ((zs.map plc).eraseIdx r).length (nums ((zs.map plc).eraseIdx r))) (hb6 : Below w5.heap.size w5 w6) (h7 : w7.ownsRow w6.heap.size 3 1 v7 ((zs.map fun t => t.1).eraseIdx r).length (nums ((zs.map fun t => t.1).eraseIdx r))) (hb7 : Below w6.heap.size w6 w7) : Zr w w7 P v' v6 v7 (zs.eraseIdx r) G c' (i + 1) := by
  have hw := hp.b0.size
  have e6 := zs_erase zs plc r
  have e7 := zs_erase zs (fun t => t.1) r
  rw [e6] at h6
  rw [e7] at h7
  rw [List.length_map] at h6 h7
  have s6 := hb6.size
  have s7 := hb7.size
  have hb : Below w5.heap.size w5 w7 := hb6.trans (hb7.mono s6)
  have hl2 : (zs.eraseIdx r).length ≤ zs.length := by rw [List.length_eraseIdx]; split <;> omega
  refine ⟨(hp.plus hb).fewer (fun x hx => .inr ?_), hs, hg.more, hh, row_base (h6.bel hb7 (Nat.le_refl _)) hw, row_base h7 (by omega), fun x h6' h7' => ?_, by omega, by omega, hK⟩
  · rcases hx with hx | hx
    · have := Qu.own_block h6 x hx; omega
    · have := Qu.own_block h7 x hx; omega
  · have := Qu.own_block h6 x h6'
    have := Qu.own_block h7 x h7'
    omega

set_option maxRecDepth 100000 in
set_option maxHeartbeats 16000000 in
theorem pzeros_core (w : World) (hT : Tab w) (hC : Cst w) (a : Option Addr) (len cap : Nat) (hA : Bytes w a len) (cb : Nat) (hcb : cb < 256) :
    Calls Tryz.prog 4 #[.slice a len cap, .int .u8 (cb : Int)] w fun e w' => e = .returned (.bool true) ∧ Below w.heap.size w w' := by
  have HT := hid (And.intro hT (And.intro hC hA))
  clear hT hC hA
  obtain ⟨i0, hi0, hz0, hz1, hz2⟩ := info_parts Qu.info3
  have HIF := hid (And.intro hi0 (And.intro hz0 (And.intro hz1 hz2)))
  clear hi0 hz0 hz1 hz2
  go_enter Tryz.func4, Tryz.ntmps4
  go_wp2_with fail
  refine (alive6 w HT.out.1 HT.out.2.1).mono ?_
  rintro e w1 ⟨rfl, hb1⟩
  have H1 := hid (And.intro hb1 (And.intro (HT.out.1.below hb1 HT.out.1.pos) (HT.out.2.1.below hb1)))
  clear hb1
  by_cases h100 : 100 < len
  · go_wp2_with fail
    go_ret
    exact ⟨rfl, H1.out.1⟩
  have HNW := hid (show Calls Tryz.prog 8 #[.int .i64 65536, .int .i64 65536] w1 _ from Pw.new (w0 := w) (G := fun _ => False) 6 65536 H1.out.2.1 H1.out.2.2 (by decide) (by decide) (by decide) H1.out.1 (fun x h => h.elim))
  go_wp2_with fail
  refine HNW.out.mono ?_
  rintro e w2 ⟨P, rfl, hK, _, h2, _⟩
  have H2 := hid (show Zr w w2 P (v0 6 65536) (.slice none 0 0) (.slice none 0 0) [] (fun _ => 0) 0 0 from ⟨h2.fewer (fun x h => by rcases h with h | h <;> simp [Value.ownBlock] at h), Sm.start P 6 65536, Gh.start P 6 65536, ⟨List.nodup_nil, fun t h => by cases h⟩, World.ownsRow_nil _ _ _ _, World.ownsRow_nil _ _ _ _, fun x h => by simp [Value.ownBlock] at h, Nat.le_refl _, Nat.le_refl _, hK⟩)
  clear h2 hK HNW H1
  go_wp2_with fail
  go_loopw [6, 7, 8] (fun s6 s7 t wr => ∃ (i : Nat) (v : Pv) (zs : List Trip) (G : Nat → Nat) (c : Nat), t = .int .i64 (i : Int) ∧ i ≤ len ∧ Hid (Zr w wr P v s6 s7 zs G c i)) (fun _ _ t _ => len - (intOf t).toNat)
  case atStart => exact ⟨0, _, [], _, 0, rfl, Nat.zero_le _, H2⟩
  case round =>
    obtain ⟨i, v, zs, G, c, rfl, hi, HZ⟩ := hrel
    clear H2
    by_cases hin : i = len
    · subst hin
      go_wp2_with fail
      go_ret
      exact ⟨rfl, HZ.out.pw.b0⟩
    · have hil : i < len := by omega
      obtain ⟨s, o, b, rfl, hs, hb256, hx⟩ := HT.out.2.2.at HZ.out.pw.b0 (Nat.le_refl _) hil
      obtain ⟨a6, cap6, rfl, _⟩ := Qu.row_cells HZ.out.r6
      obtain ⟨a7, cap7, rfl, _⟩ := Qu.row_cells HZ.out.r7
      obtain ⟨n, hn⟩ : ∃ n, n = zs.length := ⟨_, rfl⟩
      rw [← hn] at HZ
      rw [← hn]
      have HN := hid hn
      have hnb : n ≤ 100 := by have := HZ.out.ln; omega
      clear hn
      obtain ⟨m7, hm7⟩ : ∃ m7, m7 = b % 7 := ⟨_, rfl⟩
      have hmod7 : (b : Int).tmod 7 = (m7 : Int) := by rw [Int.tmod_eq_emod_of_nonneg (by omega), hm7]; omega
      have hm7b : m7 < 7 := by omega
      obtain ⟨kk, hkk⟩ : ∃ kk : Nat, kk = 1 + m7 := ⟨_, rfl⟩
      have hkI : (1 : Int) + (m7 : Int) = (kk : Int) := by omega
      have HK := hid (show 1 ≤ kk ∧ kk ≤ 7 by omega)
      clear hm7 hkk
      by_cases hb2 : b < 200
      · have hd2 : decide (200 ≤ b) = false := by simp; omega
        skip
        have HG := hid (HZ.out.get (kk := kk) (by omega) HK.out.1 HK.out.2)
        go_wp2_with fail
        refine HG.out.mono ?_
        rintro e w5 ⟨t, v', G', c', rfl, htk, HM⟩
        have ht := HM.out.1.t
        have hcz := cost_in HK.out.1 HK.out.2
        have hmz := many_in HK.out.1 HK.out.2
        have hlen := HM.out.1.pw.len
        rw [HM.out.1.hK] at hlen
        have hinn := HM.out.1.inn
        rw [htk] at hinn ht
        have hq64 := HM.out.1.q64
        have hpl := (place_in hmz.2.2 ht.2.2.1 (p := t.2.1)).2
        have hplo : plc t = t.2.1 * 1024 + 64 + t.2.2 * cost kk := by unfold plc place; rw [htk]
        have hpl2 : plc t + cost kk ≤ t.2.1 * 1024 + 1024 := by unfold plc; rw [htk]; exact hpl
        have hzer := HM.out.2
        have HCO := hid (show ∀ wx, Cst wx → Calls Tryz.prog 12 #[.int .i64 (kk : Int)] wx fun e w' => e = .returned (.int .i64 ((cost kk : Nat) : Int)) ∧ w' = wx from fun wx hc => by
          have := pcost_any wx hc (kk : Int)
          rwa [costI_of ⟨rfl, HK.out.1, HK.out.2⟩] at this)
        obtain ⟨x, hx2⟩ : ∃ x, x = plc t := ⟨_, rfl⟩
        obtain ⟨z, hz⟩ : ∃ z, z = cost kk := ⟨_, rfl⟩
        obtain ⟨q, hq⟩ : ∃ q, q = t.2.1 := ⟨_, rfl⟩
        obtain ⟨y0, hy0⟩ : ∃ y0, y0 = t.2.2 * cost kk := ⟨_, rfl⟩
        rw [← hx2, ← hz] at hinn hpl2
        rw [← hx2, ← hq, ← hy0] at hplo
        rw [← hq] at hpl2 hq64
        rw [← hx2, ← hz] at hzer
        rw [← hz] at HCO
        rw [← hx2]
        have hz1 : 32 ≤ z ∧ z ≤ 256 := by omega
        have hm16 : v'.m.length = 65536 := by rw [hlen]
        rw [hm16] at hinn
        have hdiv : (x : Int).tdiv 1024 = (q : Int) := by rw [Int.tdiv_eq_ediv_of_nonneg (by omega)]; omega
        have hz32 : decide (z < 32) = false := by simp; omega
        have HRD := hid (HM.out.1.pw.read x z (by omega))
        have hcells : ∀ j, j < z → (Ar.bv ((v'.m.drop x).take z))[j]? = some (.int .u8 0) := fun j hj => bv_zero (by omega) hzer hj
        have HORD := hid (show ∀ wx, Pw w wx (fun x => (Value.slice a6 n cap6).ownBlock = some x ∨ (Value.slice a7 n cap7).ownBlock = some x) P v' → Calls Tryz.prog 20 #[.pointer (some ⟨P.bb, 0, none⟩), .int .i64 ((q : Int) * 1024)] wx fun e w' => e = .returned (.int .i64 0) ∧ w' = wx from fun wx hp => by
          have h1 := hp.order ((q * 1024 : Nat) : Int) (by simp [Lit.wf, IntKind.min, IntKind.max, IntKind.signed, IntKind.bits]; omega)
          rw [show ((q * 1024 : Nat) : Int) = (q : Int) * 1024 by simp] at h1
          refine h1.mono ?_
          rintro e w' ⟨r, rfl, hr, rfl⟩
          have hu : v'.B 0 q = .used := ((hp.fit (k := kk) HK.out.1 HK.out.2).page q ⟨t.2.2, ht.2.2.1, by rw [hq]; exact ht.2.2.2⟩).1
          rw [← show ((q * 1024 : Nat) : Int) = (q : Int) * 1024 by simp] at hr
          rw [order_page hp.inv.1 hu hr]
          exact ⟨rfl, rfl⟩)
        have HT2 := hid (And.intro htk (And.intro ht (And.intro hx2 (And.intro hz hcells))))
        clear htk ht hcz hmz hlen hpl hplo hpl2 hzer hx2 hz hq hy0 hm16 hcells HG
        go_wp2_with (first
          | (go_at_call 18; refine HM.out.1.pw.arena.mono ?_; rintro e wx ⟨rfl, ex⟩; rw [ex]; clear ex wx)
          | (go_at_call 12; refine (HCO.out _ HM.out.1.pw.tabs.2).mono ?_; rintro e wx ⟨rfl, ex⟩; rw [ex]; clear ex wx))
        refine HRD.out.mono ?_
        rintro e w6 ⟨rfl, hrow, hb6, hsz6⟩
        have H6 := hid (And.intro (HM.out.1.below hb6) hrow)
        clear hrow hb6 HRD
        have hqm : IntKind.i64.wrap ((q : Int) * 1024) = (q : Int) * 1024 := by rw [IntKind.wrap_i64]; omega
        clear hmod7 hkI hd2
        go_wp2_with fail
        refine (HCO.out _ H6.out.1.pw.tabs.2).mono ?_
        rintro e wx ⟨rfl, ex⟩; rw [ex]; clear ex wx
        go_wp2_with fail
        refine (HCO.out _ H6.out.1.pw.tabs.2).mono ?_
        rintro e wx ⟨rfl, ex⟩; rw [ex]; clear ex wx
        go_wp2_with fail
        refine H6.out.1.pw.blocks.mono ?_
        rintro e wx ⟨rfl, ex⟩; rw [ex]; clear ex wx
        go_wp2_with fail
        refine (HORD.out _ H6.out.1.pw).mono ?_
        rintro e wx ⟨rfl, ex⟩; rw [ex]; clear ex wx
        go_wp2_with fail
        have hbl : w5.heap.size < w6.heap.size := by omega
        go_loop [15] (fun t15 => ∃ j : Nat, j ≤ z ∧ t15 = .int .i64 (j : Int)) (fun t15 => z - (intOf t15).toNat)
        case atStart => exact ⟨0, Nat.zero_le _, rfl⟩
        case round =>
          obtain ⟨j, hj, rfl⟩ := hrel
          by_cases hjz : j = z
          · obtain rfl : z = j := hjz.symm
            go_wp2_with fail
            go_loopw [16] (fun t16 wq => ∃ j : Nat, j ≤ n ∧ t16 = .int .i64 (j : Int) ∧ Hid (Below w6.heap.size w6 wq)) (fun t16 _ => n - (intOf t16).toNat)
            case atStart => exact ⟨0, Nat.zero_le _, rfl, Below.refl _ _⟩
            case round =>
              obtain ⟨j, hj2, rfl, HB⟩ := hrel
              have h7 := H6.out.1.below HB.out
              have H7 := hid h7
              clear h7
              by_cases hjn : j = n
              · obtain rfl : n = j := hjn.symm
                have HF := hid (H7.out.pw.fill x z (cb : Int) (by have := H7.out.inn; rw [HT2.out.1, ← HT2.out.2.2.1, ← HT2.out.2.2.2.1] at this; exact this) (by omega) (by omega))
                go_wp2_with (go_at_call 18; refine H7.out.pw.arena.mono ?_; rintro e wx ⟨rfl, ex⟩; rw [ex]; clear ex wx)
                refine HF.out.mono ?_
                rintro e w8 ⟨rfl, hp8, hk8⟩
                have hr6 := H7.out.r6.other (w' := w8) (fun g e => hk8 g (.inl e))
                have hr7 := H7.out.r7.other (w' := w8) (fun g e => hk8 g (.inr e))
                have H8 := hid (And.intro hp8 (And.intro hr6 hr7))
                have hw8 := hp8.b0.size
                clear hp8 hr6 hr7 hk8 HF
                go_wp2_with (first
                  | (at_builtin; refine wpList_append_own_at _ rfl _ _ 29 rfl w.heap.size 3 i0 (.int .i64 0) 1 8 Tryz.underlying29 HIF.out.1 HIF.out.2.1 HIF.out.2.2.1 HIF.out.2.2.2 rfl (by decide) _ _ _ rfl (H8.out.2.1.alloc _) ⟨w8.heap.size, 0, none⟩ 1 1 [.int .i64 (x : Int)] rfl rfl (one_new _ _ _) (one_cell _) (by have := HN.out; unfold maxLen; omega) (by have := HN.out; omega) (by simp; omega) ?_)
                  | fail)
                intro v6 w9 hown6 hg6 _ hbb6
                have hr9 := kept_row H8.out.2.2 H7.out.ne hg6
                have hs9 := hg6.size
                have H9 := hid (And.intro hown6 (And.intro hg6 (And.intro hbb6 hr9)))
                clear hown6 hg6 hbb6 hr9
                go_wp2_with (first
                  | (at_builtin; refine wpList_append_own_at _ rfl _ _ 29 rfl w.heap.size 3 i0 (.int .i64 0) 1 8 Tryz.underlying29 HIF.out.1 HIF.out.2.1 HIF.out.2.2.1 HIF.out.2.2.2 rfl (by decide) _ _ _ rfl (H9.out.2.2.2.alloc _) ⟨w9.heap.size, 0, none⟩ 1 1 [.int .i64 (kk : Int)] rfl rfl (one_new _ _ _) (one_cell _) (by have := HN.out; unfold maxLen; omega) (by have := HN.out; omega) (by simp at hs9 ⊢; omega) ?_)
                  | fail)
                intro v7 w10 hown7 hg7 _ hbb7
                have HE := hid (app_end H8.out.1 (show Sm P _ 65536 c' from ⟨H7.out.sm.l, H7.out.sm.sum, H7.out.sm.ex, H7.out.sm.le⟩) (show Gh P _ G' (i + 1) from ⟨H7.out.gh.len, H7.out.gh.slab, H7.out.gh.all⟩) (show Had _ (zs ++ [t]) from ⟨H7.out.had.nd, H7.out.had.inn⟩) H7.out.ct H7.out.ln H7.out.hK H7.out.ne H8.out.2.1 H8.out.2.2 (by rw [← HT2.out.2.2.1]; exact H9.out.1) H9.out.2.1 (by simpa using H9.out.2.2.1) (by rw [HT2.out.1]; exact hown7) hg7 (by simpa using hbb7))
                clear hown7 hg7 hbb7
                go_wp2_with fail
                exact ⟨⟨i + 1, _, zs ++ [t], G', c', by go_num, by omega, HE⟩, by simp [intOf]; omega⟩
              · have hjlt : j < n := by omega
                obtain ⟨t2, ht2⟩ : ∃ t2, zs[j]? = some t2 := ⟨zs[j]'(by have := HN.out; omega), List.getElem?_eq_getElem _⟩
                have hr6 := H7.out.r6
                have hr7 := H7.out.r7
                rw [← HN.out] at hr6 hr7
                obtain ⟨g6, e6, hc6⟩ := Qu.row_at hr6 (k := j) (u := .int .i64 ((plc t2 : Nat) : Int)) (by unfold nums; rw [List.getElem?_map, List.getElem?_map, ht2]; rfl)
                obtain ⟨g7, e7, hc7⟩ := Qu.row_at hr7 (k := j) (u := .int .i64 ((t2.1 : Nat) : Int)) (by unfold nums; rw [List.getElem?_map, List.getElem?_map, ht2]; rfl)
                have hm2 := List.mem_of_getElem? ht2
                have hin2 := H7.out.had.inn t2 (List.mem_append.2 (.inl hm2))
                have hne : t ≠ t2 := fun e => by
                  have hd := H7.out.had.nd
                  rw [List.nodup_append] at hd
                  exact hd.2.2 t2 hm2 t (List.mem_singleton.2 rfl) e.symm
                have hap := fun h1 h2 => trips_apart H7.out.pw (s := t) (t := t2) (by have := HT2.out.2.1; rw [HT2.out.1]; exact this) hin2 hne h1 h2
                rw [HT2.out.1, ← HT2.out.2.2.1, ← HT2.out.2.2.2.1] at hap
                have hc2 := cost_in hin2.1 hin2.2.1
                have hlt2 : plc t2 < 65536 := by
                  have hm3 := many_in hin2.1 hin2.2.1
                  have h1 := (place_in hm3.2.2 hin2.2.2.1 (p := t2.2.1)).2
                  have h2 := ((H7.out.pw.fit hin2.1 hin2.2.1).page t2.2.1 ⟨t2.2.2, hin2.2.2.1, hin2.2.2.2⟩).2
                  rw [H7.out.hK, show (2 : Nat) ^ 6 = 64 by decide] at h2
                  unfold plc
                  omega
                have HCO2 := hid (show ∀ wx, Cst wx → Calls Tryz.prog 12 #[.int .i64 ((t2.1 : Nat) : Int)] wx fun e w' => e = .returned (.int .i64 ((cost t2.1 : Nat) : Int)) ∧ w' = wx from fun wx hc => by
                  have := pcost_any wx hc ((t2.1 : Nat) : Int)
                  rwa [costI_of ⟨rfl, hin2.1, hin2.2.1⟩] at this)
                have hcst := H7.out.pw.tabs.2
                obtain ⟨y, hy⟩ : ∃ y, y = plc t2 := ⟨_, rfl⟩
                obtain ⟨zc, hzc⟩ : ∃ zc, zc = cost t2.1 := ⟨_, rfl⟩
                obtain ⟨k2, hk2⟩ : ∃ k2, k2 = t2.1 := ⟨_, rfl⟩
                rw [← hy, ← hzc] at hap
                rw [← hzc] at hc2
                rw [← hy] at hlt2 hc6
                rw [← hk2] at hc7
                rw [← hzc, ← hk2] at HCO2
                have HCQ := hid (fun n => HCO2.out (wr.drewN n) (fun j hj => hcst j hj))
                subst e6 e7
                clear hr6 hr7 ht2 hm2 hin2 hne hy hzc hk2 hcst HCO2
                by_cases hov : x < y + zc
                · have hno : ¬ y < x + z := fun h => hap hov h
                  have hdA : decide (x < y + zc) = true := by simp; omega
                  have hdB : decide (y < x + z) = false := by simp; omega
                  have hdA' : decide ((x : Int) < (y : Int) + (zc : Int)) = true := by simp; omega
                  have hdB' : decide ((y : Int) < (x : Int) + (z : Int)) = false := by simp; omega
                  clear hap
                  go_wp2_with fail
                  go_quiet ((go_at_call 12; exact Calls.quiet_of_same (HCQ.out _)))
                  go_wp2_with fail
                  exact ⟨⟨j + 1, by omega, by go_num, hid (Below.drewN HB.out _)⟩, by simp [intOf]; omega⟩
                · have hdA : decide (x < y + zc) = false := by simp; omega
                  have hdA' : decide ((x : Int) < (y : Int) + (zc : Int)) = false := by simp; omega
                  clear hap
                  go_wp2_with fail
                  go_quiet ((go_at_call 12; exact Calls.quiet_of_same (HCQ.out _)))
                  go_wp2_with fail
                  exact ⟨⟨j + 1, by omega, by go_num, hid (Below.drewN HB.out _)⟩, by simp [intOf]; omega⟩
          · have hjz2 : j < z := by omega
            have hcell : w6.cell? ⟨w5.heap.size, j, none⟩ = some (.int .u8 0) := by rw [cell_of_row _ _ _ _ _ _ H6.out.2, HT2.out.2.2.2.2 j hjz2]
            go_wp2_with fail
            exact ⟨⟨j + 1, by omega, by go_num⟩, by simp [intOf]; omega⟩
      · have hd2 : decide (200 ≤ b) = true := by simp; omega
        by_cases hn0 : n = 0
        · have hd3 : decide (0 < n) = false := by simp; omega
          clear hn0
          skip
          have HG := hid (HZ.out.get (kk := kk) (by omega) HK.out.1 HK.out.2)
          go_wp2_with fail
          refine HG.out.mono ?_
          rintro e w5 ⟨t, v', G', c', rfl, htk, HM⟩
          have ht := HM.out.1.t
          have hcz := cost_in HK.out.1 HK.out.2
          have hmz := many_in HK.out.1 HK.out.2
          have hlen := HM.out.1.pw.len
          rw [HM.out.1.hK] at hlen
          have hinn := HM.out.1.inn
          rw [htk] at hinn ht
          have hq64 := HM.out.1.q64
          have hpl := (place_in hmz.2.2 ht.2.2.1 (p := t.2.1)).2
          have hplo : plc t = t.2.1 * 1024 + 64 + t.2.2 * cost kk := by unfold plc place; rw [htk]
          have hpl2 : plc t + cost kk ≤ t.2.1 * 1024 + 1024 := by unfold plc; rw [htk]; exact hpl
          have hzer := HM.out.2
          have HCO := hid (show ∀ wx, Cst wx → Calls Tryz.prog 12 #[.int .i64 (kk : Int)] wx fun e w' => e = .returned (.int .i64 ((cost kk : Nat) : Int)) ∧ w' = wx from fun wx hc => by
            have := pcost_any wx hc (kk : Int)
            rwa [costI_of ⟨rfl, HK.out.1, HK.out.2⟩] at this)
          obtain ⟨x, hx2⟩ : ∃ x, x = plc t := ⟨_, rfl⟩
          obtain ⟨z, hz⟩ : ∃ z, z = cost kk := ⟨_, rfl⟩
          obtain ⟨q, hq⟩ : ∃ q, q = t.2.1 := ⟨_, rfl⟩
          obtain ⟨y0, hy0⟩ : ∃ y0, y0 = t.2.2 * cost kk := ⟨_, rfl⟩
          rw [← hx2, ← hz] at hinn hpl2
          rw [← hx2, ← hq, ← hy0] at hplo
          rw [← hq] at hpl2 hq64
          rw [← hx2, ← hz] at hzer
          rw [← hz] at HCO
          rw [← hx2]
          have hz1 : 32 ≤ z ∧ z ≤ 256 := by omega
          have hm16 : v'.m.length = 65536 := by rw [hlen]
          rw [hm16] at hinn
          have hdiv : (x : Int).tdiv 1024 = (q : Int) := by rw [Int.tdiv_eq_ediv_of_nonneg (by omega)]; omega
          have hz32 : decide (z < 32) = false := by simp; omega
          have HRD := hid (HM.out.1.pw.read x z (by omega))
          have hcells : ∀ j, j < z → (Ar.bv ((v'.m.drop x).take z))[j]? = some (.int .u8 0) := fun j hj => bv_zero (by omega) hzer hj
          have HORD := hid (show ∀ wx, Pw w wx (fun x => (Value.slice a6 n cap6).ownBlock = some x ∨ (Value.slice a7 n cap7).ownBlock = some x) P v' → Calls Tryz.prog 20 #[.pointer (some ⟨P.bb, 0, none⟩), .int .i64 ((q : Int) * 1024)] wx fun e w' => e = .returned (.int .i64 0) ∧ w' = wx from fun wx hp => by
            have h1 := hp.order ((q * 1024 : Nat) : Int) (by simp [Lit.wf, IntKind.min, IntKind.max, IntKind.signed, IntKind.bits]; omega)
            rw [show ((q * 1024 : Nat) : Int) = (q : Int) * 1024 by simp] at h1
            refine h1.mono ?_
            rintro e w' ⟨r, rfl, hr, rfl⟩
            have hu : v'.B 0 q = .used := ((hp.fit (k := kk) HK.out.1 HK.out.2).page q ⟨t.2.2, ht.2.2.1, by rw [hq]; exact ht.2.2.2⟩).1
            rw [← show ((q * 1024 : Nat) : Int) = (q : Int) * 1024 by simp] at hr
            rw [order_page hp.inv.1 hu hr]
            exact ⟨rfl, rfl⟩)
          have HT2 := hid (And.intro htk (And.intro ht (And.intro hx2 (And.intro hz hcells))))
          clear htk ht hcz hmz hlen hpl hplo hpl2 hzer hx2 hz hq hy0 hm16 hcells HG
          go_wp2_with (first
            | (go_at_call 18; refine HM.out.1.pw.arena.mono ?_; rintro e wx ⟨rfl, ex⟩; rw [ex]; clear ex wx)
            | (go_at_call 12; refine (HCO.out _ HM.out.1.pw.tabs.2).mono ?_; rintro e wx ⟨rfl, ex⟩; rw [ex]; clear ex wx))
          refine HRD.out.mono ?_
          rintro e w6 ⟨rfl, hrow, hb6, hsz6⟩
          have H6 := hid (And.intro (HM.out.1.below hb6) hrow)
          clear hrow hb6 HRD
          have hqm : IntKind.i64.wrap ((q : Int) * 1024) = (q : Int) * 1024 := by rw [IntKind.wrap_i64]; omega
          clear hmod7 hkI hd2
          go_wp2_with fail
          refine (HCO.out _ H6.out.1.pw.tabs.2).mono ?_
          rintro e wx ⟨rfl, ex⟩; rw [ex]; clear ex wx
          go_wp2_with fail
          refine (HCO.out _ H6.out.1.pw.tabs.2).mono ?_
          rintro e wx ⟨rfl, ex⟩; rw [ex]; clear ex wx
          go_wp2_with fail
          refine H6.out.1.pw.blocks.mono ?_
          rintro e wx ⟨rfl, ex⟩; rw [ex]; clear ex wx
          go_wp2_with fail
          refine (HORD.out _ H6.out.1.pw).mono ?_
          rintro e wx ⟨rfl, ex⟩; rw [ex]; clear ex wx
          go_wp2_with fail
          have hbl : w5.heap.size < w6.heap.size := by omega
          go_loop [15] (fun t15 => ∃ j : Nat, j ≤ z ∧ t15 = .int .i64 (j : Int)) (fun t15 => z - (intOf t15).toNat)
          case atStart => exact ⟨0, Nat.zero_le _, rfl⟩
          case round =>
            obtain ⟨j, hj, rfl⟩ := hrel
            by_cases hjz : j = z
            · obtain rfl : z = j := hjz.symm
              go_wp2_with fail
              go_loopw [16] (fun t16 wq => ∃ j : Nat, j ≤ n ∧ t16 = .int .i64 (j : Int) ∧ Hid (Below w6.heap.size w6 wq)) (fun t16 _ => n - (intOf t16).toNat)
              case atStart => exact ⟨0, Nat.zero_le _, rfl, Below.refl _ _⟩
              case round =>
                obtain ⟨j, hj2, rfl, HB⟩ := hrel
                have h7 := H6.out.1.below HB.out
                have H7 := hid h7
                clear h7
                by_cases hjn : j = n
                · obtain rfl : n = j := hjn.symm
                  have HF := hid (H7.out.pw.fill x z (cb : Int) (by have := H7.out.inn; rw [HT2.out.1, ← HT2.out.2.2.1, ← HT2.out.2.2.2.1] at this; exact this) (by omega) (by omega))
                  go_wp2_with (go_at_call 18; refine H7.out.pw.arena.mono ?_; rintro e wx ⟨rfl, ex⟩; rw [ex]; clear ex wx)
                  refine HF.out.mono ?_
                  rintro e w8 ⟨rfl, hp8, hk8⟩
                  have hr6 := H7.out.r6.other (w' := w8) (fun g e => hk8 g (.inl e))
                  have hr7 := H7.out.r7.other (w' := w8) (fun g e => hk8 g (.inr e))
                  have H8 := hid (And.intro hp8 (And.intro hr6 hr7))
                  have hw8 := hp8.b0.size
                  clear hp8 hr6 hr7 hk8 HF
                  go_wp2_with (first
                    | (at_builtin; refine wpList_append_own_at _ rfl _ _ 29 rfl w.heap.size 3 i0 (.int .i64 0) 1 8 Tryz.underlying29 HIF.out.1 HIF.out.2.1 HIF.out.2.2.1 HIF.out.2.2.2 rfl (by decide) _ _ _ rfl (H8.out.2.1.alloc _) ⟨w8.heap.size, 0, none⟩ 1 1 [.int .i64 (x : Int)] rfl rfl (one_new _ _ _) (one_cell _) (by have := HN.out; unfold maxLen; omega) (by have := HN.out; omega) (by simp; omega) ?_)
                    | fail)
                  intro v6 w9 hown6 hg6 _ hbb6
                  have hr9 := kept_row H8.out.2.2 H7.out.ne hg6
                  have hs9 := hg6.size
                  have H9 := hid (And.intro hown6 (And.intro hg6 (And.intro hbb6 hr9)))
                  clear hown6 hg6 hbb6 hr9
                  go_wp2_with (first
                    | (at_builtin; refine wpList_append_own_at _ rfl _ _ 29 rfl w.heap.size 3 i0 (.int .i64 0) 1 8 Tryz.underlying29 HIF.out.1 HIF.out.2.1 HIF.out.2.2.1 HIF.out.2.2.2 rfl (by decide) _ _ _ rfl (H9.out.2.2.2.alloc _) ⟨w9.heap.size, 0, none⟩ 1 1 [.int .i64 (kk : Int)] rfl rfl (one_new _ _ _) (one_cell _) (by have := HN.out; unfold maxLen; omega) (by have := HN.out; omega) (by simp at hs9 ⊢; omega) ?_)
                    | fail)
                  intro v7 w10 hown7 hg7 _ hbb7
                  have HE := hid (app_end H8.out.1 (show Sm P _ 65536 c' from ⟨H7.out.sm.l, H7.out.sm.sum, H7.out.sm.ex, H7.out.sm.le⟩) (show Gh P _ G' (i + 1) from ⟨H7.out.gh.len, H7.out.gh.slab, H7.out.gh.all⟩) (show Had _ (zs ++ [t]) from ⟨H7.out.had.nd, H7.out.had.inn⟩) H7.out.ct H7.out.ln H7.out.hK H7.out.ne H8.out.2.1 H8.out.2.2 (by rw [← HT2.out.2.2.1]; exact H9.out.1) H9.out.2.1 (by simpa using H9.out.2.2.1) (by rw [HT2.out.1]; exact hown7) hg7 (by simpa using hbb7))
                  clear hown7 hg7 hbb7
                  go_wp2_with fail
                  exact ⟨⟨i + 1, _, zs ++ [t], G', c', by go_num, by omega, HE⟩, by simp [intOf]; omega⟩
                · have hjlt : j < n := by omega
                  obtain ⟨t2, ht2⟩ : ∃ t2, zs[j]? = some t2 := ⟨zs[j]'(by have := HN.out; omega), List.getElem?_eq_getElem _⟩
                  have hr6 := H7.out.r6
                  have hr7 := H7.out.r7
                  rw [← HN.out] at hr6 hr7
                  obtain ⟨g6, e6, hc6⟩ := Qu.row_at hr6 (k := j) (u := .int .i64 ((plc t2 : Nat) : Int)) (by unfold nums; rw [List.getElem?_map, List.getElem?_map, ht2]; rfl)
                  obtain ⟨g7, e7, hc7⟩ := Qu.row_at hr7 (k := j) (u := .int .i64 ((t2.1 : Nat) : Int)) (by unfold nums; rw [List.getElem?_map, List.getElem?_map, ht2]; rfl)
                  have hm2 := List.mem_of_getElem? ht2
                  have hin2 := H7.out.had.inn t2 (List.mem_append.2 (.inl hm2))
                  have hne : t ≠ t2 := fun e => by
                    have hd := H7.out.had.nd
                    rw [List.nodup_append] at hd
                    exact hd.2.2 t2 hm2 t (List.mem_singleton.2 rfl) e.symm
                  have hap := fun h1 h2 => trips_apart H7.out.pw (s := t) (t := t2) (by have := HT2.out.2.1; rw [HT2.out.1]; exact this) hin2 hne h1 h2
                  rw [HT2.out.1, ← HT2.out.2.2.1, ← HT2.out.2.2.2.1] at hap
                  have hc2 := cost_in hin2.1 hin2.2.1
                  have hlt2 : plc t2 < 65536 := by
                    have hm3 := many_in hin2.1 hin2.2.1
                    have h1 := (place_in hm3.2.2 hin2.2.2.1 (p := t2.2.1)).2
                    have h2 := ((H7.out.pw.fit hin2.1 hin2.2.1).page t2.2.1 ⟨t2.2.2, hin2.2.2.1, hin2.2.2.2⟩).2
                    rw [H7.out.hK, show (2 : Nat) ^ 6 = 64 by decide] at h2
                    unfold plc
                    omega
                  have HCO2 := hid (show ∀ wx, Cst wx → Calls Tryz.prog 12 #[.int .i64 ((t2.1 : Nat) : Int)] wx fun e w' => e = .returned (.int .i64 ((cost t2.1 : Nat) : Int)) ∧ w' = wx from fun wx hc => by
                    have := pcost_any wx hc ((t2.1 : Nat) : Int)
                    rwa [costI_of ⟨rfl, hin2.1, hin2.2.1⟩] at this)
                  have hcst := H7.out.pw.tabs.2
                  obtain ⟨y, hy⟩ : ∃ y, y = plc t2 := ⟨_, rfl⟩
                  obtain ⟨zc, hzc⟩ : ∃ zc, zc = cost t2.1 := ⟨_, rfl⟩
                  obtain ⟨k2, hk2⟩ : ∃ k2, k2 = t2.1 := ⟨_, rfl⟩
                  rw [← hy, ← hzc] at hap
                  rw [← hzc] at hc2
                  rw [← hy] at hlt2 hc6
                  rw [← hk2] at hc7
                  rw [← hzc, ← hk2] at HCO2
                  have HCQ := hid (fun n => HCO2.out (wr.drewN n) (fun j hj => hcst j hj))
                  subst e6 e7
                  clear hr6 hr7 ht2 hm2 hin2 hne hy hzc hk2 hcst HCO2
                  by_cases hov : x < y + zc
                  · have hno : ¬ y < x + z := fun h => hap hov h
                    have hdA : decide (x < y + zc) = true := by simp; omega
                    have hdB : decide (y < x + z) = false := by simp; omega
                    have hdA' : decide ((x : Int) < (y : Int) + (zc : Int)) = true := by simp; omega
                    have hdB' : decide ((y : Int) < (x : Int) + (z : Int)) = false := by simp; omega
                    clear hap
                    go_wp2_with fail
                    go_quiet ((go_at_call 12; exact Calls.quiet_of_same (HCQ.out _)))
                    go_wp2_with fail
                    exact ⟨⟨j + 1, by omega, by go_num, hid (Below.drewN HB.out _)⟩, by simp [intOf]; omega⟩
                  · have hdA : decide (x < y + zc) = false := by simp; omega
                    have hdA' : decide ((x : Int) < (y : Int) + (zc : Int)) = false := by simp; omega
                    clear hap
                    go_wp2_with fail
                    go_quiet ((go_at_call 12; exact Calls.quiet_of_same (HCQ.out _)))
                    go_wp2_with fail
                    exact ⟨⟨j + 1, by omega, by go_num, hid (Below.drewN HB.out _)⟩, by simp [intOf]; omega⟩
            · have hjz2 : j < z := by omega
              have hcell : w6.cell? ⟨w5.heap.size, j, none⟩ = some (.int .u8 0) := by rw [cell_of_row _ _ _ _ _ _ H6.out.2, HT2.out.2.2.2.2 j hjz2]
              go_wp2_with fail
              exact ⟨⟨j + 1, by omega, by go_num⟩, by simp [intOf]; omega⟩
        · have hd3 : decide (0 < n) = true := by simp; omega
          obtain ⟨r, hr⟩ : ∃ r, r = b % n := ⟨_, rfl⟩
          have hrn : r < n := by rw [hr]; exact Nat.mod_lt _ (by omega)
          have hmodr : (b : Int).tmod (n : Int) = (r : Int) := by rw [Int.tmod_eq_emod_of_nonneg (by omega), hr]; omega
          have hnz : ((n : Int) == 0) = false := by rw [beq_eq_false_iff_ne]; omega
          obtain ⟨t, ht⟩ : ∃ t, zs[r]? = some t := ⟨zs[r]'(by have := HN.out; omega), List.getElem?_eq_getElem _⟩
          have hr6 := HZ.out.r6
          have hr7 := HZ.out.r7
          rw [← HN.out] at hr6 hr7
          obtain ⟨g6, e6, hc6n, hc6m⟩ := row_cap hr6 (by omega)
          obtain ⟨g7, e7, hc7n, hc7m⟩ := row_cap hr7 (by omega)
          subst e6 e7
          obtain ⟨g6', e6, hc6⟩ := Qu.row_at hr6 (k := r) (u := .int .i64 ((plc t : Nat) : Int)) (by unfold nums; rw [List.getElem?_map, List.getElem?_map, ht]; rfl)
          cases e6
          obtain ⟨g7', e7, hc7⟩ := Qu.row_at hr7 (k := r) (u := .int .i64 ((t.1 : Nat) : Int)) (by unfold nums; rw [List.getElem?_map, List.getElem?_map, ht]; rfl)
          cases e7
          have HP := hid (Zr.put (HZ.out.below (show Below wr.heap.size wr wr.drew from ⟨rfl, rfl, rfl, Nat.le_refl _, fun _ _ => rfl⟩)) ht)
          have HR := hid (And.intro hr6 (And.intro hr7 ht))
          have hm6 : cap6 ≤ 9223372036854775807 := by unfold maxLen at hc6m; omega
          have hm7 : cap7 ≤ 9223372036854775807 := by unfold maxLen at hc7m; omega
          generalize plc t = x6 at *
          generalize t.1 = x7 at *
          clear hr hr6 hr7 ht hc6m hc7m
          go_wp2_with fail
          go_region_held3 (fun W => W.cell? ⟨g6, r, none⟩ = some (.int .i64 (x6 : Int)) ∧ W.cell? ⟨g7, r, none⟩ = some (.int .i64 (x7 : Int))) (first | exact ⟨hc6, hc7⟩ | exact ⟨q6, q7⟩) (first
            | (go_at_call 11; refine HP.out.mono ?_; rintro e w5 ⟨v', c', rfl, HB⟩; have q6 : w5.cell? ⟨g6, r, none⟩ = some (.int .i64 (x6 : Int)) := (World.cell?_of_block (HB.out.2.2.2.2.2 g6 (.inl rfl))).trans hc6; have q7 : w5.cell? ⟨g7, r, none⟩ = some (.int .i64 (x7 : Int)) := (World.cell?_of_block (HB.out.2.2.2.2.2 g7 (.inr rfl))).trans hc7))
          have HR5 := hid (And.intro (HR.out.1.other (w' := w5) (fun g e => HB.out.2.2.2.2.2 g (.inl e))) (HR.out.2.1.other (w' := w5) (fun g e => HB.out.2.2.2.2.2 g (.inr e))))
          clear q6 q7 hc6 hc7 HP
          have hi1 : (r : Int) < (n : Int) := by omega
          have hi2 : (0 : Int) ≤ (r : Int) := by omega
          have hi3 : (r : Int) ≤ (cap6 : Int) := by omega
          have hi3' : (r : Int) ≤ (cap7 : Int) := by omega
          have hi4 : (r : Int) + 1 ≤ (n : Int) := by omega
          have hi5 : (0 : Int) ≤ (r : Int) + 1 := by omega
          have hi6 : (n : Int) ≤ (cap6 : Int) := by omega
          have hi6' : (n : Int) ≤ (cap7 : Int) := by omega
          have hi7 : (r : Int) + 1 ≤ (cap6 : Int) := by omega
          have hi7' : (r : Int) + 1 ≤ (cap7 : Int) := by omega
          have hwi : IntKind.i64.wrap ((r : Int) + 1) = (r : Int) + 1 := wrap_one _ (by omega) (by omega)
          by_cases hce6 : cap6 = r + 1
          · have HCE6 := hid hce6
            clear hce6
            by_cases hce7 : cap7 = r + 1
            · have HCE7 := hid hce7
              clear hce7
              as_aux_lemma =>
                have hlen6 : (zs.map plc).length = n := by rw [List.length_map]; exact HN.out.symm
                have HLX6 := hid hlen6
                have hB6 : Below w5.heap.size w5 ((w5.drew).alloc (.cells #[] 3)) := ((Below.refl w5.heap.size w5).drew.alloc (Nat.le_refl _) _)
                have hO6 : ((w5.drew).alloc (.cells #[] 3)).ownsRow w5.heap.size 3 1 (.slice (some ⟨w5.heap.size, 0, none⟩) 0 0) 0 [] := World.ownsRow_lit w5.drew #[] 0 (Nat.le_refl _) (by unfold maxLen; omega) rfl
                have hA6 := news_head (HR5.out.1.bel hB6 (Nat.le_refl _)) r
                have hD6 : ∀ wx, Below w5.heap.size w5 wx → ∀ j u, (nums ((zs.map plc).drop (r + 1)))[j]? = some u → wx.cell? ((⟨g6, 0, none⟩ : Addr).add j) = some u := fun wx hx => by
                    intro j u hj
                    rw [List.drop_eq_nil_of_le (by have := HCE6.out; have := HLX6.out; omega)] at hj
                    simp [nums] at hj
                have HE6 := hid (And.intro hB6 (And.intro hO6 (And.intro hA6 (And.intro hD6 (And.intro (show (nums ((zs.map plc).take r)).length = r * 1 by rw [nums_len, List.length_take]; omega) (show (nums ((zs.map plc).drop (r + 1))).length = (n - (r + 1)) * 1 by rw [nums_len, List.length_drop]; omega))))))
                clear hlen6 hB6 hO6 hA6 hD6
                go_wp2_with fail
                go_region_held3 (fun _ => True) (trivial) (first
                  | (refine step_append_any _ (by rfl) _ _ _ (by rfl) w5.heap.size 3 i0 (.int .i64 0) 1 8 Tryz.underlying29 HIF.out.1 HIF.out.2.1 HIF.out.2.2.1 HIF.out.2.2.2 rfl (by decide) (.slice (some ⟨w5.heap.size, 0, none⟩) 0 0) 0 [] (by rfl) HE6.out.2.1 ⟨g6, 0, none⟩ r cap6 (nums ((zs.map plc).take r)) (by rfl) HE6.out.2.2.2.2.1 HE6.out.2.2.1 (nums_one _) (by unfold maxLen; omega) (by omega) (by simp) ?_; intro v61 w61 hown61 hg61)
                  | (refine step_append_any _ (by rfl) _ _ _ (by rfl) w5.heap.size 3 i0 (.int .i64 0) 1 8 Tryz.underlying29 HIF.out.1 HIF.out.2.1 HIF.out.2.2.1 HIF.out.2.2.2 rfl (by decide) v61 (0 + r) ([] ++ nums ((zs.map plc).take r)) (by rfl) hown61 ⟨g6, 0, none⟩ (n - (r + 1)) (cap6 - (r + 1)) (nums ((zs.map plc).drop (r + 1))) (by show Value.slice (if cap6 = r + 1 then some (⟨g6, 0, none⟩ : Addr) else some ⟨g6, r + 1, none⟩) (n - (r + 1)) (cap6 - (r + 1)) = _; rw [if_pos HCE6.out]) HE6.out.2.2.2.2.2 (HE6.out.2.2.2.1 _ (Below.grown HE6.out.1 hg61 (by simp) (fun j hj => by cases hj; exact Nat.le_refl _))) (nums_one _) (by unfold maxLen; omega) (by omega) (by have := hg61.size; simp at this ⊢; omega) ?_; intro v62 w62 hown62 hg62))
                have hX61 : Below w5.heap.size w5 w61 := Below.grown HE6.out.1 hg61 (by simp) (fun j hj => by cases hj; exact Nat.le_refl _)
                have HS6 := hid (And.intro (cut_row (by rw [HLX6.out]; exact hrn) HLX6.out hown62) (Below.grown hX61 hg62 hX61.size (fun k e => (Qu.own_block hown61 k e).1)))
                clear hown61 hown62 hg61 hg62 hX61 HE6
                have HR7 := hid (HR5.out.2.bel HS6.out.2 (Nat.le_refl _))
                have hlen7 : (zs.map fun t => t.1).length = n := by rw [List.length_map]; exact HN.out.symm
                have HLX7 := hid hlen7
                have hB7 : Below w62.heap.size w62 ((w62.drew).alloc (.cells #[] 3)) := ((Below.refl w62.heap.size w62).drew.alloc (Nat.le_refl _) _)
                have hO7 : ((w62.drew).alloc (.cells #[] 3)).ownsRow w62.heap.size 3 1 (.slice (some ⟨w62.heap.size, 0, none⟩) 0 0) 0 [] := World.ownsRow_lit w62.drew #[] 0 (Nat.le_refl _) (by unfold maxLen; omega) rfl
                have hA7 := news_head (HR7.out.bel hB7 (Nat.le_refl _)) r
                have hD7 : ∀ wx, Below w62.heap.size w62 wx → ∀ j u, (nums ((zs.map fun t => t.1).drop (r + 1)))[j]? = some u → wx.cell? ((⟨g7, 0, none⟩ : Addr).add j) = some u := fun wx hx => by
                    intro j u hj
                    rw [List.drop_eq_nil_of_le (by have := HCE7.out; have := HLX7.out; omega)] at hj
                    simp [nums] at hj
                have HE7 := hid (And.intro hB7 (And.intro hO7 (And.intro hA7 (And.intro hD7 (And.intro (show (nums ((zs.map fun t => t.1).take r)).length = r * 1 by rw [nums_len, List.length_take]; omega) (show (nums ((zs.map fun t => t.1).drop (r + 1))).length = (n - (r + 1)) * 1 by rw [nums_len, List.length_drop]; omega))))))
                clear hlen7 hB7 hO7 hA7 hD7
                go_wp2_with fail
                go_region_held3 (fun _ => True) (trivial) (first
                  | (refine step_append_any _ (by rfl) _ _ _ (by rfl) w62.heap.size 3 i0 (.int .i64 0) 1 8 Tryz.underlying29 HIF.out.1 HIF.out.2.1 HIF.out.2.2.1 HIF.out.2.2.2 rfl (by decide) (.slice (some ⟨w62.heap.size, 0, none⟩) 0 0) 0 [] (by rfl) HE7.out.2.1 ⟨g7, 0, none⟩ r cap7 (nums ((zs.map fun t => t.1).take r)) (by rfl) HE7.out.2.2.2.2.1 HE7.out.2.2.1 (nums_one _) (by unfold maxLen; omega) (by omega) (by simp) ?_; intro v71 w71 hown71 hg71)
                  | (refine step_append_any _ (by rfl) _ _ _ (by rfl) w62.heap.size 3 i0 (.int .i64 0) 1 8 Tryz.underlying29 HIF.out.1 HIF.out.2.1 HIF.out.2.2.1 HIF.out.2.2.2 rfl (by decide) v71 (0 + r) ([] ++ nums ((zs.map fun t => t.1).take r)) (by rfl) hown71 ⟨g7, 0, none⟩ (n - (r + 1)) (cap7 - (r + 1)) (nums ((zs.map fun t => t.1).drop (r + 1))) (by show Value.slice (if cap7 = r + 1 then some (⟨g7, 0, none⟩ : Addr) else some ⟨g7, r + 1, none⟩) (n - (r + 1)) (cap7 - (r + 1)) = _; rw [if_pos HCE7.out]) HE7.out.2.2.2.2.2 (HE7.out.2.2.2.1 _ (Below.grown HE7.out.1 hg71 (by simp) (fun j hj => by cases hj; exact Nat.le_refl _))) (nums_one _) (by unfold maxLen; omega) (by omega) (by have := hg71.size; simp at this ⊢; omega) ?_; intro v72 w72 hown72 hg72))
                have hX71 : Below w62.heap.size w62 w71 := Below.grown HE7.out.1 hg71 (by simp) (fun j hj => by cases hj; exact Nat.le_refl _)
                have HS7 := hid (And.intro (cut_row (by rw [HLX7.out]; exact hrn) HLX7.out hown72) (Below.grown hX71 hg72 hX71.size (fun k e => (Qu.own_block hown71 k e).1)))
                clear hown71 hown72 hg71 hg72 hX71 HE7
                go_wp2_with fail
                exact ⟨⟨i + 1, v', zs.eraseIdx r, G, c', by go_num, by omega, hid (cut_end HB.out.1 HB.out.2.1 HB.out.2.2.1 HB.out.2.2.2.1 HB.out.2.2.2.2.1 HZ.out.ln HZ.out.hK (by rw [← HN.out]; exact hrn) HS6.out.1 HS6.out.2 HS7.out.1 HS7.out.2)⟩, by simp [intOf]; omega⟩
            · as_aux_lemma =>
                have hlen6 : (zs.map plc).length = n := by rw [List.length_map]; exact HN.out.symm
                have HLX6 := hid hlen6
                have hB6 : Below w5.heap.size w5 ((w5.drew).alloc (.cells #[] 3)) := ((Below.refl w5.heap.size w5).drew.alloc (Nat.le_refl _) _)
                have hO6 : ((w5.drew).alloc (.cells #[] 3)).ownsRow w5.heap.size 3 1 (.slice (some ⟨w5.heap.size, 0, none⟩) 0 0) 0 [] := World.ownsRow_lit w5.drew #[] 0 (Nat.le_refl _) (by unfold maxLen; omega) rfl
                have hA6 := news_head (HR5.out.1.bel hB6 (Nat.le_refl _)) r
                have hD6 : ∀ wx, Below w5.heap.size w5 wx → ∀ j u, (nums ((zs.map plc).drop (r + 1)))[j]? = some u → wx.cell? ((⟨g6, 0, none⟩ : Addr).add j) = some u := fun wx hx => by
                    intro j u hj
                    rw [List.drop_eq_nil_of_le (by have := HCE6.out; have := HLX6.out; omega)] at hj
                    simp [nums] at hj
                have HE6 := hid (And.intro hB6 (And.intro hO6 (And.intro hA6 (And.intro hD6 (And.intro (show (nums ((zs.map plc).take r)).length = r * 1 by rw [nums_len, List.length_take]; omega) (show (nums ((zs.map plc).drop (r + 1))).length = (n - (r + 1)) * 1 by rw [nums_len, List.length_drop]; omega))))))
                clear hlen6 hB6 hO6 hA6 hD6
                go_wp2_with fail
                go_region_held3 (fun _ => True) (trivial) (first
                  | (refine step_append_any _ (by rfl) _ _ _ (by rfl) w5.heap.size 3 i0 (.int .i64 0) 1 8 Tryz.underlying29 HIF.out.1 HIF.out.2.1 HIF.out.2.2.1 HIF.out.2.2.2 rfl (by decide) (.slice (some ⟨w5.heap.size, 0, none⟩) 0 0) 0 [] (by rfl) HE6.out.2.1 ⟨g6, 0, none⟩ r cap6 (nums ((zs.map plc).take r)) (by rfl) HE6.out.2.2.2.2.1 HE6.out.2.2.1 (nums_one _) (by unfold maxLen; omega) (by omega) (by simp) ?_; intro v61 w61 hown61 hg61)
                  | (refine step_append_any _ (by rfl) _ _ _ (by rfl) w5.heap.size 3 i0 (.int .i64 0) 1 8 Tryz.underlying29 HIF.out.1 HIF.out.2.1 HIF.out.2.2.1 HIF.out.2.2.2 rfl (by decide) v61 (0 + r) ([] ++ nums ((zs.map plc).take r)) (by rfl) hown61 ⟨g6, 0, none⟩ (n - (r + 1)) (cap6 - (r + 1)) (nums ((zs.map plc).drop (r + 1))) (by show Value.slice (if cap6 = r + 1 then some (⟨g6, 0, none⟩ : Addr) else some ⟨g6, r + 1, none⟩) (n - (r + 1)) (cap6 - (r + 1)) = _; rw [if_pos HCE6.out]) HE6.out.2.2.2.2.2 (HE6.out.2.2.2.1 _ (Below.grown HE6.out.1 hg61 (by simp) (fun j hj => by cases hj; exact Nat.le_refl _))) (nums_one _) (by unfold maxLen; omega) (by omega) (by have := hg61.size; simp at this ⊢; omega) ?_; intro v62 w62 hown62 hg62))
                have hX61 : Below w5.heap.size w5 w61 := Below.grown HE6.out.1 hg61 (by simp) (fun j hj => by cases hj; exact Nat.le_refl _)
                have HS6 := hid (And.intro (cut_row (by rw [HLX6.out]; exact hrn) HLX6.out hown62) (Below.grown hX61 hg62 hX61.size (fun k e => (Qu.own_block hown61 k e).1)))
                clear hown61 hown62 hg61 hg62 hX61 HE6
                have HR7 := hid (HR5.out.2.bel HS6.out.2 (Nat.le_refl _))
                have hlen7 : (zs.map fun t => t.1).length = n := by rw [List.length_map]; exact HN.out.symm
                have HLX7 := hid hlen7
                have hB7 : Below w62.heap.size w62 ((w62.drew).alloc (.cells #[] 3)) := ((Below.refl w62.heap.size w62).drew.alloc (Nat.le_refl _) _)
                have hO7 : ((w62.drew).alloc (.cells #[] 3)).ownsRow w62.heap.size 3 1 (.slice (some ⟨w62.heap.size, 0, none⟩) 0 0) 0 [] := World.ownsRow_lit w62.drew #[] 0 (Nat.le_refl _) (by unfold maxLen; omega) rfl
                have hA7 := news_head (HR7.out.bel hB7 (Nat.le_refl _)) r
                have hD7 : ∀ wx, Below w62.heap.size w62 wx → ∀ j u, (nums ((zs.map fun t => t.1).drop (r + 1)))[j]? = some u → wx.cell? ((⟨g7, r + 1, none⟩ : Addr).add j) = some u := fun wx hx => news_tail (HR7.out.bel hx (Nat.le_refl _)) (r + 1)
                have HE7 := hid (And.intro hB7 (And.intro hO7 (And.intro hA7 (And.intro hD7 (And.intro (show (nums ((zs.map fun t => t.1).take r)).length = r * 1 by rw [nums_len, List.length_take]; omega) (show (nums ((zs.map fun t => t.1).drop (r + 1))).length = (n - (r + 1)) * 1 by rw [nums_len, List.length_drop]; omega))))))
                clear hlen7 hB7 hO7 hA7 hD7
                go_wp2_with fail
                go_region_held3 (fun _ => True) (trivial) (first
                  | (refine step_append_any _ (by rfl) _ _ _ (by rfl) w62.heap.size 3 i0 (.int .i64 0) 1 8 Tryz.underlying29 HIF.out.1 HIF.out.2.1 HIF.out.2.2.1 HIF.out.2.2.2 rfl (by decide) (.slice (some ⟨w62.heap.size, 0, none⟩) 0 0) 0 [] (by rfl) HE7.out.2.1 ⟨g7, 0, none⟩ r cap7 (nums ((zs.map fun t => t.1).take r)) (by rfl) HE7.out.2.2.2.2.1 HE7.out.2.2.1 (nums_one _) (by unfold maxLen; omega) (by omega) (by simp) ?_; intro v71 w71 hown71 hg71)
                  | (refine step_append_any _ (by rfl) _ _ _ (by rfl) w62.heap.size 3 i0 (.int .i64 0) 1 8 Tryz.underlying29 HIF.out.1 HIF.out.2.1 HIF.out.2.2.1 HIF.out.2.2.2 rfl (by decide) v71 (0 + r) ([] ++ nums ((zs.map fun t => t.1).take r)) (by rfl) hown71 ⟨g7, r + 1, none⟩ (n - (r + 1)) (cap7 - (r + 1)) (nums ((zs.map fun t => t.1).drop (r + 1))) (by rfl) HE7.out.2.2.2.2.2 (HE7.out.2.2.2.1 _ (Below.grown HE7.out.1 hg71 (by simp) (fun j hj => by cases hj; exact Nat.le_refl _))) (nums_one _) (by unfold maxLen; omega) (by omega) (by have := hg71.size; simp at this ⊢; omega) ?_; intro v72 w72 hown72 hg72))
                have hX71 : Below w62.heap.size w62 w71 := Below.grown HE7.out.1 hg71 (by simp) (fun j hj => by cases hj; exact Nat.le_refl _)
                have HS7 := hid (And.intro (cut_row (by rw [HLX7.out]; exact hrn) HLX7.out hown72) (Below.grown hX71 hg72 hX71.size (fun k e => (Qu.own_block hown71 k e).1)))
                clear hown71 hown72 hg71 hg72 hX71 HE7
                go_wp2_with fail
                exact ⟨⟨i + 1, v', zs.eraseIdx r, G, c', by go_num, by omega, hid (cut_end HB.out.1 HB.out.2.1 HB.out.2.2.1 HB.out.2.2.2.1 HB.out.2.2.2.2.1 HZ.out.ln HZ.out.hK (by rw [← HN.out]; exact hrn) HS6.out.1 HS6.out.2 HS7.out.1 HS7.out.2)⟩, by simp [intOf]; omega⟩
          · by_cases hce7 : cap7 = r + 1
            · have HCE7 := hid hce7
              clear hce7
              as_aux_lemma =>
                have hlen6 : (zs.map plc).length = n := by rw [List.length_map]; exact HN.out.symm
                have HLX6 := hid hlen6
                have hB6 : Below w5.heap.size w5 ((w5.drew).alloc (.cells #[] 3)) := ((Below.refl w5.heap.size w5).drew.alloc (Nat.le_refl _) _)
                have hO6 : ((w5.drew).alloc (.cells #[] 3)).ownsRow w5.heap.size 3 1 (.slice (some ⟨w5.heap.size, 0, none⟩) 0 0) 0 [] := World.ownsRow_lit w5.drew #[] 0 (Nat.le_refl _) (by unfold maxLen; omega) rfl
                have hA6 := news_head (HR5.out.1.bel hB6 (Nat.le_refl _)) r
                have hD6 : ∀ wx, Below w5.heap.size w5 wx → ∀ j u, (nums ((zs.map plc).drop (r + 1)))[j]? = some u → wx.cell? ((⟨g6, r + 1, none⟩ : Addr).add j) = some u := fun wx hx => news_tail (HR5.out.1.bel hx (Nat.le_refl _)) (r + 1)
                have HE6 := hid (And.intro hB6 (And.intro hO6 (And.intro hA6 (And.intro hD6 (And.intro (show (nums ((zs.map plc).take r)).length = r * 1 by rw [nums_len, List.length_take]; omega) (show (nums ((zs.map plc).drop (r + 1))).length = (n - (r + 1)) * 1 by rw [nums_len, List.length_drop]; omega))))))
                clear hlen6 hB6 hO6 hA6 hD6
                go_wp2_with fail
                go_region_held3 (fun _ => True) (trivial) (first
                  | (refine step_append_any _ (by rfl) _ _ _ (by rfl) w5.heap.size 3 i0 (.int .i64 0) 1 8 Tryz.underlying29 HIF.out.1 HIF.out.2.1 HIF.out.2.2.1 HIF.out.2.2.2 rfl (by decide) (.slice (some ⟨w5.heap.size, 0, none⟩) 0 0) 0 [] (by rfl) HE6.out.2.1 ⟨g6, 0, none⟩ r cap6 (nums ((zs.map plc).take r)) (by rfl) HE6.out.2.2.2.2.1 HE6.out.2.2.1 (nums_one _) (by unfold maxLen; omega) (by omega) (by simp) ?_; intro v61 w61 hown61 hg61)
                  | (refine step_append_any _ (by rfl) _ _ _ (by rfl) w5.heap.size 3 i0 (.int .i64 0) 1 8 Tryz.underlying29 HIF.out.1 HIF.out.2.1 HIF.out.2.2.1 HIF.out.2.2.2 rfl (by decide) v61 (0 + r) ([] ++ nums ((zs.map plc).take r)) (by rfl) hown61 ⟨g6, r + 1, none⟩ (n - (r + 1)) (cap6 - (r + 1)) (nums ((zs.map plc).drop (r + 1))) (by rfl) HE6.out.2.2.2.2.2 (HE6.out.2.2.2.1 _ (Below.grown HE6.out.1 hg61 (by simp) (fun j hj => by cases hj; exact Nat.le_refl _))) (nums_one _) (by unfold maxLen; omega) (by omega) (by have := hg61.size; simp at this ⊢; omega) ?_; intro v62 w62 hown62 hg62))
                have hX61 : Below w5.heap.size w5 w61 := Below.grown HE6.out.1 hg61 (by simp) (fun j hj => by cases hj; exact Nat.le_refl _)
                have HS6 := hid (And.intro (cut_row (by rw [HLX6.out]; exact hrn) HLX6.out hown62) (Below.grown hX61 hg62 hX61.size (fun k e => (Qu.own_block hown61 k e).1)))
                clear hown61 hown62 hg61 hg62 hX61 HE6
                have HR7 := hid (HR5.out.2.bel HS6.out.2 (Nat.le_refl _))
                have hlen7 : (zs.map fun t => t.1).length = n := by rw [List.length_map]; exact HN.out.symm
                have HLX7 := hid hlen7
                have hB7 : Below w62.heap.size w62 ((w62.drew).alloc (.cells #[] 3)) := ((Below.refl w62.heap.size w62).drew.alloc (Nat.le_refl _) _)
                have hO7 : ((w62.drew).alloc (.cells #[] 3)).ownsRow w62.heap.size 3 1 (.slice (some ⟨w62.heap.size, 0, none⟩) 0 0) 0 [] := World.ownsRow_lit w62.drew #[] 0 (Nat.le_refl _) (by unfold maxLen; omega) rfl
                have hA7 := news_head (HR7.out.bel hB7 (Nat.le_refl _)) r
                have hD7 : ∀ wx, Below w62.heap.size w62 wx → ∀ j u, (nums ((zs.map fun t => t.1).drop (r + 1)))[j]? = some u → wx.cell? ((⟨g7, 0, none⟩ : Addr).add j) = some u := fun wx hx => by
                    intro j u hj
                    rw [List.drop_eq_nil_of_le (by have := HCE7.out; have := HLX7.out; omega)] at hj
                    simp [nums] at hj
                have HE7 := hid (And.intro hB7 (And.intro hO7 (And.intro hA7 (And.intro hD7 (And.intro (show (nums ((zs.map fun t => t.1).take r)).length = r * 1 by rw [nums_len, List.length_take]; omega) (show (nums ((zs.map fun t => t.1).drop (r + 1))).length = (n - (r + 1)) * 1 by rw [nums_len, List.length_drop]; omega))))))
                clear hlen7 hB7 hO7 hA7 hD7
                go_wp2_with fail
                go_region_held3 (fun _ => True) (trivial) (first
                  | (refine step_append_any _ (by rfl) _ _ _ (by rfl) w62.heap.size 3 i0 (.int .i64 0) 1 8 Tryz.underlying29 HIF.out.1 HIF.out.2.1 HIF.out.2.2.1 HIF.out.2.2.2 rfl (by decide) (.slice (some ⟨w62.heap.size, 0, none⟩) 0 0) 0 [] (by rfl) HE7.out.2.1 ⟨g7, 0, none⟩ r cap7 (nums ((zs.map fun t => t.1).take r)) (by rfl) HE7.out.2.2.2.2.1 HE7.out.2.2.1 (nums_one _) (by unfold maxLen; omega) (by omega) (by simp) ?_; intro v71 w71 hown71 hg71)
                  | (refine step_append_any _ (by rfl) _ _ _ (by rfl) w62.heap.size 3 i0 (.int .i64 0) 1 8 Tryz.underlying29 HIF.out.1 HIF.out.2.1 HIF.out.2.2.1 HIF.out.2.2.2 rfl (by decide) v71 (0 + r) ([] ++ nums ((zs.map fun t => t.1).take r)) (by rfl) hown71 ⟨g7, 0, none⟩ (n - (r + 1)) (cap7 - (r + 1)) (nums ((zs.map fun t => t.1).drop (r + 1))) (by show Value.slice (if cap7 = r + 1 then some (⟨g7, 0, none⟩ : Addr) else some ⟨g7, r + 1, none⟩) (n - (r + 1)) (cap7 - (r + 1)) = _; rw [if_pos HCE7.out]) HE7.out.2.2.2.2.2 (HE7.out.2.2.2.1 _ (Below.grown HE7.out.1 hg71 (by simp) (fun j hj => by cases hj; exact Nat.le_refl _))) (nums_one _) (by unfold maxLen; omega) (by omega) (by have := hg71.size; simp at this ⊢; omega) ?_; intro v72 w72 hown72 hg72))
                have hX71 : Below w62.heap.size w62 w71 := Below.grown HE7.out.1 hg71 (by simp) (fun j hj => by cases hj; exact Nat.le_refl _)
                have HS7 := hid (And.intro (cut_row (by rw [HLX7.out]; exact hrn) HLX7.out hown72) (Below.grown hX71 hg72 hX71.size (fun k e => (Qu.own_block hown71 k e).1)))
                clear hown71 hown72 hg71 hg72 hX71 HE7
                go_wp2_with fail
                exact ⟨⟨i + 1, v', zs.eraseIdx r, G, c', by go_num, by omega, hid (cut_end HB.out.1 HB.out.2.1 HB.out.2.2.1 HB.out.2.2.2.1 HB.out.2.2.2.2.1 HZ.out.ln HZ.out.hK (by rw [← HN.out]; exact hrn) HS6.out.1 HS6.out.2 HS7.out.1 HS7.out.2)⟩, by simp [intOf]; omega⟩
            · as_aux_lemma =>
                have hlen6 : (zs.map plc).length = n := by rw [List.length_map]; exact HN.out.symm
                have HLX6 := hid hlen6
                have hB6 : Below w5.heap.size w5 ((w5.drew).alloc (.cells #[] 3)) := ((Below.refl w5.heap.size w5).drew.alloc (Nat.le_refl _) _)
                have hO6 : ((w5.drew).alloc (.cells #[] 3)).ownsRow w5.heap.size 3 1 (.slice (some ⟨w5.heap.size, 0, none⟩) 0 0) 0 [] := World.ownsRow_lit w5.drew #[] 0 (Nat.le_refl _) (by unfold maxLen; omega) rfl
                have hA6 := news_head (HR5.out.1.bel hB6 (Nat.le_refl _)) r
                have hD6 : ∀ wx, Below w5.heap.size w5 wx → ∀ j u, (nums ((zs.map plc).drop (r + 1)))[j]? = some u → wx.cell? ((⟨g6, r + 1, none⟩ : Addr).add j) = some u := fun wx hx => news_tail (HR5.out.1.bel hx (Nat.le_refl _)) (r + 1)
                have HE6 := hid (And.intro hB6 (And.intro hO6 (And.intro hA6 (And.intro hD6 (And.intro (show (nums ((zs.map plc).take r)).length = r * 1 by rw [nums_len, List.length_take]; omega) (show (nums ((zs.map plc).drop (r + 1))).length = (n - (r + 1)) * 1 by rw [nums_len, List.length_drop]; omega))))))
                clear hlen6 hB6 hO6 hA6 hD6
                go_wp2_with fail
                go_region_held3 (fun _ => True) (trivial) (first
                  | (refine step_append_any _ (by rfl) _ _ _ (by rfl) w5.heap.size 3 i0 (.int .i64 0) 1 8 Tryz.underlying29 HIF.out.1 HIF.out.2.1 HIF.out.2.2.1 HIF.out.2.2.2 rfl (by decide) (.slice (some ⟨w5.heap.size, 0, none⟩) 0 0) 0 [] (by rfl) HE6.out.2.1 ⟨g6, 0, none⟩ r cap6 (nums ((zs.map plc).take r)) (by rfl) HE6.out.2.2.2.2.1 HE6.out.2.2.1 (nums_one _) (by unfold maxLen; omega) (by omega) (by simp) ?_; intro v61 w61 hown61 hg61)
                  | (refine step_append_any _ (by rfl) _ _ _ (by rfl) w5.heap.size 3 i0 (.int .i64 0) 1 8 Tryz.underlying29 HIF.out.1 HIF.out.2.1 HIF.out.2.2.1 HIF.out.2.2.2 rfl (by decide) v61 (0 + r) ([] ++ nums ((zs.map plc).take r)) (by rfl) hown61 ⟨g6, r + 1, none⟩ (n - (r + 1)) (cap6 - (r + 1)) (nums ((zs.map plc).drop (r + 1))) (by rfl) HE6.out.2.2.2.2.2 (HE6.out.2.2.2.1 _ (Below.grown HE6.out.1 hg61 (by simp) (fun j hj => by cases hj; exact Nat.le_refl _))) (nums_one _) (by unfold maxLen; omega) (by omega) (by have := hg61.size; simp at this ⊢; omega) ?_; intro v62 w62 hown62 hg62))
                have hX61 : Below w5.heap.size w5 w61 := Below.grown HE6.out.1 hg61 (by simp) (fun j hj => by cases hj; exact Nat.le_refl _)
                have HS6 := hid (And.intro (cut_row (by rw [HLX6.out]; exact hrn) HLX6.out hown62) (Below.grown hX61 hg62 hX61.size (fun k e => (Qu.own_block hown61 k e).1)))
                clear hown61 hown62 hg61 hg62 hX61 HE6
                have HR7 := hid (HR5.out.2.bel HS6.out.2 (Nat.le_refl _))
                have hlen7 : (zs.map fun t => t.1).length = n := by rw [List.length_map]; exact HN.out.symm
                have HLX7 := hid hlen7
                have hB7 : Below w62.heap.size w62 ((w62.drew).alloc (.cells #[] 3)) := ((Below.refl w62.heap.size w62).drew.alloc (Nat.le_refl _) _)
                have hO7 : ((w62.drew).alloc (.cells #[] 3)).ownsRow w62.heap.size 3 1 (.slice (some ⟨w62.heap.size, 0, none⟩) 0 0) 0 [] := World.ownsRow_lit w62.drew #[] 0 (Nat.le_refl _) (by unfold maxLen; omega) rfl
                have hA7 := news_head (HR7.out.bel hB7 (Nat.le_refl _)) r
                have hD7 : ∀ wx, Below w62.heap.size w62 wx → ∀ j u, (nums ((zs.map fun t => t.1).drop (r + 1)))[j]? = some u → wx.cell? ((⟨g7, r + 1, none⟩ : Addr).add j) = some u := fun wx hx => news_tail (HR7.out.bel hx (Nat.le_refl _)) (r + 1)
                have HE7 := hid (And.intro hB7 (And.intro hO7 (And.intro hA7 (And.intro hD7 (And.intro (show (nums ((zs.map fun t => t.1).take r)).length = r * 1 by rw [nums_len, List.length_take]; omega) (show (nums ((zs.map fun t => t.1).drop (r + 1))).length = (n - (r + 1)) * 1 by rw [nums_len, List.length_drop]; omega))))))
                clear hlen7 hB7 hO7 hA7 hD7
                go_wp2_with fail
                go_region_held3 (fun _ => True) (trivial) (first
                  | (refine step_append_any _ (by rfl) _ _ _ (by rfl) w62.heap.size 3 i0 (.int .i64 0) 1 8 Tryz.underlying29 HIF.out.1 HIF.out.2.1 HIF.out.2.2.1 HIF.out.2.2.2 rfl (by decide) (.slice (some ⟨w62.heap.size, 0, none⟩) 0 0) 0 [] (by rfl) HE7.out.2.1 ⟨g7, 0, none⟩ r cap7 (nums ((zs.map fun t => t.1).take r)) (by rfl) HE7.out.2.2.2.2.1 HE7.out.2.2.1 (nums_one _) (by unfold maxLen; omega) (by omega) (by simp) ?_; intro v71 w71 hown71 hg71)
                  | (refine step_append_any _ (by rfl) _ _ _ (by rfl) w62.heap.size 3 i0 (.int .i64 0) 1 8 Tryz.underlying29 HIF.out.1 HIF.out.2.1 HIF.out.2.2.1 HIF.out.2.2.2 rfl (by decide) v71 (0 + r) ([] ++ nums ((zs.map fun t => t.1).take r)) (by rfl) hown71 ⟨g7, r + 1, none⟩ (n - (r + 1)) (cap7 - (r + 1)) (nums ((zs.map fun t => t.1).drop (r + 1))) (by rfl) HE7.out.2.2.2.2.2 (HE7.out.2.2.2.1 _ (Below.grown HE7.out.1 hg71 (by simp) (fun j hj => by cases hj; exact Nat.le_refl _))) (nums_one _) (by unfold maxLen; omega) (by omega) (by have := hg71.size; simp at this ⊢; omega) ?_; intro v72 w72 hown72 hg72))
                have hX71 : Below w62.heap.size w62 w71 := Below.grown HE7.out.1 hg71 (by simp) (fun j hj => by cases hj; exact Nat.le_refl _)
                have HS7 := hid (And.intro (cut_row (by rw [HLX7.out]; exact hrn) HLX7.out hown72) (Below.grown hX71 hg72 hX71.size (fun k e => (Qu.own_block hown71 k e).1)))
                clear hown71 hown72 hg71 hg72 hX71 HE7
                go_wp2_with fail
                exact ⟨⟨i + 1, v', zs.eraseIdx r, G, c', by go_num, by omega, hid (cut_end HB.out.1 HB.out.2.1 HB.out.2.2.1 HB.out.2.2.2.1 HB.out.2.2.2.2.1 HZ.out.ln HZ.out.hK (by rw [← HN.out]; exact hrn) HS6.out.1 HS6.out.2 HS7.out.1 HS7.out.2)⟩, by simp [intOf]; omega⟩
end Go.Proofs.YthpkmegjbehgaaaGreatDoor
