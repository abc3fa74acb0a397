/- A cache: a slab less or more in the heap; a slab more or less in the map. -/
import Derived.Test.YtohaoeilodebmaaDoorS13
namespace Go.Proofs.YtohaoeilodebmaaDoor
open Go.RowKit Go.Maps

theorem pigeon : ∀ (N n : Nat) (f : Nat → Nat), (∀ i j, i < n → j < n → f i = f j → i = j) → (∀ i, i < n → f i < N) → n ≤ N
  | 0, n, f, _, hl => by
    rcases Nat.eq_zero_or_pos n with e | e
    · omega
    · have := hl 0 e; omega
  | N + 1, n, f, hi, hl => by
    by_cases hk : ∃ k, k < n ∧ f k = N
    · obtain ⟨k, hk, ek⟩ := hk
      have := pigeon N (n - 1) (fun i => if i = k then f (n - 1) else f i) (fun i j h1 h2 e => by
        split at e <;> split at e
        · omega
        · have := hi (n - 1) j (by omega) (by omega) e; omega
        · have := hi i (n - 1) (by omega) (by omega) e; omega
        · exact hi i j (by omega) (by omega) e) (fun i h1 => by
        split
        · rename_i h2
          have h3 := hl (n - 1) (by omega)
          have h4 : f (n - 1) ≠ N := fun e => by
            have := hi (n - 1) k (by omega) hk (by omega); omega
          omega
        · rename_i h2
          have h3 := hl i (by omega)
          have h4 : f i ≠ N := fun e => h2 (hi i k (by omega) hk (by omega))
          omega)
      omega
    · have := pigeon N n f hi (fun i h1 => by
        have h2 := hl i h1
        have h3 : f i ≠ N := fun e => hk ⟨i, h1, e⟩
        omega)
      omega

theorem bit_zero (n i : Nat) : bit (List.replicate n 0) i = false := by
  unfold bit
  rw [List.getElem?_replicate]
  split <;> simp

section
variable {w w' : World} {c p sz m mb nm : Nat} {D : DataW Unit} {a : Option Addr} {cap nn : Nat} {L sb bm gm : Nat → Nat} {ws : Nat → List Nat} {S O : Nat → Prop} {U : Pls}
theorem Ca.one (h : Ca w c p sz m mb nm D a cap nn L sb bm gm ws S O U) {i j : Nat} (hi : i < nn) (hj : j < nn) (e : L i = L j) : i = j := by
  rcases h.opn with ⟨_, e2, _⟩ | ⟨g, _, hH⟩
  · omega
  · exact hH.mem.one i j hi hj (by rw [e])
theorem Ca.few (h : Ca w c p sz m mb nm D a cap nn L sb bm gm ws S O U) {N q : Nat} (hN : ∀ r, S r → r < N) (hq : S q) (hno : ¬ O q) : nn < N := by
  have := pigeon N (nn + 1) (ext L nn q) (fun i j hi hj e => by
    have hne : ∀ k, k < nn → L k ≠ q := fun k hk e => hno ((h.inn q).1 ⟨k, hk, e⟩)
    by_cases ei : i = nn
    · by_cases ej : j = nn
      · omega
      · rw [ei, ext_l, ext_o L ej] at e
        exact absurd e.symm (hne j (by omega))
    · by_cases ej : j = nn
      · rw [ej, ext_l, ext_o L ei] at e
        exact absurd e (hne i (by omega))
      · rw [ext_o L ei, ext_o L ej] at e
        exact h.one (by omega) (by omega) e) (fun i hi => by
    by_cases ei : i = nn
    · rw [ei, ext_l]; exact hN q hq
    · rw [ext_o L ei]; exact hN _ (h.inS (by omega)))
  omega
/-- What stands first in the heap is the least page of it. -/
theorem Hpo.least {L : Nat → Nat} {n : Nat} (h : Hpo L n) : ∀ k, k < n → L 0 ≤ L k := by
  intro k
  induction k using Nat.strongRecOn with
  | ind k ih =>
    intro hk
    rcases Nat.eq_zero_or_pos k with e | e
    · rw [e]; exact Nat.le_refl _
    · have h1 := h k e hk
      have h2 := ih ((k - 1) / 2) (by omega) (by omega)
      omega

/-- The blocks that stand: those that are neither the cache's own block, nor the row, nor a slab's. -/
theorem Ca.still {T : Nat → Prop} (h : Ca w c p sz m mb nm D a cap nn L sb bm gm ws S O U) (ht : Turn T w w') (hT : ∀ x, T x → x = c ∨ (∃ ad, a = some ad ∧ x = ad.block) ∨ ∃ r, S r ∧ x = sb r) :
    w'.heap[mb]? = w.heap[mb]? ∧ ∀ q, S q → w'.heap[bm q]? = w.heap[bm q]? ∧ w'.heap[gm q]? = w.heap[gm q]? := by
  refine ⟨ht.block mb h.map.lt (fun hx => ?_), fun q hq => ⟨ht.block _ (h.bits q hq).lt.1 (fun hx => ?_), ht.block _ (h.bits q hq).lt.2 (fun hx => ?_)⟩⟩
  · rcases hT _ hx with e | ⟨ad, e, e2⟩ | ⟨r, hr, e⟩
    · exact ne_map h.head h.map e.symm
    · obtain ⟨cur, hb⟩ := h.row e
      exact ne_map hb h.map e2.symm
    · obtain ⟨sp, hs⟩ := h.slab r hr
      exact ne_map hs h.map e.symm
  · rcases hT _ hx with e | ⟨ad, e, e2⟩ | ⟨r, hr, e⟩
    · exact ne_cells (h.bits q hq).head h.head (by decide) e
    · obtain ⟨cur, hb⟩ := h.row e
      exact ne_cells (h.bits q hq).head hb (by decide) e2
    · obtain ⟨sp, hs⟩ := h.slab r hr
      exact ne_cells (h.bits q hq).head hs (by decide) e
  · rcases hT _ hx with e | ⟨ad, e, e2⟩ | ⟨r, hr, e⟩
    · exact ne_cells (h.bits q hq).body h.head (by decide) e
    · obtain ⟨cur, hb⟩ := h.row e
      exact ne_cells (h.bits q hq).body hb (by decide) e2
    · obtain ⟨sp, hs⟩ := h.slab r hr
      exact ne_cells (h.bits q hq).body hs (by decide) e
theorem Bits.blocks {b g n : Nat} {v : List Nat} (h : Bits w b g n v) (h1 : w'.heap[b]? = w.heap[b]?) (h2 : w'.heap[g]? = w.heap[g]?) : Bits w' b g n v := ⟨h1.trans h.head, h2.trans h.body, h.unlike, h.small, h.ok⟩

theorem swp_in {L : Nat → Nat} {i k r : Nat} (hi : i ≤ k) (ho : ∀ a b, a < k + 1 → b < k + 1 → L a = L b → a = b) : (∃ j, j < k ∧ swp L i k j = r) ↔ (∃ j, j < k + 1 ∧ L j = r) ∧ r ≠ L i := by
  constructor
  · rintro ⟨j, hj, e⟩
    by_cases ej : j = i
    · rw [ej, swp_l] at e
      exact ⟨⟨k, by omega, e⟩, fun e2 => by have := ho k i (by omega) (by omega) (by rw [e, e2]); omega⟩
    · rw [swp_o L ej (by omega)] at e
      exact ⟨⟨j, by omega, e⟩, fun e2 => ej (ho j i (by omega) (by omega) (by rw [e, e2]))⟩
  · rintro ⟨⟨j, hj, e⟩, hne⟩
    have hji : j ≠ i := fun e2 => hne (by rw [← e, e2])
    by_cases ej : j = k
    · exact ⟨i, by omega, by rw [swp_l, ← ej]; exact e⟩
    · exact ⟨j, by omega, by rw [swp_o L hji ej]; exact e⟩
theorem SameSet.iff {L L' : Nat → Nat} {n r : Nat} (h : SameSet L L' n) : (∃ j, j < n ∧ L' j = r) ↔ ∃ j, j < n ∧ L j = r := by
  constructor
  · rintro ⟨j, hj, e⟩
    obtain ⟨j', hj', e'⟩ := h.1 j hj
    exact ⟨j', hj', by rw [← e', e]⟩
  · rintro ⟨j, hj, e⟩
    obtain ⟨j', hj', e'⟩ := h.2 j hj
    exact ⟨j', hj', by rw [← e', e]⟩

/-- The slab at i of the heap is out of it. -/
theorem Ca.popped {g k i : Nat} {e : Ending} (h : Ca w c p sz m mb nm D (some ⟨g, 0, none⟩) cap (k + 1) L sb bm gm ws S O U) (hi : i ≤ k) (hp : HOutPost w c g cap k i L sb bm e w') :
    ∃ L', Ca w' c p sz m mb nm D (some ⟨g, 0, none⟩) cap k L' sb bm gm ws S (fun r => O r ∧ r ≠ L i) U ∧ Turn (fun x => x = c ∨ (∃ ad : Addr, some (⟨g, 0, none⟩ : Addr) = some ad ∧ x = ad.block) ∨ ∃ r, S r ∧ x = sb r) w w' := by
  obtain ⟨rfl, L', hH, hpo, hss, ht, hcs, hpx⟩ := hp
  have ht2 : Turn (fun x => x = c ∨ (∃ ad : Addr, some (⟨g, 0, none⟩ : Addr) = some ad ∧ x = ad.block) ∨ ∃ r, S r ∧ x = sb r) w w' := ht.wide (by
    rintro x (e | e | ⟨j, hj, e⟩)
    · exact .inl e
    · exact .inr (.inl ⟨_, rfl, e⟩)
    · exact .inr (.inr ⟨L j, h.inS hj, e⟩))
  obtain ⟨hmb, hbg⟩ := h.still ht2 (fun x hx => hx)
  have ho : ∀ a b, a < k + 1 → b < k + 1 → L a = L b → a = b := fun a b ha hb e => h.one ha hb e
  have hin : ∀ r, (∃ j, j < k ∧ L' j = r) ↔ O r ∧ r ≠ L i := fun r => by
    rw [hss.iff, swp_in hi ho, h.inn r]
  refine ⟨L', ⟨hcs _ h.head, ownsMap_block h.map hmb, h.says, fun q hq => ?_, fun q hq => (h.bits q hq).blocks (hbg q hq).1 (hbg q hq).2, h.bit_, .inr ⟨g, rfl, hH⟩, hpo, hin, fun q hq => h.os q hq.1, h.oneb, h.oneg⟩, ht2⟩
  by_cases e1 : q = L i
  · subst e1; exact ⟨_, hpx⟩
  · by_cases e2 : O q
    · obtain ⟨j, hj, ej⟩ := (hin q).2 ⟨e2, e1⟩
      have := hH.mem.slab j hj
      rw [ej] at this
      exact ⟨_, this⟩
    · obtain ⟨sp, hs⟩ := h.slab q hq
      refine ⟨sp, (ht.block _ (lt_of hs) ?_).trans hs⟩
      rintro (e | e | ⟨j, hj, e⟩)
      · exact ne_cells hs h.head (by decide) e
      · obtain ⟨cur, hb⟩ := h.row rfl
        exact ne_cells hs hb (by decide) e
      · exact e2 ((h.inn q).1 ⟨j, hj, (h.ones hq (h.inS hj) e).symm⟩)

theorem own_slice {a : Option Addr} {n cap x : Nat} (h : Opn w c n cap a L sb bm) (e : (Value.slice a n cap).ownBlock = some x) : ∃ ad, a = some ad ∧ x = ad.block := by
  rcases h with ⟨rfl, _⟩ | ⟨g, rfl, _⟩
  · cases e
  · exact ⟨_, rfl, by simpa [Value.ownBlock] using e.symm⟩

/-- A slab that was full is put into the heap. -/
theorem Ca.pushed {q : Nat} {e : Ending} (h : Ca w c p sz m mb nm D a cap nn L sb bm gm ws S O U) (hq : S q) (hp : HPushPost w c nn cap q a L sb bm e w') :
    ∃ g cap2 L', Ca w' c p sz m mb nm D (some ⟨g, 0, none⟩) cap2 (nn + 1) L' sb bm gm ws S (fun r => O r ∨ r = q) U ∧ (a = some ⟨g, 0, none⟩ ∨ w.heap.size ≤ g) ∧ Turn (fun x => x = c ∨ (∃ ad, a = some ad ∧ x = ad.block) ∨ ∃ r, S r ∧ x = sb r) w w' := by
  obtain ⟨rfl, g, cap2, L', hH, hpo, hss, hat, ht, hcs⟩ := hp
  have ht2 : Turn (fun x => x = c ∨ (∃ ad, a = some ad ∧ x = ad.block) ∨ ∃ r, S r ∧ x = sb r) w w' := ht.wide (by
    rintro x (e | e | e | ⟨j, hj, e⟩)
    · exact .inl e
    · exact .inr (.inr ⟨q, hq, e⟩)
    · exact .inr (.inl (own_slice h.opn e))
    · exact .inr (.inr ⟨L j, h.inS hj, e⟩))
  obtain ⟨hmb, hbg⟩ := h.still ht2 (fun x hx => hx)
  have hin : ∀ r, (∃ j, j < nn + 1 ∧ L' j = r) ↔ O r ∨ r = q := fun r => by
    rw [hss.iff, ← h.inn r]
    constructor
    · rintro ⟨j, hj, e⟩
      by_cases ej : j = nn
      · rw [ej, ext_l] at e; exact .inr e.symm
      · rw [ext_o L ej] at e; exact .inl ⟨j, by omega, e⟩
    · rintro (⟨j, hj, e⟩ | rfl)
      · exact ⟨j, by omega, by rw [ext_o L (by omega)]; exact e⟩
      · exact ⟨nn, by omega, ext_l _ _ _⟩
  refine ⟨g, cap2, L', ⟨hcs _ h.head, ownsMap_block h.map hmb, h.says, fun r hr => ?_, fun r hr => (h.bits r hr).blocks (hbg r hr).1 (hbg r hr).2, h.bit_, .inr ⟨g, rfl, hH⟩, hpo, hin, fun r hr => ?_, h.oneb, h.oneg⟩, hat, ht2⟩
  · by_cases e2 : O r ∨ r = q
    · obtain ⟨j, hj, ej⟩ := (hin r).2 e2
      have := hH.mem.slab j hj
      rw [ej] at this
      exact ⟨_, this⟩
    · obtain ⟨sp, hs⟩ := h.slab r hr
      refine ⟨sp, (ht.block _ (lt_of hs) ?_).trans hs⟩
      rintro (e | e | e | ⟨j, hj, e⟩)
      · exact ne_cells hs h.head (by decide) e
      · exact e2 (.inr (h.ones hr hq e))
      · obtain ⟨ad, e3, e4⟩ := own_slice h.opn e
        obtain ⟨cur, hb⟩ := h.row e3
        exact ne_cells hs hb (by decide) e4
      · exact e2 (.inl ((h.inn r).1 ⟨j, hj, (h.ones hr (h.inS hj) e).symm⟩))
  · rcases hr with hr | rfl
    · exact h.os r hr
    · exact hq
/-- What Push asks of a slab that doesn't stand in the heap. -/
theorem Ca.toPush {q : Nat} (h : Ca w c p sz m mb nm D a cap nn L sb bm gm ws S O U) (hq : S q) (hno : ¬ O q) {N : Nat} (hN : ∀ r, S r → r < N) (hN2 : N ≤ 1048576) :
    Calls Tryd.prog 54 #[.iface 89 (.pointer (some ⟨c, 3, none⟩)), .iface 82 (.pointer (some ⟨sb q, 0, none⟩))] w (HPushPost w c nn cap q a L sb bm) := by
  obtain ⟨sp, hs⟩ := h.slab q hq
  refine hpush_any w c nn cap q a _ L sb bm sp h.head rfl h.opn h.heap hs (ne_cells hs h.head (by decide)) (fun e => ?_) (fun e => ?_) (fun k hk e => ?_) (by have := h.few hN hq hno; omega)
  · obtain ⟨ad, e3, e4⟩ := own_slice h.opn e
    obtain ⟨cur, hb⟩ := h.row e3
    exact ne_cells hs hb (by decide) e4
  · obtain ⟨ad, e3, e4⟩ := own_slice h.opn e
    obtain ⟨cur, hb⟩ := h.row e3
    exact ne_cells h.head hb (by decide) e4
  · exact hno ((h.inn q).1 ⟨k, hk, h.ones (h.inS hk) hq e⟩)
theorem Ca.heapAt (h : Ca w c p sz m mb nm D a cap nn L sb bm gm ws S O U) {k : Nat} (hk : nn = k + 1) : ∃ g, a = some ⟨g, 0, none⟩ ∧ Hc w c g cap nn L sb bm := by
  rcases h.opn with ⟨_, e, _⟩ | h
  · omega
  · exact h

/-- A new slab stands in the map. -/
theorem Ca.mapped {q s b g n2 : Nat} (h : Ca w c p sz m mb nm D a cap nn L sb bm gm ws S O U) (hno : ¬ S q) (hs : w.heap[s]? = some (.cells #[.pointer (some ⟨b, 0, none⟩), .int .i64 ((q * 1024 : Nat) : Int), .int .i64 0] 87)) (hB : Bits w b g m (List.replicate ((m + 63) / 64) 0))
    (hU : ∀ i, i < m → U q i = false) (hb1 : ∀ r, S r → bm r ≠ b) (hg1 : ∀ r, S r → gm r ≠ g) (hm : Pmap w' mb n2 (D.put (.int .i64 (pag q)) (.lit (.int .i64 (s : Int))))) (ht : w.mapTurned w' mb) :
    Ca w' c p sz m mb n2 (D.put (.int .i64 (pag q)) (.lit (.int .i64 (s : Int)))) a cap nn L (now sb q s) (now bm q b) (now gm q g) (now ws q (List.replicate ((m + 63) / 64) 0)) (fun r => S r ∨ r = q) O U := by
  have hgr := ht.grown
  have hne : ∀ r, S r → r ≠ q := fun r hr e => hno (e ▸ hr)
  have keep : ∀ x o cs t, o = Obj.cells cs t → w.heap[x]? = some o → w'.heap[x]? = w.heap[x]? := fun x o cs t e hx => by
    subst e
    exact hgr.block x (lt_of hx) (fun e => by cases e; exact ne_map hx h.map rfl)
  refine ⟨(keep _ _ _ _ rfl h.head).trans h.head, hm, h.says.put h.map.isMap q s, fun r hr => ?_, fun r hr => ?_, fun r hr i hi => ?_, (h.opn.other (keep _ _ _ _ rfl h.head) (fun ad e => ?_) (fun k hk => ?_)).congr (fun k hk => ⟨now_ne _ _ (hne _ (h.inS hk)), now_ne _ _ (hne _ (h.inS hk))⟩), h.heap, h.inn, fun r hr => .inl (h.os r hr), fun r t hr ht e => ?_, fun r t hr ht e => ?_⟩
  · by_cases e : r = q
    · subst e
      rw [now_at, now_at]
      exact ⟨_, (keep _ _ _ _ rfl hs).trans hs⟩
    · rw [now_ne _ _ e, now_ne _ _ e]
      obtain ⟨sp, hs⟩ := h.slab r (hr.resolve_right e)
      exact ⟨sp, (keep _ _ _ _ rfl hs).trans hs⟩
  · by_cases e : r = q
    · subst e
      rw [now_at, now_at, now_at]
      exact hB.blocks (keep _ _ _ _ rfl hB.head) (keep _ _ _ _ rfl hB.body)
    · rw [now_ne _ _ e, now_ne _ _ e, now_ne _ _ e]
      have := h.bits r (hr.resolve_right e)
      exact this.blocks (keep _ _ _ _ rfl this.head) (keep _ _ _ _ rfl this.body)
  · by_cases e : r = q
    · subst e
      rw [now_at, hU i hi]
      exact bit_zero _ _
    · rw [now_ne _ _ e]; exact h.bit_ r (hr.resolve_right e) i hi
  · obtain ⟨cur, hb⟩ := h.row e
    exact keep _ _ _ _ rfl hb
  · obtain ⟨sp, hs⟩ := h.slab _ (h.inS hk)
    exact keep _ _ _ _ rfl hs
  · by_cases e1 : r = q <;> by_cases e2 : t = q
    · rw [e1, e2]
    · rw [e1, now_at, now_ne _ _ e2] at e
      exact absurd e.symm (hb1 t (ht.resolve_right e2))
    · rw [e2, now_at, now_ne _ _ e1] at e
      exact absurd e (hb1 r (hr.resolve_right e1))
    · rw [now_ne _ _ e1, now_ne _ _ e2] at e
      exact h.oneb r t (hr.resolve_right e1) (ht.resolve_right e2) e
  · by_cases e1 : r = q <;> by_cases e2 : t = q
    · rw [e1, e2]
    · rw [e1, now_at, now_ne _ _ e2] at e
      exact absurd e.symm (hg1 t (ht.resolve_right e2))
    · rw [e2, now_at, now_ne _ _ e1] at e
      exact absurd e (hg1 r (hr.resolve_right e1))
    · rw [now_ne _ _ e1, now_ne _ _ e2] at e
      exact h.oneg r t (hr.resolve_right e1) (ht.resolve_right e2) e
/-- A slab is out of the map. -/
theorem Ca.unmapped {q n2 : Nat} (h : Ca w c p sz m mb nm D a cap nn L sb bm gm ws S O U) (hno : ¬ O q) (hm : Pmap w' mb n2 (D.del (.int .i64 (pag q)))) (ht : w.mapTurned w' mb) :
    Ca w' c p sz m mb n2 (D.del (.int .i64 (pag q))) a cap nn L sb bm gm ws (fun r => S r ∧ r ≠ q) O U := by
  have hgr := ht.grown
  have keep : ∀ x o cs t, o = Obj.cells cs t → w.heap[x]? = some o → w'.heap[x]? = w.heap[x]? := fun x o cs t e hx => by
    subst e
    exact hgr.block x (lt_of hx) (fun e => by cases e; exact ne_map hx h.map rfl)
  refine ⟨(keep _ _ _ _ rfl h.head).trans h.head, hm, h.says.del q, fun r hr => ?_, fun r hr => ?_, fun r hr => h.bit_ r hr.1, h.opn.other (keep _ _ _ _ rfl h.head) (fun ad e => ?_) (fun k hk => ?_), h.heap, h.inn, fun r hr => ⟨h.os r hr, fun e => hno (e ▸ hr)⟩, fun r t hr ht e => h.oneb r t hr.1 ht.1 e, fun r t hr ht e => h.oneg r t hr.1 ht.1 e⟩
  · obtain ⟨sp, hs⟩ := h.slab r hr.1
    exact ⟨sp, (keep _ _ _ _ rfl hs).trans hs⟩
  · have := h.bits r hr.1
    exact this.blocks (keep _ _ _ _ rfl this.head) (keep _ _ _ _ rfl this.body)
  · obtain ⟨cur, hb⟩ := h.row e
    exact keep _ _ _ _ rfl hb
  · obtain ⟨sp, hs⟩ := h.slab _ (h.inS hk)
    exact keep _ _ _ _ rfl hs
end
end Go.Proofs.YtohaoeilodebmaaDoor
