/- Caches as what is used of each page: places that are taken one behind the other; lists of slabs and of used places; what the map of slabs says; two caches; the document's lists and its search. No program is named here. -/
import Derived.Test.YtohaoeilodebmaaDoorM2
import Derived.Maps.Views
namespace Go.Proofs.YtohaoeilodebmaaDoor

/-- Which places are used: of the page p the i-th. -/
abbrev Pls := Nat → Nat → Bool
def setU (U : Pls) (p i : Nat) (b : Bool) : Pls := fun q j => if q = p ∧ j = i then b else U q j
theorem setU_same (U : Pls) (p i : Nat) (b : Bool) : setU U p i b p i = b := by simp [setU]
theorem setU_ne (U : Pls) {p i q j : Nat} (b : Bool) (h : ¬ (q = p ∧ j = i)) : setU U p i b q j = U q j := by simp [setU, h]
theorem setU_page (U : Pls) {p i q : Nat} (b : Bool) (h : q ≠ p) : setU U p i b q = U q := by funext j; simp [setU, h]
theorem setU_back (U : Pls) {p i : Nat} {b c : Bool} (h : U p i = c) : setU (setU U p i b) p i c = U := by
  funext q j
  by_cases e : q = p ∧ j = i
  · obtain ⟨rfl, rfl⟩ := e; rw [setU_same, h]
  · rw [setU_ne _ _ e, setU_ne _ _ e]
/-- A page of which a place is used. -/
def Slb (U : Pls) (m p : Nat) : Prop := ∃ i, i < m ∧ U p i = true
/-- .. and of which a place is free. -/
def Opened (U : Pls) (m p : Nat) : Prop := Slb U m p ∧ ∃ i, i < m ∧ U p i = false
theorem cnt_pos {f : Nat → Bool} : ∀ {n : Nat}, 0 < cnt f n ↔ ∃ i, i < n ∧ f i = true
  | 0 => by simp [cnt]
  | n + 1 => by
    have ih := cnt_pos (f := f) (n := n)
    unfold cnt
    constructor
    · intro h
      by_cases e : f n = true
      · exact ⟨n, by omega, e⟩
      · have e2 : f n = false := by simpa using e
        rw [e2] at h
        obtain ⟨i, hi, hf⟩ := ih.1 (by simpa using h)
        exact ⟨i, by omega, hf⟩
    · rintro ⟨i, hi, hf⟩
      by_cases e : i = n
      · subst e; rw [hf]; simp
      · have := ih.2 ⟨i, by omega, hf⟩; omega
theorem slb_cnt (U : Pls) (m p : Nat) : Slb U m p ↔ 0 < cnt (U p) m := cnt_pos.symm
theorem cnt_setU {U : Pls} {m p i : Nat} (hi : i < m) (b : Bool) : cnt (setU U p i b p) m + (U p i).toNat = cnt (U p) m + b.toNat := by
  have := cnt_turn (f := U p) (g := setU U p i b p) (i := i) (fun j hj => setU_ne U b (fun h => hj h.2)) hi
  rw [setU_same] at this
  exact this
theorem slb_on {U : Pls} {m p i : Nat} (hi : i < m) : Slb (setU U p i true) m p := ⟨i, hi, setU_same _ _ _ _⟩
theorem slb_other {U : Pls} {m p i q : Nat} (b : Bool) (h : q ≠ p) : Slb (setU U p i b) m q ↔ Slb U m q := by unfold Slb; rw [setU_page U b h]

/-- A place that is taken: the lowest free one of the page p, where others are used, or where nothing is and no page is open. -/
structure Taken (U U' : Pls) (m p i : Nat) : Prop where
  lt : i < m
  free : U p i = false
  low : ∀ j, j < i → U p j = true
  now : U' = setU U p i true
  page : (Slb U m p ∧ ∀ q, Opened U m q → p ≤ q) ∨ ((∀ q, ¬ Opened U m q) ∧ ¬ Slb U m p)

/-- So many places were taken, none given back: slab by slab (ps tells their pages), place by place. -/
structure Row (m t : Nat) (ps : Nat → Nat) (U : Pls) : Prop where
  used : ∀ p i, U p i = true ↔ ∃ s, p = ps s ∧ i < m ∧ s * m + i < t
  one : ∀ a b, a * m < t → b * m < t → ps a = ps b → a = b
theorem Row.start (m : Nat) (ps : Nat → Nat) : Row m 0 ps (fun _ _ => false) := ⟨fun p i => by simp, fun a b h => by omega⟩
theorem Row.at_ {m t : Nat} {ps : Nat → Nat} {U : Pls} (h : Row m t ps U) {s i : Nat} (hs : s * m < t) : U (ps s) i = true ↔ i < m ∧ s * m + i < t := by
  rw [h.used]
  constructor
  · rintro ⟨s', e, hi, hl⟩
    obtain rfl : s = s' := h.one s s' hs (by omega) e
    exact ⟨hi, hl⟩
  · rintro ⟨hi, hl⟩
    exact ⟨s, rfl, hi, hl⟩
theorem Row.slb {m t : Nat} {ps : Nat → Nat} {U : Pls} (h : Row m t ps U) (hm : 0 < m) (p : Nat) : Slb U m p ↔ ∃ s, p = ps s ∧ s * m < t := by
  constructor
  · rintro ⟨i, hi, hu⟩
    obtain ⟨s, e, _, hl⟩ := (h.used p i).1 hu
    exact ⟨s, e, by omega⟩
  · rintro ⟨s, rfl, hl⟩
    exact ⟨0, hm, (h.used _ _).2 ⟨s, rfl, hm, by omega⟩⟩
def put (ps : Nat → Nat) (s p : Nat) : Nat → Nat := fun x => if x = s then p else ps x
theorem put_at (ps : Nat → Nat) (s p : Nat) : put ps s p s = p := by simp [put]
theorem put_ne (ps : Nat → Nat) {s p x : Nat} (h : x ≠ s) : put ps s p x = ps x := by simp [put, h]
theorem div_eq {m s i t : Nat} (hi : i < m) (h : t = s * m + i) : s = t / m ∧ i = t % m := by
  subst h
  rw [Nat.mul_comm, Nat.mul_add_div (by omega), Nat.mul_add_mod, Nat.div_eq_of_lt hi, Nat.mod_eq_of_lt hi]
  exact ⟨by omega, rfl⟩
/-- One place more. -/
theorem Row.take {m t p i : Nat} {ps : Nat → Nat} {U U' : Pls} (h : Row m t ps U) (hm : 0 < m) (ht : Taken U U' m p i) : i = t % m ∧ Row m (t + 1) (put ps (t / m) p) U' ∧ (t % m ≠ 0 → p = ps (t / m)) ∧ (t % m = 0 → ¬ Slb U m p) := by
  have hdm := Nat.div_add_mod t m
  rw [Nat.mul_comm] at hdm
  have hmod := Nat.mod_lt t hm
  have hlt : ∀ s, s * m < t → s ≤ t / m := fun s hs => by
    rw [Nat.le_div_iff_mul_le hm]; omega
  have key : i = t % m ∧ (t % m ≠ 0 → p = ps (t / m)) ∧ (t % m = 0 → ¬ Slb U m p) := by
    rcases ht.page with ⟨hs, _⟩ | ⟨hno, hs⟩
    · obtain ⟨s, rfl, hst⟩ := (h.slb hm p).1 hs
      have hf := ht.free
      have h1 : ¬ (s * m + i < t) := fun hl => by
        have := (h.at_ hst (i := i)).2 ⟨ht.lt, hl⟩
        rw [hf] at this; cases this
      have h2 : s * m + i ≤ t := by
        rcases Nat.eq_zero_or_pos i with e | e
        · omega
        · have := (h.at_ hst (i := i - 1)).1 (ht.low (i - 1) (by omega)); omega
      obtain ⟨e1, e2⟩ := div_eq ht.lt (show t = s * m + i by omega)
      refine ⟨e2, fun _ => by rw [← e1], fun e => ?_⟩
      rw [e] at e2
      omega
    · have hi0 : i = 0 := by
        rcases Nat.eq_zero_or_pos i with e | e
        · exact e
        · exact absurd ⟨0, hm, ht.low 0 e⟩ hs
      by_cases e : t % m = 0
      · exact ⟨by omega, fun h => absurd e h, fun _ => hs⟩
      · exfalso
        have hst : t / m * m < t := by omega
        refine hno (ps (t / m)) ⟨(h.slb hm _).2 ⟨_, rfl, hst⟩, t % m, hmod, ?_⟩
        cases hu : U (ps (t / m)) (t % m) with
        | false => rfl
        | true => have := (h.at_ hst).1 hu; omega
  obtain ⟨e1, e2, e3⟩ := key
  refine ⟨e1, ⟨fun q j => ?_, fun a b ha hb hab => ?_⟩, e2, e3⟩
  · rw [ht.now]
    by_cases e : q = p ∧ j = i
    · obtain ⟨rfl, rfl⟩ := e
      rw [setU_same]
      refine ⟨fun _ => ⟨t / m, (put_at _ _ _).symm, ht.lt, by omega⟩, fun _ => rfl⟩
    · rw [setU_ne U true e, h.used]
      constructor
      · rintro ⟨s, rfl, hj, hl⟩
        by_cases es : s = t / m
        · subst es
          refine ⟨t / m, ?_, hj, by omega⟩
          rw [put_at]; exact (e2 (by omega)).symm
        · exact ⟨s, (put_ne _ es).symm, hj, by omega⟩
      · rintro ⟨s, rfl, hj, hl⟩
        by_cases es : s = t / m
        · subst es
          rw [put_at] at e ⊢
          have hji : j ≠ i := fun h => e ⟨rfl, h⟩
          have hl2 : t / m * m + j < t := by omega
          exact ⟨t / m, e2 (by omega), hj, hl2⟩
        · rw [put_ne _ es]
          refine ⟨s, rfl, hj, ?_⟩
          have h1 : s ≤ t / m := by rw [Nat.le_div_iff_mul_le hm]; omega
          have h2 : (s + 1) * m ≤ t / m * m := Nat.mul_le_mul_right m (by omega)
          rw [Nat.add_mul] at h2
          omega
  · have hla : a ≤ t / m := by rw [Nat.le_div_iff_mul_le hm]; omega
    have hlb : b ≤ t / m := by rw [Nat.le_div_iff_mul_le hm]; omega
    have old : ∀ s, s < t / m → s * m < t := fun s hs => by
      have := Nat.mul_le_mul_right m (show s + 1 ≤ t / m by omega)
      rw [Nat.add_mul] at this
      omega
    have fresh : ∀ s, s < t / m → p = ps s → False := fun s hs hp => by
      by_cases e : t % m = 0
      · exact e3 e ((h.slb hm p).2 ⟨s, hp, old s hs⟩)
      · have := h.one s (t / m) (old s hs) (by omega) (by rw [← hp]; exact e2 e)
        omega
    by_cases ea : a = t / m
    · by_cases eb : b = t / m
      · omega
      · rw [ea, put_at, put_ne _ eb] at hab
        exact (fresh b (by omega) hab).elim
    · by_cases eb : b = t / m
      · rw [eb, put_at, put_ne _ ea] at hab
        exact (fresh a (by omega) hab.symm).elim
      · rw [put_ne _ ea, put_ne _ eb] at hab
        exact h.one a b (old a (by omega)) (old b (by omega)) hab

/-- Where a place begins; no two places begin at the same address. -/
def place (sz p i : Nat) : Nat := p * 1024 + 64 + i * sz
theorem place_in {sz m p i : Nat} (hsz : 64 + m * sz ≤ 1024) (hi : i < m) : i * sz + sz ≤ m * sz ∧ place sz p i + sz ≤ p * 1024 + 1024 := by
  have := Nat.mul_le_mul_right sz (show i + 1 ≤ m by omega)
  rw [Nat.add_mul, Nat.one_mul] at this
  unfold place
  omega
theorem place_one {sz m p i q j : Nat} (h0 : 0 < sz) (hsz : 64 + m * sz ≤ 1024) (hi : i < m) (hj : j < m) (h : place sz p i = place sz q j) : p = q ∧ i = j := by
  have h1 := (place_in (p := p) hsz hi).1
  have h2 := (place_in (p := q) hsz hj).1
  unfold place at h
  have e : p = q := by omega
  subst e
  exact ⟨rfl, Nat.eq_of_mul_eq_mul_right h0 (by omega)⟩
end Go.Proofs.YtohaoeilodebmaaDoor

namespace Go.Proofs.YtohaoeilodebmaaDoor

/-- The numbers below n that are so, rising. -/
def ones (f : Nat → Bool) (n : Nat) : List Nat := (List.range n).filter f
theorem ones_mem {f : Nat → Bool} {n i : Nat} : i ∈ ones f n ↔ i < n ∧ f i = true := by simp [ones]
theorem ones_nodup (f : Nat → Bool) (n : Nat) : (ones f n).Nodup := List.Pairwise.filter _ List.nodup_range
theorem ones_up (f : Nat → Bool) (n : Nat) : (ones f n).Pairwise (· < ·) := List.Pairwise.filter _ List.pairwise_lt_range
theorem ones_len (f : Nat → Bool) : ∀ n, (ones f n).length = cnt f n
  | 0 => rfl
  | n + 1 => by
    have ih := ones_len f n
    unfold ones at *
    rw [List.range_succ, List.filter_append, List.length_append, ih]
    show _ = cnt f n + (f n).toNat
    cases h : f n <;> simp [h]
theorem nodup_map {f : Nat → Nat} : ∀ {l : List Nat}, l.Nodup → (∀ a, a ∈ l → ∀ b, b ∈ l → f a = f b → a = b) → (l.map f).Nodup
  | [], _, _ => List.nodup_nil
  | x :: r, hn, hi => by
    rw [List.nodup_cons] at hn
    rw [List.map_cons, List.nodup_cons]
    refine ⟨fun h => ?_, nodup_map hn.2 (fun a ha b hb => hi a (by simp [ha]) b (by simp [hb]))⟩
    obtain ⟨y, hy, e⟩ := List.mem_map.1 h
    have := hi y (by simp [hy]) x (by simp) e
    subst this
    exact hn.1 hy
theorem nodup_at {l : List Nat} (hn : l.Nodup) {a b : Nat} (ha : a < l.length) (hb : b < l.length) (e : l[a] = l[b]) : a = b := by
  have h := List.pairwise_iff_getElem.1 hn
  rcases Nat.lt_trichotomy a b with h1 | h1 | h1
  · exact absurd e (h a b ha hb h1)
  · exact h1
  · exact absurd e.symm (h b a hb ha h1)
/-- The pages that are slabs, of n pages. -/
def pagesOf (U : Pls) (m n : Nat) : List Nat := ones (fun p => decide (0 < cnt (U p) m)) n
theorem pagesOf_mem {U : Pls} {m n p : Nat} : p ∈ pagesOf U m n ↔ p < n ∧ Slb U m p := by
  unfold pagesOf
  rw [ones_mem, slb_cnt]
  simp
/-- Where used places begin, rising. -/
def usedOf (U : Pls) (sz m n : Nat) : List Nat := (pagesOf U m n).flatMap fun p => (ones (U p) m).map (place sz p)
theorem usedOf_mem {U : Pls} {sz m n x : Nat} : x ∈ usedOf U sz m n ↔ ∃ p i, p < n ∧ i < m ∧ U p i = true ∧ x = place sz p i := by
  unfold usedOf
  rw [List.mem_flatMap]
  constructor
  · rintro ⟨p, hp, hx⟩
    obtain ⟨i, hi, rfl⟩ := List.mem_map.1 hx
    obtain ⟨h1, h2⟩ := ones_mem.1 hi
    exact ⟨p, i, (pagesOf_mem.1 hp).1, h1, h2, rfl⟩
  · rintro ⟨p, i, hp, hi, hu, rfl⟩
    exact ⟨p, pagesOf_mem.2 ⟨hp, i, hi, hu⟩, List.mem_map.2 ⟨i, ones_mem.2 ⟨hi, hu⟩, rfl⟩⟩
theorem usedOf_up {U : Pls} {sz m n : Nat} (h0 : 0 < sz) (hsz : 64 + m * sz ≤ 1024) : (usedOf U sz m n).Pairwise (· < ·) := by
  unfold usedOf
  rw [List.pairwise_flatMap]
  refine ⟨fun p _ => ?_, ?_⟩
  · rw [List.pairwise_map]
    refine (ones_up (U p) m).imp (fun {a b} hab => ?_)
    have := Nat.mul_lt_mul_of_pos_right hab h0
    unfold place; omega
  · refine (ones_up _ n).imp (fun {p q} hpq x hx y hy => ?_)
    obtain ⟨i, hi, rfl⟩ := List.mem_map.1 hx
    obtain ⟨j, _, rfl⟩ := List.mem_map.1 hy
    have := (place_in (p := p) hsz (ones_mem.1 hi).1).2
    have hq : p * 1024 + 1024 ≤ q * 1024 := by omega
    unfold place at *
    omega
theorem usedOf_nodup {U : Pls} {sz m n : Nat} (h0 : 0 < sz) (hsz : 64 + m * sz ≤ 1024) : (usedOf U sz m n).Nodup := (usedOf_up h0 hsz).imp (fun h => by omega)

/-- So many slabs hold so many places. -/
theorem Row.pages {m t n : Nat} {ps : Nat → Nat} {U : Pls} (h : Row m t ps U) (hm : 0 < m) (hp : ∀ s, s * m < t → ps s < n) : (pagesOf U m n).length = (t + m - 1) / m := by
  have hc : ∀ s, s < (t + m - 1) / m ↔ s * m < t := fun s => by
    rw [Nat.lt_div_iff_mul_lt hm]; omega
  have hP : (pagesOf U m n).Perm ((List.range ((t + m - 1) / m)).map ps) := by
    refine (List.perm_ext_iff_of_nodup (ones_nodup _ _) ?_).2 (fun p => ?_)
    · refine nodup_map List.nodup_range ?_
      intro a ha b hb hab
      exact h.one a b ((hc a).1 (List.mem_range.1 ha)) ((hc b).1 (List.mem_range.1 hb)) hab
    · show p ∈ pagesOf U m n ↔ _
      rw [pagesOf_mem, h.slb hm, List.mem_map]
      constructor
      · rintro ⟨_, s, rfl, hs⟩
        exact ⟨s, List.mem_range.2 ((hc s).2 hs), rfl⟩
      · rintro ⟨s, hs, rfl⟩
        have := (hc s).1 (List.mem_range.1 hs)
        exact ⟨hp s this, s, rfl, this⟩
  rw [hP.length_eq]; simp
theorem Row.count {m t n sz : Nat} {ps : Nat → Nat} {U : Pls} (h : Row m t ps U) (hm : 0 < m) (h0 : 0 < sz) (hsz : 64 + m * sz ≤ 1024) (hp : ∀ s, s * m < t → ps s < n) : (usedOf U sz m n).length = t := by
  have hdm : ∀ x, x / m * m + x % m = x := fun x => by rw [Nat.mul_comm]; exact Nat.div_add_mod x m
  have hP : (usedOf U sz m n).Perm ((List.range t).map fun x => place sz (ps (x / m)) (x % m)) := by
    refine (List.perm_ext_iff_of_nodup (usedOf_nodup h0 hsz) ?_).2 (fun y => ?_)
    · refine nodup_map List.nodup_range ?_
      intro a ha b hb hab
      have ha := List.mem_range.1 ha
      have hb := List.mem_range.1 hb
      have da := hdm a
      have db := hdm b
      obtain ⟨e1, e2⟩ := place_one h0 hsz (Nat.mod_lt a hm) (Nat.mod_lt b hm) hab
      have e3 := h.one (a / m) (b / m) (by omega) (by omega) e1
      rw [e3, e2] at da
      omega
    · rw [usedOf_mem, List.mem_map]
      constructor
      · rintro ⟨p, i, _, hi, hu, rfl⟩
        obtain ⟨s, rfl, _, hl⟩ := (h.used p i).1 hu
        refine ⟨s * m + i, List.mem_range.2 hl, ?_⟩
        obtain ⟨e1, e2⟩ := div_eq hi (rfl : s * m + i = s * m + i)
        rw [← e1, ← e2]
      · rintro ⟨x, hx, rfl⟩
        have hx := List.mem_range.1 hx
        have dx := hdm x
        exact ⟨ps (x / m), x % m, hp _ (by omega), Nat.mod_lt x hm, (h.used _ _).2 ⟨x / m, rfl, Nat.mod_lt x hm, by omega⟩, rfl⟩
  rw [hP.length_eq]; simp

/-- A place that is given back. -/
structure Given (U U' : Pls) (m p i : Nat) : Prop where
  lt : i < m
  used : U p i = true
  now : U' = setU U p i false
theorem Given.mem {U U' : Pls} {m p i sz n x : Nat} (h : Given U U' m p i) (h0 : 0 < sz) (hsz : 64 + m * sz ≤ 1024) : x ∈ usedOf U' sz m n ↔ x ∈ usedOf U sz m n ∧ x ≠ place sz p i := by
  rw [usedOf_mem, usedOf_mem, h.now]
  constructor
  · rintro ⟨q, j, hq, hj, hu, rfl⟩
    have hne : ¬ (q = p ∧ j = i) := by
      rintro ⟨rfl, rfl⟩
      rw [setU_same] at hu; cases hu
    rw [setU_ne U false hne] at hu
    exact ⟨⟨q, j, hq, hj, hu, rfl⟩, fun e => hne (place_one h0 hsz hj h.lt e)⟩
  · rintro ⟨⟨q, j, hq, hj, hu, rfl⟩, hne⟩
    refine ⟨q, j, hq, hj, ?_, rfl⟩
    rw [setU_ne U false (fun e => hne (by rw [e.1, e.2]))]
    exact hu
/-- All that were used are given back, in a row that begins somewhere and goes round. -/
theorem round_one {t f a b : Nat} (ha : a < t) (hb : b < t) (h : (a + f) % t = (b + f) % t) : a = b := by
  have h1 := Nat.div_add_mod (a + f) t
  have h2 := Nat.div_add_mod (b + f) t
  rw [h] at h1
  rcases Nat.lt_trichotomy ((a + f) / t) ((b + f) / t) with hl | hl | hl
  · have := Nat.mul_le_mul_left t (show (a + f) / t + 1 ≤ (b + f) / t by omega)
    rw [Nat.mul_add] at this
    omega
  · rw [hl] at h1; omega
  · have := Nat.mul_le_mul_left t (show (b + f) / t + 1 ≤ (a + f) / t by omega)
    rw [Nat.mul_add] at this
    omega
/-- What is still used when k of them were given back. -/
def Still (u : List Nat) (f k x : Nat) : Prop := x ∈ u ∧ ∀ a, a < k → u[(a + f) % u.length]? ≠ some x
theorem still_next {u : List Nat} {f k : Nat} (hn : u.Nodup) (hk : k < u.length) : ∃ x, u[(k + f) % u.length]? = some x ∧ Still u f k x ∧ ∀ y, Still u f (k + 1) y ↔ Still u f k y ∧ y ≠ x := by
  have hlt : (k + f) % u.length < u.length := Nat.mod_lt _ (by omega)
  refine ⟨u[(k + f) % u.length], List.getElem?_eq_getElem hlt, ⟨List.getElem_mem hlt, fun a ha e => ?_⟩, fun y => ⟨fun h => ⟨⟨h.1, fun a ha => h.2 a (by omega)⟩, fun e => ?_⟩, fun h => ⟨h.1.1, fun a ha e => ?_⟩⟩⟩
  · obtain ⟨h1, h2⟩ := List.getElem?_eq_some_iff.1 e
    have := nodup_at hn h1 hlt h2
    have := round_one (by omega) hk this
    omega
  · exact h.2 k (by omega) (by rw [e]; exact List.getElem?_eq_getElem hlt)
  · by_cases ea : a = k
    · subst ea
      rw [List.getElem?_eq_getElem hlt] at e
      exact h.2 (Option.some.inj e).symm
    · exact h.1.2 a (by omega) e
theorem still_end {u : List Nat} {f x : Nat} : ¬ Still u f u.length x := by
  rintro ⟨hx, hno⟩
  obtain ⟨i, hi, rfl⟩ := List.getElem_of_mem hx
  -- the number a with (a + f) % t = i
  have hpos : 0 < u.length := by omega
  refine hno ((i + (u.length - f % u.length)) % u.length) (Nat.mod_lt _ hpos) ?_
  have hf := Nat.mod_lt f hpos
  have e : ((i + (u.length - f % u.length)) % u.length + f) % u.length = i := by
    rw [Nat.mod_add_mod]
    have h2 := Nat.div_add_mod f u.length
    have : i + (u.length - f % u.length) + f = i + u.length * (f / u.length + 1) := by
      rw [Nat.mul_add]; omega
    rw [this, Nat.add_mul_mod_self_left, Nat.mod_eq_of_lt hi]
  rw [e]
  exact List.getElem?_eq_getElem hi
end Go.Proofs.YtohaoeilodebmaaDoor

namespace Go.Proofs.YtohaoeilodebmaaDoor
open Go.Maps

/-- The address of a page. -/
def pag (p : Nat) : Int := ((p * 1024 : Nat) : Int)
theorem pag_one {p q : Nat} (h : pag p = pag q) : p = q := by unfold pag at h; omega
structure Says (D : DataW Unit) (S : Nat → Prop) (sb : Nat → Nat) : Prop where
  key : ∀ a : Int, Maps.has D (.int .i64 a) = true ↔ ∃ p, S p ∧ a = pag p
  val : ∀ p, S p → ∀ z, D.atKey (.int .i64 (pag p)) z = .lit (.int .i64 (sb p : Int))
theorem Says.non {D : DataW Unit} {S : Nat → Prop} {sb : Nat → Nat} (h : Says D S sb) {a : Int} (ha : ∀ p, S p → a ≠ pag p) (z : DataW Unit) : D.atKey (.int .i64 a) z = z := by
  refine atKey_of_not_has ?_ z
  cases e : Maps.has D (.int .i64 a) with
  | false => rfl
  | true =>
    obtain ⟨p, hp, e2⟩ := (h.key a).1 e
    exact absurd e2 (ha p hp)
/-- What a look-up finds: the block of the slab that begins there, or nil. -/
theorem Says.look {D : DataW Unit} {S : Nat → Prop} {sb : Nat → Nat} (h : Says D S sb) {a : Int} {s : Option Nat} (hs : match s with | none => D.atKey (.int .i64 a) .nil = .nil | some s => D.atKey (.int .i64 a) .nil = .lit (.int .i64 (s : Int))) :
    (s = none ∧ ∀ p, S p → a ≠ pag p) ∨ ∃ p, S p ∧ a = pag p ∧ s = some (sb p) := by
  by_cases e : ∃ p, S p ∧ a = pag p
  · obtain ⟨p, hp, rfl⟩ := e
    right
    refine ⟨p, hp, rfl, ?_⟩
    have hv := h.val p hp .nil
    cases s with
    | none => rw [hv] at hs; cases hs
    | some b =>
      rw [hv] at hs
      have : (sb p : Int) = (b : Int) := by simpa using hs
      rw [Option.some.injEq]; omega
  · left
    have hno : ∀ p, S p → a ≠ pag p := fun p hp e2 => e ⟨p, hp, e2⟩
    refine ⟨?_, hno⟩
    have hv := h.non hno .nil
    cases s with
    | none => rfl
    | some b => rw [hv] at hs; cases hs
theorem Says.start : Says (.map []) (fun _ => False) (fun _ => 0) := ⟨fun a => by simp [Maps.has_eq], fun p h => h.elim⟩
theorem Says.congr {D : DataW Unit} {S S' : Nat → Prop} {sb sb' : Nat → Nat} (h : Says D S sb) (hS : ∀ p, S' p ↔ S p) (hb : ∀ p, S p → sb' p = sb p) : Says D S' sb' :=
  ⟨fun a => (h.key a).trans ⟨fun ⟨p, hp, e⟩ => ⟨p, (hS p).2 hp, e⟩, fun ⟨p, hp, e⟩ => ⟨p, (hS p).1 hp, e⟩⟩, fun p hp z => by rw [hb p ((hS p).1 hp)]; exact h.val p ((hS p).1 hp) z⟩
theorem Says.put {D : DataW Unit} {S : Nat → Prop} {sb : Nat → Nat} (h : Says D S sb) (hD : IsMap D) (p b : Nat) : Says (D.put (.int .i64 (pag p)) (.lit (.int .i64 (b : Int)))) (fun q => S q ∨ q = p) (Go.Proofs.YtohaoeilodebmaaDoor.put sb p b) := by
  refine ⟨fun a => ?_, fun q hq z => ?_⟩
  · by_cases e : a = pag p
    · subst e
      rw [has_put_same (k := .int .i64 (pag p)) hD trivial]
      exact ⟨fun _ => ⟨p, .inr rfl, rfl⟩, fun _ => rfl⟩
    · rw [has_put_other (by simpa using e), h.key]
      constructor
      · rintro ⟨q, hq, rfl⟩
        exact ⟨q, .inl hq, rfl⟩
      · rintro ⟨q, hq | rfl, rfl⟩
        · exact ⟨q, hq, rfl⟩
        · exact absurd rfl e
  · by_cases e : q = p
    · subst e
      rw [put_at]
      exact atKey_put_same (k := .int .i64 (pag q)) hD trivial _ _
    · rw [put_ne _ e, atKey_put_other (by
        intro e2
        have : pag q = pag p := by simpa using e2
        exact e (pag_one this))]
      rcases hq with hq | hq
      · exact h.val q hq z
      · exact absurd hq e
theorem Says.del {D : DataW Unit} {S : Nat → Prop} {sb : Nat → Nat} (h : Says D S sb) (p : Nat) : Says (D.del (.int .i64 (pag p))) (fun q => S q ∧ q ≠ p) sb := by
  refine ⟨fun a => ?_, fun q hq z => ?_⟩
  · by_cases e : a = pag p
    · subst e
      rw [has_del_same]
      constructor
      · intro h; cases h
      · rintro ⟨q, ⟨_, hne⟩, e2⟩
        exact absurd (pag_one e2).symm hne
    · rw [has_del_other (by simpa using e), h.key]
      constructor
      · rintro ⟨q, hq, rfl⟩
        exact ⟨q, ⟨hq, fun e2 => e (by rw [e2])⟩, rfl⟩
      · rintro ⟨q, hq, rfl⟩
        exact ⟨q, hq.1, rfl⟩
  · rw [atKey_del_other (by
      intro e2
      have : pag q = pag p := by simpa using e2
      exact hq.2 (pag_one this))]
    exact h.val q hq.1 z

/-- Where an address lies: in which page, and how far behind the page's head; what find asks. -/
theorem find_at {sz m : Nat} (h0 : 0 < sz) (hsz : 64 + m * sz ≤ 1024) {p i : Nat} (hi : i < m) : (pag p + 64 + (i * sz : Nat)) % 1024 = 64 + ((i * sz : Nat) : Int) ∧ (pag p + 64 + (i * sz : Nat)) - (pag p + 64 + (i * sz : Nat)) % 1024 = pag p ∧ ((i * sz : Nat) : Int) % (sz : Int) = 0 ∧ ((i * sz : Nat) : Int) / (sz : Int) = (i : Int) := by
  have h1 := (place_in (p := p) hsz hi).1
  have e1 : (pag p + 64 + (i * sz : Nat)) % 1024 = 64 + ((i * sz : Nat) : Int) := by unfold pag; omega
  refine ⟨e1, by rw [e1]; omega, ?_, ?_⟩
  · rw [Int.natCast_mul]; exact Int.mul_emod_left _ _
  · rw [Int.natCast_mul]; exact Int.mul_ediv_cancel _ (by omega)
end Go.Proofs.YtohaoeilodebmaaDoor

namespace Go.Proofs.YtohaoeilodebmaaDoor

/-- Slabs are used blocks of one page; places have numbers below m. -/
structure Fit (B : St) (U : Pls) (m n : Nat) : Prop where
  page : ∀ p, Slb U m p → B 0 p = .used ∧ p < n
  inn : ∀ p i, U p i = true → i < m
/-- A page that was taken is no slab of anybody who keeps to used blocks. -/
theorem Fit.new {B : St} {U : Pls} {m n p : Nat} (h : Fit B U m n) (hp : B 0 p ≠ .used) : ¬ Slb U m p := fun hs => hp (h.page p hs).1
theorem Fit.more {B B' : St} {U : Pls} {m n : Nat} (h : Fit B U m n) (hB : ∀ p, B 0 p = .used → B' 0 p = .used) : Fit B' U m n := ⟨fun p hp => ⟨hB p (h.page p hp).1, (h.page p hp).2⟩, h.inn⟩
/-- A place more, on a slab or on a page that was just taken. -/
theorem Fit.take {B : St} {U : Pls} {m n p i : Nat} (h : Fit B U m n) (hi : i < m) (hp : B 0 p = .used ∧ p < n) : Fit B (setU U p i true) m n := by
  refine ⟨fun q hq => ?_, fun q j hu => ?_⟩
  · by_cases e : q = p
    · subst e; exact hp
    · exact h.page q ((slb_other true e).1 hq)
  · by_cases e : q = p ∧ j = i
    · rw [e.2]; exact hi
    · rw [setU_ne U true e] at hu; exact h.inn q j hu
theorem slb_off {U : Pls} {m p i q : Nat} (h : Slb (setU U p i false) m q) : Slb U m q := by
  obtain ⟨j, hj, hu⟩ := h
  by_cases e : q = p ∧ j = i
  · obtain ⟨rfl, rfl⟩ := e; rw [setU_same] at hu; cases hu
  · rw [setU_ne U false e] at hu; exact ⟨j, hj, hu⟩
/-- A place less; the page may go with the last one. -/
theorem Fit.give {B B' : St} {U : Pls} {m n p i : Nat} (h : Fit B U m n) (hB : ∀ q, Slb (setU U p i false) m q → B 0 q = .used → B' 0 q = .used) : Fit B' (setU U p i false) m n := by
  refine ⟨fun q hq => ?_, fun q j hu => ?_⟩
  · have := h.page q (slb_off hq)
    exact ⟨hB q hq this.1, this.2⟩
  · by_cases e : q = p ∧ j = i
    · obtain ⟨rfl, rfl⟩ := e; rw [setU_same] at hu; cases hu
    · rw [setU_ne U false e] at hu; exact h.inn q j hu

/-- Two caches have no page in common. -/
def Apart2 (U V : Pls) (m m' : Nat) : Prop := ∀ p, ¬ (Slb U m p ∧ Slb V m' p)
theorem Apart2.symm {U V : Pls} {m m' : Nat} (h : Apart2 U V m m') : Apart2 V U m' m := fun p hp => h p ⟨hp.2, hp.1⟩
theorem Apart2.take {U V : Pls} {m m' p i : Nat} (h : Apart2 U V m m') (hp : Slb U m p ∨ ¬ Slb V m' p) : Apart2 (setU U p i true) V m m' := by
  rintro q ⟨h1, h2⟩
  by_cases e : q = p
  · subst e
    rcases hp with hp | hp
    · exact h q ⟨hp, h2⟩
    · exact hp h2
  · exact h q ⟨(slb_other true e).1 h1, h2⟩
theorem Apart2.give {U V : Pls} {m m' p i : Nat} (h : Apart2 U V m m') : Apart2 (setU U p i false) V m m' := fun q hq => h q ⟨slb_off hq.1, hq.2⟩

/-- An address lies in the head of a page, or in a place. -/
def InHead (p x : Nat) : Prop := p * 1024 ≤ x ∧ x < p * 1024 + 64
def InPlace (sz p i x : Nat) : Prop := place sz p i ≤ x ∧ x < place sz p i + sz
theorem head_head {p q x : Nat} (h1 : InHead p x) (h2 : InHead q x) : p = q := by
  obtain ⟨a1, a2⟩ := h1
  obtain ⟨b1, b2⟩ := h2
  omega
theorem place_page {sz m p i x : Nat} (hsz : 64 + m * sz ≤ 1024) (hi : i < m) (h : InPlace sz p i x) : p * 1024 + 64 ≤ x ∧ x < p * 1024 + 1024 := by
  have h1 := (place_in (p := p) hsz hi).2
  obtain ⟨a1, a2⟩ := h
  have h2 : p * 1024 + 64 ≤ place sz p i := by unfold place; exact Nat.le_add_right _ _
  clear hsz
  omega
theorem head_place {sz m p q i x : Nat} (hsz : 64 + m * sz ≤ 1024) (hi : i < m) (h1 : InHead p x) (h2 : InPlace sz q i x) : False := by
  obtain ⟨a1, a2⟩ := place_page hsz hi h2
  obtain ⟨b1, b2⟩ := h1
  clear hsz
  omega
theorem place_place {sz m sz' m' p q i j x : Nat} (hsz : 64 + m * sz ≤ 1024) (hsz' : 64 + m' * sz' ≤ 1024) (hi : i < m) (hj : j < m') (h1 : InPlace sz p i x) (h2 : InPlace sz' q j x) : p = q := by
  obtain ⟨a1, a2⟩ := place_page hsz hi h1
  obtain ⟨b1, b2⟩ := place_page hsz' hj h2
  clear hsz hsz'
  omega
theorem place_same {sz m p i j x : Nat} (hsz : 64 + m * sz ≤ 1024) (hi : i < m) (hj : j < m) (h1 : InPlace sz p i x) (h2 : InPlace sz p j x) : i = j := by
  have g1 := (place_in (p := p) hsz hi).1
  have g2 := (place_in (p := p) hsz hj).1
  unfold InPlace place at *
  rcases Nat.lt_trichotomy i j with h | h | h
  · have := Nat.mul_le_mul_right sz (show i + 1 ≤ j by omega)
    rw [Nat.add_mul, Nat.one_mul] at this
    omega
  · exact h
  · have := Nat.mul_le_mul_right sz (show j + 1 ≤ i by omega)
    rw [Nat.add_mul, Nat.one_mul] at this
    omega
end Go.Proofs.YtohaoeilodebmaaDoor

namespace Go.Proofs.YtohaoeilodebmaaDoor

theorem up_ext : ∀ {l l' : List Nat}, l.Pairwise (· < ·) → l'.Pairwise (· < ·) → (∀ x, x ∈ l ↔ x ∈ l') → l = l'
  | [], [], _, _, _ => rfl
  | [], y :: r, _, _, h => by have := (h y).2 (by simp); cases this
  | x :: r, [], _, _, h => by have := (h x).1 (by simp); cases this
  | x :: r, y :: r', h1, h2, h => by
    rw [List.pairwise_cons] at h1 h2
    have e : x = y := by
      rcases List.mem_cons.1 ((h x).1 (by simp)) with e | e
      · exact e
      · rcases List.mem_cons.1 ((h y).2 (by simp)) with e2 | e2
        · exact e2.symm
        · have := h1.1 y e2
          have := h2.1 x e
          omega
    subst e
    congr 1
    refine up_ext h1.2 h2.2 (fun z => ⟨fun hz => ?_, fun hz => ?_⟩)
    · rcases List.mem_cons.1 ((h z).1 (by simp [hz])) with e | e
      · have := h1.1 z hz; omega
      · exact e
    · rcases List.mem_cons.1 ((h z).2 (by simp [hz])) with e | e
      · have := h2.1 z hz; omega
      · exact e

/-- The place at which a number is put: all ahead of it are less, all from it on are greater. -/
def PutAt (l : List Nat) (x t : Nat) : Prop := t ≤ l.length ∧ (∀ j y, j < t → l[j]? = some y → y < x) ∧ ∀ j y, t ≤ j → l[j]? = some y → x < y
def insAt (l : List Nat) (x t : Nat) : List Nat := l.take t ++ x :: l.drop t
theorem insAt_mem {l : List Nat} {x t y : Nat} : y ∈ insAt l x t ↔ y ∈ l ∨ y = x := by
  have e : y ∈ l ↔ y ∈ l.take t ∨ y ∈ l.drop t := by
    conv => lhs; rw [← List.take_append_drop t l]
    exact List.mem_append
  unfold insAt
  rw [List.mem_append, List.mem_cons, e]
  constructor
  · rintro (h | rfl | h)
    · exact .inl (.inl h)
    · exact .inr rfl
    · exact .inl (.inr h)
  · rintro ((h | h) | rfl)
    · exact .inl h
    · exact .inr (.inr h)
    · exact .inr (.inl rfl)
theorem insAt_up {l : List Nat} {x t : Nat} (h : l.Pairwise (· < ·)) (ht : PutAt l x t) : (insAt l x t).Pairwise (· < ·) := by
  have h1 : ∀ y ∈ l.take t, y < x := fun y hy => by
    obtain ⟨j, hj, rfl⟩ := List.getElem_of_mem hy
    have hj' : j < t := by rw [List.length_take] at hj; omega
    exact ht.2.1 j _ hj' (by rw [← List.getElem?_eq_getElem hj, List.getElem?_take_of_lt hj'])
  have h2 : ∀ y ∈ l.drop t, x < y := fun y hy => by
    obtain ⟨j, hj, rfl⟩ := List.getElem_of_mem hy
    exact ht.2.2 (t + j) _ (by omega) (by rw [← List.getElem?_drop, List.getElem?_eq_getElem hj])
  have hs : (l.take t ++ l.drop t).Pairwise (· < ·) := by rw [List.take_append_drop]; exact h
  rw [List.pairwise_append] at hs
  unfold insAt
  rw [List.pairwise_append, List.pairwise_cons]
  refine ⟨hs.1, ⟨h2, hs.2.1⟩, fun a ha b hb => ?_⟩
  rcases List.mem_cons.1 hb with rfl | hb
  · exact h1 a ha
  · exact hs.2.2 a ha b hb
/-- Put into a rising list: the rising list of one more. -/
theorem ins_is {l l' : List Nat} {x t : Nat} (h : l.Pairwise (· < ·)) (h' : l'.Pairwise (· < ·)) (ht : PutAt l x t) (hm : ∀ y, y ∈ l' ↔ y ∈ l ∨ y = x) : insAt l x t = l' :=
  up_ext (insAt_up h ht) h' (fun y => by rw [insAt_mem, hm])
/-- Cut out of it: the rising list of one less. -/
theorem cut_is {l l' : List Nat} {x : Nat} (h : l.Pairwise (· < ·)) (h' : l'.Pairwise (· < ·)) (hm : ∀ y, y ∈ l' ↔ y ∈ l ∧ y ≠ x) : l.filter (fun y => decide (y ≠ x)) = l' :=
  up_ext (h.filter _) h' (fun y => by rw [List.mem_filter, hm]; simp)

/-- Where slabs begin. -/
def slabsOf (U : Pls) (m n : Nat) : List Nat := (pagesOf U m n).map (· * 1024)
theorem slabsOf_mem {U : Pls} {m n x : Nat} : x ∈ slabsOf U m n ↔ ∃ p, p < n ∧ Slb U m p ∧ x = p * 1024 := by
  unfold slabsOf
  rw [List.mem_map]
  exact ⟨fun ⟨p, hp, e⟩ => ⟨p, (pagesOf_mem.1 hp).1, (pagesOf_mem.1 hp).2, e.symm⟩, fun ⟨p, h1, h2, e⟩ => ⟨p, pagesOf_mem.2 ⟨h1, h2⟩, e.symm⟩⟩
theorem slabsOf_up (U : Pls) (m n : Nat) : (slabsOf U m n).Pairwise (· < ·) := by
  unfold slabsOf
  rw [List.pairwise_map]
  exact (ones_up _ n).imp (fun h => by omega)

section
variable {U : Pls} {m n sz p i : Nat}
theorem used_on (hi : i < m) (hp : p < n) (x : Nat) : x ∈ usedOf (setU U p i true) sz m n ↔ x ∈ usedOf U sz m n ∨ x = place sz p i := by
  rw [usedOf_mem, usedOf_mem]
  constructor
  · rintro ⟨q, j, hq, hj, hu, rfl⟩
    by_cases e : q = p ∧ j = i
    · right; rw [e.1, e.2]
    · rw [setU_ne U true e] at hu
      exact .inl ⟨q, j, hq, hj, hu, rfl⟩
  · rintro (⟨q, j, hq, hj, hu, rfl⟩ | rfl)
    · refine ⟨q, j, hq, hj, ?_, rfl⟩
      by_cases e : q = p ∧ j = i
      · rw [e.1, e.2, setU_same]
      · rw [setU_ne U true e]; exact hu
    · exact ⟨p, i, hp, hi, setU_same _ _ _ _, rfl⟩
theorem slabs_on (hi : i < m) (hp : p < n) (x : Nat) : x ∈ slabsOf (setU U p i true) m n ↔ x ∈ slabsOf U m n ∨ x = p * 1024 := by
  rw [slabsOf_mem, slabsOf_mem]
  constructor
  · rintro ⟨q, hq, hs, rfl⟩
    by_cases e : q = p
    · right; rw [e]
    · exact .inl ⟨q, hq, (slb_other true e).1 hs, rfl⟩
  · rintro (⟨q, hq, hs, rfl⟩ | rfl)
    · refine ⟨q, hq, ?_, rfl⟩
      by_cases e : q = p
      · rw [e]; exact slb_on hi
      · exact (slb_other true e).2 hs
    · exact ⟨p, hp, slb_on hi, rfl⟩
theorem slabs_off (hlast : ¬ Slb (setU U p i false) m p) (x : Nat) : x ∈ slabsOf (setU U p i false) m n ↔ x ∈ slabsOf U m n ∧ x ≠ p * 1024 := by
  rw [slabsOf_mem, slabsOf_mem]
  constructor
  · rintro ⟨q, hq, hs, rfl⟩
    have e : q ≠ p := fun e => hlast (by rw [e] at hs; exact hs)
    exact ⟨⟨q, hq, slb_off hs, rfl⟩, by omega⟩
  · rintro ⟨⟨q, hq, hs, rfl⟩, hne⟩
    exact ⟨q, hq, (slb_other false (fun e => hne (by rw [e]))).2 hs, rfl⟩
theorem slabs_same (hs : Slb U m p) (b : Bool) (hn : Slb (setU U p i b) m p) : slabsOf (setU U p i b) m n = slabsOf U m n := by
  refine up_ext (slabsOf_up _ _ _) (slabsOf_up _ _ _) (fun x => ?_)
  rw [slabsOf_mem, slabsOf_mem]
  constructor
  · rintro ⟨q, hq, h, rfl⟩
    by_cases e : q = p
    · exact ⟨q, hq, by rw [e]; exact hs, rfl⟩
    · exact ⟨q, hq, (slb_other b e).1 h, rfl⟩
  · rintro ⟨q, hq, h, rfl⟩
    by_cases e : q = p
    · exact ⟨q, hq, by rw [e]; exact hn, rfl⟩
    · exact ⟨q, hq, (slb_other b e).2 h, rfl⟩
/-- Whether a place is used, by the list. -/
theorem used_is (h0 : 0 < sz) (hsz : 64 + m * sz ≤ 1024) (hp : p < n) (hi : i < m) : place sz p i ∈ usedOf U sz m n ↔ U p i = true := by
  rw [usedOf_mem]
  constructor
  · rintro ⟨q, j, _, hj, hu, e⟩
    obtain ⟨rfl, rfl⟩ := place_one h0 hsz hi hj e
    exact hu
  · intro hu
    exact ⟨p, i, hp, hi, hu, rfl⟩
end
end Go.Proofs.YtohaoeilodebmaaDoor

namespace Go.Proofs.YtohaoeilodebmaaDoor

section
variable {U : Pls} {m n : Nat}
/-- The slabs ahead of the j-th are full. -/
def FullTo (U : Pls) (m n j : Nat) : Prop := ∀ a p, a < j → (slabsOf U m n)[a]? = some (p * 1024) → ∀ i, i < m → U p i = true
theorem slab_at {j x : Nat} (h : (slabsOf U m n)[j]? = some x) : ∃ p, x = p * 1024 ∧ p < n ∧ Slb U m p := by
  obtain ⟨p, h1, h2, e⟩ := slabsOf_mem.1 (List.mem_of_getElem? h)
  exact ⟨p, e, h1, h2⟩
theorem slab_lt {a b x y : Nat} (hab : a < b) (ha : (slabsOf U m n)[a]? = some x) (hb : (slabsOf U m n)[b]? = some y) : x < y := by
  obtain ⟨h1, rfl⟩ := List.getElem?_eq_some_iff.1 ha
  obtain ⟨h2, rfl⟩ := List.getElem?_eq_some_iff.1 hb
  exact List.pairwise_iff_getElem.1 (slabsOf_up U m n) a b h1 h2 hab
/-- Found: the lowest free place of the lowest open page. -/
theorem take_found (hF : ∀ p, Slb U m p → p < n) {j p i : Nat} (hj : (slabsOf U m n)[j]? = some (p * 1024)) (hfull : FullTo U m n j) (hi : i < m) (hfree : U p i = false) (hlow : ∀ k, k < i → U p k = true) : Taken U (setU U p i true) m p i := by
  obtain ⟨p', e, _, hs⟩ := slab_at hj
  obtain rfl : p = p' := by omega
  refine ⟨hi, hfree, hlow, rfl, .inl ⟨hs, fun q hq => ?_⟩⟩
  obtain ⟨hqs, k, hk, hkf⟩ := hq
  obtain ⟨b, hb, e2⟩ := List.getElem_of_mem (slabsOf_mem.2 ⟨q, hF q hqs, hqs, rfl⟩)
  have hb' : (slabsOf U m n)[b]? = some (q * 1024) := by rw [List.getElem?_eq_getElem hb, e2]
  rcases Nat.lt_trichotomy b j with h | h | h
  · have := hfull b q h hb' k hk
    rw [hkf] at this; cases this
  · subst h
    rw [hj] at hb'
    have := Option.some.inj hb'
    omega
  · have := slab_lt h hj hb'
    omega
/-- Not found: no page is open. -/
theorem take_none (hF : ∀ p, Slb U m p → p < n) (hfull : FullTo U m n (slabsOf U m n).length) (q : Nat) : ¬ Opened U m q := by
  rintro ⟨hqs, k, hk, hkf⟩
  obtain ⟨b, hb, e2⟩ := List.getElem_of_mem (slabsOf_mem.2 ⟨q, hF q hqs, hqs, rfl⟩)
  have := hfull b q hb (by rw [List.getElem?_eq_getElem hb, e2]) k hk
  rw [hkf] at this; cases this
/-- What is taken is told by what is used, but for a new page. -/
theorem Taken.det {U' U'' : Pls} {p i p' i' : Nat} (h : Taken U U' m p i) (h' : Taken U U'' m p' i') (hnew : (∀ q, ¬ Opened U m q) → p = p') : p = p' ∧ i = i' ∧ U' = U'' := by
  have e : p = p' := by
    rcases h.page with ⟨hs, hl⟩ | ⟨hn, _⟩
    · have ho : Opened U m p := ⟨hs, i, h.lt, h.free⟩
      rcases h'.page with ⟨hs', hl'⟩ | ⟨hn', _⟩
      · have ho' : Opened U m p' := ⟨hs', i', h'.lt, h'.free⟩
        have := hl p' ho'
        have := hl' p ho
        omega
      · exact absurd ho (hn' p)
    · exact hnew hn
  subst e
  have e2 : i = i' := by
    rcases Nat.lt_trichotomy i i' with hlt | hlt | hlt
    · have := h'.low i hlt
      rw [h.free] at this; cases this
    · exact hlt
    · have := h.low i' hlt
      rw [h'.free] at this; cases this
  subst e2
  exact ⟨rfl, rfl, by rw [h.now, h'.now]⟩
/-- Whether a page goes with the last place on it. -/
theorem last_iff {p i : Nat} : Slb (setU U p i false) m p ↔ ∃ k, k < m ∧ k ≠ i ∧ U p k = true := by
  constructor
  · rintro ⟨k, hk, hu⟩
    by_cases e : k = i
    · subst e; rw [setU_same] at hu; cases hu
    · rw [setU_ne U false (fun h => e h.2)] at hu
      exact ⟨k, hk, e, hu⟩
  · rintro ⟨k, hk, hne, hu⟩
    exact ⟨k, hk, by rw [setU_ne U false (fun h => hne h.2)]; exact hu⟩
/-- .. by the count that the program holds it against. -/
theorem last_cnt {p i : Nat} : Slb (setU U p i false) m p ↔ 0 < cnt (setU U p i false p) m := slb_cnt _ _ _
/-- A page of which all places but one are used, and that one is taken, is full; the program asks for a free one. -/
theorem full_iff {f : Nat → Bool} : cnt f m = m ↔ ∀ i, i < m → f i = true := by
  induction m with
  | zero => simp [cnt]
  | succ m ih =>
    have hle := cnt_le f m
    show cnt f m + (f m).toNat = m + 1 ↔ _
    constructor
    · intro h i hi
      have hb : (f m).toNat ≤ 1 := by cases f m <;> simp
      have h1 : cnt f m = m := by omega
      have h2 : (f m).toNat = 1 := by omega
      by_cases e : i = m
      · subst e
        cases hf : f i with
        | true => rfl
        | false => rw [hf] at h2; cases h2
      · exact ih.1 h1 i (by omega)
    · intro h
      rw [ih.2 (fun i hi => h i (by omega)), h m (by omega)]
      rfl
end
end Go.Proofs.YtohaoeilodebmaaDoor
