/- Lists of blocks by rising pages, what they cover, and how many pages blocks have together. No program is named here. -/
import Derived.Test.YtohaoeilodebmaaDoorM
namespace Go.Proofs.YtohaoeilodebmaaDoor

abbrev Rise (L : List (Nat × Nat)) : Prop := L.Pairwise (fun a b => a.1 < b.1)
/-- The list has just the blocks of that kind, by rising pages. -/
structure Lst (B : St) (x : Kind) (L : List (Nat × Nat)) : Prop where
  rise : Rise L
  mem : ∀ p k, (p, k) ∈ L ↔ ∃ i, p = i * 2 ^ k ∧ B k i = x

theorem rise_ext : ∀ {L M : List (Nat × Nat)}, Rise L → Rise M → (∀ a, a ∈ L ↔ a ∈ M) → L = M
  | [], [], _, _, _ => rfl
  | [], b :: M, _, _, h => by have := (h b).2 (by simp); cases this
  | a :: L, [], _, _, h => by have := (h a).1 (by simp); cases this
  | a :: L, b :: M, hL, hM, h => by
    have hL' := List.pairwise_cons.1 hL
    have hM' := List.pairwise_cons.1 hM
    have e : a = b := by
      rcases List.mem_cons.1 ((h a).1 (by simp)) with e | e
      · exact e
      · rcases List.mem_cons.1 ((h b).2 (by simp)) with e' | e'
        · exact e'.symm
        · have := hM'.1 a e; have := hL'.1 b e'; omega
    subst e
    refine congrArg (a :: ·) (rise_ext hL'.2 hM'.2 fun c => ⟨fun hc => ?_, fun hc => ?_⟩)
    · rcases List.mem_cons.1 ((h c).1 (by simp [hc])) with e | e
      · subst e; have := hL'.1 c hc; omega
      · exact e
    · rcases List.mem_cons.1 ((h c).2 (by simp [hc])) with e | e
      · subst e; have := hM'.1 c hc; omega
      · exact e

theorem Lst.ext {A B : St} {x : Kind} {L M : List (Nat × Nat)} (hL : Lst A x L) (hM : Lst B x M) (h : ∀ k i, A k i = x ↔ B k i = x) : L = M :=
  rise_ext hL.rise hM.rise fun ⟨p, k⟩ => by
    rw [hL.mem, hM.mem]
    exact exists_congr fun i => and_congr_right fun _ => h k i

/-- How far lists cover: up to the page p, by the first i and j. -/
structure Cov (B : St) (F U : List (Nat × Nat)) (p i j : Nat) : Prop where
  il : i ≤ F.length
  jl : j ≤ U.length
  fl : ∀ x ∈ F.take i, x.1 < p
  fr : ∀ x ∈ F.drop i, p ≤ x.1
  ul : ∀ x ∈ U.take j, x.1 < p
  ur : ∀ x ∈ U.drop j, p ≤ x.1
  edge : ∀ k n, B k n ≠ .no → n * 2 ^ k < p → n * 2 ^ k + 2 ^ k ≤ p

theorem Cov.start (B : St) (F U : List (Nat × Nat)) : Cov B F U 0 0 0 :=
  ⟨Nat.zero_le _, Nat.zero_le _, fun x h => by simp at h, fun x _ => Nat.zero_le _, fun x h => by simp at h, fun x _ => Nat.zero_le _, fun k n _ h => by omega⟩

theorem head_of {L : List (Nat × Nat)} (h : Rise L) {p k i : Nat} (hm : (p, k) ∈ L) (hl : ∀ x ∈ L.take i, x.1 < p) (hr : ∀ x ∈ L.drop i, p ≤ x.1) :
    L[i]? = some (p, k) ∧ ∀ x ∈ L.drop (i + 1), p < x.1 := by
  have hd : (p, k) ∈ L.drop i := by
    rw [← List.take_append_drop i L] at hm
    rcases List.mem_append.1 hm with h1 | h1
    · have := hl _ h1; simp at this
    · exact h1
  have hs : Rise (L.drop i) := List.Pairwise.sublist (List.drop_sublist i L) h
  have e0 : (L.drop i)[0]? = L[i]? := by rw [List.getElem?_drop]; rfl
  have e1 : L.drop (i + 1) = (L.drop i).drop 1 := by rw [List.drop_drop]
  rw [← e0, e1]
  match hL : L.drop i with
  | [] => rw [hL] at hd; cases hd
  | a :: r =>
    rw [hL] at hd hs hr
    have hs' := List.pairwise_cons.1 hs
    have hap := hr a (by simp)
    rcases List.mem_cons.1 hd with e | e
    · subst e
      exact ⟨rfl, fun x hx => hs'.1 x (by simpa using hx)⟩
    · have := hs'.1 _ e
      simp at this
      omega

theorem pow_split {K k : Nat} (h : k ≤ K) : 2 ^ K = 2 ^ (K - k) * 2 ^ k := by rw [← Nat.pow_add]; congr 1; omega

theorem take_next {L : List (Nat × Nat)} {i : Nat} {a : Nat × Nat} (h : L[i]? = some a) : ∀ x ∈ L.take (i + 1), x ∈ L.take i ∨ x = a := by
  intro x hx
  have hlt : i < L.length := (List.getElem?_eq_some_iff.1 h).1
  rw [List.take_succ_eq_append_getElem hlt] at hx
  rcases List.mem_append.1 hx with h1 | h1
  · exact .inl h1
  · refine .inr ?_
    have := (List.getElem?_eq_some_iff.1 h).2
    simpa [this] using h1

theorem block_lt {K : Nat} {B : St} (h : Inv K B) {k i : Nat} (hb : B k i ≠ .no) : i * 2 ^ k + 2 ^ k ≤ 2 ^ K := by
  obtain ⟨hk, hi⟩ := h.inn k i hb
  rw [pow_split hk, ← Nat.succ_mul]
  exact Nat.mul_le_mul_right _ hi
theorem div_of_in {p n k : Nat} (h1 : n * 2 ^ k ≤ p) (h2 : p < n * 2 ^ k + 2 ^ k) : p / 2 ^ k = n := by
  rw [← Nat.succ_mul] at h2
  have hpos := Nat.two_pow_pos k
  apply Nat.le_antisymm
  · have := (Nat.div_lt_iff_lt_mul hpos).2 h2; omega
  · exact (Nat.le_div_iff_mul_le hpos).2 h1

theorem cov_step {K : Nat} {B : St} {F U : List (Nat × Nat)} (h : Inv K B) (hn : NoHeld B) (hF : Lst B .free F) (hU : Lst B .used U) {p i j : Nat} (hc : Cov B F U p i j) (hp : p < 2 ^ K) :
    (∃ k, F[i]? = some (p, k) ∧ k ≤ K ∧ p + 2 ^ k ≤ 2 ^ K ∧ Cov B F U (p + 2 ^ k) (i + 1) j) ∨
    ((∀ q k, F[i]? = some (q, k) → q ≠ p) ∧ ∃ k, U[j]? = some (p, k) ∧ k ≤ K ∧ p + 2 ^ k ≤ 2 ^ K ∧ Cov B F U (p + 2 ^ k) i (j + 1)) := by
  obtain ⟨k, hk⟩ := h.all p hp
  obtain ⟨n, hnn⟩ : ∃ n, p / 2 ^ k = n := ⟨_, rfl⟩
  rw [hnn] at hk
  have hpos := Nat.two_pow_pos k
  have hle : n * 2 ^ k ≤ p := by rw [← hnn]; exact Nat.div_mul_le_self _ _
  have hlt : p < n * 2 ^ k + 2 ^ k := by
    rw [← Nat.succ_mul]
    have := (Nat.div_lt_iff_lt_mul hpos).1 (by omega : p / 2 ^ k < n + 1)
    exact this
  have hst : n * 2 ^ k = p := by
    apply Decidable.byContradiction
    intro hne
    have := hc.edge k n hk (by omega)
    omega
  have hkK := (h.inn k n hk).1
  have hend := block_lt h hk
  rw [hst] at hend
  -- whoever begins within the block is the block
  have same : ∀ k' n', B k' n' ≠ .no → p ≤ n' * 2 ^ k' → n' * 2 ^ k' < p + 2 ^ k → k' = k ∧ n' = n := by
    intro k' n' hb h1 h2
    have e := h.at_ (p := n' * 2 ^ k') hk (div_of_in (by omega) (by omega)) (by rw [Nat.mul_div_cancel _ (Nat.two_pow_pos _)]; exact hb)
    subst e
    refine ⟨rfl, ?_⟩
    have e := div_of_in (p := n' * 2 ^ k') (n := n) (k := k') (by omega) (by omega)
    rwa [Nat.mul_div_cancel _ (Nat.two_pow_pos _)] at e
  have hedge : ∀ k' n', B k' n' ≠ .no → n' * 2 ^ k' < p + 2 ^ k → n' * 2 ^ k' + 2 ^ k' ≤ p + 2 ^ k := by
    intro k' n' hb h1
    by_cases h2 : n' * 2 ^ k' < p
    · have := hc.edge k' n' hb h2; omega
    · obtain ⟨rfl, rfl⟩ := same k' n' hb (by omega) h1
      omega
  -- elements of a list that stand from p on, but aren't the block, stand behind it
  have behind : ∀ (x : Kind) (L : List (Nat × Nat)), x ≠ .no → Lst B x L → ∀ a ∈ L, p ≤ a.1 → (a.1 = p → B k n ≠ x) → p + 2 ^ k ≤ a.1 := by
    intro x L hx hL a ha h1 h2
    obtain ⟨q, k'⟩ := a
    obtain ⟨n', rfl, hb⟩ := (hL.mem q k').1 ha
    apply Decidable.byContradiction
    intro hlt2
    obtain ⟨rfl, rfl⟩ := same k' n' (by rw [hb]; exact hx) h1 (by omega)
    exact h2 hst hb
  have gt : ∀ (x : Kind) (L : List (Nat × Nat)), x ≠ .no → Lst B x L → ∀ a ∈ L, p < a.1 → p + 2 ^ k ≤ a.1 := by
    intro x L hx hL a ha h1
    exact behind x L hx hL a ha (by omega) (by omega)
  have hkind : B k n = .free ∨ B k n = .used := by
    have := hn k n
    revert hk this
    rcases Kind.each (B k n) with e | e | e | e <;> rw [e] <;> simp
  rcases hkind with hb | hb
  · left
    obtain ⟨h1, h2⟩ := head_of hF.rise ((hF.mem p k).2 ⟨n, hst.symm, hb⟩) hc.fl hc.fr
    have hlen := (List.getElem?_eq_some_iff.1 h1).1
    refine ⟨k, h1, hkK, hend, by omega, hc.jl, fun x hx => ?_, fun x hx => ?_, fun x hx => ?_, fun x hx => ?_, hedge⟩
    · rcases take_next h1 x hx with h3 | rfl
      · have := hc.fl x h3; omega
      · simp; omega
    · exact gt .free F (by simp) hF x (List.mem_of_mem_drop hx) (h2 x hx)
    · have := hc.ul x hx; omega
    · exact behind .used U (by simp) hU x (List.mem_of_mem_drop hx) (hc.ur x hx) (fun _ => by rw [hb]; simp)
  · right
    obtain ⟨h1, h2⟩ := head_of hU.rise ((hU.mem p k).2 ⟨n, hst.symm, hb⟩) hc.ul hc.ur
    have hlen := (List.getElem?_eq_some_iff.1 h1).1
    refine ⟨?_, k, h1, hkK, hend, hc.il, by omega, fun x hx => ?_, fun x hx => ?_, fun x hx => ?_, fun x hx => ?_, hedge⟩
    · intro q k' hq
      have hm : (q, k') ∈ F.drop i := by
        have : (F.drop i)[0]? = some (q, k') := by rw [List.getElem?_drop]; exact hq
        exact List.mem_of_getElem? this
      have := behind .free F (by simp) hF _ (List.mem_of_mem_drop hm) (hc.fr _ hm) (fun _ => by rw [hb]; simp)
      simp at this
      omega
    · have := hc.fl x hx; omega
    · exact behind .free F (by simp) hF x (List.mem_of_mem_drop hx) (hc.fr x hx) (fun _ => by rw [hb]; simp)
    · rcases take_next h1 x hx with h3 | rfl
      · have := hc.ul x h3; omega
      · simp; omega
    · exact gt .used U (by simp) hU x (List.mem_of_mem_drop hx) (h2 x hx)

theorem Lst.lt {K : Nat} {B : St} {x : Kind} {L : List (Nat × Nat)} (h : Inv K B) (hL : Lst B x L) (hx : x ≠ .no) {p k : Nat} (hm : (p, k) ∈ L) : k ≤ K ∧ p + 2 ^ k ≤ 2 ^ K := by
  obtain ⟨i, rfl, hb⟩ := (hL.mem p k).1 hm
  have hb' : B k i ≠ .no := by rw [hb]; exact hx
  exact ⟨(h.inn k i hb').1, block_lt h hb'⟩

theorem cov_end {K : Nat} {B : St} {F U : List (Nat × Nat)} (h : Inv K B) (hF : Lst B .free F) (hU : Lst B .used U) {i j : Nat} (hc : Cov B F U (2 ^ K) i j) : i = F.length ∧ j = U.length := by
  have key : ∀ (x : Kind) (L : List (Nat × Nat)) (n : Nat), x ≠ .no → Lst B x L → n ≤ L.length → (∀ a ∈ L.drop n, 2 ^ K ≤ a.1) → n = L.length := by
    intro x L n hx hL hn hd
    apply Decidable.byContradiction
    intro hne
    have hlt : n < L.length := by omega
    have hm : L[n] ∈ L.drop n := by
      have : (L.drop n)[0]? = some L[n] := by rw [List.getElem?_drop, Nat.add_zero, List.getElem?_eq_getElem hlt]
      exact List.mem_of_getElem? this
    have h1 := hd _ hm
    have h2 := (hL.lt h hx (p := L[n].1) (k := L[n].2) (List.mem_of_mem_drop hm)).2
    have := Nat.two_pow_pos L[n].2
    omega
  exact ⟨key .free F i (by simp) hF hc.il hc.fr, key .used U j (by simp) hU hc.jl hc.ur⟩

/-- No two free blocks of the list are buddies. -/
theorem apart {K : Nat} {B : St} {L : List (Nat × Nat)} (h : Inv K B) (hL : Lst B .free L) {p q k : Nat} (hp : (p, k) ∈ L) (hq : (q, k) ∈ L) (hne : p ≠ q) (hd : p / 2 ^ k / 2 = q / 2 ^ k / 2) : False := by
  obtain ⟨i, rfl, hi⟩ := (hL.mem p k).1 hp
  obtain ⟨j, rfl, hj⟩ := (hL.mem q k).1 hq
  rw [Nat.mul_div_cancel _ (Nat.two_pow_pos _), Nat.mul_div_cancel _ (Nat.two_pow_pos _)] at hd
  rcases bud_or hd with rfl | rfl
  · exact hne rfl
  · exact h.nb k j hj hi

/-- Two blocks that are there begin at two pages, or are the same. -/
theorem begins {K : Nat} {B : St} (h : Inv K B) {k i k' i' : Nat} (hb : B k i ≠ .no) (hb' : B k' i' ≠ .no) (he : i * 2 ^ k = i' * 2 ^ k') : k = k' ∧ i = i' := by
  have e := h.one (i * 2 ^ k) k k' (by rw [Nat.mul_div_cancel _ (Nat.two_pow_pos _)]; exact hb) (by rw [he, Nat.mul_div_cancel _ (Nat.two_pow_pos _)]; exact hb')
  subst e
  exact ⟨rfl, Nat.eq_of_mul_eq_mul_right (Nat.two_pow_pos _) he⟩

theorem whole_list {K : Nat} {B : St} {F : List (Nat × Nat)} (h : Inv K B) (hn : NoHeld B) (hF : Lst B .free F) (hu : ∀ k i, B k i ≠ .used) : F = [(0, K)] := by
  have hw := whole_free h hn hu
  refine rise_ext hF.rise (by simp) fun ⟨p, k⟩ => ?_
  rw [hF.mem]
  constructor
  · rintro ⟨i, rfl, hb⟩
    obtain ⟨rfl, rfl⟩ := (hw k i).1 hb
    simp
  · intro hm
    obtain ⟨rfl, rfl⟩ : p = 0 ∧ k = K := by simpa using hm
    exact ⟨0, by simp, (hw k 0).2 ⟨rfl, rfl⟩⟩

/-- How many pages the blocks have that are so, of the orders below n. -/
def pages (K : Nat) (f : Nat → Nat → Bool) : Nat → Nat
  | 0 => 0
  | n + 1 => pages K f n + cnt (f n) (2 ^ (K - n)) * 2 ^ n

theorem cnt_wide (f : Nat → Bool) (m n : Nat) : cnt (fun p => f (p / m)) (n * m) = cnt f n * m := by
  by_cases hm : m = 0
  · subst hm; simp [cnt]
  induction n with
  | zero => simp [cnt]
  | succ n ih =>
    rw [Nat.succ_mul, cnt_add, ih]
    have e : cnt (fun j => f ((n * m + j) / m)) m = (f n).toNat * m := by
      rw [cnt_congr (g := fun _ => f n) (fun i hi => by
        show f ((n * m + i) / m) = f n
        rw [Nat.mul_comm n m, Nat.mul_add_div (by omega), Nat.div_eq_of_lt hi, Nat.add_zero])]
      have : ∀ q, cnt (fun _ => f n) q = (f n).toNat * q := by
        intro q
        induction q with
        | zero => rfl
        | succ q ih => unfold cnt; rw [ih, Nat.mul_succ]
      exact this m
    rw [e, show cnt f (n + 1) = cnt f n + (f n).toNat from rfl, Nat.add_mul]

/-- How many of the first n orders have the page. -/
def among (f : Nat → Nat → Bool) (p : Nat) : Nat → Nat
  | 0 => 0
  | n + 1 => among f p n + (f n (p / 2 ^ n)).toNat
theorem among_zero {f : Nat → Nat → Bool} {p : Nat} : ∀ {n : Nat}, (∀ k, k < n → f k (p / 2 ^ k) = false) → among f p n = 0
  | 0, _ => rfl
  | n + 1, h => by unfold among; rw [among_zero (fun k hk => h k (by omega)), h n (by omega)]; rfl
theorem among_one {f : Nat → Nat → Bool} {p k : Nat} : ∀ {n : Nat}, k < n → f k (p / 2 ^ k) = true → (∀ k', f k' (p / 2 ^ k') = true → k' = k) → among f p n = 1
  | 0, h, _, _ => by omega
  | n + 1, h, hk, h1 => by
    unfold among
    by_cases e : k = n
    · subst e
      rw [among_zero (fun k' hk' => by
        cases hf : f k' (p / 2 ^ k')
        · rfl
        · have := h1 k' hf; omega), hk]
      rfl
    · rw [among_one (by omega) hk h1]
      cases hf : f n (p / 2 ^ n)
      · rfl
      · exact absurd (h1 n hf).symm e

theorem sum_among (f : Nat → Nat → Bool) (N : Nat) : ∀ m, (∀ p, p < m → among f p N = 1) → ((List.range m).map (fun p => among f p N)).sum = m := by
  intro m
  induction m with
  | zero => intro _; rfl
  | succ m ih =>
    intro h
    rw [List.range_succ, List.map_append, List.sum_append, ih (fun p hp => h p (by omega))]
    simp [h m (by omega)]

theorem cnt_among (f : Nat → Nat → Bool) (m : Nat) : ∀ N, ((List.range m).map (fun p => among f p (N + 1))).sum = ((List.range m).map (fun p => among f p N)).sum + cnt (fun p => f N (p / 2 ^ N)) m := by
  intro N
  induction m with
  | zero => simp [cnt]
  | succ m ih =>
    rw [List.range_succ, List.map_append, List.sum_append, ih, List.map_append, List.sum_append]
    simp only [List.map_cons, List.map_nil, List.sum_cons, List.sum_nil, among, cnt]
    omega

theorem pages_sum {K : Nat} (f : Nat → Nat → Bool) : ∀ N, N ≤ K + 1 → ((List.range (2 ^ K)).map (fun p => among f p N)).sum = pages K f N
  | 0, _ => by
    have : ∀ m : Nat, ((List.range m).map (fun p => among f p 0)).sum = 0 := by
      intro m
      induction m with
      | zero => rfl
      | succ m ih => rw [List.range_succ, List.map_append, List.sum_append, ih]; rfl
    exact this _
  | N + 1, h => by
    have e : cnt (fun p => f N (p / 2 ^ N)) (2 ^ K) = cnt (f N) (2 ^ (K - N)) * 2 ^ N := by rw [pow_split (show N ≤ K by omega), cnt_wide]
    rw [cnt_among, pages_sum f N (by omega), e]
    rfl

def isK (B : St) (x : Kind) : Nat → Nat → Bool := fun k i => decide (B k i = x)

theorem pages_all {K : Nat} {B : St} (h : Inv K B) (hn : NoHeld B) : pages K (isK B .free) (K + 1) + pages K (isK B .used) (K + 1) = 2 ^ K := by
  have e : ∀ (f g : Nat → Nat → Bool) N, pages K f N + pages K g N = pages K f N + pages K g N := fun _ _ _ => rfl
  have hsum : ∀ m, m ≤ 2 ^ K → ((List.range m).map (fun p => among (isK B .free) p (K + 1))).sum + ((List.range m).map (fun p => among (isK B .used) p (K + 1))).sum = m := by
    intro m
    induction m with
    | zero => intro _; rfl
    | succ m ih =>
      intro hm
      have hi := ih (by omega)
      simp only [List.range_succ, List.map_append, List.sum_append, List.map_cons, List.map_nil, List.sum_cons, List.sum_nil]
      obtain ⟨k, hk⟩ := h.all m (by omega)
      have hkK := (h.inn k _ hk).1
      have huniq : ∀ (x : Kind), x ≠ .no → ∀ k', isK B x k' (m / 2 ^ k') = true → k' = k := fun x hx k' h' => h.one m k' k (by rw [of_decide_eq_true h']; exact hx) hk
      have hkind : B k (m / 2 ^ k) = .free ∨ B k (m / 2 ^ k) = .used := by
        have := hn k (m / 2 ^ k)
        revert hk this
        rcases Kind.each (B k (m / 2 ^ k)) with e | e | e | e <;> rw [e] <;> simp
      have zero : ∀ (x : Kind), x ≠ .no → B k (m / 2 ^ k) ≠ x → among (isK B x) m (K + 1) = 0 := fun x hx hne => among_zero fun k' _ => by
        cases hf : isK B x k' (m / 2 ^ k')
        · rfl
        · have e := huniq x hx k' hf
          subst e
          exact absurd (of_decide_eq_true hf) hne
      have one : ∀ (x : Kind), x ≠ .no → B k (m / 2 ^ k) = x → among (isK B x) m (K + 1) = 1 := fun x hx he => among_one (by omega) (decide_eq_true he) (huniq x hx)
      rcases hkind with hb | hb
      · rw [one .free (by simp) hb, zero .used (by simp) (by rw [hb]; simp)]; omega
      · rw [one .used (by simp) hb, zero .free (by simp) (by rw [hb]; simp)]; omega
  have := hsum (2 ^ K) (Nat.le_refl _)
  rw [pages_sum _ _ (Nat.le_refl _), pages_sum _ _ (Nat.le_refl _)] at this
  exact this

theorem pages_congr {K : Nat} {f g : Nat → Nat → Bool} : ∀ {N : Nat}, (∀ k i, k < N → f k i = g k i) → pages K f N = pages K g N
  | 0, _ => rfl
  | N + 1, h => by
    unfold pages
    rw [pages_congr (fun k i hk => h k i (by omega)), cnt_congr (fun i _ => h N i (by omega))]

/-- One block more of that kind. -/
theorem pages_more {K : Nat} {f g : Nat → Nat → Bool} {o n : Nat} (hf : f o n = false) (hg : ∀ k i, g k i = (f k i || decide (k = o ∧ i = n))) (hn : n < 2 ^ (K - o)) : ∀ {N : Nat}, o < N → pages K g N = pages K f N + 2 ^ o
  | 0, h => by omega
  | N + 1, h => by
    unfold pages
    by_cases e : o = N
    · subst e
      rw [pages_congr (f := g) (g := f) (fun k i hk => by rw [hg, decide_eq_false (by omega), Bool.or_false])]
      have ht := cnt_turn (f := f o) (g := g o) (i := n) (fun j hj => by rw [hg, decide_eq_false (by omega), Bool.or_false]) hn
      rw [hf, hg o n, decide_eq_true ⟨rfl, rfl⟩, Bool.or_true] at ht
      simp at ht
      rw [ht, Nat.add_mul]
      omega
    · rw [pages_more hf hg hn (by omega), cnt_congr (f := g N) (g := f N) (fun i _ => by rw [hg, decide_eq_false (by omega), Bool.or_false])]
      omega

theorem pages_le {K : Nat} {B : St} (h : Inv K B) (hn : NoHeld B) : pages K (isK B .free) (K + 1) ≤ 2 ^ K := by have := pages_all h hn; omega
end Go.Proofs.YtohaoeilodebmaaDoor
