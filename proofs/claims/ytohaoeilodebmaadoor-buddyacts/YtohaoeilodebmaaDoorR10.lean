/- The program's allocator and the document's, of the same blocks: whatever is done to both leaves them so, and they answer the same. -/
import Derived.Test.YtohaoeilodebmaaDoorR9
import Derived.Test.YtohaoeilodebmaaDoorR8
namespace Go.Proofs.YtohaoeilodebmaaDoor
open Go.RowKit Go.Maps

structure Two (w : World) (p m K : Nat) (bf gf : Nat → Nat) (r base : Nat) (B : St) (c : Nat) (vF vU : Value) (F U : List (Nat × Nat)) : Prop where
  good : Good w p m K bf gf B c
  ref : RefM w r base K B vF vU F U
  low : p < base ∧ m < base ∧ ∀ k, k ≤ K → bf k < base ∧ gf k < base

section
variable {w w1 w2 : World} {p m K : Nat} {bf gf : Nat → Nat} {r base : Nat} {B B1 B2 : St} {c c1 : Nat} {vF vU vF2 vU2 : Value} {F U F2 U2 : List (Nat × Nat)}
theorem Two.mid (h : Two w p m K bf gf r base B c vF vU F U) (ht : Turn (Own m K gf) w w1) : RefM w1 r base K B vF vU F U :=
  h.ref.turn ht fun x hx => by
    rcases hx with rfl | ⟨k, hk, rfl⟩
    · exact h.low.2.1
    · exact (h.low.2.2 k hk).2
theorem Two.fin (h : Two w p m K bf gf r base B c vF vU F U) (hg : Good w1 p m K bf gf B1 c1) (ht : Turn (fun x => x = r) w1 w2) (hi : Inv K B2) (hn : NoHeld B2) (hr : RefM w2 r base K B2 vF2 vU2 F2 U2) (hu : SameUsed B1 B2) :
    Two w2 p m K bf gf r base B1 c1 vF2 vU2 F2 U2 := by
  have hbr := hr.br
  refine ⟨⟨hg.1, hg.2.1, hg.2.2.turn ht ?_⟩, hr.congr (fun k i => free_iff hi hn hg.1 hg.2.1 hu.symm k i) hu.symm, h.low⟩
  rintro x rfl
  have hl := h.low
  refine .inr ⟨by omega, by omega, fun k hk => ?_⟩
  have := hl.2.2 k hk
  omega
theorem Two.below (h : Two w p m K bf gf r base B c vF vU F U) (hb : Below w.heap.size w w1) : Two w1 p m K bf gf r base B c vF vU F U := ⟨h.good.below hb, h.ref.below hb, h.low⟩
theorem Two.more (h : Two w p m K bf gf r base B c vF vU F U) (hc : c ≤ c1) : Two w p m K bf gf r base B c1 vF vU F U := ⟨h.good.more hc, h.ref, h.low⟩
end

/-- What a Take tells, by either. -/
def TookOf (K : Nat) (B B' : St) (N at_ er : Int) : Prop :=
  (at_ = 0 ∧ B' = B ∧ ((er = 1 ∧ (N < 0 ∨ (K : Int) < N)) ∨ er = 4 ∧ ∃ o : Nat, N = (o : Int) ∧ o ≤ K ∧ ∀ k j, o ≤ k → B k j ≠ .free)) ∨
     er = 0 ∧ ∃ o k i n : Nat, N = (o : Int) ∧ o ≤ K ∧ Least B o k i ∧ at_ = addr k i ∧ addr o n = addr k i ∧ B o n ≠ .used ∧ Plus B B' o n
theorem addr_same {o n n' : Nat} (h : addr o n = addr o n') : n = n' := by
  unfold addr at h
  have e : n * 2 ^ o = n' * 2 ^ o := by omega
  exact Nat.eq_of_mul_eq_mul_right (Nat.two_pow_pos o) e
theorem took_agree {K : Nat} {B B1 B2 : St} {N a1 e1 a2 e2 : Int} (h : TookOf K B B1 N a1 e1) (h' : TookOf K B B2 N a2 e2) : a1 = a2 ∧ e1 = e2 ∧ SameUsed B1 B2 := by
  rcases h with ⟨rfl, rfl, h⟩ | ⟨rfl, o, k, i, n, hN, ho, hl, ha, hn, hu, hp⟩
  · rcases h' with ⟨rfl, rfl, h'⟩ | ⟨rfl, o', k', i', n', hN', ho', hl', ha', hn', hu', hp'⟩
    · refine ⟨rfl, ?_, SameUsed.refl _⟩
      rcases h with ⟨rfl, h⟩ | ⟨rfl, o, hN, ho, h⟩ <;> rcases h' with ⟨rfl, h'⟩ | ⟨rfl, o', hN', ho', h'⟩
      · rfl
      · omega
      · omega
      · rfl
    · exfalso
      rcases h with ⟨rfl, h⟩ | ⟨rfl, o, hN, ho, h⟩
      · omega
      · obtain rfl : o = o' := by omega
        exact h k' i' hl'.1 hl'.2.1
  · rcases h' with ⟨rfl, rfl, h'⟩ | ⟨rfl, o', k', i', n', hN', ho', hl', ha', hn', hu', hp'⟩
    · exfalso
      rcases h' with ⟨rfl, h'⟩ | ⟨rfl, o', hN', ho', h'⟩
      · omega
      · obtain rfl : o = o' := by omega
        exact h' k i hl.1 hl.2.1
    · obtain rfl : o = o' := by omega
      obtain ⟨rfl, rfl⟩ := least_one hl hl'
      obtain rfl : n = n' := addr_same (hn.trans hn'.symm)
      exact ⟨ha.trans ha'.symm, rfl, fun k i => (hp k i).trans (hp' k i).symm⟩

theorem rtook_any (w : World) (r base K : Nat) (B : St) (vF vU : Value) (F U : List (Nat × Nat)) (N : Int) (h : RefM w r base K B vF vU F U) (hi : Inv K B) (hn : NoHeld B) :
    Calls Tryd.prog 18 #[.pointer (some ⟨r, 0, none⟩), .int .i64 N] w (RTook w r base K B N) := by
  by_cases hN : 0 ≤ N ∧ N ≤ (K : Int)
  · obtain ⟨o, rfl⟩ := Int.eq_ofNat_of_zero_le hN.1
    exact rtake_any w r base K B vF vU F U o h hi hn (by omega)
  · exact rtake_bad w r base K B vF vU F U N h hi hn (by omega)

/-- What a Give tells, by either. -/
def GaveOf (B B' : St) (a er : Int) : Prop := (er = 6 ∧ B' = B ∧ ∀ k i, B k i = .used → a ≠ addr k i) ∨ er = 0 ∧ ∃ k i : Nat, B k i = .used ∧ a = addr k i ∧ Less B B' k i
theorem gave_agree {K : Nat} {B B1 B2 : St} (hi : Inv K B) {a e1 e2 : Int} (h : GaveOf B B1 a e1) (h' : GaveOf B B2 a e2) : e1 = e2 ∧ SameUsed B1 B2 := by
  rcases h with ⟨rfl, rfl, h⟩ | ⟨rfl, k, i, hb, ha, hl⟩
  · rcases h' with ⟨rfl, rfl, h'⟩ | ⟨rfl, k', i', hb', ha', hl'⟩
    · exact ⟨rfl, SameUsed.refl _⟩
    · exact (h k' i' hb' ha').elim
  · rcases h' with ⟨rfl, rfl, h'⟩ | ⟨rfl, k', i', hb', ha', hl'⟩
    · exact (h' k i hb ha).elim
    · obtain ⟨rfl, rfl⟩ := addr_inj hi (by rw [hb]; simp) (by rw [hb']; simp) (ha.symm.trans ha')
      exact ⟨rfl, fun k' i' => (hl k' i').trans (hl' k' i').symm⟩
def Gave2 (w : World) (p m K : Nat) (bf gf : Nat → Nat) (B : St) (c : Nat) (a : Int) (e : Ending) (w' : World) : Prop :=
  ∃ (er : Int) (B' : St), e = .returned (.int .i64 er) ∧ Turn (Own m K gf) w w' ∧ Good w' p m K bf gf B' c ∧ GaveOf B B' a er
theorem gave2_any (w : World) (p m K : Nat) (bf gf : Nat → Nat) (B : St) (c : Nat) (a : Int) (hG : Good w p m K bf gf B c) (ha : (Lit.int .i64 a).wf = true) :
    Calls Tryd.prog 11 #[.pointer (some ⟨p, 0, none⟩), .int .i64 a] w (Gave2 w p m K bf gf B c a) := by
  refine (give_any w p m K bf gf B c a hG.2.2 hG.1 hG.2.1 ha).mono ?_
  rintro e w' ⟨er, rfl, ht, ⟨rfl, hno, hm⟩ | ⟨k, i, B', rfl, hb, ha', hl, hi', hn', hm'⟩⟩
  · exact ⟨6, B, rfl, ht, ⟨hG.1, hG.2.1, hm⟩, .inl ⟨rfl, rfl, hno⟩⟩
  · exact ⟨0, B', rfl, ht, ⟨hi', hn', hm'⟩, .inr ⟨rfl, k, i, hb, ha', hl⟩⟩

theorem great_one {B : St} {r r' : Int} (h : GreatB B r) (h' : GreatB B r') : r = r' := by
  rcases h with ⟨rfl, h⟩ | ⟨k, i, rfl, hb, h⟩
  · rcases h' with ⟨rfl, h'⟩ | ⟨k', i', rfl, hb', h'⟩
    · rfl
    · exact (h k' i' hb').elim
  · rcases h' with ⟨rfl, h'⟩ | ⟨k', i', rfl, hb', h'⟩
    · exact (h' k i hb).elim
    · have := h k' i' hb'
      have := h' k i hb
      omega
theorem order_one {K : Nat} {B : St} (hi : Inv K B) {a r r' : Int} (h : OrderB B a r) (h' : OrderB B a r') : r = r' := by
  rcases h with ⟨rfl, h⟩ | ⟨k, i, rfl, hb, ha⟩
  · rcases h' with ⟨rfl, h'⟩ | ⟨k', i', rfl, hb', ha'⟩
    · rfl
    · exact (h k' i' hb' ha').elim
  · rcases h' with ⟨rfl, h'⟩ | ⟨k', i', rfl, hb', ha'⟩
    · exact (h' k i hb ha).elim
    · obtain ⟨rfl, rfl⟩ := addr_inj hi (by rw [hb]; simp) (by rw [hb']; simp) (ha.symm.trans ha')
      rfl
theorem lst_one {B : St} {x : Kind} {L L' : List (Nat × Nat)} (h : Lst B x L) (h' : Lst B x L') : L = L' := h.ext h' (fun _ _ => Iff.rfl)

theorem order_is (B : St) (a : Int) : ∃ r, OrderB B a r := by
  by_cases h : ∃ k i, B k i = .used ∧ a = addr k i
  · obtain ⟨k, i, hb, ha⟩ := h
    exact ⟨k, .inr ⟨k, i, rfl, hb, ha⟩⟩
  · exact ⟨-1, .inl ⟨rfl, fun k i hb ha => h ⟨k, i, hb, ha⟩⟩⟩
def SlPost (L : List (Nat × Nat)) (w : World) (e : Ending) (w' : World) : Prop := ∃ a cap, e = .returned (.slice a L.length cap) ∧ Rd w' w.heap.size a L ∧ Below w.heap.size w w'
section
variable {w : World} {p m K : Nat} {bf gf : Nat → Nat} {r base : Nat} {B : St} {c : Nat} {vF vU : Value} {F U : List (Nat × Nat)}
theorem Two.left (h : Two w p m K bf gf r base B c vF vU F U) : Calls Tryd.prog 15 #[.pointer (some ⟨p, 0, none⟩)] w fun e w' => e = .returned (.int .i64 ((lpages F * 1024 : Nat) : Int)) ∧ w' = w := by
  refine (left_any w p m K bf gf B c h.good.2.2 h.good.1).mono ?_
  rintro e w' ⟨rfl, rfl⟩
  rw [h.ref.lF.pages h.good.1]
  exact ⟨rfl, rfl⟩
theorem Two.great (h : Two w p m K bf gf r base B c vF vU F U) (hT : Tab w) {top : Int} (ht : GreatB B top) : Calls Tryd.prog 16 #[.pointer (some ⟨p, 0, none⟩)] w fun e w' => e = .returned (.int .i64 top) ∧ w' = w := by
  refine (greatest_any w p m K bf gf B c h.good.2.2 h.good.1 hT).mono ?_
  rintro e w' ⟨r, rfl, hr, rfl⟩
  rw [great_one hr ht]
  exact ⟨rfl, rfl⟩
theorem Two.order (h : Two w p m K bf gf r base B c vF vU F U) {a ord : Int} (ha : (Lit.int .i64 a).wf = true) (ho : OrderB B a ord) : Calls Tryd.prog 12 #[.pointer (some ⟨p, 0, none⟩), .int .i64 a] w fun e w' => e = .returned (.int .i64 ord) ∧ w' = w := by
  refine (order_any w p m K bf gf B c a h.good.2.2 ha).mono ?_
  rintro e w' ⟨r, rfl, hr, rfl⟩
  rw [order_one h.good.1 hr ho]
  exact ⟨rfl, rfl⟩
theorem Two.rorder (h : Two w p m K bf gf r base B c vF vU F U) {a ord : Int} (ho : OrderB B a ord) : Calls Tryd.prog 21 #[.pointer (some ⟨r, 0, none⟩), .int .i64 a] w fun e w' => e = .returned (.int .i64 ord) ∧ w' = w := by
  refine (rorder_any w r base K B vF vU F U a h.ref h.good.1).mono ?_
  rintro e w' ⟨r, rfl, hr, rfl⟩
  rw [order_one h.good.1 hr ho]
  exact ⟨rfl, rfl⟩
theorem Two.free (h : Two w p m K bf gf r base B c vF vU F U) (hT : Tab w) : Calls Tryd.prog 13 #[.pointer (some ⟨p, 0, none⟩)] w (SlPost F w) := by
  refine (got_free w p m K bf gf B c h.good hT).mono ?_
  rintro e w' ⟨a, cap, L, rfl, hL, _, hr, hb⟩
  obtain rfl := lst_one hL h.ref.lF
  exact ⟨a, cap, rfl, hr, hb⟩
theorem Two.used (h : Two w p m K bf gf r base B c vF vU F U) (hc : c ≤ 1000000) : Calls Tryd.prog 14 #[.pointer (some ⟨p, 0, none⟩)] w (SlPost U w) := by
  refine (got_used w p m K bf gf B c h.good hc).mono ?_
  rintro e w' ⟨a, cap, L, rfl, hL, _, hr, hb⟩
  obtain rfl := lst_one hL h.ref.lU
  exact ⟨a, cap, rfl, hr, hb⟩
end
/-- What stands last in a block is followed by what follows the block. -/
theorem unblock {P : Program} {s : Code} {K : Act → World → Prop} {Q : Exit → Act → World → Prop} {n : Nat} {a : Act} {w : World} (h : s.wp P (Exit.then K (Exit.inBlock n (Exit.then K Q))) a w) : s.wp P (Exit.inBlock n (Exit.then K Q)) a w := by
  refine wp_mono h ?_
  intro e a' w' hq
  cases e <;> exact hq
end Go.Proofs.YtohaoeilodebmaaDoor
