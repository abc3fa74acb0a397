/- The document's Close. -/
import Derived.Test.YtlgceknfphholaaR2
namespace Go.Proofs.Ytlgceknfphholaa
open Go.RowKit

/-- An append of a slice of factories, at a step of a region that draws; lengths by letters. -/
theorem step_cut {ops : Array Oper} {o : Oper} {a : Act} {K : Act → World → Prop} {Q : Exit → Act → World → Prop} {E : Prop} (w0 wx : World) (hgd : o.guard = none) (s x : Operand)
    (ho : o.op = .call { callee := .builtin .append, args := #[s, x], argTypes := #[42, 42] }) (v : Value) (l m : List Fac) (ln n : Nat) (ad : Addr) (c : Nat) (hs : a.eval s = v) (hx : a.eval x = .slice (some ad) n c) (hln : l.length = ln) (hmn : m.length = n)
    (hown : wx.ownsRow w0.heap.size 46 4 v ln (rcells l)) (hnews : ∀ j u, (rcells m)[j]? = some u → wx.cell? (ad.add j) = some u) (hb : Below w0.heap.size w0 wx) (h1 : ln + n ≤ 100) (h0 : 0 < ln + n)
    (h : ∀ g' cap' w', w'.ownsRow w0.heap.size 46 4 (.slice (some ⟨g', 0, none⟩) (ln + n) cap') (ln + n) (rcells (l ++ m)) → Below w0.heap.size w0 w' → K (a.put o.dst (.slice (some ⟨g', 0, none⟩) (ln + n) cap')) w') :
    if Region.wanted o (yielded ops a.tmps) = true then Oper.wp Try.prog o a wx K Q else E := by
  subst hln hmn
  refine step_app w0 wx hgd s x ho v l m ad c hs hx hown hnews hb h1 h0 ?_
  intro g' cap' w' h2 h3 _
  rw [List.length_append] at h2
  exact h g' cap' w' h2 h3

section
variable {w : World} {q g cap nxt : Nat} {l : List Fac}
theorem Rm.news_take (h : Rm w q g cap l nxt) {wx : World} (hb : Below w.heap.size w wx) (k : Nat) : ∀ j u, (rcells (l.take k))[j]? = some u → wx.cell? ((⟨g, 0, none⟩ : Addr).add j) = some u := by
  intro j u hj
  refine h.news hb j u ?_
  have e : rcells l = rcells (l.take k) ++ rcells (l.drop k) := by rw [← rcells_append, List.take_append_drop]
  rw [e, List.getElem?_append_left (List.getElem?_eq_some_iff.1 hj).1]; exact hj
theorem Rm.news_drop (h : Rm w q g cap l nxt) {wx : World} (hb : Below w.heap.size w wx) (k : Nat) (hk : k ≤ l.length) : ∀ j u, (rcells (l.drop k))[j]? = some u → wx.cell? ((⟨g, k * 4, none⟩ : Addr).add j) = some u := by
  intro j u hj
  have e : rcells l = rcells (l.take k) ++ rcells (l.drop k) := by rw [← rcells_append, List.take_append_drop]
  have hlen : (rcells (l.take k)).length = k * 4 := by rw [rcells_len]; simp; omega
  have := h.news hb (k * 4 + j) u (by rw [e, List.getElem?_append_right (by omega), hlen, show k * 4 + j - k * 4 = j from by omega]; exact hj)
  rw [addr_add, Nat.zero_add] at this
  rw [addr_add]; exact this
theorem root_first {N : Nat} (hI : Inv N l nxt) {k : Nat} {f : Fac} (hk : l[k]? = some f) (h0 : f.id ≠ 0) : 0 < k := by
  rcases Nat.eq_zero_or_pos k with rfl | h
  · exfalso
    obtain ⟨r, hr, e, _⟩ := hI.root
    obtain ⟨j, hj, rfl⟩ := List.getElem_of_mem hr
    have hu := hI.up
    rw [List.pairwise_iff_getElem] at hu
    obtain ⟨h1, h2⟩ := List.getElem?_eq_some_iff.1 hk
    rcases Nat.eq_zero_or_pos j with rfl | hj0
    · rw [h2] at e; exact h0 e
    · have := hu 0 j h1 hj hj0
      omega
  · exact h

set_option maxRecDepth 100000 in
set_option maxHeartbeats 4000000 in
theorem rclose_cut {N : Nat} (h : Rm w q g cap l nxt) (hI : Inv N l nxt) (i : Int) (f : Fac) (hi : the l i = some f) (h0 : i ≠ 0) (hu : useOf l f = 0) (hkz : (kids l i).length = 0) :
    Calls Try.prog 22 #[.pointer (some ⟨q, 0, none⟩), .int .i64 i] w (RPost w q g (.int .i64 0) (del l i) nxt) := by
  have hl := hI.few
  obtain ⟨k, hk, hkl, hidn, hno⟩ := the_at hi
  have HF := hid (rat_some h hl i f k hk hidn hno)
  have HU := ruse_some h hI i f hi
  rw [hu, hkz] at HU
  have HU2 := hid HU
  have hi0 : (i == 0) = false := by rw [beq_eq_false_iff_ne]; exact h0
  have hk0 : ¬ ((k : Int) < 0) := by omega
  have hkp := root_first hI hk (by omega)
  have hdel : del l i = l.take k ++ l.drop (k + 1) := by rw [← hidn]; exact del_at hI.up hk
  rw [hdel]
  obtain ⟨cur, _, hcap, hcm, _⟩ := h.body
  have hcm' : cap ≤ 9223372036854775807 := by unfold maxLen at hcm; omega
  have c0 := h.c0
  have hql := h.lq
  have HE := hid h
  have hi1 : (k : Int) < (l.length : Int) := by omega
  have hi2 : (0 : Int) ≤ (k : Int) := by omega
  have hi3 : (k : Int) ≤ (cap : Int) := by omega
  have hi4 : (k : Int) + 1 ≤ (l.length : Int) := by omega
  have hi5 : (0 : Int) ≤ (k : Int) + 1 := by omega
  have hi6 : (l.length : Int) ≤ (cap : Int) := by omega
  have hi7 : (k : Int) + 1 ≤ (cap : Int) := by omega
  have hwi : IntKind.i64.wrap ((k : Int) + 1) = (k : Int) + 1 := by rw [IntKind.wrap_i64]; omega
  clear hi hI hidn hno hk HU hu hkz hdel h h0 hcm
  have hlt1 : (l.take k).length = k := by rw [List.length_take]; omega
  have hlt2 : (l.drop (k + 1)).length = l.length - (k + 1) := by rw [List.length_drop]
  have HLT := hid (And.intro hlt1 hlt2)
  clear hlt1 hlt2
  have HB : Hid (∀ wx : World, Below w.heap.size w wx → wx.cell? ⟨q, 0, none⟩ = some (.slice (some ⟨g, 0, none⟩) l.length cap) ∧ wx.frozen? ⟨q, 0, none⟩ = false) := fun wx hx => ⟨(HE.out.below hx).c0, frozen_of_row _ _ _ _ _ (HE.out.below hx).head⟩
  have HO1 : Hid ((w.alloc (.cells #[] 46)).ownsRow w.heap.size 46 4 (.slice (some ⟨w.heap.size, 0, none⟩) 0 0) 0 []) := World.ownsRow_lit w #[] 0 (Nat.le_refl _) (by unfold maxLen; omega) rfl
  by_cases hce : cap = k + 1
  · have HD : Hid (∀ wx : World, Below w.heap.size w wx → ∀ (ad : Addr) j u, (rcells (l.drop (k + 1)))[j]? = some u → wx.cell? (ad.add j) = some u) := fun wx _ ad j u hj => by
      rw [List.drop_eq_nil_of_le (by omega)] at hj
      simp [rcells] at hj
    have hkk : (k : Int) ≤ (k : Int) + 1 := by omega
    have hkk2 : k ≤ k + 1 := by omega
    go_enter Try.func22, Try.ntmps22
    go_wp2_with (first | (go_at_call 25; refine HF.out.mono ?_; rintro e w' ⟨rfl, rfl⟩) | (go_at_call 26; refine HU2.out.mono ?_; rintro e w' ⟨rfl, rfl⟩))
    go_region_law (first
      | (refine step_cut w' _ rfl _ _ rfl _ [] (l.take k) 0 k _ _ rfl rfl rfl HLT.out.1 (by exact HO1.out) (HE.out.news_take (by exact ((Below.refl _ _).alloc (Nat.le_refl _) _).drew) k) (by exact ((Below.refl _ _).alloc (Nat.le_refl _) _).drew) (by omega) (by omega) ?_; intro g2 cap2 w2 hown2 hX2; simp only [Nat.zero_add, List.nil_append] at hown2; obtain ⟨e0, e1⟩ := HB.out w2 hX2)
      | (refine step_cut w' _ rfl _ _ rfl _ (l.take k) (l.drop (k + 1)) k (l.length - (k + 1)) _ _ rfl rfl HLT.out.1 HLT.out.2 (by exact hown2) (HD.out _ hX2 _) (by exact hX2) (by omega) (by omega) ?_; intro g3 cap3 w3 hown3 hX3; obtain ⟨k0, k1⟩ := HB.out w3 hX3))
    all_goals
      have hown4 : w3.ownsRow w'.heap.size 46 4 (.slice (some ⟨g3, 0, none⟩) (k + (l.length - (k + 1))) cap3) (l.take k ++ l.drop (k + 1)).length (rcells (l.take k ++ l.drop (k + 1))) := by
        rw [List.length_append, HLT.out.1, HLT.out.2]; exact hown3
      obtain ⟨hp1, hp2⟩ := HE.out.put hX3 hown4
      have HPU := hid (And.intro hp1 hp2)
      have HTU : Hid (Turn (fun x => x = q ∨ x = g) w' w3) := Turn.of_below hX3
      clear hp1 hp2 hown2 hown3 hown4 HO1
      go_wp2_with fail
      go_ret
      exact ⟨rfl, ⟨g3, cap3, HPU.out.2, .inr HPU.out.1⟩, HTU.out.but (But.setCell (But.refl q _) (.inl rfl) _) (.inl (.inl rfl))⟩
  · have HD : Hid (∀ wx : World, Below w.heap.size w wx → ∀ j u, (rcells (l.drop (k + 1)))[j]? = some u → wx.cell? ((⟨g, (k + 1) * 4, none⟩ : Addr).add j) = some u) := fun wx hx => HE.out.news_drop hx (k + 1) (by omega)
    go_enter Try.func22, Try.ntmps22
    go_wp2_with (first | (go_at_call 25; refine HF.out.mono ?_; rintro e w' ⟨rfl, rfl⟩) | (go_at_call 26; refine HU2.out.mono ?_; rintro e w' ⟨rfl, rfl⟩))
    go_region_law (first
      | (refine step_cut w' _ rfl _ _ rfl _ [] (l.take k) 0 k _ _ rfl rfl rfl HLT.out.1 (by exact HO1.out) (HE.out.news_take (by exact ((Below.refl _ _).alloc (Nat.le_refl _) _).drew) k) (by exact ((Below.refl _ _).alloc (Nat.le_refl _) _).drew) (by omega) (by omega) ?_; intro g2 cap2 w2 hown2 hX2; simp only [Nat.zero_add, List.nil_append] at hown2; obtain ⟨e0, e1⟩ := HB.out w2 hX2)
      | (refine step_cut w' _ rfl _ _ rfl _ (l.take k) (l.drop (k + 1)) k (l.length - (k + 1)) _ _ rfl rfl HLT.out.1 HLT.out.2 (by exact hown2) (HD.out _ hX2) (by exact hX2) (by omega) (by omega) ?_; intro g3 cap3 w3 hown3 hX3; obtain ⟨k0, k1⟩ := HB.out w3 hX3))
    all_goals
      have hown4 : w3.ownsRow w'.heap.size 46 4 (.slice (some ⟨g3, 0, none⟩) (k + (l.length - (k + 1))) cap3) (l.take k ++ l.drop (k + 1)).length (rcells (l.take k ++ l.drop (k + 1))) := by
        rw [List.length_append, HLT.out.1, HLT.out.2]; exact hown3
      obtain ⟨hp1, hp2⟩ := HE.out.put hX3 hown4
      have HPU := hid (And.intro hp1 hp2)
      have HTU : Hid (Turn (fun x => x = q ∨ x = g) w' w3) := Turn.of_below hX3
      clear hp1 hp2 hown2 hown3 hown4 HO1
      go_wp2_with fail
      go_ret
      exact ⟨rfl, ⟨g3, cap3, HPU.out.2, .inr HPU.out.1⟩, HTU.out.but (But.setCell (But.refl q _) (.inl rfl) _) (.inl (.inl rfl))⟩

set_option maxHeartbeats 1000000 in
theorem rclose_any {N : Nat} (h : Rm w q g cap l nxt) (hI : Inv N l nxt) (i : Int) : Calls Try.prog 22 #[.pointer (some ⟨q, 0, none⟩), .int .i64 i] w (RPost w q g (.int .i64 (closeA l i).1) (closeA l i).2 nxt) := by
  have hl := hI.few
  cases hi : the l i with
  | none =>
    rw [show closeA l i = (6, l) from by unfold closeA; rw [hi]]
    have HF := hid (rat_none h hl i hi)
    have HP := hid (RPost.same (er := .int .i64 6) h 0)
    clear h hi hI hl
    go_enter Try.func22, Try.ntmps22
    go_wp2_with (go_at_call 25; refine HF.out.mono ?_; rintro e w' ⟨rfl, rfl⟩)
    go_ret
    exact HP.out
  | some f =>
    obtain ⟨k, hk, hkl, hidn, hno⟩ := the_at hi
    have HF := hid (rat_some h hl i f k hk hidn hno)
    have hk0 : ¬ ((k : Int) < 0) := by omega
    by_cases h0 : i = 0
    · rw [show closeA l i = (1, l) from by unfold closeA; rw [hi]; simp [h0]]
      have HP := hid (RPost.same (er := .int .i64 1) h 0)
      subst h0
      clear h hi hI hl hidn hno hk
      go_enter Try.func22, Try.ntmps22
      go_wp2_with (go_at_call 25; refine HF.out.mono ?_; rintro e w' ⟨rfl, rfl⟩)
      go_ret
      exact HP.out
    by_cases hc : 0 < (kids l i).length ∨ 0 < useOf l f
    · rw [show closeA l i = (12, l) from by unfold closeA; rw [hi]; simp only [if_neg h0, hc, if_true]]
      have HP := hid (RPost.same (er := .int .i64 12) h 0)
      have HU := hid (ruse_some h hI i f hi)
      have hi0 : (i == 0) = false := by rw [beq_eq_false_iff_ne]; exact h0
      clear h hi hI hl hidn hno hk h0
      generalize useOf l f = u at *
      generalize (kids l i).length = c at *
      by_cases hu : u = 0
      · have hcp : ((c : Int) != 0) = true := by rw [bne_iff_ne]; omega
        have hup : ((u : Int) != 0) = false := by rw [hu]; rfl
        clear hc hu
        go_enter Try.func22, Try.ntmps22
        go_wp2_with (first | (go_at_call 25; refine HF.out.mono ?_; rintro e w' ⟨rfl, rfl⟩) | (go_at_call 26; refine HU.out.mono ?_; rintro e w' ⟨rfl, rfl⟩))
        go_ret
        exact HP.out
      · have hup : ((u : Int) != 0) = true := by rw [bne_iff_ne]; omega
        clear hc hu
        go_enter Try.func22, Try.ntmps22
        go_wp2_with (first | (go_at_call 25; refine HF.out.mono ?_; rintro e w' ⟨rfl, rfl⟩) | (go_at_call 26; refine HU.out.mono ?_; rintro e w' ⟨rfl, rfl⟩))
        go_ret
        exact HP.out
    · rw [show closeA l i = (0, del l i) from by unfold closeA; rw [hi]; simp only [if_neg h0, hc, if_false]]
      exact rclose_cut h hI i f hi h0 (by omega) (by omega)
end
end Go.Proofs.Ytlgceknfphholaa
