/- Contracts of carved, Ids, Limit, Use, Charged and Parent. -/
import Derived.Test.YtlgceknfphholaaA
namespace Go.Proofs.Ytlgceknfphholaa
open Go.RowKit

def RowPost (xs : List Nat) (w : World) (e : Ending) (w' : World) : Prop := ∃ v, e = .returned v ∧ w'.ownsRow w.heap.size 3 1 v xs.length (nats xs) ∧ Below w.heap.size w w'
theorem nats_snoc (xs : List Nat) (n : Nat) : nats (xs ++ [n]) = nats xs ++ [.int .i64 (n : Int)] := by simp [nats]
theorem take_snoc {l : List Fac} {k : Nat} {f : Fac} (h : l[k]? = some f) : l.take (k + 1) = l.take k ++ [f] := by rw [List.take_add_one, h]; rfl
theorem kids_next {l : List Fac} {k : Nat} {f : Fac} (h : l[k]? = some f) (i : Int) : kids (l.take (k + 1)) i = kids (l.take k) i ++ if f.par = i then [f.lim] else [] := by
  rw [take_snoc h, kids_append, kids_one]
theorem kids_take_len (l : List Fac) (k : Nat) (i : Int) : (kids (l.take k) i).length ≤ k := Nat.le_trans (kids_len _ _) (List.length_take_le _ _)

section
variable {w : World} {p cap nxt : Nat} {a : Option Addr} {l : List Fac} {fb : Nat → Nat}

set_option maxHeartbeats 2000000 in
theorem carved_any (h : Qm w p a cap l nxt fb) (hl : l.length ≤ 32) (i : Int) : Calls Try.prog 30 #[.pointer (some ⟨p, 0, none⟩), .int .i64 i] w (RowPost (kids l i) w) := by
  have c0 := h.cell
  obtain ⟨i0, hi0, hz0, hz1, hz2⟩ := info_parts info3
  have HIF := hid (And.intro hi0 (And.intro hz0 (And.intro hz1 hz2)))
  have HQ := hid h
  clear h hi0 hz0 hz1 hz2
  go_enter Try.func30, Try.ntmps30
  go_wp2
  go_loopw [5, 13] (fun v t wr => ∃ k : Nat, k ≤ l.length ∧ t = .int .i64 k ∧ Hid (wr.ownsRow w.heap.size 3 1 v (kids (l.take k) i).length (nats (kids (l.take k) i))) ∧ Below w.heap.size w wr) (fun _ t _ => l.length - (intOf t).toNat)
  case atStart => exact ⟨0, Nat.zero_le _, rfl, World.ownsRow_nil _ _ _ _, Below.refl _ _⟩
  case round =>
    obtain ⟨k, hk, rfl, hO, hX⟩ := hrel
    by_cases hlt : k < l.length
    · obtain ⟨f, hf⟩ : ∃ f, l[k]? = some f := ⟨_, List.getElem?_eq_getElem hlt⟩
      have hm := List.mem_of_getElem? hf
      have hQ := HQ.out.below hX
      obtain ⟨g, rfl, hx⟩ := hQ.ptr hf
      have h0 := hQ.lim hm
      have h3 := hQ.par hm
      have HK := hid (kids_next hf i)
      have hkl := kids_take_len l k i
      clear hQ hf hm c0
      generalize fb f.id = b at *
      generalize f.lim = m at *
      by_cases he : f.par = i
      · have he2 : (f.par == i) = true := by rw [beq_iff_eq]; exact he
        rw [if_pos he] at HK
        generalize f.par = fp at *
        generalize kids (l.take k) i = K at *
        go_wp2_with (first
          | (at_builtin; refine wpList_append_own _ rfl _ _ 33 rfl w.heap.size 3 i0 (.int .i64 0) 1 8 Try.underlying33 HIF.out.1 HIF.out.2.1 HIF.out.2.2.1 HIF.out.2.2.2 rfl (by decide) _ _ _ rfl (hO.out.alloc _) ⟨wr.heap.size, 0, none⟩ 1 1 [.int .i64 (m : Int)] rfl rfl ?c1 ?c2 ?c3 ?c4 ?c5 ?_)
          | fail)
        case c1 =>
          intro j u hj
          rw [addr_add, Nat.zero_add, cell_of_row _ _ _ _ _ _ (heap_alloc_new _ _), ← hj]
          match j, hj with
          | 0, _ => rfl
        case c2 =>
          intro u hu
          simp at hu
          subst hu; rfl
        case c3 => unfold maxLen; omega
        case c4 => omega
        case c5 => have := hX.size; simp; omega
        intro v' w5 hown' hgrow _
        have hX5 : Below w.heap.size w w5 := Below.grown (hX.alloc hX.size _) hgrow (by have := hX.size; simp; omega) (fun r hr => (own_block hO.out r hr).1)
        have HO : Hid (w5.ownsRow w.heap.size 3 1 v' (K ++ [m]).length (nats (K ++ [m]))) := by
          rw [nats_snoc, List.length_append]; exact hown'
        clear hown' hgrow hX hO
        go_wp2_with fail
        exact ⟨⟨k + 1, by omega, by go_num, by rw [HK.out]; exact HO, hX5⟩, by simp [intOf]; omega⟩
      · have he2 : (f.par == i) = false := by rw [beq_eq_false_iff_ne]; exact he
        rw [if_neg he, List.append_nil] at HK
        generalize f.par = fp at *
        go_wp2_with fail
        exact ⟨⟨k + 1, by omega, by go_num, by rw [HK.out]; exact hO, hX⟩, by simp [intOf]; omega⟩
    · obtain rfl : k = l.length := by omega
      rw [List.take_length] at hO
      go_wp2_with fail
      go_ret
      exact ⟨_, rfl, hO.out, hX⟩

theorem carved_drew (h : Qm w p a cap l nxt fb) (hl : l.length ≤ 32) (i : Int) : Calls Try.prog 30 #[.pointer (some ⟨p, 0, none⟩), .int .i64 i] w.drew (RowPost (kids l i) w) :=
  (carved_any (w := w.drew) (h.other (fun _ _ => rfl)) hl i).mono fun _ _ ⟨v, he, ho, hb⟩ => ⟨v, he, ho, ⟨hb.os, hb.tape, hb.output, hb.size, hb.block⟩⟩

theorem ids_nil (w : World) : Calls Try.prog 19 #[.pointer none] w fun e w' => e = .returned (.slice none 0 0) ∧ w' = w := by
  go_enter Try.func19, Try.ntmps19
  go_wp2
  go_ret
  exact ⟨rfl, rfl⟩
set_option maxHeartbeats 2000000 in
theorem ids_any (h : Qm w p a cap l nxt fb) (hl : l.length ≤ 32) : Calls Try.prog 19 #[.pointer (some ⟨p, 0, none⟩)] w (RowPost (l.map Fac.id) w) := by
  have c0 := h.cell
  obtain ⟨i0, hi0, hz0, hz1, hz2⟩ := info_parts info3
  have HIF := hid (And.intro hi0 (And.intro hz0 (And.intro hz1 hz2)))
  have HQ := hid h
  clear h hi0 hz0 hz1 hz2
  go_enter Try.func19, Try.ntmps19
  go_wp2
  go_loopw [3, 13] (fun v t wr => ∃ k : Nat, k ≤ l.length ∧ t = .int .i64 k ∧ Hid (wr.ownsRow w.heap.size 3 1 v ((l.take k).map Fac.id).length (nats ((l.take k).map Fac.id))) ∧ Below w.heap.size w wr) (fun _ t _ => l.length - (intOf t).toNat)
  case atStart => exact ⟨0, Nat.zero_le _, rfl, World.ownsRow_nil _ _ _ _, Below.refl _ _⟩
  case round =>
    obtain ⟨k, hk, rfl, hO, hX⟩ := hrel
    by_cases hlt : k < l.length
    · obtain ⟨f, hf⟩ : ∃ f, l[k]? = some f := ⟨_, List.getElem?_eq_getElem hlt⟩
      have hm := List.mem_of_getElem? hf
      have hQ := HQ.out.below hX
      obtain ⟨g, rfl, hx⟩ := hQ.ptr hf
      have h0 := hQ.id hm
      have HK : Hid ((l.take (k + 1)).map Fac.id = (l.take k).map Fac.id ++ [f.id]) := by rw [take_snoc hf]; simp; exact hid trivial
      have hkl : ((l.take k).map Fac.id).length ≤ k := by simp; omega
      clear hQ hf hm c0
      generalize fb f.id = b at *
      generalize f.id = m at *
      generalize (l.take k).map Fac.id = K at *
      go_wp2_with (first
        | (at_builtin; refine wpList_append_own _ rfl _ _ 33 rfl w.heap.size 3 i0 (.int .i64 0) 1 8 Try.underlying33 HIF.out.1 HIF.out.2.1 HIF.out.2.2.1 HIF.out.2.2.2 rfl (by decide) _ _ _ rfl (hO.out.alloc _) ⟨wr.heap.size, 0, none⟩ 1 1 [.int .i64 (m : Int)] rfl rfl ?c1 ?c2 ?c3 ?c4 ?c5 ?_)
        | fail)
      case c1 =>
        intro j u hj
        rw [addr_add, Nat.zero_add, cell_of_row _ _ _ _ _ _ (heap_alloc_new _ _), ← hj]
        match j, hj with
        | 0, _ => rfl
      case c2 =>
        intro u hu
        simp at hu
        subst hu; rfl
      case c3 => unfold maxLen; omega
      case c4 => omega
      case c5 => have := hX.size; simp; omega
      intro v' w5 hown' hgrow _
      have hX5 : Below w.heap.size w w5 := Below.grown (hX.alloc hX.size _) hgrow (by have := hX.size; simp; omega) (fun r hr => (own_block hO.out r hr).1)
      have HO : Hid (w5.ownsRow w.heap.size 3 1 v' (K ++ [m]).length (nats (K ++ [m]))) := by
        rw [nats_snoc, List.length_append]; exact hown'
      clear hown' hgrow hX hO
      go_wp2_with fail
      exact ⟨⟨k + 1, by omega, by go_num, by rw [HK.out]; exact HO, hX5⟩, by simp [intOf]; omega⟩
    · obtain rfl : k = l.length := by omega
      rw [List.take_length] at hO
      go_wp2_with fail
      go_ret
      exact ⟨_, rfl, hO.out, hX⟩

theorem limit_nil (i : Int) (w : World) : Calls Try.prog 15 #[.pointer none, .int .i64 i] w fun e w' => e = .returned (.int .i64 0) ∧ w' = w := by
  go_enter Try.func15, Try.ntmps15
  go_wp2_with (go_at_call 28; refine (find_nil i _).mono ?_; rintro e w' ⟨rfl, rfl⟩)
  go_ret
  exact ⟨rfl, rfl⟩
theorem charged_nil (i : Int) (w : World) : Calls Try.prog 17 #[.pointer none, .int .i64 i] w fun e w' => e = .returned (.int .i64 0) ∧ w' = w := by
  go_enter Try.func17, Try.ntmps17
  go_wp2_with (go_at_call 28; refine (find_nil i _).mono ?_; rintro e w' ⟨rfl, rfl⟩)
  go_ret
  exact ⟨rfl, rfl⟩
theorem parent_nil (i : Int) (w : World) : Calls Try.prog 18 #[.pointer none, .int .i64 i] w fun e w' => e = .returned (.int .i64 (-1)) ∧ w' = w := by
  go_enter Try.func18, Try.ntmps18
  go_wp2_with (go_at_call 28; refine (find_nil i _).mono ?_; rintro e w' ⟨rfl, rfl⟩)
  go_ret
  exact ⟨rfl, rfl⟩
theorem useT_nil (i : Int) (w : World) : Calls Try.prog 16 #[.pointer none, .int .i64 i] w fun e w' => e = .returned (.int .i64 0) ∧ w' = w := by
  go_enter Try.func16, Try.ntmps16
  go_wp2_with (go_at_call 28; refine (find_nil i _).mono ?_; rintro e w' ⟨rfl, rfl⟩)
  go_ret
  exact ⟨rfl, rfl⟩

theorem limit_any (h : Qm w p a cap l nxt fb) (hl : l.length ≤ 32) (i : Int) : Calls Try.prog 15 #[.pointer (some ⟨p, 0, none⟩), .int .i64 i] w fun e w' => e = .returned (.int .i64 (limA l i)) ∧ w' = w := by
  have HQ := hid h
  clear h
  cases hi : the l i with
  | none =>
    rw [show limA l i = 0 from by unfold limA; rw [hi]]
    have HI := hid hi
    clear hi
    go_enter Try.func15, Try.ntmps15
    go_wp2_with (go_at_call 28; refine (find_none HQ.out hl i HI.out).mono ?_; rintro e w' ⟨rfl, rfl⟩)
    go_ret
    exact ⟨rfl, rfl⟩
  | some f =>
    rw [show limA l i = f.lim from by unfold limA; rw [hi]]
    have hc := HQ.out.lim (the_some hi).1
    have HF := hid (find_some HQ.out hl i f hi)
    clear hi HQ
    generalize fb f.id = b at *
    go_enter Try.func15, Try.ntmps15
    go_wp2_with (go_at_call 28; refine HF.out.mono ?_; rintro e w' ⟨rfl, rfl⟩)
    go_ret
    exact ⟨rfl, rfl⟩
theorem charged_any (h : Qm w p a cap l nxt fb) (hl : l.length ≤ 32) (i : Int) : Calls Try.prog 17 #[.pointer (some ⟨p, 0, none⟩), .int .i64 i] w fun e w' => e = .returned (.int .i64 (chgA l i)) ∧ w' = w := by
  have HQ := hid h
  clear h
  cases hi : the l i with
  | none =>
    rw [show chgA l i = 0 from by unfold chgA; rw [hi]]
    have HI := hid hi
    clear hi
    go_enter Try.func17, Try.ntmps17
    go_wp2_with (go_at_call 28; refine (find_none HQ.out hl i HI.out).mono ?_; rintro e w' ⟨rfl, rfl⟩)
    go_ret
    exact ⟨rfl, rfl⟩
  | some f =>
    rw [show chgA l i = f.chg from by unfold chgA; rw [hi]]
    have hc := HQ.out.chg (the_some hi).1
    have HF := hid (find_some HQ.out hl i f hi)
    clear hi HQ
    generalize fb f.id = b at *
    go_enter Try.func17, Try.ntmps17
    go_wp2_with (go_at_call 28; refine HF.out.mono ?_; rintro e w' ⟨rfl, rfl⟩)
    go_ret
    exact ⟨rfl, rfl⟩
theorem parent_any (h : Qm w p a cap l nxt fb) (hl : l.length ≤ 32) (i : Int) : Calls Try.prog 18 #[.pointer (some ⟨p, 0, none⟩), .int .i64 i] w fun e w' => e = .returned (.int .i64 (parA l i)) ∧ w' = w := by
  have HQ := hid h
  clear h
  cases hi : the l i with
  | none =>
    rw [show parA l i = -1 from by unfold parA; rw [hi]]
    have HI := hid hi
    clear hi
    go_enter Try.func18, Try.ntmps18
    go_wp2_with (go_at_call 28; refine (find_none HQ.out hl i HI.out).mono ?_; rintro e w' ⟨rfl, rfl⟩)
    go_ret
    exact ⟨rfl, rfl⟩
  | some f =>
    rw [show parA l i = f.par from by unfold parA; rw [hi]]
    have hc := HQ.out.par (the_some hi).1
    have HF := hid (find_some HQ.out hl i f hi)
    clear hi HQ
    generalize fb f.id = b at *
    go_enter Try.func18, Try.ntmps18
    go_wp2_with (go_at_call 28; refine HF.out.mono ?_; rintro e w' ⟨rfl, rfl⟩)
    go_ret
    exact ⟨rfl, rfl⟩

/-- Kids of one who is there, in the invariant. -/
theorem Inv.kids_sum {N nxt : Nat} {l : List Fac} (h : Inv N l nxt) {f : Fac} (hf : f ∈ l) : useOf l f ≤ f.lim ∧ f.lim ≤ 1073741824 ∧ (kids l f.id).length ≤ 32 := ⟨h.fit f hf, h.lim f hf, Nat.le_trans (kids_len _ _) h.few⟩

def UsePost (z : Int) (w : World) (e : Ending) (w' : World) : Prop := e = .returned (.int .i64 z) ∧ Below w.heap.size w w'
set_option maxHeartbeats 2000000 in
theorem useT_any {N : Nat} (h : Qm w p a cap l nxt fb) (hI : Inv N l nxt) (i : Int) : Calls Try.prog 16 #[.pointer (some ⟨p, 0, none⟩), .int .i64 i] w (UsePost (useA l i) w) := by
  have HQ := hid h
  have hl := hI.few
  clear h
  cases hi : the l i with
  | none =>
    rw [show useA l i = 0 from by unfold useA; rw [hi]]
    have HI := hid hi
    clear hi
    go_enter Try.func16, Try.ntmps16
    go_wp2_with (go_at_call 28; refine (find_none HQ.out hl i HI.out).mono ?_; rintro e w' ⟨rfl, rfl⟩)
    go_ret
    exact ⟨rfl, Below.refl _ _⟩
  | some f =>
    rw [show useA l i = useOf l f from by unfold useA; rw [hi]]
    obtain ⟨hm, he⟩ := the_some hi
    have hk := hI.kids_sum hm
    rw [show kids l f.id = kids l i from by rw [he]] at hk
    have hu : useOf l f = f.chg + (kids l i).sum := by unfold useOf; rw [he]
    rw [hu] at hk ⊢
    have hb1 : fb f.id < w.heap.size := HQ.out.lt (.inr (.inr ⟨f, hm, rfl⟩))
    have hc := hid (HQ.out.chg hm)
    have HF := hid (find_some HQ.out hl i f hi)
    have HC := hid (carved_drew HQ.out hl i)
    have HK := hid hk
    clear hi HQ hI hu he hm hk
    generalize fb f.id = b at *
    generalize kids l i = xs at *
    have hk1 : f.chg + xs.sum ≤ 1073741824 := by have := HK.out; omega
    have hk2 : xs.length ≤ 32 := HK.out.2.2
    have HU := hid (fun (v : Value) (w1 : World) (ho : w1.ownsRow w.heap.size 3 1 v xs.length (nats xs)) (hX : Below w.heap.size w w1) => use_any w1 w.heap.size b v xs f.chg ho ((hX.cell (p := ⟨b, 1, none⟩) hb1).trans hc.out) hk1 hk2)
    clear hk1 hk2 HK hc hb1
    go_enter Try.func16, Try.ntmps16
    go_wp2_with (go_at_call 28; refine HF.out.mono ?_; rintro e w' ⟨rfl, rfl⟩)
    go_region_held3 (fun _ => True) (trivial) (first
      | (go_at_call 30; refine HC.out.mono ?_; rintro e w1 ⟨v, rfl, hO, hX⟩)
      | (go_at_call 31; refine (HU.out v w1 hO hX).mono ?_; rintro e w2 ⟨rfl, q, rfl⟩))
    go_wp2_with fail
    go_ret
    exact ⟨rfl, Below.drewN hX q⟩
end
end Go.Proofs.Ytlgceknfphholaa
