/- The walk of Tick. -/
import Derived.Test.YtgoennbbpndiiaaF
namespace Go.Proofs.Ytgoennbbpndiiaa
open Go.RowKit Go.Maps Go.Shelf
attribute [local go_sem] Oper.semAt_some

/-- What Tick answers and leaves. -/
def TickPost (w : World) (b : Nat) (v : Value) (p : Int) (l : List (Int × Int)) (e : Ending) (w' : World) : Prop :=
  ∃ u v', e = .returned u ∧ OR w' w.heap.size 1 u (dueOf (tickA l)).length (nums (dueOf (tickA l))) ∧ Left w b v p (restOf (tickA l)) v' w' ∧ ∀ k, u.ownBlock = some k → ¬ Own b v' k
theorem OR.low {w : World} {base base' size n : Nat} {v : Value} {xs : List Value} (h : OR w base size v n xs) (hb : base' ≤ base) : OR w base' size v n xs :=
  ⟨h.len, h.form.imp id fun ⟨g, off, cap, h1, h2, h3⟩ => ⟨g, off, cap, h1, Nat.le_trans hb h2, h3⟩⟩

set_option maxRecDepth 100000 in
set_option maxHeartbeats 2000000 in
theorem tick_any {w : World} {b : Nat} {v : Value} {p : Int} {l : List (Int × Int)} (hq : Qu w b v p l) (hl : l.length < 100000) (hb : ∀ t ∈ l, -1000 ≤ t.2 ∧ t.2 ≤ 1000) :
    Calls Try.prog 11 #[.pointer (some ⟨b, 0, none⟩)] w (TickPost w b v p l) := by
  obtain ⟨a, cap, rfl, _⟩ := hq.row.slice
  have HQ := hid hq
  have HB := hid hb
  clear hq hb
  refine (callsIn_wide (n := 6)).1 ?_
  refine callsIn_of_wp_marks Try.func11 rfl trivial ?_ rfl
  refine wpIn_wide.2 ?_
  simp only [Try.ntmps11, List.size_toArray, List.length_cons, List.length_nil, Nat.reduceAdd, Nat.reduceSub, Array.replicate_succ, Array.replicate_zero, List.push_toArray, List.append_toArray, List.nil_append, List.cons_append]
  go_wp2_with (go_at_call 18; refine (all_any HQ.out).mono ?_; rintro e w' ⟨rfl, rfl⟩)
  go_loopw [11] (fun c wr => ∃ k : Nat, k ≤ l.length ∧ c = .int .i64 (k : Int) ∧ Hid (Left w' b (.slice a l.length cap) p (decK k l) (.slice a l.length cap) wr)) (fun c _ => l.length - (intOf c).toNat)
  case atStart => exact ⟨0, Nat.zero_le _, rfl, hid (by rw [decK_zero]; exact Left.refl HQ.out)⟩
  case round =>
    obtain ⟨k, hk, rfl, hS⟩ := hrel
    by_cases hlt : k < l.length
    · have hk2 := decK_at hlt
      obtain ⟨g, off, cap2, ev, c0, c1⟩ := hS.out.qu.at hk2
      obtain ⟨rfl, _⟩ : a = some ⟨g, off, none⟩ ∧ cap = cap2 := by
        have e := ev
        simp at e
        exact ⟨e.1, e.2.2⟩
      obtain ⟨f1, hL⟩ := Qu.setLeft (k := k) hS.out.qu hk2 (l[k].2 - 1)
      rw [decK_next hlt] at hL
      have H3 := hid (hS.out.trans hL)
      have hbd := HB.out l[k] (List.getElem_mem hlt)
      clear hk2 ev c0 hL hS HQ HB
      generalize l[k].2 = t at *
      obtain ⟨hb1, hb2⟩ := hbd
      go_wp2_with fail
      exact ⟨⟨k + 1, by omega, by go_num, H3⟩, by simp [intOf]; omega⟩
    · obtain rfl : k = l.length := by omega
      rw [decK_all] at hS
      go_wp2_with (go_at_call 19; refine (due_any _ _).mono ?_; rintro e w' ⟨rfl, ew⟩; have EW := hid ew; clear ew)
      have ew := EW.out
      clear EW
      have hq := hS.out.qu
      have hlen : (tickA l).length < 100000 := by unfold tickA; rw [List.length_map]; exact hl
      have hb2 : Below wr.heap.size wr w' := by rw [ew]; exact ((Below.refl _ wr).alloc (Nat.le_refl _) _).alloc (by simp) _
      have hs2 : w'.heap.size = wr.heap.size + 2 := by rw [ew]; simp
      have hbx : Boxed w' wr.heap.size 29 (.slice none 0 0) := by rw [ew]; exact (Boxed.new wr 29 (.slice none 0 0)).alloc _
      have hby : Boxed w' (wr.heap.size + 1) 24 (.pointer (some ⟨b, 0, none⟩)) := by
        have := Boxed.new (wr.alloc (.cells #[.slice none 0 0] 29)) 24 (.pointer (some ⟨b, 0, none⟩))
        rw [World.size_alloc] at this
        rw [ew]
        exact this
      clear ew
      refine (wpIn_wide (n := 6)).1 ?_
      refine range_under (by omega) (gf := 20) (lb := #[.pointer (some ⟨wr.heap.size + 1, 0, none⟩)]) rfl (enters_of Try.func20 (by kernel_rfl) rfl) ?_
      intro rec W1 hU hs1 hb1 hL1 hD1
      rw [hs2] at hU hL1 hD1 hb1 hs1
      rw [show wr.heap.size + 2 + 1 = wr.heap.size + 3 from rfl] at hU hL1
      have hTk0 : Tk wr b (.slice a l.length cap) p wr.heap.size [] (tickA l) W1 := by
        refine ⟨by omega, by simp; omega, (hb1.block _ (by omega)).trans hby, ⟨_, (Left.refl hq).below (fun _ e => e) hq (hb2.trans (hb1.mono (by omega))), fun _ e => e⟩, ⟨_, (hb1.block _ (by omega)).trans hbx, OR.nil _ _ _⟩, by omega⟩
      rw [hs2, show wr.heap.size + 2 + 1 = wr.heap.size + 3 from rfl]
      refine (due1_in (6 - 1) (wr.heap.size + 3) (wr.heap.size + 1) b p (fun pre rest W => Tk wr b (.slice a l.length cap) p wr.heap.size pre rest W ∧ W.heap[wr.heap.size + 3]? = some (rec .ready) ∧ W.heap[wr.heap.size + 2]? = some (.deferred (some []))) ?hJ ?hY (tickA l) W1 ⟨hTk0, hL1, hD1⟩).mono ?_
      case hJ =>
        rintro pre rest W ⟨hT, _, _⟩
        obtain ⟨v', hL', _⟩ := hT.left
        exact ⟨hT.len, by rw [cell_of_row _ _ _ _ _ _ hT.box]; rfl, v', hL'.qu⟩
      case hY =>
        rintro pre x rest W v1 v2 ⟨hT, hlo, hde⟩ h1 h2
        obtain ⟨hbl, v3, u, hL3, hown3, hu, hr, hblk⟩ := Tk.cut hq hT h1 h2
        generalize hW2 : W.drew.setCell ⟨b, 1, none⟩ v2 = W2 at *
        have hlo2 : W2.heap[wr.heap.size + 3]? = some (rec .ready) := (hblk _ (by omega)).trans hlo
        have hde2 : W2.heap[wr.heap.size + 2]? = some (.deferred (some [])) := (hblk _ (by omega)).trans hde
        have hbo2 : W2.heap[wr.heap.size + 1]? = some (.cells #[.pointer (some ⟨b, 0, none⟩)] 24) := (hblk _ (by omega)).trans hT.box
        have hsz2 : W2.heap.size = W.heap.size := by rw [← hW2]; simp
        refine hU.round #[.int .i64 x] W2 _ hlo2 rfl ?_
        have hbox2 : Tk wr b (.slice a l.length cap) p wr.heap.size pre ((x, 0) :: rest) W := hT
        have hpl := hT.plen
        have hws := hT.size
        obtain ⟨a3, cap3, W3, hrun, hB1, hB3, hl3, hT3, hD3, hL4⟩ := Tk.body (oB := rec .busy) (oR := rec .ready) (x := x) (W := W2) hq (by simp at hpl; omega) hL3 hown3 (hu) (hr) (hbo2) (hde2) (by omega)
        have cB1 := hB1.cell
        have cB1a := (hB1.alloc (.cells #[.int .i64 x] 3)).cell
        have cB3 := hB3.cell
        have fB3 := hB3.frozen
        have hsp : (W2.putObj (wr.heap.size + 3) (rec .busy)).heap.size = W2.heap.size := by simp
        have HF := hid (And.intro hl3 (And.intro hT3 (And.intro hL4 hD3)))
        have HLO := hid hlo2
        clear hl3 hT3 hL4 hD3 hbox2 hu hr hB1 hB3 hlo2 hde2 hbo2 hpl hws hT hlo hde h1 h2 hL3 hown3 hblk hS HQ HB hq hTk0 hb2 hb1 hL1 hD1 hU hW2 hsz2
        gi_wp2_with fail
        refine ⟨HLO.out, ?_⟩
        gi_wp2_with (gi_at_builtin; refine wpListIn_append_run rfl _ _ 29 29 rfl _ _ _ rfl rfl hrun ?_)
        exact HF.out
      · rintro e W2 ⟨hv, hT, hlo, hde⟩
        refine ⟨hv, hlo, ?_⟩
        obtain ⟨v3, hL3, hown3⟩ := hT.left
        obtain ⟨u, hu, hr⟩ := hT.acc
        have hbe : Below wr.heap.size W2 (W2.putObj (wr.heap.size + 3) (rec .exhausted)) := below_putObj (by omega) (by have := hT.size; omega)
        have hu2 : Boxed (W2.putObj (wr.heap.size + 3) (rec .exhausted)) wr.heap.size 29 u := (World.putObj_heap_other (by omega)).trans hu
        have hr2 : OR (W2.putObj (wr.heap.size + 3) (rec .exhausted)) (wr.heap.size + 4) 1 u (dueOf (tickA l)).length (nums (dueOf (tickA l))) := hr.other (by simp) (fun g e => World.putObj_heap_other (by have := (hr.own g e).1; omega))
        have hde2 : (W2.putObj (wr.heap.size + 3) (rec .exhausted)).heap[wr.heap.size + 2]? = some (.deferred (some [])) := (World.putObj_heap_other (by omega)).trans hde
        have hL4 := (hL3.below hown3 hq hbe)
        have hsz4 : wr.heap.size + 4 ≤ (W2.putObj (wr.heap.size + 3) (rec .exhausted)).heap.size := by simp; exact hT.size
        generalize W2.putObj (wr.heap.size + 3) (rec .exhausted) = W4 at *
        have cu := hu2.cell
        have HF := hid (And.intro hL4 (And.intro hr2 (And.intro hde2 hsz4)))
        clear hL4 hr2 hde2 hu2 hsz4 hu hr hbe hL3 hT hlo hde hU hL1 hD1 hb1 hs1 hTk0 hb2 hbx hby hs2 hv
        go_wp2_with fail
        refine leaves_marks [wr.heap.size + 2] W4 (fun W' => Left wr b (.slice a l.length cap) p (restOf (tickA l)) v3 W' ∧ OR W' (wr.heap.size + 4) 1 u (dueOf (tickA l)).length (nums (dueOf (tickA l))) ∧ wr.heap.size + 4 ≤ W'.heap.size) ⟨HF.out.1, HF.out.2.1, HF.out.2.2.2⟩ (fun D' hD' => by
          obtain rfl : D' = wr.heap.size + 2 := by simpa using hD'
          exact HF.out.2.2.1) (by simp) (fun W' D' hD' hI _ => ?_) (fun W' hI => ?_)
        · obtain rfl : D' = wr.heap.size + 2 := by simpa using hD'
          obtain ⟨i1, i2, i3⟩ := hI
          exact ⟨i1.below hown3 hq (below_putObj (by omega) (by omega)), i2.other (by simp) (fun g e => World.putObj_heap_other (by have := (i2.own g e).1; omega)), by simp; exact i3⟩
        · refine ⟨_, results_tmp rfl _ _ _, u, v3, rfl, hI.2.1.low (by have := hS.out.turn.size; omega), hS.out.trans hI.1, fun k e ho => ?_⟩
          have h1 := (hI.2.1.own k e).1
          rcases ho with rfl | ho
          · have := (hq.lt (.inl rfl)).2; omega
          · have := (hq.lt (.inr (hown3 k ho))).2; omega
end Go.Proofs.Ytgoennbbpndiiaa
