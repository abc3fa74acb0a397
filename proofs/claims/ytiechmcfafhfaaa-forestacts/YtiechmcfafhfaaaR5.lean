/- The document's forest: the contract of Below. -/
import Derived.Test.YtiechmcfafhfaaaR4
namespace Go.Proofs.Ytiechmcfafhfaaa
open Go.RowKit Go.Maps Go.Shelf

theorem post_take_len (L : List Nd) (l : List Nat) (k : Nat) : (post L (l.take k)).length ≤ (post L l).length := by
  have : post L l = post L (l.take k) ++ post L (l.drop k) := by rw [← post_append, List.take_append_drop]
  rw [this, List.length_append]; omega
section
variable {r : Nat} {v : Value} {last last2 : Nat} {L : List Nd}
set_option maxRecDepth 100000 in
set_option maxHeartbeats 2000000 in
theorem rbelow_ind (hw : Wf L last) (hlast : last < 400) : ∀ (n : Nat) (x : Int) (w : World), last - x.toNat = n → Rf w r v last2 L → Calls Try.prog 27 #[ptr r, .int .i64 x] w (NumPost w (zs (below L x.toNat))) := by
  intro n
  induction n using Nat.strongRecOn with
  | _ n ih =>
    intro x w hn h
    have hlen : L.length ≤ 400 := by have := hw.len; omega
    have hbe := hw.below_eq hlast x.toNat
    have hbl := hw.below_len x.toNat
    have HK := hid (rkids_any h hlen x)
    rw [kz_kids] at HK
    have hkid : ∀ k ∈ kids L x.toNat, x.toNat < k ∧ k ≤ last := fun k hk => ⟨(hw.kid hk).1, (hw.kid hk).2.1⟩
    have HIH := hid (fun (k : Nat) (hk : k ∈ kids L x.toNat) (wx : World) (hx : Rf wx r v last2 L) => show Calls Try.prog 27 #[ptr r, .int .i64 (k : Int)] wx (NumPost wx (zs (below L k))) from ih (last - k) (by have := hkid k hk; omega) (k : Int) wx rfl hx)
    have HBB := hid (fun (k : Nat) => show (below L k).length ≤ 400 by have := hw.below_len k; omega)
    have hkl : (kids L x.toNat).length ≤ 400 := by have := hw.kids_len x.toNat; omega
    have HR := hid h
    rw [hbe] at hbl ⊢
    generalize kids L x.toNat = ks at *
    have HB := hid (show (post L ks).length ≤ 400 by omega)
    clear ih hn h hbe hkid hbl hlen
    go_enter Try.func27, Try.ntmps27
    go_wp2_with (go_at_call 28; refine HK.out.mono ?_; rintro en w1 ⟨aK, cK, rfl, hoK, hbK⟩; rw [List.length_map] at hoK ⊢; have HOK := hid hoK; have HBK := hid hbK; clear hoK hbK)
    go_loopw [5, 7] (fun u c wr => ∃ k : Nat, k ≤ ks.length ∧ c = .int .i64 (k : Int) ∧ ∃ xs a2 cap2, u = .slice a2 (List.length xs) cap2 ∧ Hid (xs = zs (post L (ks.take k)) ∧ Below w1.heap.size w1 wr ∧ OR wr w1.heap.size 1 (.slice a2 xs.length cap2) xs.length (nums xs))) (fun _ c _ => ks.length - (intOf c).toNat)
    case atStart => exact ⟨0, Nat.zero_le _, rfl, [], none, 0, rfl, rfl, Below.refl _ _, OR.nil _ _ _⟩
    case round =>
      obtain ⟨k, hk, rfl, xs, a2, cap2, rfl, hS⟩ := hrel
      by_cases hlt : k < ks.length
      · have hk2 := List.getElem?_eq_getElem hlt
        obtain ⟨x, hx⟩ : ∃ x, x = ks[k] := ⟨_, rfl⟩
        have hxm : x ∈ ks := by rw [hx]; exact List.getElem_mem hlt
        rw [← hx] at hk2
        have hrf : Rf wr r v last2 L := (HR.out.below HBK.out (Nat.le_refl _)).below hS.out.2.1 (Nat.le_refl _)
        have HC := hid (HIH.out x hxm wr hrf)
        have hok : OR wr w.heap.size 1 (.slice aK ks.length cK) ks.length (nums (zs ks)) := HOK.out.below hS.out.2.1 (Nat.le_refl _)
        have hstep := post_step L hk2
        have hxl : xs.length ≤ 400 := by rw [hS.out.1, List.length_map]; have := post_take_len L ks k; have := HB.out; omega
        have hyl : (zs (below L x)).length ≤ 400 := by rw [List.length_map]; exact HBB.out x
        have hzs : zs (post L (ks.take (k + 1))) = xs ++ zs (below L x) ++ [(x : Int)] := by
          rw [hstep, hS.out.1]; unfold zs; rw [List.map_append, List.map_append]; rfl
        have hxk : (zs ks)[k]? = some (x : Int) := by unfold zs; rw [List.getElem?_map, hk2]; rfl
        obtain ⟨gK, oK, rfl, _, cx⟩ := hok.at (nums_at hxk)
        have HOW := hid hok
        have HLT := hid hlt
        have HZ := hid hzs
        have hk0 : (0 : Int) ≤ (k : Int) := by omega
        have hk1 : (k : Int) < (ks.length : Int) := by omega
        clear hk2 hx hxm hrf hstep hzs hxk hok hlt
        generalize zs (below L x) = ys at *
        generalize ((x : Nat) : Int) = z at *
        go_wp2_with (first
          | (go_at_call 27
             refine HC.out.mono ?_
             rintro en w2 ⟨a7, c7, rfl, ho7, hb7⟩
             have hbs := hS.out.2.1.size
             have hs2 := hb7.size
             obtain ⟨a3, cap3, w3, hr1, ho3, hg3, _⟩ := nums_rows (hS.out.2.2.below hb7 (Nat.le_refl _)) ho7 (by omega) (by omega)
             have hb3 : Below w1.heap.size w2 w3 := (Below.refl _ w2).grown hg3 (by omega) (fun k e => (hS.out.2.2.own k e).1)
             have hB3 : Below w1.heap.size w1 w3 := (hS.out.2.1.trans (hb7.mono hbs)).trans hb3
             have cx3 : w3.cell? ⟨gK, oK + k, none⟩ = some (.int .i64 z) := by
               have hgl := (HOW.out.own gK rfl).2
               have hgK : gK < w1.heap.size := (HOK.out.own gK rfl).2
               rw [hB3.cell (p := ⟨gK, oK + k, none⟩) hgK, ← hS.out.2.1.cell (p := ⟨gK, oK + k, none⟩) hgK]
               exact cx
             obtain ⟨a4, cap4, w4, hr2, ho4, hb4, _⟩ := num_append ho3 (by rw [List.length_append]; omega) hB3.size z w3.heap.size rfl
             have hln : (xs ++ ys ++ [z]).length = (xs ++ ys).length + 1 := by rw [List.length_append]; rfl
             rw [← hln] at hr2 ho4
             have H4 := hid (And.intro HZ.out.symm (And.intro (hB3.trans hb4) ho4))
             clear ho7 hb7 hg3 hb3 hB3 ho3 ho4 hb4 cx hln hbs hs2 hS
             generalize xs ++ ys ++ [z] = zz at *
             generalize (xs ++ ys).length = n3 at *)
          | (at_builtin; refine wpList_append_run rfl _ _ 34 34 rfl _ _ _ rfl rfl hr1 ?_)
          | (at_builtin; refine wpList_append_run rfl _ _ 34 34 rfl _ _ _ rfl rfl hr2 ?_))
        exact ⟨⟨k + 1, HLT.out, by go_num, zz, a4, cap4, rfl, H4⟩, by have := HLT.out; simp [intOf]; omega⟩
      · obtain rfl : k = ks.length := by omega
        rw [List.take_length] at hS
        obtain ⟨rfl, hb, ho⟩ := hS.out
        have HF := hid (And.intro hb ho)
        clear hS hb ho
        generalize zs (post L ks) = zz at *
        go_wp2_with fail
        go_ret
        exact ⟨_, _, rfl, OR.base HF.out.2 HBK.out.size, HBK.out.trans (HF.out.1.mono HBK.out.size)⟩
/-- Below. -/
theorem rbelow_any {w : World} (h : Rf w r v last2 L) (hw : Wf L last) (hlast : last < 400) (x : Int) : Calls Try.prog 27 #[ptr r, .int .i64 x] w (NumPost w (zs (below L x.toNat))) := rbelow_ind hw hlast _ x w rfl h
end
end Go.Proofs.Ytiechmcfafhfaaa
