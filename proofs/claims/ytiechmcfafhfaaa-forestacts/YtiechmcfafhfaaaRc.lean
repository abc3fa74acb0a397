/- The document's forest: the contracts of Cut and Remove. -/
import Derived.Test.YtiechmcfafhfaaaR6
namespace Go.Proofs.Ytiechmcfafhfaaa
open Go.RowKit Go.Maps Go.Shelf

/-- Nodes went: their owners are answered. -/
def RGone (w : World) (r : Nat) (v : Value) (last : Nat) (L : List Nd) (D : List Nat) (en : Ending) (w' : World) : Prop :=
  ∃ a cap, en = .returned (.slice a D.length cap) ∧ OR w' w.heap.size 2 (.slice a D.length cap) D.length (flat (D.map (ownOf L))) ∧ ∃ v', Rf w' r v' last (less L D) ∧ Tr (ROwn r v) (ROwn r v') w w' ∧ ∀ g, (Value.slice a D.length cap).ownBlock = some g → ¬ ROwn r v' g
section
variable {w w' : World} {r : Nat} {v : Value} {last last2 : Nat} {L : List Nd} {e : Nd}
theorem Tr.refl' (S : Nat → Prop) (hb : Below w.heap.size w w') : Tr S S w w' := tr_refl S hb
theorem Tr.trans {S S' S'' : Nat → Prop} {a b c : World} (h : Tr S S' a b) (k : Tr S' S'' b c) : Tr S S'' a c :=
  ⟨⟨k.turn.os.trans h.turn.os, k.turn.tape.trans h.turn.tape, k.turn.output.trans h.turn.output, Nat.le_trans h.turn.size k.turn.size, fun i hi hn => (k.turn.block i (Nat.lt_of_lt_of_le hi h.turn.size) (fun h2 => (h.own i h2).elim hn (by omega))).trans (h.turn.block i hi hn)⟩,
   fun i hi => (k.own i hi).elim (h.own i) (fun h2 => .inr (Nat.le_trans h.turn.size h2))⟩
theorem rcut_step {w1 wr w2 w3 : World} {v' v2 : Value} {M : List Nd} {a2 a3 aK : Option Addr} {n2 cap2 cap3 lk cK : Nat} {xs : List (Int × Int)} {ks : List Int} (hb1 : Below w.heap.size w w1) (htr : Tr (ROwn r v) (ROwn r v') w wr) (htr2 : Tr (ROwn r v') (ROwn r v2) wr w2) (hrf2 : Rf w2 r v2 last2 M)
    (hn2 : ∀ g, (Value.slice a2 n2 cap2).ownBlock = some g → ¬ ROwn r v2 g) (hoK : OR w2 w.heap.size 1 (.slice aK lk cK) lk (nums ks)) (hnK : ∀ g, (Value.slice aK lk cK).ownBlock = some g → ¬ ROwn r v2 g)
    (hKO : ∀ g, (Value.slice aK lk cK).ownBlock = some g → (Value.slice a2 n2 cap2).ownBlock ≠ some g) (hs1 : w1.heap.size ≤ w2.heap.size) (ho3 : OR w3 w1.heap.size 2 (.slice a3 (n2 + 1) cap3) (n2 + 1) (flat xs)) (hb3 : Below w1.heap.size w2 w3)
    (hk3 : ∀ k, k < w2.heap.size → (Value.slice a2 n2 cap2).ownBlock ≠ some k → w3.heap[k]? = w2.heap[k]?) (hob3 : ∀ k, (Value.slice a3 (n2 + 1) cap3).ownBlock = some k → (Value.slice a2 n2 cap2).ownBlock = some k ∨ w2.heap.size ≤ k) :
    w1.heap.size ≤ w3.heap.size ∧ OR w3 w1.heap.size 2 (.slice a3 (n2 + 1) cap3) (n2 + 1) (flat xs) ∧ ∃ v', Rf w3 r v' last2 M ∧ Tr (ROwn r v) (ROwn r v') w w3 ∧ (∀ g, (Value.slice a3 (n2 + 1) cap3).ownBlock = some g → ¬ ROwn r v' g) ∧
      OR w3 w.heap.size 1 (.slice aK lk cK) lk (nums ks) ∧ (∀ g, (Value.slice aK lk cK).ownBlock = some g → ¬ ROwn r v' g) ∧ (∀ g, (Value.slice aK lk cK).ownBlock = some g → (Value.slice a3 (n2 + 1) cap3).ownBlock ≠ some g) := by
  have t := htr.trans htr2
  have hs := hb1.size
  refine ⟨Nat.le_trans hs1 hb3.size, ho3, v2, hrf2.same hb3.size (fun k hk => hk3 k (hrf2.lt hk).2 (fun e => hn2 k e hk)), ⟨?_, t.own⟩, fun g e hk => ?_, hoK.other hb3.size (fun g e => hk3 g (hoK.own g e).2 (hKO g e)), hnK, fun g e e2 => ?_⟩
  · exact ⟨hb3.os.trans t.turn.os, hb3.tape.trans t.turn.tape, hb3.output.trans t.turn.output, Nat.le_trans t.turn.size hb3.size, fun k hk hn => (hb3.block k (by omega)).trans (t.turn.block k hk hn)⟩
  · rcases hob3 g e with h1 | h1
    · exact hn2 g h1 hk
    · have := (hrf2.lt hk).2; omega
  · rcases hob3 g e2 with h1 | h1
    · exact hKO g e h1
    · have := (hoK.own g e).2; omega
set_option maxRecDepth 100000 in
set_option maxHeartbeats 2000000 in
theorem rcut_any (h : Rf w r v last2 L) (hw : Wf L last) (hlast : last < 400) (x : Int) : Calls Try.prog 22 #[ptr r, .int .i64 x] w (RGone w r v last2 L (below L x.toNat)) := by
  have HB := hid (rbelow_any h hw hlast x)
  have hin : ∀ y ∈ below L x.toNat, ∃ f ∈ L, f.id = y := fun y hy => (hw.below_in hy).2.2
  have hnd := hw.below_nodup x.toNat
  have hll : L.length ≤ 400 := by have := hw.len; omega
  have hbl : (below L x.toNat).length ≤ 400 := by have := hw.below_len x.toNat; omega
  have HR := hid h
  generalize below L x.toNat = l at *
  have HI := hid (And.intro hin hnd)
  have HW := hid hw
  clear h hin hnd hw
  go_enter Try.func22, Try.ntmps22
  go_wp2_with (go_at_call 27; refine HB.out.mono ?_; rintro en w1 ⟨aK, cK, rfl, hoK, hbK⟩; rw [List.length_map] at hoK ⊢; have HOK := hid hoK; have HBK := hid hbK; clear hoK hbK)
  go_loopw [5, 7] (fun u c wr => ∃ k : Nat, k ≤ l.length ∧ c = .int .i64 (k : Int) ∧ ∃ n2 a2 cap2, u = .slice a2 n2 cap2 ∧ Hid (n2 = k ∧ w1.heap.size ≤ wr.heap.size ∧ OR wr w1.heap.size 2 (.slice a2 n2 cap2) n2 (flat ((l.take k).map (ownOf L))) ∧ ∃ v', Rf wr r v' last2 (less L (l.take k)) ∧ Tr (ROwn r v) (ROwn r v') w wr ∧ (∀ g, (Value.slice a2 n2 cap2).ownBlock = some g → ¬ ROwn r v' g) ∧ OR wr w.heap.size 1 (.slice aK l.length cK) l.length (nums (zs l)) ∧ (∀ g, (Value.slice aK l.length cK).ownBlock = some g → ¬ ROwn r v' g) ∧ (∀ g, (Value.slice aK l.length cK).ownBlock = some g → (Value.slice a2 n2 cap2).ownBlock ≠ some g))) (fun _ c _ => l.length - (intOf c).toNat)
  case atStart =>
    have hr1 := HR.out.below HBK.out (Nat.le_refl _)
    refine ⟨0, Nat.zero_le _, rfl, 0, none, 0, rfl, rfl, Nat.le_refl _, OR.nil _ _ _, v, by rw [List.take_zero, less_nil]; exact hr1, tr_refl _ HBK.out, fun g e => (by cases e), HOK.out, fun g e hk => ?_, fun g _ e => (by cases e)⟩
    have := (HOK.out.own g e).1
    have := (HR.out.lt hk).2
    omega
  case round =>
    obtain ⟨k, hk, rfl, n2, a2, cap2, rfl, hS⟩ := hrel
    obtain ⟨rfl, hsw, ho2, v', hrf, htr, hnO, hoK, hnK, hKO⟩ := hS.out
    by_cases hlt : n2 < l.length
    · have hk2 := List.getElem?_eq_getElem hlt
      obtain ⟨x, hx⟩ : ∃ x, x = l[n2] := ⟨_, rfl⟩
      have hxm : x ∈ l := by rw [hx]; exact List.getElem_mem hlt
      obtain ⟨f, hf, hfx⟩ := HI.out.1 x hxm
      have hnt : x ∉ l.take n2 := fun hd => by
        obtain ⟨j, hj, e1⟩ := List.getElem_of_mem hd
        rw [List.length_take] at hj
        rw [List.getElem_take] at e1
        have := (List.getElem_inj HI.out.2).1 (e1.trans hx)
        omega
      rw [← hx] at hk2
      have hfl : f ∈ less L (l.take n2) := mem_less.2 ⟨hf, by rw [hfx]; exact hnt⟩
      have HC := hid (drop_any hrf (less_ids HW.out.ids _) (by have := less_len L (l.take n2); omega) hfl)
      rw [hfx, less_less] at HC
      have how := HW.out.ownOf hf
      rw [hfx] at how
      have et : l.take (n2 + 1) = l.take n2 ++ [x] := by rw [List.take_add_one, hk2]; rfl
      have hxk : (zs l)[n2]? = some (x : Int) := by unfold zs; rw [List.getElem?_map, hk2]; rfl
      obtain ⟨gK, oK, rfl, _, cx⟩ := hoK.at (nums_at hxk)
      have hfl2 : ((l.take n2).map (ownOf L)).length = n2 := by rw [List.length_map, List.length_take]; omega
      have em : (l.take n2).map (ownOf L) ++ [(f.sp, f.sl)] = (l.take (n2 + 1)).map (ownOf L) := by rw [et, List.map_append, ← how]; rfl
      rw [← et] at HC
      have hk0 : (0 : Int) ≤ (n2 : Int) := by omega
      have hk1 : (n2 : Int) < (l.length : Int) := by omega
      have HLT := hid hlt
      have em2 : ((l.take (n2 + 1)).map (ownOf L)).length = n2 + 1 := by rw [List.length_map, List.length_take]; omega
      have HEM := hid (And.intro hfl2 (And.intro em em2))
      have HS := hid (And.intro ho2 (And.intro htr (And.intro hnO (And.intro hoK (And.intro hnK (And.intro hKO hsw))))))
      clear hk2 hx hxm hf hfx hnt hfl how et hxk hfl2 em em2 hS ho2 hrf htr hnO hoK hnK hKO hlt hsw
      generalize ((x : Nat) : Int) = z at *
      go_wp2_with (first
        | (go_at_call 38
           refine HC.out.mono ?_
           rintro en w2 ⟨rfl, v2, hrf2, htr2⟩
           have ho2 := (HS.out.1.tr htr2 HS.out.2.2.1)
           have hoK2 := (HS.out.2.2.2.1.tr htr2 HS.out.2.2.2.2.1)
           have hs1 : w1.heap.size ≤ w2.heap.size := Nat.le_trans HS.out.2.2.2.2.2.2 htr2.turn.size
           obtain ⟨a3, cap3, w3, hr3, ho3, hb3, hk3, hob3⟩ := spot_append (xs := (l.take n2).map (ownOf L)) (by rw [HEM.out.1]; exact ho2.1) (by rw [HEM.out.1]; omega) hs1 f.sp f.sl w2.heap.size rfl
           rw [HEM.out.2.1] at ho3
           rw [HEM.out.1] at hr3 ho3 hob3
           rw [HEM.out.2.2] at ho3
           have H3 := hid (rcut_step HBK.out HS.out.2.1 htr2 hrf2 ho2.2 hoK2.1 hoK2.2 HS.out.2.2.2.2.2.1 hs1 ho3 hb3 hk3 hob3)
           clear ho2 hoK2 hs1 ho3 hb3 hk3 hob3 hrf2 htr2)
        | (at_builtin; refine wpList_append_run rfl _ _ 36 36 rfl _ _ _ rfl rfl hr3 ?_))
      exact ⟨⟨n2 + 1, HLT.out, by go_num, n2 + 1, a3, cap3, rfl, rfl, H3⟩, by have := HLT.out; simp [intOf]; omega⟩
    · obtain rfl : n2 = l.length := by omega
      rw [List.take_length] at ho2 hrf
      have H2 := hid (And.intro (OR.base ho2 HBK.out.size) (And.intro hrf (And.intro htr hnO)))
      clear hS hrf htr hnO hoK hnK hKO ho2 hlt
      go_wp2_with fail
      go_ret
      exact ⟨_, _, rfl, H2.out.1, v', H2.out.2⟩
set_option maxRecDepth 100000 in
set_option maxHeartbeats 2000000 in
theorem rremove_any (h : Rf w r v last2 L) (hw : Wf L last) (hlast : last < 400) (x : Int) : Calls Try.prog 23 #[ptr r, .int .i64 x] w (RGone w r v last2 L (goneZ L x)) := by
  have hll : L.length ≤ 400 := by have := hw.len; omega
  have HC := hid (rcut_any h hw hlast x)
  by_cases hn : There L x
  · obtain ⟨f, hf, rfl⟩ := hn
    have e1 : goneZ L (f.id : Int) = below L f.id ++ [f.id] := by unfold goneZ; rw [find_some hw hf]; rfl
    rw [e1]
    have HC : Hid (Calls Try.prog 22 #[ptr r, .int .i64 (f.id : Int)] w (RGone w r v last2 L (below L f.id))) := HC
    have hfn : f.id ∉ below L f.id := fun hd => by have := (hw.below_in hd).1; omega
    have hfl : f ∈ less L (below L f.id) := mem_less.2 ⟨hf, hfn⟩
    have hids := less_ids hw.ids (below L f.id)
    obtain ⟨k, hk, hkl, hno⟩ := at_there hids hfl
    have hat := atI_hit hk rfl hno
    have hlen : (less L (below L f.id)).length ≤ 400 := by have := less_len L (below L f.id); omega
    have hbl : (below L f.id).length ≤ 400 := by have := hw.below_len f.id; omega
    have hem : ((below L f.id).map (ownOf L)) ++ [(f.sp, f.sl)] = (below L f.id ++ [f.id]).map (ownOf L) := by rw [List.map_append, ← hw.ownOf hf]; rfl
    have hk0 : (0 : Int) ≤ (k : Int) := by omega
    have HA := hid (fun (wx : World) (vx : Value) (hx : Rf wx r vx last2 (less L (below L f.id))) => And.intro (at_any hx hlen (f.id : Int)) (drop_any hx hids hlen hfl))
    rw [hat, less_less] at HA
    have hln : (below L f.id ++ [f.id]).length = (below L f.id).length + 1 := by rw [List.length_append]; rfl
    have HEM := hid (And.intro hem hln)
    clear h hw hf e1 hfn hfl hids hk hkl hno hat hlen hem hln
    generalize hz : ((f.id : Nat) : Int) = z at *
    clear hz
    generalize hD : below L f.id = D at *
    clear hD
    go_enter Try.func23, Try.ntmps23
    go_wp2_with (first
      | (go_at_call 22; refine HC.out.mono ?_; rintro en w1 ⟨a1, c1, rfl, ho1, v1, hrf1, htr1, hn1⟩; have HD := (HA.out w1 v1 hrf1); have HO := hid (And.intro ho1 (And.intro htr1 hn1)); clear ho1 htr1 hn1)
      | (go_at_call 37; refine HD.1.mono ?_; rintro en w1' ⟨rfl, rfl⟩)
      | (go_at_call 38
         refine HD.2.mono ?_
         rintro en w2 ⟨rfl, v2, hrf2, htr2⟩
         have ho2 := HO.out.1.tr htr2 HO.out.2.2
         have hfl2 : (D.map (ownOf L)).length = D.length := List.length_map _
         obtain ⟨a3, cap3, w3, hr3, ho3, hb3, hk3, hob3⟩ := spot_append (xs := D.map (ownOf L)) (by rw [hfl2]; exact ho2.1) (by rw [hfl2]; omega) (Nat.le_trans HO.out.2.1.turn.size htr2.turn.size) f.sp f.sl w2.heap.size rfl
         rw [HEM.out.1] at ho3
         rw [hfl2] at hr3 ho3 hob3
         rw [show (List.map (ownOf L) (D ++ [f.id])).length = D.length + 1 by rw [List.length_map, HEM.out.2]] at ho3
         have H3 := hid (rcut_step (aK := none) (lk := 0) (cK := 0) (ks := []) (Below.refl _ w) HO.out.2.1 htr2 hrf2 ho2.2 (OR.nil _ _ _) (fun g e => by cases e) (fun g e => by cases e) (Nat.le_trans HO.out.2.1.turn.size htr2.turn.size) ho3 hb3 hk3 hob3)
         clear ho2 hfl2 ho3 hb3 hk3 hob3 hrf2 htr2)
      | (at_builtin; refine wpList_append_run rfl _ _ 36 36 rfl _ _ _ rfl rfl hr3 ?_))
    go_ret
    obtain ⟨_, k1, v3, k2, k3, k4, _⟩ := H3.out
    refine ⟨a3, cap3, ?_, ?_, v3, k2, k3, ?_⟩
    · rw [HEM.out.2]; rfl
    · rw [HEM.out.2]; exact k1
    · rw [HEM.out.2]; exact k4
  · have e1 : goneZ L x = below L x.toNat := by unfold goneZ; rw [find_none hn]; exact List.append_nil _
    rw [e1]
    have hat : atI (less L (below L x.toNat)) x = -1 := atI_miss (fun j f hf hx => hn ⟨f, (mem_less.1 (List.mem_of_getElem? hf)).1, hx⟩)
    have hlen : (less L (below L x.toNat)).length ≤ 400 := by have := less_len L (below L x.toNat); omega
    have HA := hid (fun (wx : World) (vx : Value) (hx : Rf wx r vx last2 (less L (below L x.toNat))) => at_any hx hlen x)
    rw [hat] at HA
    clear hn h hw e1 hat hlen
    generalize below L x.toNat = D at *
    go_enter Try.func23, Try.ntmps23
    go_wp2_with (first
      | (go_at_call 22; refine HC.out.mono ?_; rintro en w1 ⟨a1, c1, rfl, ho1, v1, hrf1, htr1⟩; have HD := (HA.out w1 v1 hrf1); have HO := hid (And.intro ho1 (And.intro hrf1 htr1)); clear ho1 htr1)
      | (go_at_call 37; refine HD.mono ?_; rintro en w1' ⟨rfl, rfl⟩))
    go_ret
    exact ⟨a1, c1, rfl, HO.out.1, v1, HO.out.2.1, HO.out.2.2⟩
end
end Go.Proofs.Ytiechmcfafhfaaa
