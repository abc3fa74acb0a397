/- The walk of ForestLifts. -/
import Derived.Test.YtiechmcfafhfaaaT
namespace Go.Proofs.Ytiechmcfafhfaaa.forestLifts
open Go.RowKit Go.Maps Go.Shelf Go.Proofs.Ytiechmcfafhfaaa

theorem lifted_many {L : List Nd} {last : Nat} {e : Nd} (h : Wf L last) (he : e ∈ L) (hR : Wf (lifted L e.id e.par) last) : (lifted L e.id e.par).length + 1 = L.length := by
  have h0 : e.id ≠ 0 := by have := (h.lo e he).1; omega
  have hnL : (L.map (·.id)).Nodup := by rw [List.nodup_iff_pairwise_ne, List.pairwise_map]; exact h.ids
  have hnR : ((lifted L e.id e.par).map (·.id)).Nodup := by rw [List.nodup_iff_pairwise_ne, List.pairwise_map]; exact hR.ids
  have hin : e.id ∈ L.map (·.id) := List.mem_map.2 ⟨e, he, rfl⟩
  have := nodup_len_eq hnR (hnL.erase e.id) (fun x => by
    rw [List.Nodup.mem_erase_iff hnL, List.mem_map, List.mem_map]
    constructor
    · rintro ⟨g, hg, rfl⟩
      obtain ⟨f, hf, hne, rfl⟩ := (lifted_mem h h0).1 hg
      exact ⟨hne, f, hf, rfl⟩
    · rintro ⟨hne, f, hf, rfl⟩
      exact ⟨_, (lifted_mem h h0).2 ⟨f, hf, hne, rfl⟩, rfl⟩)
  rw [List.length_erase_of_mem hin, List.length_map, List.length_map] at this
  have := List.length_pos_of_mem he
  omega
def own (i : Nat) : Int × Int := (0, (i : Int))
theorem core_out (a : Option Addr) (n cap : Nat) (y : Int) (w : World) (hl : n = 0 ∨ 60 < n) :
    Calls Try.prog 5 #[.slice a n cap, .int .u8 y] w fun e w' => e = .returned (.bool true) ∧ Below w.heap.size w w' := by
  rcases hl with rfl | hl
  · go_enter Try.func5, Try.ntmps5
    go_wp2_with (go_at_call 8; refine (alive_true _).mono ?_; rintro e w' ⟨rfl, hb⟩)
    go_ret
    exact ⟨rfl, hb⟩
  · have h0 : ((n : Int) == 0) = false := by rw [beq_eq_false_iff_ne]; omega
    have h1 : decide ((60 : Int) < (n : Int)) = true := by simp; omega
    have h2 : decide (60 < n) = true := by simp; omega
    go_enter Try.func5, Try.ntmps5
    go_wp2_with (go_at_call 8; refine (alive_true _).mono ?_; rintro e w' ⟨rfl, hb⟩)
    go_ret
    exact ⟨rfl, hb⟩

set_option maxRecDepth 100000 in
set_option maxHeartbeats 4000000 in
theorem core (a : Option Addr) (ns : List Nat) (cap : Nat) (y : Nat) (w : World) (hy : y ≤ 255) (hA : Bys w w.heap.size a ns) (h0 : 0 < ns.length) (hl : ns.length ≤ 60) :
    Calls Try.prog 5 #[.slice a ns.length cap, .int .u8 (y : Int)] w fun e w' => e = .returned (.bool true) ∧ Below w.heap.size w w' := by
  have HA := hid hA
  have hd0 : ((ns.length : Int) == 0) = false := by rw [beq_eq_false_iff_ne]; omega
  have hd1 : decide (60 < ns.length) = false := by simp; omega
  obtain ⟨j, hj⟩ : ∃ j, j = y % ns.length := ⟨_, rfl⟩
  have hjl : j < ns.length := by rw [hj]; exact Nat.mod_lt _ h0
  have hjm : (y : Int).tmod (ns.length : Int) = (j : Int) := by rw [hj]; exact tmod_cast _ _
  have hyi : (y : Int) ≤ 255 := by omega
  have hy0 : (0 : Int) ≤ (y : Int) := by omega
  clear hA hj
  go_enter Try.func5, Try.ntmps5
  go_wp2_with (first
    | (go_at_call 8; refine (alive_true _).mono ?_; rintro e w1 ⟨rfl, hb1⟩; have HB1 := hid hb1; clear hb1)
    | (go_at_call 19; refine (z_new _).mono ?_; rintro e w2 ⟨p, m1, m2, nb, rfl, hz⟩; have H2 := hid hz; clear hz))
  go_loopw [6] (fun c wr => ∃ k : Nat, k ≤ ns.length ∧ c = .int .i64 (k : Int) ∧ Hid (∃ nb, Fz w1 wr p m1 m2 nb k (grow ns own k))) (fun c _ => ns.length - (intOf c).toNat)
  case atStart => exact ⟨0, Nat.zero_le _, rfl, nb, H2.out⟩
  case round =>
    obtain ⟨k, hk, rfl, hS⟩ := hrel
    by_cases hlt : k < ns.length
    · obtain ⟨nb, hz⟩ := hS.out
      obtain ⟨s, o, rfl, hx, hc⟩ := HA.out.at (HB1.out.trans (hz.bel.mono HB1.out.size)) hlt
      obtain ⟨q, hq⟩ : ∃ q, q = ns[k]?.getD 0 % (k + 1) := ⟨_, rfl⟩
      have hqm : ((ns[k]?.getD 0 : Nat) : Int).tmod ((k : Int) + 1) = (q : Int) := by rw [hq]; exact tmod_cast _ (k + 1)
      have hcall := hid (z_grow hz (own := own) (by omega) (fun i j hij _ e => by have h2 : (i : Int) = (j : Int) := congrArg Prod.snd e; omega) (fun i hi => by unfold I64; simp [own]; omega) (x := (q : Int)) (by rw [hq]) (a := 0) rfl (b := (k : Int)) rfl)
      have HLT := hid hlt
      have hk0 : (0 : Int) ≤ (k : Int) := by omega
      have hk1 : (k : Int) < (ns.length : Int) := by omega
      have hkd : ((k : Int) + 1 == 0) = false := by rw [beq_eq_false_iff_ne]; omega
      clear hS hz hq hlt
      generalize hxe : ns[k]?.getD 0 = x at hc hqm hx
      have hxi : (x : Int) ≤ 255 := by omega
      clear hxe
      go_wp2_with (go_at_call 9; refine hcall.out.mono ?_; rintro en wA ⟨rfl, nbA, hzA, _⟩; have HZ := hid hzA; clear hzA)
      exact ⟨⟨k + 1, HLT.out, by go_num, nbA, HZ.out⟩, by have := HLT.out; simp [intOf]; omega⟩
    · obtain rfl : k = ns.length := by omega
      obtain ⟨nbL, hz⟩ := hS.out
      obtain ⟨e, he, hej, hes⟩ : ∃ e ∈ grow ns own ns.length, e.id = j + 1 ∧ ∀ f ∈ grow ns own ns.length, f.sp = 0 → f.sl = (j : Int) → f.id = j + 1 :=
        ⟨_, grow_mem.2 ⟨j, hjl, rfl⟩, rfl, fun f hf _ h2 => by
          obtain ⟨i, _, rfl⟩ := grow_mem.1 hf
          have : (i : Int) = (j : Int) := h2
          show i + 1 = j + 1
          omega⟩
      have hlen := grow_len ns own ns.length
      generalize grow ns own ns.length = L at hz he hes hlen
      have hid1 : ((e.id : Nat) : Int) = 1 + (j : Int) := by rw [hej]; omega
      have HZ := hid hz
      have HE := hid (And.intro he hes)
      have HLN := hid hlen
      have HEJ := hid hej
      have hpar := hid (hz.fo.wf.par e he)
      have c1 := parent_hit hz.fo he
      have c2 := z_below hz (q := e.par) hpar.out.2
      have HC3 := hid (fun wx (hb : Below wr.heap.size wr wx) => fkids_hit (hz.below hb).fo he)
      have HC4 := hid (fun wx (hb : Below wr.heap.size wr wx) => z_kids (hz.below hb) (q := e.par) hpar.out.2)
      have HC5 := hid (fun wx (hb : Below wr.heap.size wr wx) => lift_hit (hz.below hb).fo he)
      have HI := hid hid1
      rw [hid1] at c1 HC3 HC5
      have HC1 := hid c1
      have HC2 := hid c2
      clear hS hz he hes hlen c1 c2 hlt hid1 hej
      have HR := hid (fun (W : World) (en : Ending) (hb : Below wr.heap.size wr W) (W2 : World) (hp : LiftPost W p m1 m2 nbL ns.length L e.id e.par en W2) => z_lift (HZ.out.below hb) hp)
      have HM := hid (fun (hR : Wf (lifted L e.id e.par) ns.length) => show ((lifted L e.id e.par).length : Int) = (ns.length : Int) - 1 by have h1 := lifted_many HZ.out.fo.wf HE.out.1 hR; have h2 := HLN.out; omega)
      have HO := hid (show ∀ g ∈ lifted L e.id e.par, ¬ (g.sp = 0 ∧ g.sl = (j : Int)) from fun g hg => by
        rintro ⟨e1, e2⟩
        obtain ⟨f, hf, hne, rfl⟩ := (lifted_mem HZ.out.fo.wf (by have := HEJ.out; omega)).1 hg
        have h1 := HE.out.2 f hf e1 e2
        have h2 := HEJ.out
        omega)
      have hj1 : (1 : Int) + (j : Int) - 1 = (j : Int) := by omega
      have hji : (j : Int) < 300 := by omega
      have HIJ := hid (show I64 (j : Int) from by unfold I64; omega)
      go_wp2_with (first
        | (go_at_call 13; refine HC1.out.mono ?_; rintro en wa ⟨rfl, ew⟩; rw [ew]; clear ew wa)
        | (go_at_call 16; refine HC2.out.mono ?_; rintro en wb ⟨a2, cap2, rfl, _, hb2⟩; rw [List.length_map]; have HB2 := hid hb2; clear hb2 HC2)
        | (go_at_call 15; refine (HC3.out _ HB2.out).mono ?_; rintro en wc ⟨a3, cap3, rfl, _, hb3⟩; rw [List.length_map]; have HB3 := hid (HB2.out.trans (hb3.mono HB2.out.size)); clear hb3 HC3)
        | (go_at_call 15; refine (HC4.out _ HB3.out).mono ?_; rintro en wd ⟨a4, cap4, rfl, _, hb4⟩; rw [List.length_map]; have HB4 := hid (HB3.out.trans (hb4.mono HB3.out.size)); clear hb4 HC4)
        | (go_at_call 11; refine (HC5.out _ HB4.out).mono ?_; intro en we h5; have H5 := hid (HR.out _ _ HB4.out _ h5).1; obtain ⟨rfl, _⟩ := h5; clear HC5)
        | (go_at_call 14; refine (len_any H5.out.fo).mono ?_; rw [HM.out H5.out.fo.wf]; rintro en wf ⟨rfl, ew⟩; rw [ew]; clear ew wf)
        | (go_at_call 12; refine (find_miss H5.out.fo (i64s 0 (by omega)) HIJ.out HO.out).mono ?_; rintro en wg ⟨rfl, ew⟩; rw [ew]; clear ew wg)
        | fail)
      refine (alive_true _).mono ?_
      rintro en wh ⟨rfl, hb8⟩
      have H8 := hid (H5.out.below hb8)
      clear hb8
      by_cases hq : e.par = 0
      · have hqi : ((e.par : Nat) : Int) = 0 := by omega
        go_wp2_with fail
        go_ret
        exact ⟨rfl, HB1.out.trans (H8.out.bel.mono HB1.out.size)⟩
      · have hqd : (((e.par : Nat) : Int) == 0) = false := by rw [beq_eq_false_iff_ne]; omega
        have hpR : e.par = 0 ∨ ∃ g ∈ lifted L e.id e.par, g.id = e.par := .inr (by
          obtain ⟨f, hf, e1⟩ := hpar.out.2.resolve_left hq
          have := hpar.out.1
          exact ⟨_, (lifted_mem HZ.out.fo.wf (by have := HEJ.out; omega)).2 ⟨f, hf, by omega, rfl⟩, e1⟩)
        have hkb := lifted_below HZ.out.fo.wf (by omega) HE.out.1 hq H8.out.fo.wf
        have hkk := lifted_kids HZ.out.fo.wf HE.out.1 hq H8.out.fo.wf
        have hb1 : ((below L e.par).length : Int) ≤ 400 := by have := HZ.out.fo.wf.below_len e.par; have := HZ.out.fo.len; omega
        have hb2 : ((kids L e.par).length : Int) ≤ 400 := by have := HZ.out.fo.wf.kids_len e.par; have := HZ.out.fo.len; omega
        have hb3 : ((kids L e.id).length : Int) ≤ 400 := by have := HZ.out.fo.wf.kids_len e.id; have := HZ.out.fo.len; omega
        have hi1 : ((below (lifted L e.id e.par) e.par).length : Int) = ((below L e.par).length : Int) - 1 := by omega
        have hi2 : ((kids (lifted L e.id e.par) e.par).length : Int) = ((kids L e.par).length : Int) - 1 + ((kids L e.id).length : Int) := by omega
        have C6 := hid (z_below H8.out hpR)
        have C7 := hid (fun wx (hb : Below wh.heap.size wh wx) => z_kids (H8.out.below hb) hpR)
        clear hkb hkk hpR hq
        go_wp2_with (first
          | (go_at_call 16; refine C6.out.mono ?_; rintro en wi ⟨a6, cap6, rfl, _, hb6⟩; rw [List.length_map]; have HB6 := hid hb6; clear hb6)
          | (go_at_call 15; refine (C7.out _ HB6.out).mono ?_; rintro en wj ⟨a7, cap7, rfl, _, hb7⟩; rw [List.length_map]; have HB7 := hid (H8.out.below (HB6.out.trans (hb7.mono HB6.out.size))); clear hb7))
        go_ret
        exact ⟨rfl, HB1.out.trans (HB7.out.bel.mono HB1.out.size)⟩
end Go.Proofs.Ytiechmcfafhfaaa.forestLifts
