/- The walk of ForestCuts. -/
import Derived.Test.YtiechmcfafhfaaaV
namespace Go.Proofs.Ytiechmcfafhfaaa.forestCuts
open Go.RowKit Go.Maps Go.Shelf Go.Proofs.Ytiechmcfafhfaaa

def own (i : Nat) : Int × Int := (((i / 7 : Nat) : Int), ((i % 7 : Nat) : Int))
theorem core_out (a : Option Addr) (n cap : Nat) (y : Int) (w : World) (hl : 100 < n) :
    Calls Try.prog 4 #[.slice a n cap, .int .u8 y] w fun e w' => e = .returned (.bool true) ∧ Below w.heap.size w w' := by
  have h2 : decide (100 < n) = true := by simp; omega
  go_enter Try.func4, Try.ntmps4
  go_wp2_with (go_at_call 8; refine (alive_true _).mono ?_; rintro e w' ⟨rfl, hb⟩)
  go_ret
  exact ⟨rfl, hb⟩
/-- Which are told already. -/
def seen (l : List Nat) (i : Nat) : Value := .bool (decide (i ∈ l))

theorem seen_at {l : List Nat} {i : Nat} (h : i ∈ l) : seen l i = .bool true := by unfold seen; simp [h]
theorem seen_not {l : List Nat} {i : Nat} (h : i ∉ l) : seen l i = .bool false := by unfold seen; simp [h]
theorem seen_more (l : List Nat) (x : Nat) : (fun i => if i = x then Value.bool true else seen l i) = seen (l ++ [x]) := by
  funext i
  by_cases e : i = x
  · subst e; rw [if_pos rfl, seen_at (by simp)]
  · rw [if_neg e]; unfold seen; simp [e]
/-- A forest, what is below, and which of that were told already. -/
structure Cs (w1 w : World) (p m1 m2 : Nat) (nb : Nat → Nat) (last : Nat) (L : List Nd) (base : Nat) (D : List Nat) (v : Value) (G k : Nat) : Prop where
  fz : Fz w1 w p m1 m2 nb last L
  row : OR w base 1 v D.length (nums (zs D))
  marks : Mk w G 110 (seen (D.take k))
  apart : ¬ FOwn p m1 m2 nb L G ∧ w1.heap.size ≤ G ∧ v.ownBlock ≠ some G
theorem Cs.step {w1 w : World} {p m1 m2 : Nat} {nb : Nat → Nat} {last : Nat} {L : List Nd} {base : Nat} {D : List Nat} {v : Value} {G k x : Nat} (h : Cs w1 w p m1 m2 nb last L base D v G k) (hx : D[k]? = some x) (hx2 : x < 110) :
    Cs w1 (w.setCell ⟨G, x, none⟩ (.bool true)) p m1 m2 nb last L base D v G (k + 1) := by
  refine ⟨⟨h.fz.fo.same (fun b hb => Below.heap_setCell _ _ _ _ (fun e => h.apart.1 (by have e1 : b = G := e; rw [← e1]; exact hb))), h.fz.bel.trans ?_, h.fz.own⟩, h.row.other (by simp) (fun g e => Below.heap_setCell _ _ _ _ (fun e2 => h.apart.2.2 (by have e3 : g = G := e2; rw [← e3]; exact e))), ?_, h.apart⟩
  · exact ⟨rfl, rfl, rfl, by simp, fun b hb => Below.heap_setCell _ _ _ _ (by have := h.apart.2.1; show b ≠ G; omega)⟩
  · have e : D.take (k + 1) = D.take k ++ [x] := by rw [List.take_add_one, hx]; rfl
    rw [e, ← seen_more]
    exact h.marks.set hx2 _
set_option maxRecDepth 100000 in
set_option maxHeartbeats 4000000 in
theorem core (a : Option Addr) (ns : List Nat) (cap : Nat) (y : Nat) (w : World) (hy : y ≤ 255) (hA : Bys w w.heap.size a ns) (hl : ns.length ≤ 100) :
    Calls Try.prog 4 #[.slice a ns.length cap, .int .u8 (y : Int)] w fun e w' => e = .returned (.bool true) ∧ Below w.heap.size w w' := by
  have HA := hid hA
  have hd1 : decide (100 < ns.length) = false := by simp; omega
  obtain ⟨j, hj⟩ : ∃ j, j = y % (ns.length + 1) := ⟨_, rfl⟩
  have hjl : j ≤ ns.length := by rw [hj]; exact Nat.lt_succ_iff.1 (Nat.mod_lt _ (by omega))
  have hjm : (y : Int).tmod ((ns.length : Int) + 1) = (j : Int) := by rw [hj]; exact tmod_cast _ (ns.length + 1)
  have hnd : ((ns.length : Int) + 1 == 0) = false := by rw [beq_eq_false_iff_ne]; omega
  have hyi : (y : Int) ≤ 255 := by omega
  have hy0 : (0 : Int) ≤ (y : Int) := by omega
  clear hA hj
  go_enter Try.func4, Try.ntmps4
  go_wp2_with (first
    | (go_at_call 8; refine (alive_true _).mono ?_; rintro e w1 ⟨rfl, hb1⟩; have HB1 := hid hb1; clear hb1)
    | (go_at_call 19; refine (z_new _).mono ?_; rintro e w2 ⟨p, m1, m2, nb, rfl, hz⟩; have H2 := hid hz; clear hz))
  go_loopw [6] (fun c wr => ∃ k : Nat, k ≤ ns.length ∧ c = .int .i64 (k : Int) ∧ Hid (∃ nb, Fz w1 wr p m1 m2 nb k (grow ns own k))) (fun c _ => ns.length - (intOf c).toNat)
  case atStart => exact ⟨0, Nat.zero_le _, rfl, nb, H2.out⟩
  case round =>
    obtain ⟨k, hk, rfl, hS⟩ := hrel
    by_cases hlt : k < ns.length
    · obtain ⟨nb, hz⟩ := hS.out
      obtain ⟨s, o, rfl, hx, hc⟩ := HA.out.at (HB1.out.trans (hz.bel.mono HB1.out.size)) hlt
      obtain ⟨q, hq⟩ : ∃ q, q = ns[k]?.getD 0 % (k + 1) := ⟨_, rfl⟩
      have hqm : ((ns[k]?.getD 0 : Nat) : Int).tmod ((k : Int) + 1) = (q : Int) := by rw [hq]; exact tmod_cast _ (k + 1)
      obtain ⟨d, hd⟩ : ∃ d : Int, d = ((k / 7 : Nat) : Int) := ⟨_, rfl⟩
      obtain ⟨r, hr⟩ : ∃ r : Int, r = ((k % 7 : Nat) : Int) := ⟨_, rfl⟩
      have hdm : (k : Int).tdiv 7 = d := by rw [hd]; rfl
      have hrm : (k : Int).tmod 7 = r := by rw [hr]; exact tmod_cast k 7
      have hcall := hid (z_grow hz (own := own) (by omega) (fun i j hij _ e => by have h1 : ((i / 7 : Nat) : Int) = ((j / 7 : Nat) : Int) := congrArg Prod.fst e; have h2 : ((i % 7 : Nat) : Int) = ((j % 7 : Nat) : Int) := congrArg Prod.snd e; omega) (fun i hi => by unfold I64; simp only [own]; omega) (x := (q : Int)) (by rw [hq]) (a := d) hd (b := r) hr)
      have hdb : 0 ≤ d ∧ d ≤ 100 := by omega
      have hrb : 0 ≤ r ∧ r ≤ 7 := by omega
      have HLT := hid hlt
      have hk0 : (0 : Int) ≤ (k : Int) := by omega
      have hk1 : (k : Int) < (ns.length : Int) := by omega
      have hkd : ((k : Int) + 1 == 0) = false := by rw [beq_eq_false_iff_ne]; omega
      clear hS hz hq hlt hd hr
      generalize hxe : ns[k]?.getD 0 = x at hc hqm hx
      have hxi : (x : Int) ≤ 255 := by omega
      clear hxe
      go_wp2_with (go_at_call 9; refine hcall.out.mono ?_; rintro en wA ⟨rfl, nbA, hzA, _⟩; have HZ := hid hzA; clear hzA)
      exact ⟨⟨k + 1, HLT.out, by go_num, nbA, HZ.out⟩, by have := HLT.out; simp [intOf]; omega⟩
    · obtain rfl : k = ns.length := by omega
      obtain ⟨nbL, hz⟩ := hS.out
      have HG := hid (fun (f : Nd) => grow_mem (ns := ns) (own := own) (n := ns.length) (e := f))
      have hlen := grow_len ns own ns.length
      generalize grow ns own ns.length = L at hz HG hlen
      have HZ := hid hz
      have HLN := hid hlen
      have c2 := z_below' hz (i := 1 + j) (by omega)
      have hij : ((1 + j : Nat) : Int) = 1 + (j : Int) := by omega
      rw [hij] at c2
      have HC2 := hid c2
      have hbl : Hid ((below L (1 + j)).length ≤ 100) := hid (by have := hz.fo.wf.below_len (1 + j); omega)
      have HBI := hid (show ∀ x ∈ below L (1 + j), 1 + j < x ∧ x ≤ 100 from fun x hx => by
        have h1 := hz.fo.wf.below_in hx
        obtain ⟨f, hf, rfl⟩ := h1.2.2
        have := (hz.fo.wf.lo f hf).2
        omega)
      have HND := hid (hz.fo.wf.below_nodup (1 + j))
      have HNR := hid (fun en W (hk : NumPost wr (zs (below L (1 + j))) en W) => hk)
      clear hS hz hlen c2 hlt hij
      generalize hD : below L (1 + j) = D at *
      have HD := hid hD
      clear hD
      have hz56 := zero56
      generalize hcs : Array.replicate 110 (Value.bool false) = cs at hz56
      have HCS := hid (fun i (hi : i < 110) => show cs[i]? = some (.bool false) from by rw [← hcs]; exact rep_at hi)
      clear hcs
      go_wp2_with (go_at_call 16; refine HC2.out.mono ?_; rintro en wb ⟨a2, cap2, rfl, ho2, hb2⟩; rw [List.length_map] at ho2 ⊢; have HB2 := hid hb2; have HO2 := hid ho2; clear hb2 ho2)
      obtain ⟨G, hG⟩ : ∃ G, G = wb.heap.size := ⟨_, rfl⟩
      have HC : Hid (Cs w1 (wb.alloc (.cells cs 56)) p m1 m2 nbL ns.length L wr.heap.size D (.slice a2 D.length cap2) G 0) := hid ⟨(HZ.out.below HB2.out).below ((Below.refl _ _).alloc (Nat.le_refl _) _), by have := HO2.out.alloc (.cells cs 56); simpa using this, by rw [hG]; exact mk_new wb 110 (.bool false) cs 56 HCS.out, fun hk => by have := (HZ.out.below HB2.out).fo.lt hk; omega, by have := (HZ.out.below HB2.out).bel.size; omega, fun e => by have := (HO2.out.own G e).2; omega⟩
      rw [← hG]
      have HB3 := hid (HB2.out.alloc HB2.out.size (.cells cs 56))
      clear hG
      go_loopw [12] (fun c wq => ∃ k : Nat, k ≤ D.length ∧ c = .int .i64 (k : Int) ∧ Hid (Cs w1 wq p m1 m2 nbL ns.length L wr.heap.size D (.slice a2 D.length cap2) G k)) (fun c _ => D.length - (intOf c).toNat)
      case atStart => exact ⟨0, Nat.zero_le _, rfl, HC.out⟩
      case round =>
        obtain ⟨k, hk, rfl, hS⟩ := hrel
        by_cases hlt : k < D.length
        · have hk2 := List.getElem?_eq_getElem hlt
          obtain ⟨x, hx⟩ : ∃ x, x = D[k] := ⟨_, rfl⟩
          rw [← hx] at hk2
          obtain ⟨g, off, rfl, _, cx⟩ := hS.out.row.at (nums_at (k := k) (x := (x : Int)) (by rw [List.getElem?_map, hk2]; rfl))
          have hxb := HBI.out x (by rw [hx]; exact List.getElem_mem hlt)
          have hnot : x ∉ D.take k := by
            intro hd
            obtain ⟨i, hi, e1⟩ := List.getElem_of_mem hd
            rw [List.length_take] at hi
            rw [List.getElem_take] at e1
            have := (List.getElem_inj HND.out).1 (e1.trans hx)
            omega
          have gx := hS.out.marks.cell x (by omega)
          rw [seen_not hnot] at gx
          have gf := hS.out.marks.fr x
          have hN := hid (hS.out.step hk2 (by omega))
          have hx0 : (0 : Int) ≤ (x : Int) := by omega
          have hx1 : (x : Int) < 110 := by omega
          have hxe : ((x : Int) == 1 + (j : Int)) = false := by rw [beq_eq_false_iff_ne]; omega
          have hk0 : (0 : Int) ≤ (k : Int) := by omega
          have hk1 : (k : Int) < (D.length : Int) := by omega
          have hDl : D.length ≤ 100 := hbl.out
          have HLT := hid hlt
          clear hk2 hx hS hnot hlt
          go_wp2_with fail
          exact ⟨⟨k + 1, by have := HLT.out; omega, by go_num, hN⟩, by have := HLT.out; simp [intOf]; omega⟩
        · obtain rfl : k = D.length := by omega
          have hfin := hS.out
          have ht : D.take D.length = D := List.take_length
          have hm9 := hfin.marks
          rw [ht] at hm9
          have c17 := z_cut' hfin.fz (i := 1 + j) (by omega)
          have hij : ((1 + j : Nat) : Int) = 1 + (j : Int) := by omega
          rw [hij, HD.out] at c17
          have HC17 := hid c17
          have HM9 := hid (And.intro hm9 hfin.apart)
          have HR : Hid ((less L D).length + D.length = ns.length) := hid (by
            rw [← HLN.out]
            exact less_count HZ.out.fo.wf HND.out (fun x hx => by rw [← HD.out] at hx; exact (HZ.out.fo.wf.below_in hx).2.2))
          have HK : Hid (kids (less L D) (1 + j) = []) := hid (by rw [← HD.out]; exact cut_kids HZ.out.fo.wf HZ.out.fo.few _ (by omega))
          have HF := hid (fun (i : Nat) (hi : i < ns.length) => show (∃ e ∈ L, e.id = i + 1 ∧ e.sp = ((i / 7 : Nat) : Int) ∧ e.sl = ((i % 7 : Nat) : Int)) ∧ ∀ f ∈ L, f.sp = ((i / 7 : Nat) : Int) → f.sl = ((i % 7 : Nat) : Int) → f.id = i + 1 from
            ⟨⟨_, (HG.out _).2 ⟨i, hi, rfl⟩, rfl, rfl, rfl⟩, fun f hf e1 e2 => by
              obtain ⟨k, _, rfl⟩ := (HG.out f).1 hf
              have h1 : ((k / 7 : Nat) : Int) = ((i / 7 : Nat) : Int) := e1
              have h2 : ((k % 7 : Nat) : Int) = ((i % 7 : Nat) : Int) := e2
              show k + 1 = i + 1
              omega⟩)
          clear hS hfin ht hm9 c17 hij hlt HG
          have hDl : D.length ≤ 100 := hbl.out
          have hDn : D.length ≤ ns.length := by have := HR.out; omega
          have HRM : Hid (∀ f, f ∈ less L D ↔ f ∈ L ∧ f.id ∉ D) := hid (fun f => mem_less)
          generalize less L D = R at *
          go_wp2_with (first
            | (go_at_call 17; refine HC17.out.mono ?_; rintro en wc ⟨a3, cap3, rfl, _, hzc, htc⟩; have HZC := hid hzc; have HMC := hid (HM9.out.1.other htc.turn.size (htc.keep HM9.out.1.lt HM9.out.2.1).1); clear hzc htc)
            | fail)
          refine (len_any HZC.out.fo).mono ?_
          rw [show ((R.length : Nat) : Int) = (ns.length : Int) - (D.length : Int) by have := HR.out; omega]
          rintro en wd ⟨rfl, ew⟩
          rw [ew]
          clear ew wd
          go_wp2_with fail
          have c15 := z_kids' HZC.out (i := 1 + j) (by omega)
          rw [HK.out, show ((1 + j : Nat) : Int) = 1 + (j : Int) by omega] at c15
          refine c15.mono ?_
          rintro en we ⟨a5, cap5, rfl, _, hb5⟩
          have HZE := hid (HZC.out.below hb5)
          have HME := hid (HMC.out.below hb5 (Nat.le_refl _))
          clear hb5 c15
          rw [show (zs ([] : List Nat)).length = 0 from rfl]
          go_wp2_with fail
          go_loopw [14] (fun c wx => ∃ k : Nat, k ≤ ns.length ∧ c = .int .i64 (k : Int) ∧ wx = we) (fun c _ => ns.length - (intOf c).toNat)
          case atStart => exact ⟨0, Nat.zero_le _, rfl, rfl⟩
          case round =>
            obtain ⟨k, hk, rfl, rfl⟩ := hrel
            by_cases hlt : k < ns.length
            · obtain ⟨⟨e0, he0, h1, h2, h3⟩, huni⟩ := HF.out k hlt
              obtain ⟨d, hd⟩ : ∃ d : Int, d = ((k / 7 : Nat) : Int) := ⟨_, rfl⟩
              obtain ⟨r, hr⟩ : ∃ r : Int, r = ((k % 7 : Nat) : Int) := ⟨_, rfl⟩
              have hdm : (k : Int).tdiv 7 = d := by rw [hd]; rfl
              have hrm : (k : Int).tmod 7 = r := by rw [hr]; exact tmod_cast k 7
              have hdb : 0 ≤ d ∧ d ≤ 100 := by omega
              have hrb : 0 ≤ r ∧ r ≤ 7 := by omega
              have hk0 : (0 : Int) ≤ (k : Int) := by omega
              have hk1 : (k : Int) < (ns.length : Int) := by omega
              have hk2 : (k : Int) + 1 < 110 := by omega
              have hk3 : (0 : Int) ≤ (k : Int) + 1 := by omega
              have gx := HME.out.cell (k + 1) (by omega)
              have HLT := hid hlt
              by_cases hm : k + 1 ∈ D
              · have hc := hid (find_miss HZE.out.fo (a := d) (b := r) (by unfold I64; omega) (by unfold I64; omega) (fun f hf ⟨q1, q2⟩ => by
                  obtain ⟨hfL, hfD⟩ := (HRM.out f).1 hf
                  exact hfD (by rw [huni f hfL (q1.trans hd) (q2.trans hr)]; exact hm)))
                rw [seen_at hm] at gx
                clear h1 h2 h3 he0 huni hd hr hm hlt
                go_wp2_with (go_at_call 12; refine hc.out.mono ?_; rintro en wy ⟨rfl, ew⟩; rw [ew]; clear ew wy)
                exact ⟨⟨k + 1, HLT.out, by go_num, trivial⟩, by have := HLT.out; simp [intOf]; omega⟩
              · have hc := find_hit HZE.out.fo (e := e0) ((HRM.out e0).2 ⟨he0, by rw [h1]; exact hm⟩)
                rw [h1, h2, h3, ← hd, ← hr, show ((k + 1 : Nat) : Int) = (k : Int) + 1 by omega] at hc
                have hc := hid hc
                rw [seen_not hm] at gx
                clear h1 h2 h3 he0 huni hd hr hm hlt
                go_wp2_with (go_at_call 12; refine hc.out.mono ?_; rintro en wy ⟨rfl, ew⟩; rw [ew]; clear ew wy)
                exact ⟨⟨k + 1, HLT.out, by go_num, trivial⟩, by have := HLT.out; simp [intOf]; omega⟩
            · obtain rfl : k = ns.length := by omega
              go_wp2_with (go_at_call 8; refine (alive_true _).mono ?_; rintro en wz ⟨rfl, hbz⟩; have HBZ := hid (HZE.out.below hbz); clear hbz)
              go_ret
              exact ⟨rfl, HB1.out.trans (HBZ.out.bel.mono HB1.out.size)⟩
end Go.Proofs.Ytiechmcfafhfaaa.forestCuts
