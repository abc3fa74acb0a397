/- The walk of ForestBelow. -/
import Derived.Test.YtiechmcfafhfaaaV
namespace Go.Proofs.Ytiechmcfafhfaaa.forestBelow
open Go.RowKit Go.Maps Go.Shelf Go.Proofs.Ytiechmcfafhfaaa

def own (i : Nat) : Int × Int := (0, (i : Int))
/-- Where a number stands in a row, counted from 1; 0 without. -/
def posN (l : List Nat) (x : Nat) : Nat := if x ∈ l then l.idxOf x + 1 else 0
def plc (l : List Nat) (x : Nat) : Value := .int .i64 (posN l x : Int)
theorem posN_pos {l : List Nat} {x : Nat} : 0 < posN l x ↔ x ∈ l := by
  unfold posN
  split <;> simp_all
theorem posN_le (l : List Nat) (x : Nat) : posN l x ≤ l.length := by
  unfold posN
  split
  · rename_i h; have := List.idxOf_lt_length_of_mem h; omega
  · omega
theorem plc_more {l : List Nat} {x k : Nat} (hx : x ∉ l) (hk : l.length = k) : (fun i => if i = x then Value.int .i64 ((k + 1 : Nat) : Int) else plc l i) = plc (l ++ [x]) := by
  funext i
  unfold plc posN
  by_cases e : i = x
  · subst e
    rw [if_pos rfl, if_pos (by simp), List.idxOf_append, if_neg hx]
    simp [hk]
  · rw [if_neg e]
    by_cases hi : i ∈ l
    · rw [if_pos hi, if_pos (by simp [hi]), List.idxOf_append, if_pos hi]
    · rw [if_neg hi, if_neg (by simp [hi, e])]
/-- Each is told behind all that is below it. -/
theorem Wf.split {L : List Nd} {last : Nat} (h : Wf L last) (hl : last < 400) : ∀ (f i p : Nat), last < f + i → p ∈ bel L f i → ∃ a b, bel L f i = a ++ below L p ++ p :: b := by
  intro f
  induction f with
  | zero => intro i p _ hp; cases hp
  | succ f ih =>
    intro i p hf hp
    unfold bel at hp ⊢
    simp only [List.mem_flatMap, List.mem_append, List.mem_singleton] at hp
    obtain ⟨k, hk, hp⟩ := hp
    have hkk := h.kid hk
    obtain ⟨s, t, hst⟩ := List.append_of_mem hk
    rw [hst, List.flatMap_append, List.flatMap_cons]
    rcases hp with hp | rfl
    · obtain ⟨a, b, e⟩ := ih k p (by omega) hp
      rw [e]
      exact ⟨s.flatMap (fun k => bel L f k ++ [k]) ++ a, b ++ [k] ++ t.flatMap (fun k => bel L f k ++ [k]), by simp⟩
    · have e : bel L f p = below L p := h.bel_eq f 400 p (by omega) (by omega)
      exact ⟨s.flatMap (fun k => bel L f k ++ [k]), t.flatMap (fun k => bel L f k ++ [k]), by rw [e]; simp⟩
theorem ahead {L : List Nd} {last : Nat} (h : Wf L last) (hl : last < 400) {i n p : Nat} (hp : p ∈ below L i) (hn : n ∈ below L p) : posN (below L i) n < posN (below L i) p := by
  obtain ⟨a, b, e⟩ := Wf.split h hl 400 i p (by omega) hp
  have e : below L i = (a ++ below L p) ++ p :: b := e
  have hnd := h.below_nodup i
  have hm : n ∈ a ++ below L p := List.mem_append_right _ hn
  generalize a ++ below L p = X at e hm
  rw [e] at hnd ⊢
  obtain ⟨n1, _, _⟩ := nodup_mid hnd
  unfold posN
  rw [if_pos (List.mem_append_left _ hm), if_pos (by simp), List.idxOf_append, if_pos hm, List.idxOf_append, if_neg n1]
  have := List.idxOf_lt_length_of_mem hm
  omega
theorem core_out (a : Option Addr) (n cap : Nat) (y : Int) (w : World) (hl : 60 < n) :
    Calls Try.prog 6 #[.slice a n cap, .int .u8 y] w fun e w' => e = .returned (.bool true) ∧ Below w.heap.size w w' := by
  have h2 : decide (60 < n) = true := by simp; omega
  go_enter Try.func6, Try.ntmps6
  go_wp2_with (go_at_call 8; refine (alive_true _).mono ?_; rintro e w' ⟨rfl, hb⟩)
  go_ret
  exact ⟨rfl, hb⟩
/-- A forest, what is below, and where of that the first ones stand. -/
structure Cs (w1 w : World) (p m1 m2 : Nat) (nb : Nat → Nat) (last : Nat) (L : List Nd) (base : Nat) (D : List Nat) (v : Value) (G k : Nat) : Prop where
  fz : Fz w1 w p m1 m2 nb last L
  row : OR w base 1 v D.length (nums (zs D))
  marks : Mk w G 70 (plc (D.take k))
  apart : ¬ FOwn p m1 m2 nb L G ∧ w1.heap.size ≤ G ∧ v.ownBlock ≠ some G
theorem Cs.step {w1 w : World} {p m1 m2 : Nat} {nb : Nat → Nat} {last : Nat} {L : List Nd} {base : Nat} {D : List Nat} {v : Value} {G k x : Nat} (h : Cs w1 w p m1 m2 nb last L base D v G k) (hx : D[k]? = some x) (hx2 : x < 70) (hn : x ∉ D.take k) :
    Cs w1 (w.setCell ⟨G, x, none⟩ (.int .i64 ((k + 1 : Nat) : Int))) p m1 m2 nb last L base D v G (k + 1) := by
  refine ⟨⟨h.fz.fo.same (fun b hb => Below.heap_setCell _ _ _ _ (fun e => h.apart.1 (by have e1 : b = G := e; rw [← e1]; exact hb))), h.fz.bel.trans ?_, h.fz.own⟩, h.row.other (by simp) (fun g e => Below.heap_setCell _ _ _ _ (fun e2 => h.apart.2.2 (by have e3 : g = G := e2; rw [← e3]; exact e))), ?_, h.apart⟩
  · exact ⟨rfl, rfl, rfl, by simp, fun b hb => Below.heap_setCell _ _ _ _ (by have := h.apart.2.1; show b ≠ G; omega)⟩
  · have e : D.take (k + 1) = D.take k ++ [x] := by rw [List.take_add_one, hx]; rfl
    have hk : (D.take k).length = k := by rw [List.length_take]; have := (List.getElem?_eq_some_iff.1 hx).1; omega
    rw [e, ← plc_more hn hk]
    exact h.marks.set hx2 _
set_option maxRecDepth 100000 in
set_option maxHeartbeats 4000000 in
theorem core (a : Option Addr) (ns : List Nat) (cap : Nat) (y : Nat) (w : World) (hy : y ≤ 255) (hA : Bys w w.heap.size a ns) (hl : ns.length ≤ 60) :
    Calls Try.prog 6 #[.slice a ns.length cap, .int .u8 (y : Int)] w fun e w' => e = .returned (.bool true) ∧ Below w.heap.size w w' := by
  have HA := hid hA
  have hd1 : decide (60 < ns.length) = false := by simp; omega
  obtain ⟨j, hj⟩ : ∃ j, j = y % (ns.length + 1) := ⟨_, rfl⟩
  have hjl : j ≤ ns.length := by rw [hj]; exact Nat.lt_succ_iff.1 (Nat.mod_lt _ (by omega))
  have hjm : (y : Int).tmod ((ns.length : Int) + 1) = (j : Int) := by rw [hj]; exact tmod_cast _ (ns.length + 1)
  have hnd : ((ns.length : Int) + 1 == 0) = false := by rw [beq_eq_false_iff_ne]; omega
  have hyi : (y : Int) ≤ 255 := by omega
  have hy0 : (0 : Int) ≤ (y : Int) := by omega
  clear hA hj
  go_enter Try.func6, Try.ntmps6
  go_wp2_with (first
    | (go_at_call 8; refine (alive_true _).mono ?_; rintro e w1 ⟨rfl, hb1⟩; have HB1 := hid hb1; clear hb1)
    | (go_at_call 19; refine (z_new _).mono ?_; rintro e w2 ⟨p, m1, m2, nb, rfl, hz⟩; have H2 := hid hz; clear hz))
  go_loopw [6] (fun c wr => ∃ k : Nat, k ≤ ns.length ∧ c = .int .i64 (k : Int) ∧ Hid (∃ nb, Fz w1 wr p m1 m2 nb k (grow ns own k))) (fun c _ => ns.length - (intOf c).toNat)
  case atStart => exact ⟨0, Nat.zero_le _, rfl, nb, H2.out⟩
  case round =>
    obtain ⟨k, hk, rfl, hS⟩ := hrel
    by_cases hlt : k < ns.length
    · obtain ⟨nb, hz⟩ := hS.out
      obtain ⟨s, o, rfl, hx, hc⟩ := HA.out.at (HB1.out.trans (hz.bel.mono HB1.out.size)) hlt
      obtain ⟨q, hq⟩ : ∃ q, q = ns[k]?.getD 0 % (k + 1) := ⟨_, rfl⟩
      have hqm : ((ns[k]?.getD 0 : Nat) : Int).tmod ((k : Int) + 1) = (q : Int) := by rw [hq]; exact tmod_cast _ (k + 1)
      have hcall := hid (z_grow hz (own := own) (by omega) (fun i j hij _ e => by have h2 : (i : Int) = (j : Int) := congrArg Prod.snd e; omega) (fun i hi => by unfold I64; simp [own]; omega) (x := (q : Int)) (by rw [hq]) (a := 0) rfl (b := (k : Int)) rfl)
      have HLT := hid hlt
      have hk0 : (0 : Int) ≤ (k : Int) := by omega
      have hk1 : (k : Int) < (ns.length : Int) := by omega
      have hkd : ((k : Int) + 1 == 0) = false := by rw [beq_eq_false_iff_ne]; omega
      clear hS hz hq hlt
      generalize hxe : ns[k]?.getD 0 = x at hc hqm hx
      have hxi : (x : Int) ≤ 255 := by omega
      clear hxe
      go_wp2_with (go_at_call 9; refine hcall.out.mono ?_; rintro en wA ⟨rfl, nbA, hzA, _⟩; have HZ := hid hzA; clear hzA)
      exact ⟨⟨k + 1, HLT.out, by go_num, nbA, HZ.out⟩, by have := HLT.out; simp [intOf]; omega⟩
    · obtain rfl : k = ns.length := by omega
      obtain ⟨nbL, hz⟩ := hS.out
      have HG := hid (fun (i : Nat) (hi : 1 ≤ i ∧ i ≤ ns.length) => grow_id (ns := ns) (own := own) (n := ns.length) (i := i) hi)
      generalize grow ns own ns.length = L at hz HG
      have HZ := hid hz
      have c2 := z_below' hz (i := 1 + j) (by omega)
      have hij : ((1 + j : Nat) : Int) = 1 + (j : Int) := by omega
      rw [hij] at c2
      have HC2 := hid c2
      have hbl : Hid ((below L (1 + j)).length ≤ 60) := hid (by have := hz.fo.wf.below_len (1 + j); have := hz.fo.wf.len; omega)
      have HBI := hid (show ∀ x ∈ below L (1 + j), 1 ≤ x ∧ x ≤ ns.length from fun x hx => by
        have h1 := hz.fo.wf.below_in hx
        obtain ⟨f, hf, rfl⟩ := h1.2.2
        have := (hz.fo.wf.lo f hf)
        omega)
      have HND := hid (hz.fo.wf.below_nodup (1 + j))
      clear hS hz c2 hlt hij
      generalize hD : below L (1 + j) = D at *
      have HD := hid hD
      clear hD
      have hz58 := zero58
      generalize hcs : Array.replicate 70 (Value.int .i64 0) = cs at hz58
      have HCS := hid (fun i (hi : i < 70) => show cs[i]? = some (.int .i64 0) from by rw [← hcs]; exact rep_at hi)
      clear hcs
      go_wp2_with (go_at_call 16; refine HC2.out.mono ?_; rintro en wb ⟨a2, cap2, rfl, ho2, hb2⟩; rw [List.length_map] at ho2 ⊢; have HB2 := hid hb2; have HO2 := hid ho2; clear hb2 ho2)
      obtain ⟨G, hG⟩ : ∃ G, G = wb.heap.size := ⟨_, rfl⟩
      have HC : Hid (Cs w1 (wb.alloc (.cells cs 58)) p m1 m2 nbL ns.length L wr.heap.size D (.slice a2 D.length cap2) G 0) := hid ⟨(HZ.out.below HB2.out).below ((Below.refl _ _).alloc (Nat.le_refl _) _), by have := HO2.out.alloc (.cells cs 58); simpa using this, by rw [hG]; exact mk_new wb 70 (.int .i64 0) cs 58 HCS.out, fun hk => by have := (HZ.out.below HB2.out).fo.lt hk; omega, by have := (HZ.out.below HB2.out).bel.size; omega, fun e => by have := (HO2.out.own G e).2; omega⟩
      rw [← hG]
      clear hG
      go_loopw [12] (fun c wq => ∃ k : Nat, k ≤ D.length ∧ c = .int .i64 (k : Int) ∧ Hid (Cs w1 wq p m1 m2 nbL ns.length L wr.heap.size D (.slice a2 D.length cap2) G k)) (fun c _ => D.length - (intOf c).toNat)
      case atStart => exact ⟨0, Nat.zero_le _, rfl, HC.out⟩
      case round =>
        obtain ⟨k, hk, rfl, hS⟩ := hrel
        have hDl : D.length ≤ 60 := hbl.out
        by_cases hlt : k < D.length
        · have hk2 := List.getElem?_eq_getElem hlt
          obtain ⟨x, hx⟩ : ∃ x, x = D[k] := ⟨_, rfl⟩
          rw [← hx] at hk2
          obtain ⟨g, off, rfl, _, cx⟩ := hS.out.row.at (nums_at (k := k) (x := (x : Int)) (by rw [List.getElem?_map, hk2]; rfl))
          have hxb := HBI.out x (by rw [hx]; exact List.getElem_mem hlt)
          have hnot : x ∉ D.take k := by
            intro hd
            obtain ⟨i, hi, e1⟩ := List.getElem_of_mem hd
            rw [List.length_take] at hi
            rw [List.getElem_take] at e1
            have := (List.getElem_inj HND.out).1 (e1.trans hx)
            omega
          have gx := hS.out.marks.cell x (by omega)
          have e0 : posN (D.take k) x = 0 := by unfold posN; rw [if_neg hnot]
          unfold plc at gx
          rw [e0] at gx
          have gf := hS.out.marks.fr x
          have hN := hid (hS.out.step hk2 (by omega) hnot)
          rw [show ((k + 1 : Nat) : Int) = (k : Int) + 1 by omega] at hN
          have hx0 : (0 : Int) ≤ (x : Int) := by omega
          have hx1 : (x : Int) < 70 := by omega
          have hx2 : decide ((x : Int) < 1) = false := by simp; omega
          have hx3 : decide (ns.length < x) = false := by simp; omega
          have hk0 : (0 : Int) ≤ (k : Int) := by omega
          have hk1 : (k : Int) < (D.length : Int) := by omega
          have HLT := hid hlt
          clear hk2 hx hS hnot hlt hxb e0
          go_wp2_with fail
          exact ⟨⟨k + 1, by have := HLT.out; omega, by go_num, hN⟩, by have := HLT.out; simp [intOf]; omega⟩
        · obtain rfl : k = D.length := by omega
          have hfin := hS.out
          have ht : D.take D.length = D := List.take_length
          have hm9 := hfin.marks
          rw [ht] at hm9
          have HM := hid hm9
          have HF := hid hfin.fz
          have hsm := hid (show ∀ x, 1 ≤ x ∧ x ≤ ns.length → x < 70 from fun x hx => by omega)
          have HUP := hid (show ∀ x, 1 ≤ x ∧ x ≤ ns.length → (x ∈ D ↔ parOf L x = 1 + j ∨ parOf L x ∈ D) ∧ parOf L x < x ∧ (parOf L x = 0 ∨ 1 ≤ parOf L x ∧ parOf L x ≤ ns.length) ∧ (parOf L x ∈ D → x ∈ D → posN D x < posN D (parOf L x)) from fun x hx => by
            obtain ⟨f, hf, rfl⟩ := HG.out x hx
            have hW := HZ.out.fo.wf
            have hl := HZ.out.fo.few
            rw [hW.parOf hf, ← HD.out]
            refine ⟨⟨fun hb => hW.up f hf hb, fun hb => hb.elim (fun h1 => (hW.down hl f hf).2 h1 (by omega)) (fun h1 => (hW.down hl f hf).1 h1)⟩, (hW.par f hf).1, ?_, fun h1 _ => ?_⟩
            · have := (hW.par f hf).1
              have := (hW.lo f hf).2
              omega
            · refine ahead hW hl h1 ((hW.below_iff hl _ _).2 (.inl (mem_kids.2 ⟨?_, f, hf, rfl, rfl⟩)))
              have := (hW.below_in h1).1
              omega)
          have H0D : Hid (0 ∉ D) := hid (fun h0 => by have := HBI.out 0 h0; omega)
          clear hS hfin ht hm9 hlt HG HBI
          go_wp2_with fail
          go_loopw [13] (fun c wx => ∃ n : Nat, 1 ≤ n ∧ n ≤ ns.length + 1 ∧ c = .int .i64 (n : Int) ∧ ∃ q, wx = wr.drewN q) (fun c _ => ns.length + 1 - (intOf c).toNat)
          case atStart => exact ⟨1, Nat.le_refl _, by omega, rfl, 0, rfl⟩
          case round =>
            obtain ⟨n, hn1, hn2, rfl, q, rfl⟩ := hrel
            by_cases hlt : n ≤ ns.length
            · have hn60 : n ≤ 60 := by omega
              have c13 := hid (fun (u : Nat) (hu : u < 1000) (k : Nat) => z_parent' (HF.out.drewN k) (i := u) hu)
              obtain ⟨hup1, hup2, hup3, hup4⟩ := HUP.out n ⟨hn1, hlt⟩
              have gn : wr.cell? ⟨G, n, none⟩ = some (.int .i64 (posN D n : Int)) := HM.out.cell n (by omega)
              obtain ⟨pp, hpp⟩ : ∃ pp, pp = parOf L n := ⟨_, rfl⟩
              have cN : Hid (∀ k, Calls Try.prog 13 #[ptr p, .int .i64 (n : Int)] (wr.drewN k) fun en w' => en = .returned (.int .i64 (pp : Int)) ∧ w' = wr.drewN k) := hid (fun k => by rw [hpp]; exact c13.out n (by omega) k)
              rw [← hpp] at hup1 hup2 hup3 hup4
              have HP := hid (And.intro hup1 (And.intro hup2 (And.intro hup3 hup4)))
              have hnk : (n : Int) ≤ 60 := by omega
              have hn0 : (1 : Int) ≤ (n : Int) := by omega
              have hnl : (n : Int) ≤ (ns.length : Int) := by omega
              have HLT := hid (And.intro hn1 hlt)
              clear hup1 hup2 hup3 hup4 hpp hn1 hn2 hlt
              go_wp2_with (go_at_call 13; refine (cN.out q).mono ?_; rintro en wz ⟨rfl, ew⟩; rw [ew]; clear ew wz)
              go_loopw [14, 15] (fun u c wy => ∃ up k : Nat, u = .int .i64 (up : Int) ∧ c = .int .i64 (k : Int) ∧ wy = wr.drewN q ∧ k ≤ 70 ∧ Hid ((n ∈ D ↔ up = 1 + j ∨ up ∈ D) ∧ up + k < n ∧ (up = 0 ∨ 1 ≤ up ∧ up ≤ ns.length))) (fun _ c _ => 70 - (intOf c).toNat)
              case atStart => exact ⟨pp, 0, rfl, rfl, rfl, by omega, HP.out.1, by have := HP.out.2.1; omega, HP.out.2.2.1⟩
              case round =>
                obtain ⟨up, k, rfl, rfl, rfl, hk70, hI⟩ := hrel
                have hkk : k < 70 := by have := hI.out.2.1; omega
                have hkd : decide (k < 70) = true := by simp; omega
                by_cases h0 : up = 0
                · subst h0
                  have hnD : n ∉ D := fun hd => (hI.out.1.1 hd).elim (by omega) H0D.out
                  have hpz : posN D n = 0 := by unfold posN; rw [if_neg hnD]
                  have hez : ((0 : Int) == 1 + (j : Int)) = false := by rw [beq_eq_false_iff_ne]; omega
                  rw [hpz] at gn
                  clear hI hnD hpz
                  go_wp2_with (go_at_call 13; refine (cN.out q).mono ?_; rintro en wz ⟨rfl, ew⟩; rw [ew]; clear ew wz)
                  go_quiet (fail)
                  go_wp2_with fail
                  exact ⟨⟨n + 1, by have := HLT.out; omega, by have := HLT.out; omega, by go_num, q + nq, rfl⟩, by have := HLT.out; simp [intOf]; omega⟩
                · by_cases hid1 : up = 1 + j
                  · have hnD : n ∈ D := hI.out.1.2 (.inl hid1)
                    have hue : (up : Int) = 1 + (j : Int) := by omega
                    have h1j : ((1 : Int) + (j : Int) != 0) = true := by rw [bne_iff_ne]; omega
                    have hjn : decide ((1 : Int) + (j : Int) ≤ (ns.length : Int)) = true := by have := hI.out.2.2; simp; omega
                    obtain ⟨z, hz⟩ : ∃ z, z = posN D n := ⟨_, rfl⟩
                    have hzp : decide (0 < z) = true := by have := posN_pos.2 hnD; simp; omega
                    have hzl : z ≤ 60 := by have := posN_le D n; have := hbl.out; omega
                    rw [← hz] at gn
                    by_cases hpid : pp = 1 + j
                    · have hpe : (pp : Int) = 1 + (j : Int) := by omega
                      clear hI hnD hid1 hz hpid h0
                      go_wp2_with (go_at_call 13; refine (cN.out q).mono ?_; rintro en wz ⟨rfl, ew⟩; rw [ew]; clear ew wz)
                      go_quiet (fail)
                      go_wp2_with fail
                      exact ⟨⟨n + 1, by have := HLT.out; omega, by have := HLT.out; omega, by go_num, q + nq, rfl⟩, by have := HLT.out; simp [intOf]; omega⟩
                    · have hpD : pp ∈ D := (HP.out.1.1 hnD).resolve_left hpid
                      have hpp4 := HP.out.2.2.2 hpD hnD
                      have hpp3 := HP.out.2.2.1
                      have hp0 : pp ≠ 0 := fun e => H0D.out (by rw [← e]; exact hpD)
                      obtain ⟨zp, hzq⟩ : ∃ zp, zp = posN D pp := ⟨_, rfl⟩
                      have gp : wr.cell? ⟨G, pp, none⟩ = some (.int .i64 (zp : Int)) := by rw [hzq]; exact HM.out.cell pp (by omega)
                      have d1 : ((pp : Int) != 1 + (j : Int)) = true := by rw [bne_iff_ne]; omega
                      have d2 : decide ((pp : Int) < 1) = false := by simp; omega
                      have d3 : decide (ns.length < pp) = false := by simp; omega
                      have d4 : decide (zp < z) = false := by simp; omega
                      have d5 : (pp : Int) < 70 := by omega
                      have d6 : (0 : Int) ≤ (pp : Int) := by omega
                      clear hI hnD hid1 hz hpid h0 hpD hpp4 hpp3 hp0 hzq
                      go_wp2_with (go_at_call 13; refine (cN.out q).mono ?_; rintro en wz ⟨rfl, ew⟩; rw [ew]; clear ew wz)
                      go_quiet (fail)
                      go_wp2_with fail
                      exact ⟨⟨n + 1, by have := HLT.out; omega, by have := HLT.out; omega, by go_num, q + nq, rfl⟩, by have := HLT.out; simp [intOf]; omega⟩
                  · have hu1 : ((up : Int) != 0) = true := by rw [bne_iff_ne]; omega
                    have hu2 : ((up : Int) != 1 + (j : Int)) = true := by rw [bne_iff_ne]; omega
                    have hub := hI.out.2.2.resolve_left h0
                    obtain ⟨u1, u2, u3, _⟩ := HUP.out up hub
                    have cU := hid (c13.out up (by omega) q)
                    obtain ⟨up', hup'⟩ : ∃ x, x = parOf L up := ⟨_, rfl⟩
                    rw [← hup'] at u1 u2 u3 cU
                    have HJ := hid (show (n ∈ D ↔ up' = 1 + j ∨ up' ∈ D) ∧ up' + (k + 1) < n ∧ (up' = 0 ∨ 1 ≤ up' ∧ up' ≤ ns.length) from ⟨⟨fun hd => u1.1 ((hI.out.1.1 hd).resolve_left hid1), fun hh => hI.out.1.2 (.inr (u1.2 hh))⟩, by have := hI.out.2.1; omega, u3⟩)
                    clear hI u1 u2 u3 hup' hub hid1 h0
                    go_wp2_with (go_at_call 13; refine cU.out.mono ?_; rintro en wz ⟨rfl, ew⟩; rw [ew]; clear ew wz)
                    exact ⟨⟨up', k + 1, rfl, by go_num, trivial, by omega, HJ⟩, by simp [intOf]; omega⟩
            · obtain rfl : n = ns.length + 1 := by omega
              have c0 := fbelow_miss (HF.out.drewN q).fo (x := 0) (by unfold I64; omega) (HF.out.drewN q).fo.not0
              have HC0 := hid c0
              have HFQ := hid (HF.out.drewN q)
              clear c0 hlt hn1 hn2
              go_wp2_with (go_at_call 16; refine HC0.out.mono ?_; rintro en wz ⟨a9, cap9, rfl, _, hb9⟩; have HZ9 := hid (HFQ.out.below hb9); clear hb9; rw [show ([] : List Int).length = 0 from rfl])
              go_ret
              exact ⟨rfl, HB1.out.trans (HZ9.out.bel.mono HB1.out.size)⟩
end Go.Proofs.Ytiechmcfafhfaaa.forestBelow
