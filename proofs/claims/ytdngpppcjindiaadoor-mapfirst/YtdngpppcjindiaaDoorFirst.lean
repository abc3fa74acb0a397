/- For every number of bits, every list of bits that are set, either state and every place: the first bit from that place on that is so is so, none ahead of it is, and a run of bits ends there: MapFirst returns true. Condition: math/bits' own table starts as the program's text lays it (the card ties that). -/
import Derived.Test.YtdngpppcjindiaaDoorCards
import Derived.Test.YtdngpppcjindiaaDoorTie
import Derived.Test.YtdngpppcjindiaaDoorF
namespace Go.Proofs.YtdngpppcjindiaaDoor.mapFirst
open Go.ChangeShapes Go.WideShapes Go.ChangeAt Go.RowKit Go.Proofs.YtdngpppcjindiaaDoor

theorem core_long (n f : Int) (a : Option Addr) (len cap : Nat) (on : Bool) (w : World) (hT : Tab w) (hl : (300 : Int) < len) :
    Calls Tryd.prog 4 #[.int .u16 n, .slice a len cap, .bool on, .int .u16 f] w fun e w' => e = .returned (.bool true) ∧ Below w.heap.size w w' := by
  have HT := hid hT
  clear hT
  go_enter Tryd.func4, Tryd.ntmps4
  go_wp2_with fail
  refine (alive_true _ HT.out).mono ?_
  rintro e w1 ⟨rfl, hb1⟩
  go_wp2_with fail
  go_ret
  exact ⟨rfl, hb1⟩

set_option maxHeartbeats 1000000 in
theorem core (n f : Nat) (a : Option Addr) (l : List Int) (cap : Nat) (on : Bool) (w : World) (hT : Tab w) (hn : n < 65536) (hf : f < 65536) (hI : Ints w a l) (hl : (l.length : Int) ≤ 300) :
    Calls Tryd.prog 4 #[.int .u16 (n : Int), .slice a l.length cap, .bool on, .int .u16 (f : Int)] w fun e w' => e = .returned (.bool true) ∧ Below w.heap.size w w' := by
  have HT := hid hT
  have HI := hid hI
  have hpos := hT.pos
  clear hT hI
  go_enter Tryd.func4, Tryd.ntmps4
  go_wp2_with fail
  refine (alive_true _ HT.out).mono ?_
  rintro e w1 ⟨rfl, hb1⟩
  go_wp2_with fail
  refine (new_ok n _ (by omega)).mono ?_
  rintro e w2 ⟨b, g, rfl, hB2, hb2, hlb, hlg⟩
  have HB2 := hid hB2
  have hX2 := Below.of_below hb1 hb1.size hb2
  have hlg' : w.heap.size ≤ g := Nat.le_trans hb1.size hlg
  clear hB2 hb1 hb2 hlb hlg
  go_wp2_with fail
  refine (set_any b g n _ true l a cap _ HB2.out (HI.out.src hX2 hlg') (by omega)).mono ?_
  rintro e w3 ⟨rfl, hB3, hb3⟩
  have hX := Below.of_but hX2 hX2.size hb3 hlg'
  have HB := hid hB3
  have HT3 := hid (HT.out.below hX hpos)
  generalize (setAll n true (List.replicate ((n + 63) / 64) 0) l).1 = ws at *
  generalize (setAll n true (List.replicate ((n + 63) / 64) 0) l).2 = turned at *
  clear hB3 hb3 hX2 HB2 HI
  go_wp2_with fail
  refine (first_any b g n ws on f _ HB.out HT3.out (by omega)).mono ?_
  rintro e w4 ⟨r, rfl, hr, rfl⟩
  rcases hr with ⟨rfl, hr⟩ | ⟨k, rfl, h1, h2, h3, h4⟩
  · have HR := hid hr
    clear hr
    go_wp2_with fail
    refine (alive_true _ HT3.out).mono ?_
    rintro e w5 ⟨rfl, hb5⟩
    have hX5 := Below.of_below hX hX.size hb5
    have HB5 := hid (HB.out.below hb5)
    have HT5 := hid (HT3.out.below hb5 (by have := hX.size; omega))
    clear hX hb5 HB HT3
    by_cases hfn : n < f
    · go_wp2_with fail
      go_ret
      exact ⟨rfl, hX5⟩
    · obtain ⟨d, hd⟩ : ∃ d : Nat, d = n - f := ⟨_, rfl⟩
      have hd' : (n : Int) - (f : Int) = (d : Int) := by omega
      have hdn : f + d = n := by omega
      clear hd
      go_wp2_with fail
      refine (run_true b g n ws (!on) f d _ HB5.out HT5.out (by omega) (fun j h1 h2 => by
        have := HR.out j h1 (by omega)
        revert this
        cases bit ws j <;> cases on <;> simp)).mono ?_
      rintro e w6 ⟨rfl, rfl⟩
      go_wp2_with fail
      go_ret
      exact ⟨rfl, hX5⟩
  · have HR := hid h4
    have H3 := hid h3
    clear h3 h4
    obtain ⟨d, hd⟩ : ∃ d : Nat, d = k - f := ⟨_, rfl⟩
    have hd' : (k : Int) - (f : Int) = (d : Int) := by omega
    have hdn : f + d = k := by omega
    clear hd
    go_wp2_with fail
    refine (alive_true _ HT3.out).mono ?_
    rintro e w5 ⟨rfl, hb5⟩
    have hX5 := Below.of_below hX hX.size hb5
    have HB5 := hid (HB.out.below hb5)
    have HT5 := hid (HT3.out.below hb5 (by have := hX.size; omega))
    clear hX hb5 HB HT3
    go_wp2_with fail
    refine (get_in b g n ws k _ HB5.out h2).mono ?_
    rintro e w6 ⟨rfl, q, rfl⟩
    rw [H3.out]
    go_wp2_with fail
    refine (run_true b g n ws (!on) f d _ (HB5.out.drewN _) (HT5.out.drewN _) (by omega) (fun j h1 h2 => by
      have := HR.out j h1 (by omega)
      revert this
      cases bit ws j <;> cases on <;> simp)).mono ?_
    rintro e w7 ⟨rfl, rfl⟩
    go_wp2_with fail
    refine (run_false b g n ws (!on) f (d + 1) k _ (HB5.out.drewN _) (HT5.out.drewN _) (by omega) (by omega) (by omega) (by rw [H3.out]; cases on <;> simp)).mono ?_
    rintro e w8 ⟨rfl, rfl⟩
    go_wp2_with fail
    go_ret
    exact ⟨rfl, Below.drewN hX5 _⟩

theorem walk (a0 : Int) (a1 : Option Addr) (l1 : List Int) (cap1 : Nat) (a2 : Bool) (a3 : Int) (w : World) (hT : Tab w) (w0 : (Lit.int .u16 a0).wf = true) (w1 : Ints w a1 l1) (w3 : (Lit.int .u16 a3).wf = true) :
    Calls Tryd.prog 4 #[.int .u16 a0, .slice a1 l1.length cap1, .bool a2, .int .u16 a3] w fun e w' => e = .returned (.bool true) ∧ Below w.heap.size w w' := by
  have b0 := bounds_u16 w0
  have b3 := bounds_u16 w3
  by_cases hl : (300 : Int) < l1.length
  · exact core_long a0 a3 a1 l1.length cap1 a2 w hT hl
  obtain ⟨n, rfl⟩ := Int.eq_ofNat_of_zero_le b0.1
  obtain ⟨f, rfl⟩ := Int.eq_ofNat_of_zero_le b3.1
  exact core n f a1 l1 cap1 a2 w hT (by omega) (by omega) w1 (by omega)

/-- WHAT THE WALK GIVES, FOR EVERY ARGUMENT AND EVERY WORLD THAT HOLDS THE TABLE. -/
theorem contract (H : Type) (enc : TypeId × Value → H) (W : World) (base : Nat) (args : Array Value) (ds gs : List (DataW H)) (before : List MemPlace)
    (hval : ∀ (j : Nat) t v, Tryd.f4.params[j]? = some t → args[j]? = some v → Value.okWide Tryd.prog W .any base t v)
    (hW : DataW.Whole enc Tryd.prog Tryd.f4.params.toList Rows.mapFirstSpec.vars false W args.toList ds gs before) (hL : laidMetH Tryd.prog Rows.mapFirstRow.laid W) :
    Calls Tryd.prog 4 args W fun e W' => ∃ v, e = .returned v ∧ Rows.mapFirstSpec.post enc Tryd.prog Tryd.f4 false true false false W args v W' := by
  have hW' := hW
  obtain ⟨p, q, hA0, hV, rfl, hfz, hnd⟩ := hW
  have hA : DataW.TrodAll enc Tryd.prog W 0 (fun _ => true) true Tryd.f4.params.toList args.toList ds p := hA0
  rw [Tryd.params4] at hA hval
  obtain ⟨v0, vs0, d0, ds0, p0, q0, hargs, rfl, rfl, h0, r0⟩ := trodAll_cons hA
  obtain ⟨v1, vs1, d1, ds1, p1, q1, rfl, rfl, rfl, h1, r1⟩ := trodAll_cons r0
  obtain ⟨v2, vs2, d2, ds2, p2, q2, rfl, rfl, rfl, h2, r2⟩ := trodAll_cons r1
  obtain ⟨v3, vs3, d3, ds3, p3, q3, rfl, rfl, rfl, h3, r3⟩ := trodAll_cons r2
  obtain ⟨rfl, rfl, rfl⟩ := trodAll_nil r3
  obtain rfl : args = #[v0, v1, v2, v3] := by cases args; simp_all
  obtain ⟨rfl, rfl⟩ := trodVars_none hV
  obtain ⟨a0, rfl, rfl, rfl, w0⟩ := open_int Tryd.underlying22 (hval 0 22 v0 rfl rfl) h0
  have k1 := h1
  have lt1 : ∀ x ∈ p1, x.block < W.heap.size := by obtain ⟨m, hm⟩ := k1; exact DataW.trod_lt m _ _ _ hm
  obtain ⟨a1', len1, cap1', rfl⟩ := okWide_slice Tryd.underlying27 (hval 1 27 v1 rfl rfl)
  obtain ⟨a1, cap1, l1, he1, w1, _⟩ : ∃ p cap zs, Value.slice a1' len1 cap1' = .slice p zs.length cap ∧ Ints W p zs ∧ ∀ n ∈ zs, (Lit.int .i64 n).wf = true := by
    obtain ⟨fuel, hf⟩ := h1
    exact ints_of (by simpa [Value.cells] using hf)
  obtain ⟨rfl, rfl, rfl⟩ : a1' = a1 ∧ len1 = l1.length ∧ cap1' = cap1 := by simpa using he1
  obtain ⟨a2, rfl, rfl, rfl⟩ := open_bool Tryd.underlying4 (hval 2 4 v2 rfl rfl) h2
  obtain ⟨a3, rfl, rfl, rfl, w3⟩ := open_int Tryd.underlying22 (hval 3 22 v3 rfl rfl) h3
  clear hA0
  refine (walk a0 a1' l1 cap1' a2 a3 W (tab_of hL) w0 w1 w3).mono fun e W' ⟨he, bel⟩ => ?_
  subst he
  exact ⟨_, rfl, _, _, _, [], _, [], hW', trodAll_mk1 (shut_bool Tryd.underlying4 _), (trodAll_cons_mk (shut_int Tryd.underlying22 w0) (trodAll_cons_mk (Below.trod laidOut (by kernel_rfl) (of_decide_eq_true (by kernel_rfl)) k1 bel lt1) (trodAll_cons_mk (shut_bool Tryd.underlying4 _) (trodAll_cons_mk (shut_int Tryd.underlying22 w3) trodAll_mk0)))), rfl, bel.frame _, fun h => by cases h⟩

theorem laid_met (os : Os) : laidMet Tryd.prog Rows.mapFirstRow.laid (({ World.holding Tryd.prog os ⟨#[], #[], []⟩ with heap := (World.holding Tryd.prog os ⟨#[], #[], []⟩).heap.modify 0 (lays tabInts) } : World).forCall (fun _ _ => 0) ⟨#[], #[.int .u16 0, .slice none 0 0, .bool false, .int .u16 0], []⟩).memory :=
  laidMet_of_run' 8 (by kernel_rfl) (by kernel_rfl)
theorem reads (os : Os) {H : Type} (enc : TypeId × Value → H) : ∃ places, DataW.whole enc Tryd.prog (({ World.holding Tryd.prog os ⟨#[], #[], []⟩ with heap := (World.holding Tryd.prog os ⟨#[], #[], []⟩).heap.modify 0 (lays tabInts) } : World).forCall (fun _ _ => 0) ⟨#[], #[.int .u16 0, .slice none 0 0, .bool false, .int .u16 0], []⟩).memory Tryd.f4.params.toList Rows.mapFirstSpec.vars false #[Value.int .u16 0, .slice none 0 0, .bool false, .int .u16 0].toList 8 = some ([.lit (.int .u16 0), .nil, .lit (.bool false), .lit (.int .u16 0)], [], places) :=
  ⟨[], by kernel_rfl⟩

set_option maxRecDepth 100000 in
theorem lifted (os : Os) (started : os.Started) (H : Type) (enc : TypeId × Value → H) (F : Stop.Interp) :
    ReturnsInHanded {} Tryd.checked os 4 .any ((OpenSpec.ofChange Rows.mapFirstSpec).preRow enc Tryd.prog Tryd.f4 Rows.mapFirstRow.domain false Rows.mapFirstRow.laid) (((OpenSpec.ofChange Rows.mapFirstSpec).at F).post enc Tryd.prog Tryd.f4 false true false false) := by
  obtain ⟨places, hx⟩ := reads os enc
  refine returnsInHanded_of_row (C := Tryd.checked) (s := OpenSpec.ofChange Rows.mapFirstSpec) own started (by kernel_rfl) Tryd.func4
    (witness_row_at (enc := enc) (C := Tryd.checked) false ({ World.holding Tryd.prog os ⟨#[], #[], []⟩ with heap := (World.holding Tryd.prog os ⟨#[], #[], []⟩).heap.modify 0 (lays tabInts) } : World) #[.int .u16 0, .slice none 0 0, .bool false, .int .u16 0] rfl (by kernel_rfl) (by kernel_rfl) (by kernel_rfl)
      (OpenSpec.preRow_of_cond 8 hx (by kernel_rfl) (fun k hk => by cases hk) (by kernel_rfl) (laid_met os))) ?_
  intro W base args ds gs before hval hW _ _ _ hL _ _
  exact contract H enc W base args ds gs before hval hW hL

theorem said : Rows.MapFirstSaid :=
  OpenClaim.holds_of_cond 4 Tryd.f4 rfl rfl rfl rfl rfl rfl rfl ⟨rfl, rfl, rfl, rfl, rfl⟩ rfl rfl rfl rfl rfl (by kernel_rfl) Tryd.func4 (by kernel_rfl)
    (of_decide_eq_true (by kernel_rfl)) (by unfold Func.isWrapper; first | (rw [if_pos (by decide +kernel)]; kernel_rfl) | (rw [if_neg (by decide +kernel)]; exact ⟨rfl, rfl⟩))
    (fun os started H enc _ F => by rw [OpenClaim.pre_eq_preRow]; exact lifted os started H enc F)

/-- No parameter wants a stand-in; the program's own looks are off. -/
theorem plain (f : FuncId) (fn : Func) (hf : Tryd.pinned.checked.prog.funcNamed "quartermaster/quartermasterlaw02.MapFirst" = some f) (hfn : Tryd.pinned.checked.prog.funcs[f]? = some fn) :
    false = Tryd.pinned.checked.prog.looks [] ∧ ∀ (j : Nat) t, fn.params[j]? = some t → Tryd.pinned.checked.prog.wantsStandIn t = false := by
  obtain rfl : f = 4 := Option.some.inj ((show Tryd.prog.funcNamed "quartermaster/quartermasterlaw02.MapFirst" = some 4 by kernel_rfl).symm.trans hf) |>.symm
  obtain rfl : fn = Tryd.f4 := (Option.some.inj (Tryd.func4.symm.trans hfn)).symm
  refine ⟨by kernel_rfl, fun j t ht => ?_⟩
  rw [Tryd.params4] at ht
  have hm : t = 22 ∨ t = 27 ∨ t = 4 ∨ t = 22 := by simpa using Array.mem_of_getElem? ht
  rcases hm with rfl | rfl | rfl | rfl
  · exact (show Tryd.prog.wantsStandIn 22 = false by kernel_rfl)
  · exact (show Tryd.prog.wantsStandIn 27 = false by kernel_rfl)
  · exact (show Tryd.prog.wantsStandIn 4 = false by kernel_rfl)
  · exact (show Tryd.prog.wantsStandIn 22 = false by kernel_rfl)

theorem card : Rows.MapFirstCardSaid :=
  Claim7.holds_tied_plain_at .later [] _ _ _ _ said (fun _ h => by cases h) (by kernel_rfl) (fun _ h => by cases h) mapFirst_row_tie rfl ⟨rfl, rfl⟩ (by kernel_rfl) rfl plain (by kernel_rfl)
end Go.Proofs.YtdngpppcjindiaaDoor.mapFirst
