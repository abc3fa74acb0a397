/- SlabFills: the walk. -/
import Derived.Test.YtohaoeilodebmaaDoorSBack
namespace Go.Proofs.YtohaoeilodebmaaDoor
open Go.RowKit Go.Maps

/-- A slice of numbers whose block stands. -/
theorem row_kept {w w' : World} {base k : Nat} {v : Value} {l : List Nat} (h : w.ownsRow base 3 1 v k (nums l)) (hg : ∀ x, v.ownBlock = some x → w'.heap[x]? = w.heap[x]?) : w'.ownsRow base 3 1 v k (nums l) := by
  refine ⟨h.1, ?_⟩
  rcases h.2 with h2 | ⟨g, cap, cur, rfl, e2, e3, e4⟩
  · exact .inl h2
  · exact .inr ⟨g, cap, cur, rfl, e2, (hg g rfl).trans e3, e4⟩
theorem row_lt {w : World} {base k x : Nat} {v : Value} {l : List Nat} (h : w.ownsRow base 3 1 v k (nums l)) (hx : v.ownBlock = some x) : base ≤ x ∧ x < w.heap.size := by
  rcases h.2 with ⟨rfl, _⟩ | ⟨g, cap, cur, rfl, e2, e3, e4⟩
  · simp [Value.ownBlock] at hx
  · obtain rfl : g = x := by simpa [Value.ownBlock] using hx
    exact ⟨e2, lt_of e3⟩
theorem row_cell {w : World} {base k cap i x : Nat} {a : Option Addr} {l : List Nat} (h : w.ownsRow base 3 1 (.slice a k cap) l.length (nums l)) (hi : l[i]? = some x) : ∃ g, a = some ⟨g, 0, none⟩ ∧ w.cell? ⟨g, i, none⟩ = some (.int .i64 (x : Int)) := by
  obtain ⟨a', cap', e, hI⟩ := ints_of h
  obtain ⟨rfl, rfl, rfl⟩ : a = a' ∧ k = l.length ∧ cap = cap' := by simpa using e
  obtain ⟨g, e1, _, _, e2⟩ := hI.cell hi
  exact ⟨g, e1, e2⟩
/-- There is a block as long as fewer pages are slabs than there are. -/
theorem Exact.room {B : St} {U : Pls} {m K : Nat} (h : Exact B U m) (hi : Inv K B) (hn : NoHeld B) (hs : (slabsOf U m (2 ^ K)).length < 2 ^ K) : ¬ ∀ k j, B k j ≠ .free := fun hno => by
  have e1 := h.left hi hn
  have e2 : pages K (isK B .free) (K + 1) = 0 := pages_zero (fun k i _ => by unfold isK; simp; exact hno k i)
  omega
theorem Row.few {m t : Nat} {ps : Nat → Nat} {U : Pls} {N : Nat} (h : Row m t ps U) (hm : 0 < m) (hF : ∀ q, Slb U m q → q < N) : (slabsOf U m N).length = (t + m - 1) / m := by
  unfold slabsOf
  rw [List.length_map]
  exact h.pages hm (fun s hs => hF _ ((h.slb hm _).2 ⟨s, rfl, hs⟩))

set_option maxRecDepth 100000 in
set_option maxHeartbeats 1000000 in
theorem fills_core (w : World) (hT : Tab w) (s n : Nat) (hs : s < 256) (hn : n < 256) :
    Calls Tryd.prog 6 #[.int .u8 (s : Int), .int .u8 (n : Int)] w fun e w' => e = .returned (.bool true) ∧ Below w.heap.size w w' := by
  have HT := hid hT
  clear hT
  obtain ⟨r, hr⟩ : ∃ r, r = s % 32 := ⟨_, rfl⟩
  have hr1 : (s : Int).tmod 32 = (r : Int) := by rw [Int.tmod_eq_emod_of_nonneg (by omega), hr]; omega
  have hr2 : r < 32 := by omega
  clear hr
  go_enter Tryd.func6, Tryd.ntmps6
  go_wp2_with fail
  refine (salive_any w HT.out).mono ?_
  rintro e w1 ⟨rfl, hb1⟩
  have hT1 : Tab w1 := HT.out.below hb1 HT.out.pos
  have H1 := hid (And.intro hb1 hT1)
  clear hb1 hT1
  go_wp2_with fail
  refine (newB_any 8 w1 H1.out.2 (by omega) (by omega)).mono ?_
  rintro e w2 ⟨p, mm, bf, gf, rfl, hm2, hn2, hb2⟩
  have H2 := hid (And.intro hm2 (And.intro hn2 hb2))
  clear hm2 hn2 hb2
  have hsn := snew_any p (16 + 16 * r) w2 (by omega) (by omega) (by omega)
  rw [show (((16 + 16 * r : Nat) : Nat) : Int) = 16 + 16 * (r : Int) by omega] at hsn
  have HSN := hid hsn
  clear hsn
  go_wp2_with fail
  refine HSN.out.mono ?_
  intro e w3 h3
  obtain ⟨z, hz⟩ : ∃ z, z = 16 + 16 * r := ⟨_, rfl⟩
  rw [← hz] at h3
  obtain ⟨m, hm⟩ : ∃ m, m = 960 / z := ⟨_, rfl⟩
  have hzz : Sz z m 8 := ⟨by omega, by omega, hm, by omega, by omega⟩
  obtain ⟨c, rfl, _, hS3⟩ := sys_new (m := m) (w0 := w) (Bd := w.heap.size) (Below.of_below H1.out.1 H1.out.1.size H2.out.2.2) (Nat.le_trans H1.out.1.size H2.out.2.2.size) (H1.out.2.below H2.out.2.2 H1.out.2.pos) HT.out.pos ⟨begin_inv 8, begin_noheld 8, H2.out.1⟩ (by
    have := H1.out.1.size
    rintro x (rfl | ⟨k, hk, rfl⟩)
    · exact Nat.le_trans this H2.out.2.1.2.1
    · exact Nat.le_trans this (H2.out.2.1.2.2 k hk).2) h3
  have hm1 := hzz.one
  have hm60 := hzz.few
  have hd : (960 : Int).tdiv (z : Int) = (m : Int) := by rw [hm, Int.tdiv_eq_ediv_of_nonneg (by omega)]; rfl
  have hz0 : ((z : Int) == 0) = false := by rw [beq_eq_false_iff_ne]; omega
  have hzb : z ≤ 512 := by omega
  have hzl : 16 ≤ z := by omega
  have hlo : decide ((m : Int) < 1) = false := by simp; omega
  have X3 := hid (And.intro hS3 (Exact.start 8 m))
  have HZ := hid (And.intro hzz hm)
  clear h3 hS3 H1 H2 HSN hz hm hzz
  go_wp2_with fail
  refine (many_any w3 c z X3.out.1.c1 HZ.out.1.lo HZ.out.1.hi).mono ?_
  rintro e wx ⟨rfl, ex⟩
  rw [ex, ← HZ.out.2]
  clear ex wx
  go_wp2_with fail
  refine (size_any w3 c z X3.out.1.c1).mono ?_
  rintro e wx ⟨rfl, ex⟩
  rw [ex]
  clear ex wx
  go_wp2_with fail
  go_loopw [8, 9] (fun v8 v9 wr => ∃ (i : Nat) (a : Option Addr) (cap : Nat) (ls : List Nat) (B : St) (U : Pls) (ps : Nat → Nat), v8 = .slice a i cap ∧ v9 = .int .i64 (i : Int) ∧ i ≤ n ∧
      Hid (Sys w w.heap.size (fun x => (Value.slice a i cap).ownBlock = some x) wr p c 8 z m i B U ∧ Exact B U m ∧ Row m i ps U ∧ wr.ownsRow w.heap.size 3 1 (.slice a i cap) ls.length (nums ls) ∧ ls.length = i ∧ ∀ x, x ∈ ls → x ∈ usedOf U z m (2 ^ 8))) (fun _ v9 _ => n - (intOf v9).toNat)
  case atStart => exact ⟨0, none, 0, [], _, _, fun _ => 0, rfl, rfl, Nat.zero_le _, X3.out.1.fewer (fun x hx => by simp [Value.ownBlock] at hx), X3.out.2, Row.start m _, World.ownsRow_nil _ _ _ _, rfl, fun x hx => by cases hx⟩
  case round =>
    clear X3
    obtain ⟨i, a, cap, ls, B, U, ps, rfl, rfl, hi, HS⟩ := hrel
    by_cases hin : i = n
    · subst hin
      have hcnt : (usedOf U z m (2 ^ 8)).length = i := HS.out.2.2.1.count HZ.out.1.one HZ.out.1.pos HZ.out.1.page (fun s hs => (HS.out.1.fit.page _ ((HS.out.2.2.1.slb HZ.out.1.one _).2 ⟨s, rfl, hs⟩)).2)
      have hleft := HS.out.2.1.left HS.out.1.inv.1 HS.out.1.inv.2
      obtain ⟨d, hdl⟩ : ∃ d, (slabsOf U m (2 ^ 8)).length = d := ⟨_, rfl⟩
      rw [hdl] at hleft
      obtain ⟨pf, hpf⟩ : ∃ pf, pages 8 (isK B .free) (8 + 1) = pf := ⟨_, rfl⟩
      rw [hpf] at hleft
      have hl2 : pf + d = 256 := hleft
      have X7 := hid (And.intro HS.out.1 (And.intro hcnt (And.intro hdl hpf)))
      clear hcnt hleft hdl hpf HS
      go_wp2_with fail
      refine (X7.out.1.used HZ.out.1 (by omega)).mono ?_
      rintro e w8 ⟨v8, rfl, hrow8, hb8⟩
      obtain ⟨a8, cap8, rfl, _⟩ := ints_len hrow8 X7.out.2.1
      have X8 := hid (And.intro (X7.out.1.below hb8) X7.out.2)
      clear hrow8 hb8 X7
      go_wp2_with fail
      refine X8.out.1.left.mono ?_
      rintro e wx ⟨rfl, ex⟩
      rw [ex, X8.out.2.2.2]
      clear ex wx
      go_wp2_with fail
      refine (X8.out.1.slabs (by omega)).mono ?_
      rintro e w9 ⟨v9, rfl, hrow9, hb9⟩
      obtain ⟨a9, cap9, rfl, _⟩ := ints_len hrow9 X8.out.2.2.1
      have X9 := hid (And.intro (X8.out.1.below hb9) X8.out.2)
      clear hrow9 hb9 X8
      have hfin : ((pf : Int) * 1024 == 262144 - 1024 * (d : Int)) = true := by rw [beq_iff_eq]; omega
      go_wp2_with fail
      go_ret
      exact ⟨rfl, X9.out.1.b0⟩
    · have hil : i < n := by omega
      clear hi hin
      go_wp2_with fail
      refine (HS.out.1.take HZ.out.1 (by omega)).mono ?_
      rintro e w5 ⟨B5, U5, hS5, hg5, ⟨rfl, _, hnf, _⟩ | ⟨q, j, rfl, ht, hc⟩⟩
      · refine (HS.out.2.1.room HS.out.1.inv.1 HS.out.1.inv.2 ?_ hnf).elim
        rw [HS.out.2.2.1.few HZ.out.1.one (fun q hq => (HS.out.1.fit.page q hq).2)]
        have : (i + m - 1) / m ≤ i := by
          rcases Nat.eq_zero_or_pos i with e | e
          · rw [e, Nat.div_eq_of_lt (by omega)]; exact Nat.zero_le _
          · have h1 : i + m - 1 ≤ i * m := by
              have := Nat.mul_le_mul (show 1 ≤ i from e) (show 1 ≤ m from HZ.out.1.one)
              have h2 : i * m = (i - 1) * m + m := by
                have : i = i - 1 + 1 := by omega
                rw [this, Nat.add_mul]; simp
              have h3 : (i - 1) * 1 ≤ (i - 1) * m := Nat.mul_le_mul_left _ HZ.out.1.one
              omega
            have := Nat.div_le_div_right (c := m) h1
            rw [Nat.mul_div_cancel _ HZ.out.1.one] at this
            exact this
        have : 2 ^ 8 = 256 := rfl
        omega
      obtain ⟨_, hR5, _⟩ := HS.out.2.2.1.take HZ.out.1.one ht
      have hqN := hc.low HS.out.1.fit hS5.inv.1
      have hd5 : (slabsOf U5 m (2 ^ 8)).length = (i + m) / m := by
        rw [hR5.few HZ.out.1.one (fun q hq => (hS5.fit.page q hq).2)]
        congr 1; omega
      obtain ⟨d, hdd⟩ : ∃ d, d = (i + m) / m := ⟨_, rfl⟩
      rw [← hdd] at hd5
      have hdv : ((i : Int) + (m : Int)).tdiv (m : Int) = (d : Int) := by rw [Int.tdiv_eq_ediv_of_nonneg (by omega), hdd, Int.natCast_ediv, Int.natCast_add]
      have hm0 : ((m : Int) == 0) = false := by rw [beq_eq_false_iff_ne]; omega
      have hwa : IntKind.i64.wrap ((i : Int) + (m : Int)) = (i : Int) + (m : Int) := by rw [IntKind.wrap_i64]; omega
      have hwd : ∀ d : Nat, d ≤ 1000 → IntKind.i64.wrap (d : Int) = (d : Int) := fun d h => by rw [IntKind.wrap_i64]; omega
      have hdb : d ≤ 1000 := by rw [hdd]; exact Nat.le_trans (Nat.div_le_self _ _) (by omega)
      have hwd := hwd d hdb
      have hmN : ¬ (m = 0) := by omega
      have hmI : ¬ ((m : Int) = 0) := by omega
      have hmB : (m == 0) = false := by rw [beq_eq_false_iff_ne]; omega
      have hnew : place z q j ∉ usedOf U z m (2 ^ 8) := fun h => by
        have := (used_is HZ.out.1.pos HZ.out.1.page hqN ht.lt).1 h
        rw [ht.free] at this; cases this
      have hon : place z q j ∈ usedOf U5 z m (2 ^ 8) := by rw [ht.now]; exact (used_on ht.lt hqN _).2 (.inr rfl)
      have hkeep : ∀ x, x ∈ usedOf U z m (2 ^ 8) → x ∈ usedOf U5 z m (2 ^ 8) := fun x hx => by rw [ht.now]; exact (used_on ht.lt hqN _).2 (.inl hx)
      obtain ⟨pl, hpl⟩ : ∃ pl, pl = place z q j := ⟨_, rfl⟩
      have hplb : pl < 300000 := by
        have := (place_in (p := q) HZ.out.1.page ht.lt).2
        have e2 : 2 ^ 8 = 256 := rfl
        rw [hpl]; omega
      rw [← hpl] at hnew hon ⊢
      have hj5 : j < m ∧ U5 q j = true := ⟨ht.lt, by rw [ht.now]; exact setU_same _ _ _ _⟩
      have hrow5 : w5.ownsRow w.heap.size 3 1 (.slice a i cap) ls.length (nums ls) := row_kept HS.out.2.2.2.1 hg5
      have X5 := hid (And.intro hS5 (And.intro (HS.out.2.1.take ht hc) (And.intro hR5 (And.intro hrow5 (And.intro HS.out.2.2.2.2.1 (And.intro (fun x hx => hkeep x (HS.out.2.2.2.2.2 x hx)) (And.intro (fun (x : Nat) (hx : x ∈ ls) (e : x = pl) => hnew (e ▸ HS.out.2.2.2.2.2 x hx)) (And.intro hon (And.intro hd5 (And.intro hpl hj5))))))))))
      clear hS5 hg5 ht hc HS hR5 hqN hd5 hdd hnew hon hkeep hpl hj5 hrow5
      have hhas := (X5.out.1.below ((Below.refl _ w5).drew)).has HZ.out.1 (pl : Int) (by omega) (by omega)
      have HHA := hid hhas
      clear hhas
      go_wp2_with fail
      go_region_held3 (fun _ => True) (trivial) (first
        | (go_at_call 31; refine HHA.out.mono ?_; rintro e w6 ⟨f6, rfl, hf6, k6, rfl⟩; obtain rfl : f6 = true := hf6.out.2 ⟨q, j, X5.out.2.2.2.2.2.2.2.2.2.2.1, X5.out.2.2.2.2.2.2.2.2.2.2.2, by rw [X5.out.2.2.2.2.2.2.2.2.2.1]⟩; clear hf6)
        | (go_at_call 28; refine ((X5.out.1.same (1 + k6)).slabs (by omega)).mono ?_; rintro e w7 ⟨v7, rfl, hrow7, hb7⟩; obtain ⟨a7, cap7, rfl, _⟩ := ints_len hrow7 X5.out.2.2.2.2.2.2.2.2.1; have HB7 := hid hb7; clear hrow7 hb7))
      all_goals
        have hW7 : Below w5.heap.size w5 w7 := (below_drewN (Below.refl _ w5) (1 + k6)).trans HB7.out
        have hrow7 : w7.ownsRow w.heap.size 3 1 (.slice a i cap) ls.length (nums ls) := row_kept X5.out.2.2.2.1 (fun x hx => hW7.block x (row_lt X5.out.2.2.2.1 hx).2)
        have X7 := hid (And.intro (X5.out.1.below hW7) (And.intro X5.out.2.1 (And.intro X5.out.2.2.1 (And.intro hrow7 (And.intro X5.out.2.2.2.2.1 (And.intro X5.out.2.2.2.2.2.1 (And.intro X5.out.2.2.2.2.2.2.1 X5.out.2.2.2.2.2.2.2.1)))))))
        clear hW7 hrow7 X5 HHA HB7
        go_wp2_with fail
        go_loopw [12] (fun v wq => ∃ k : Nat, v = .int .i64 (k : Int) ∧ k ≤ i ∧ wq = w7) (fun v _ => i - (intOf v).toNat)
        case atStart => exact ⟨0, rfl, Nat.zero_le _, rfl⟩
        case round =>
          obtain ⟨k, rfl, hk, hwq⟩ := hrel
          subst hwq
          by_cases hki : k = i
          · subst hki
            obtain ⟨i0, hi, hz0', hz1', hz2'⟩ := info_parts infoI
            have HIF := hid (And.intro hi (And.intro hz0' (And.intro hz1' hz2')))
            clear hi hz0' hz1' hz2'
            have hlk := X7.out.2.2.2.2.1
            have hrow := X7.out.2.2.2.1
            have HR := hid (And.intro hrow hlk)
            have hwb : w.heap.size ≤ wr.heap.size := X7.out.1.b0.size
            clear hrow hlk
            go_wp2_with (at_builtin; refine wpList_append_own_at _ rfl _ _ 52 rfl w.heap.size 3 i0 (.int .i64 0) 1 8 Tryd.underlying52 HIF.out.1 HIF.out.2.1 HIF.out.2.2.1 HIF.out.2.2.2 rfl (by decide) (.slice a k cap) ls.length (nums ls) rfl (HR.out.1.alloc _) ⟨wr.heap.size, 0, none⟩ 1 1 [.int .i64 (pl : Int)] rfl rfl (cell_one_new _ _ _) (by simp [Value.oneCell']) (by unfold maxLen; have := HR.out.2; omega) (by have := HR.out.2; omega) (by simp; omega) ?_; intro v9 w9 hown9 hgrow9 _ hob9; obtain ⟨g9, cap9, rfl⟩ := ownsRow_succ hown9; have H9 := hid (And.intro hown9 (And.intro hgrow9 hob9)); clear hown9 hgrow9 hob9)
            have hW8 : Below wr.heap.size wr (wr.alloc (.cells #[.int .i64 (pl : Int)] 3)) := (Below.refl _ wr).alloc (Nat.le_refl _) _
            have hG8 := X7.out.1.add hW8
            have hG9 := hG8.grown (Turn.of_grown (S := fun x => (Value.slice a k cap).ownBlock = some x ∨ wr.heap.size ≤ x ∧ x < (wr.alloc (.cells #[.int .i64 (pl : Int)] 3)).heap.size) H9.out.2.1 (fun x e => .inl (.inl e)))
            have hw9 := H9.out.2.1.size
            have hG10 : Sys w w.heap.size (fun x => (Value.slice (some ⟨g9, 0, none⟩) (ls.length + 1) cap9).ownBlock = some x) w9 p c 8 z m (k + 1) _ _ := hG9.fewer (fun x hx => by
              rcases H9.out.2.2 with e | e
              · exact .inl (.inl (e.symm.trans hx))
              · rw [e] at hx
                have : (wr.alloc (.cells #[.int .i64 (pl : Int)] 3)).heap.size = x := by simpa using hx
                have h2 := row_lt (l := ls ++ [pl]) (by simpa [nums] using H9.out.1) (show (Value.slice (some ⟨g9, 0, none⟩) (ls.length + 1) cap9).ownBlock = some x by rw [e]; exact hx)
                exact .inr ⟨by omega, h2.2⟩)
            have hlk : ls.length = k := X7.out.2.2.2.2.1
            rw [hlk] at hG10
            have hrow9 := H9.out.1
            rw [hlk] at hrow9
            have XX := hid (And.intro hG10 hrow9)
            clear hW8 hG8 hG9 hw9 hG10 hrow9
            rw [hlk]
            have HLK := hid hlk
            clear hlk
            go_wp2_with fail
            go_roundw
            case rel =>
              refine ⟨k + 1, _, _, ls ++ [pl], _, _, _, rfl, rfl, by omega, XX.out.1, X7.out.2.1, X7.out.2.2.1, ?_, ?_, fun x hx => ?_⟩
              · have e : (ls ++ [pl]).length = k + 1 := by rw [List.length_append, HLK.out]; rfl
                rw [e]
                simpa [nums] using XX.out.2
              · rw [List.length_append, HLK.out]; rfl
              · rcases List.mem_append.1 hx with h | h
                · exact X7.out.2.2.2.2.2.1 x h
                · rw [List.mem_singleton.1 h]; exact X7.out.2.2.2.2.2.2.2
            case measure => show n - ((k : Int) + 1).toNat < n - (k : Int).toNat; omega
          · have hkl : k < i := by omega
            clear hk hki
            obtain ⟨x, hx⟩ : ∃ x, ls[k]? = some x := ⟨_, List.getElem?_eq_getElem (by have := X7.out.2.2.2.2.1; omega)⟩
            obtain ⟨g, rfl, hcell⟩ := row_cell X7.out.2.2.2.1 hx
            have hne : ((x : Int) == (pl : Int)) = false := by
              rw [beq_eq_false_iff_ne]
              have := X7.out.2.2.2.2.2.2.1 x (List.mem_of_getElem? hx)
              exact fun e => this (by omega)
            clear hx
            go_wp2_with fail
            go_roundw
            case rel => exact ⟨k + 1, rfl, by omega, trivial⟩
            case measure => show i - ((k : Int) + 1).toNat < i - (k : Int).toNat; omega
end Go.Proofs.YtohaoeilodebmaaDoor
