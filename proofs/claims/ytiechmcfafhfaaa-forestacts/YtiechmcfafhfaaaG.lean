/- The contract of node's below: all below a node, worked off from a list's end. -/
import Derived.Test.YtiechmcfafhfaaaF
import Derived.ScopeJumps
import Derived.WalkMore
namespace Go.Proofs.Ytiechmcfafhfaaa
open Go.RowKit Go.Maps Go.Shelf

/-- A row without its last ones. -/
theorem OR.cut {w : World} {base size n m cap : Nat} {a : Option Addr} {xs : List Value} (h : OR w base size (.slice a n cap) n xs) (hm : m ≤ n) : OR w base size (.slice a m cap) m (xs.take (m * size)) := by
  refine ⟨by rw [List.length_take, h.len]; exact Nat.min_eq_left (Nat.mul_le_mul_right _ hm), ?_⟩
  rcases h.form with ⟨e1, h0⟩ | ⟨g, off, cap', e1, hb, hl, hn, hmx, hr, hx⟩
  · obtain rfl : m = 0 := by omega
    obtain ⟨rfl, rfl⟩ : a = none ∧ cap = 0 := by have := e1; simp at this; exact ⟨this.1, this.2.2⟩
    exact .inl ⟨rfl, rfl⟩
  · obtain ⟨rfl, rfl⟩ : a = some ⟨g, off, none⟩ ∧ cap = cap' := by simpa using e1
    exact .inr ⟨g, off, cap, rfl, hb, hl, by omega, hmx, hr, fun j u hu => by
      rw [List.getElem?_take] at hu
      split at hu
      · exact hx j u hu
      · cases hu⟩
theorem OR.cap {w : World} {base size n cap : Nat} {a : Option Addr} {xs : List Value} (h : OR w base size (.slice a n cap) n xs) : n ≤ cap := by
  obtain ⟨x, y, e1, e2⟩ := h.slice
  have e3 : a = x ∧ cap = y := by simpa using e1
  omega
section
variable {w w' : World} {nb : Nat → Nat} {e : Nd} {L : List Nd} {last : Nat}
/-- What is found, and what is left to work off. -/
structure Bw (w0 w : World) (nb : Nat → Nat) (F l : List Nat) (u v : Value) : Prop where
  fnd : OR w w0.heap.size 1 u F.length (prow nb F)
  lft : OR w w0.heap.size 1 v l.length (prow nb l)
  sep : ∀ g, u.ownBlock = some g → v.ownBlock ≠ some g
  bel : Below w0.heap.size w0 w
/-- A round: the last one is found, its children are left in its place. -/
def Rest (L : List Nd) (N : List Nat) (F l : List Nat) : Prop := F ++ (post L l).reverse = N.reverse ∧ ∀ x ∈ l, ∃ f ∈ L, f.id = x
theorem Rest.step {N F l : List Nat} {x : Nat} (hr : Rest L N F (l ++ [x])) (h : Wf L last) (hl : last < 400) : Rest L N (F ++ [x]) (l ++ kids L x) := by
  refine ⟨?_, fun y hy => ?_⟩
  · rw [← hr.1, h.post_snoc hl]
    simp
  · rcases List.mem_append.1 hy with h1 | h1
    · exact hr.2 y (List.mem_append_left _ h1)
    · obtain ⟨_, f, hf, e1, _⟩ := mem_kids.1 h1
      exact ⟨f, hf, e1⟩
theorem Rest.len {N F l : List Nat} (hr : Rest L N F l) (hl : l ≠ []) : F.length < N.length := by
  have := congrArg List.length hr.1
  rw [List.length_append, List.length_reverse, List.length_reverse] at this
  have : 0 < (post L l).length := by
    cases l with
    | nil => exact absurd rfl hl
    | cons y r => unfold post; simp; omega
  omega
theorem Rest.len2 {N F l : List Nat} (hr : Rest L N F l) (hN : N.length ≤ 400) : l.length ≤ 400 := by
  have e1 := congrArg List.length hr.1
  rw [List.length_append, List.length_reverse, List.length_reverse] at e1
  have : l.length ≤ (post L l).length := by
    clear e1 hr
    induction l with
    | nil => simp
    | cons y r ih =>
      rw [show y :: r = [y] ++ r from rfl, post_append, List.length_append, List.length_append]
      have : 1 ≤ (post L [y]).length := by unfold post; simp
      simp only [List.length_singleton]
      omega
  omega
/-- The frame of below, at its label. -/
def BJ (w0 : World) (nb : Nat → Nat) (L : List Nd) (N : List Nat) (n : Nat) (a : Act) (w : World) : Prop :=
  ∃ (F l : List Nat) (aF al : Option Addr) (cF cl : Nat) (u5 u6 u7 u8 u9 u10 u11 u12 u13 u14 u15 u16 u17 u18 u19 u20 u21 u22 u23 u24 u25 u26 u27 u28 u29 u30 : Value),
    a = { tmps := #[ptr n, undef, .slice none 0 0, .slice aF F.length cF, .slice al l.length cl, u5, u6, u7, u8, u9, u10, u11, u12, u13, u14, u15, u16, u17, u18, u19, u20, u21, u22, u23, u24, u25, u26, u27, u28, u29, u30], defers := [] } ∧
      Hid (Bw w0 w nb F l (.slice aF F.length cF) (.slice al l.length cl)) ∧ Hid (Rest L N F l) ∧ Hid (l.length ≤ cl ∧ l.length ≤ 401)
theorem ownB (a : Option Addr) (n m c d : Nat) : (Value.slice a n c).ownBlock = (Value.slice a m d).ownBlock := by cases a <;> rfl
theorem Below.of_draw {B : Nat} (hb : Below B w.drew w') : Below B w w' := ⟨hb.os, hb.tape, hb.output, hb.size, hb.block⟩
theorem Bw.round {w0 : World} {F l0 : List Nat} {x m n3 : Nat} {u : Value} {al : Option Addr} {cl : Nat} (hS : Bw w0 w nb F (l0 ++ [x]) u (.slice al (m + 1) cl)) (hm : l0.length = m) (hF : F.length ≤ 400) (hl0 : m ≤ 400) (hkl : (kids L x).length ≤ 400) (hn3 : n3 = F.length + 1) :
    ∃ a3 cap3 w3, (Builtin.append_ #[68, 68] 68 #[u, .slice (some ⟨w.heap.size, 0, none⟩) 1 1]).run Try.prog (w.alloc (.cells #[ptr (nb x)] 59)) = .ok (.slice a3 n3 cap3) w3 ∧ Below w0.heap.size w0 w3.drew ∧
      ∀ w4 a4 cap4, OR w4 w3.drew.heap.size 1 (.slice a4 (kids L x).length cap4) (kids L x).length (prow nb (kids L x)) → Below w3.drew.heap.size w3.drew w4 →
        ∃ a5 cap5 w5, (Builtin.append_ #[68, 68] 68 #[.slice al m cl, .slice a4 (kids L x).length cap4]).run Try.prog w4 = .ok (.slice a5 (m + (kids L x).length) cap5) w5 ∧
          Bw w0 w5 nb (F ++ [x]) (l0 ++ kids L x) (.slice a3 n3 cap3) (.slice a5 (m + (kids L x).length) cap5) := by
  subst hm hn3
  have ob := ownB al l0.length (l0.length + 1) cl cl
  obtain ⟨a3, cap3, w3, hr3, ho3, hb3, hk3, hw3⟩ := ptr_append hS.fnd (by omega) hS.bel.size x w.heap.size rfl
  have hb03 : Below w0.heap.size w0 w3 := hS.bel.trans hb3
  refine ⟨a3, cap3, w3, hr3, hb03.drew, fun w4 a4 cap4 ho4 hb4' => ?_⟩
  have hb4 := Below.of_draw hb4'
  have ho4 : OR w4 w3.heap.size 1 (.slice a4 (kids L x).length cap4) (kids L x).length (prow nb (kids L x)) := ho4
  have hb4 : Below w3.heap.size w3 w4 := hb4
  have hs3 : w.heap.size ≤ w3.heap.size := hb3.size
  have hl := hS.lft
  rw [List.length_append] at hl
  have hl3 : OR w3 w0.heap.size 1 (.slice al (l0.length + 1) cl) (l0.length + 1) (prow nb (l0 ++ [x])) := hl.other hs3 (fun g e => hk3 g (hl.own g e).2 (fun e2 => hS.sep g e2 e))
  have hc3 := hl3.cut (m := l0.length) (by omega)
  have et : (prow nb (l0 ++ [x])).take (l0.length * 1) = prow nb l0 := by
    rw [prow_append, Nat.mul_one, List.take_append_of_le_length (by rw [prow_len]; omega), List.take_of_length_le (by rw [prow_len]; omega)]
  rw [et] at hc3
  have hc4 := hc3.below hb4 (Nat.le_refl _)
  obtain ⟨a5, cap5, w5, hr5, ho5, hk5, hg5, hw5⟩ := ptrs_append hc4 ho4 (by omega) (by have := hb03.size; have := hb4.size; omega)
  have hs4 := hb4.size
  refine ⟨a5, cap5, w5, hr5, ?_, ?_, ?_, ?_⟩
  · have hf4 := ho3.below hb4 (Nat.le_refl _)
    have e2 : (F ++ [x]).length = F.length + 1 := by simp
    rw [← e2]
    rw [← e2] at hf4
    refine hf4.other hg5.size (fun g e => hk5 g (hf4.own g e).2 (fun e3 => ?_))
    rw [e2] at e
    rcases hw3 g e with h1 | h1
    · exact hS.sep g h1 (ob.symm.trans e3)
    · have := (hl.own g (ob.symm.trans e3)).2; omega
  · have e2 : (l0 ++ kids L x).length = l0.length + (kids L x).length := by simp
    rw [← e2] at ho5 ⊢
    exact ho5
  · intro g e e3
    rcases hw5 g e3 with h1 | h1
    · rcases hw3 g e with h2 | h2
      · exact hS.sep g h2 (ob.symm.trans h1)
      · have := (hl.own g (ob.symm.trans h1)).2; omega
    · have := (ho3.own g (by simpa using e)).2; omega
  · refine hb03.trans ⟨(hg5.os).trans hb4.os, hg5.tape.trans hb4.tape, hg5.output.trans hb4.output, Nat.le_trans hb4.size hg5.size, fun k hk => ?_⟩
    have := hb03.size
    exact (hg5.block k (by omega) (fun e => by have := (hl.own k (ob.symm.trans e.symm)).1; omega)).trans (hb4.block k (by omega))
set_option maxRecDepth 100000 in
set_option maxHeartbeats 2000000 in
theorem below_any (hL : Links w nb L) (h : Wf L last) (hl : last < 400) (he : e ∈ L) : Calls Try.prog 36 #[ptr (nb e.id)] w (RowPost w nb (below L e.id)) := by
  have HL := hid hL
  have HW := hid (And.intro h hl)
  have hk := hid (kids_any hL h hl he)
  have hb0 : Hid (Rest L (below L e.id) [] (kids L e.id)) := hid ⟨by rw [← h.below_eq hl]; rfl, fun x hx => by
    obtain ⟨_, f, hf, e1, _⟩ := mem_kids.1 hx
    exact ⟨f, hf, e1⟩⟩
  have hlN : Hid ((below L e.id).length ≤ 400 ∧ ∀ x, (kids L x).length ≤ 400) := hid ⟨by have := h.below_len e.id; have := h.len; omega, fun x => by have := h.kids_len x; have := h.len; omega⟩
  clear hL h he hl
  obtain ⟨n, hn⟩ : ∃ n, n = nb e.id := ⟨_, rfl⟩
  rw [← hn] at hk ⊢
  clear hn
  generalize kids L e.id = ks at hk hb0
  generalize below L e.id = N at hb0 hlN ⊢
  go_enter Try.func36, Try.ntmps36
  go_wp2
  refine wp_scope_jumps 0 (BJ w nb L N n) (fun a' _ => 400 - lenOf (a'.tmps.getD 3 undef)) rfl ?_ ?_
  · go_wp2_with (go_at_call 32; refine hk.out.mono ?_; rintro en w' ⟨al, cl, rfl, ho, hb⟩)
    go_step3
    obtain ⟨F, hF⟩ : ∃ F : List Nat, F = [] := ⟨_, rfl⟩
    have hS : Hid (Bw w w' nb F ks (.slice none 0 0) (.slice al ks.length cl)) := by subst hF; exact hid ⟨OR.nil _ _ _, ho, fun g e => (by cases e), hb⟩
    have hS0 : Hid (ks.length ≤ cl ∧ ks.length ≤ 401) := hid ⟨ho.cap, by have := hb0.out.len2 hlN.out.1; omega⟩
    have hR : Hid (Rest L N F ks) := by rw [hF]; exact hb0
    clear ho hb hb0 hk
    rcases List.eq_nil_or_concat ks with rfl | ⟨l0, x, rfl⟩
    · subst hF
      have hN : N = [] := by have := hR.out.1; rw [post_nil] at this; simpa using this
      subst hN
      have HB := hid hS.out.bel
      clear hS hR hS0
      go_wp2_with (go_at_call 39; refine (reverse_any (nb := nb) (l := []) (a := none) (cap := 0) (OR.nil _ _ _) (by simp) HB.out.size).mono ?_; rintro en w2 ⟨rfl, ho2, hb2⟩)
      simp only [Exit.jump]
      go_ret
      exact ⟨none, 0, rfl, OR.nil _ _ _, HB.out.trans hb2⟩
    · rw [List.concat_eq_append] at hS hR hS0 ⊢
      obtain ⟨m, hm⟩ : ∃ m, l0.length = m := ⟨_, rfl⟩
      have hml : (l0 ++ [x]).length = m + 1 := by rw [List.length_append, hm]; rfl
      rw [hml] at hS hS0 ⊢
      have hFl : F.length < 400 := by have := hlN.out.1; have := hR.out.len (by simp); omega
      obtain ⟨f, hf, hfx⟩ := hR.out.2 x (by simp)
      obtain ⟨g, off, rfl, _, cx⟩ := hS.out.lft.at (prow_at (nb := nb) (l := l0 ++ [x]) (k := m) (x := x) (by rw [← hm]; simp))
      have hml2 : m ≤ 400 := by have := hS0.out.2; omega
      have hcl : m + 1 ≤ cl := by have := hS0.out.1; omega
      obtain ⟨n3, hn3⟩ : ∃ n3, n3 = F.length + 1 := ⟨_, rfl⟩
      obtain ⟨a3, cap3, w3, hr3, hb3, hA⟩ := hS.out.round hm (by omega) hml2 (hlN.out.2 x) hn3
      have HA := hid hA
      have HB2 := hid hb3
      have HK1 : Hid (∀ wx, Below w.heap.size w wx → Calls Try.prog 32 #[ptr (nb x)] wx (RowPost wx nb (kids L x))) := hid (fun wx hbx => by rw [← hfx]; exact kids_any (HL.out.below hbx (Nat.le_refl _)) HW.out.1 HW.out.2 hf)
      have HR2 := hid (hR.out.step HW.out.1 HW.out.2)
      have HF := hid (And.intro hn3 hFl)
      have hm0 : (0 : Int) ≤ (m : Int) := by omega
      have hm1 : (m : Int) < (m : Int) + 1 := by omega
      have hm2 : (m : Int) ≤ (cl : Int) := by omega
      clear hA hb3 hR hS hS0 hml hf hfx hFl hn3
      go_wp2_with (at_builtin; refine wpList_append_run rfl _ _ 68 68 rfl _ _ _ rfl rfl hr3 ?_)
      refine wp_region_held_drew (S := (fun _ => True)) (by kernel_rfl) trivial (fun hHeld => ?_)
      refine takeH (i := 0) (some 22) (.slice (some ⟨g, off, none⟩) (m + 1) cl) rfl rfl (by kernel_rfl) (by kernel_rfl) (by kernel_rfl) (fun _ _ _ h => h) (Or.inl ⟨by rfl, ?_⟩) (by assumption) ?_
      · (intro w hSw; (try dsimp only at hSw); go_simp)
      simp only [Act.put, List.setIfInBounds_toArray, List.set_cons_zero, List.set_cons_succ]
      refine takeH (i := 1) (some 23) (.int .i64 (m : Int)) rfl rfl (by kernel_rfl) (by kernel_rfl) (by kernel_rfl) (fun _ _ _ h => h) (Or.inl ⟨by rfl, ?_⟩) (by assumption) ?_
      · (intro w hSw; (try dsimp only at hSw); go_simp)
      simp only [Act.put, List.setIfInBounds_toArray, List.set_cons_zero, List.set_cons_succ]
      refine takeH (i := 2) (some 24) (.slice (some ⟨g, off, none⟩) m cl) rfl rfl (by kernel_rfl) (by kernel_rfl) (by kernel_rfl) (fun _ _ _ h => h) (Or.inl ⟨by rfl, ?_⟩) (by assumption) ?_
      · (intro w hSw; (try dsimp only at hSw); go_simp)
      simp only [Act.put, List.setIfInBounds_toArray, List.set_cons_zero, List.set_cons_succ]
      refine takeH (i := 3) (some 25) (ptr (nb x)) rfl rfl (by kernel_rfl) (by kernel_rfl) (by kernel_rfl) (fun _ _ _ h => h) (Or.inl ⟨by rfl, ?_⟩) (by assumption) ?_
      · (intro w hSw; (try dsimp only at hSw); go_simp)
      simp only [Act.put, List.setIfInBounds_toArray, List.set_cons_zero, List.set_cons_succ]
      refine wpAnyH_ready (rs := [4]) (by kernel_rfl) (by simp) ?_
      refine AllReadyH.cons (by simp only [List.getElem?_toArray, List.getElem?_cons_succ, List.getElem?_cons_zero]; rfl) (fun KK hK => ?_) AllReadyH.nil
      go_simp
      refine (HK1.out _ HB2.out).mono ?_
      rintro en w4 ⟨a4, cap4, rfl, ho4, hb4⟩
      obtain ⟨a5, cap5, w5, hr5, HN⟩ := HA.out w4 a4 cap4 ho4 hb4
      clear ho4 hb4
      go_wp2_with fail
      refine hK.out _ _ trivial (fun hHeld => ?_)
      clear hK KK
      try simp only [Act.put, List.setIfInBounds_toArray, List.set_cons_zero, List.set_cons_succ]
      refine wpAnyH_ready (rs := [5]) (by kernel_rfl) (by simp) ?_
      refine AllReadyH.cons (by simp only [List.getElem?_toArray, List.getElem?_cons_succ, List.getElem?_cons_zero]; rfl) (fun KK hK => ?_) AllReadyH.nil
      refine step_append_run _ _ _ rfl _ _ _ rfl _ _ (by rfl) (by rfl) hr5 ?_
      refine hK.out _ _ trivial (fun hHeld => ?_)
      clear hK KK
      try simp only [Act.put, List.setIfInBounds_toArray, List.set_cons_zero, List.set_cons_succ]
      refine takeH (i := 6) (some 4) (.slice a5 (m + (kids L x).length) cap5) rfl rfl (by kernel_rfl) (by kernel_rfl) (by kernel_rfl) (fun _ _ _ h => h) (Or.inl ⟨by rfl, ?_⟩) (by assumption) ?_
      · (intro w hSw; (try dsimp only at hSw); go_simp)
      simp only [Act.put, List.setIfInBounds_toArray, List.set_cons_zero, List.set_cons_succ]
      refine wpAnyH_done (by kernel_rfl) ?_ _
      clear hr5
      go_wp2_with fail
      go_step3
      have e1 : (F ++ [x]).length = n3 := by simp [HF.out.1]
      have e2 : (l0 ++ kids L x).length = m + (kids L x).length := by simp [hm]
      have h6 : (l0 ++ kids L x).length ≤ cap5 := by
        have := HN.lft
        rw [← e2] at this
        exact this.cap
      have h7 := hlN.out.2 x
      refine ⟨rfl, F ++ [x], l0 ++ kids L x, a3, a5, cap3, cap5, _, _, _, _, _, _, _, _, _, _, _, _, _, _, _, _, _, _, _, _, _, _, _, _, _, _, by rw [e1, e2], by rw [e1, e2]; exact hid HN, HR2, hid ⟨h6, ?_⟩⟩
      · have := HR2.out.len2 hlN.out.1
        omega
  · rintro a' w' ⟨F, l, aF, al, cF, cl, u5, u6, u7, u8, u9, u10, u11, u12, u13, u14, u15, u16, u17, u18, u19, u20, u21, u22, u23, u24, u25, u26, u27, u28, u29, u30, rfl, hS, hR, hS0⟩
    rcases List.eq_nil_or_concat l with rfl | ⟨l0, x, rfl⟩
    · have hF : Hid (F.reverse = N) := hid (by have := hR.out.1; rw [post_nil] at this; rw [show F = N.reverse by simpa using this, List.reverse_reverse])
      have hFN : Hid (F.length = N.length) := hid (by rw [← hF.out]; simp)
      have hfl : F.length ≤ 100000 := by have := hlN.out.1; have := hFN.out; omega
      have HV := hid (fun (_ : Unit) => reverse_any hS.out.fnd hfl hS.out.bel.size)
      have HB := hid hS.out.bel
      clear hS hR hS0 hfl
      generalize F.length = nF at *
      go_wp2_with (go_at_call 39; refine (HV.out ()).mono ?_; rintro en w2 ⟨rfl, ho2, hb2⟩)
      simp only [Exit.jump]
      go_ret
      rw [hF.out] at ho2
      refine ⟨aF, cF, by rw [← hFN.out]; rfl, ?_, HB.out.trans hb2⟩
      rw [← hFN.out]
      exact ho2
    · rw [List.concat_eq_append] at hS hR hS0 ⊢
      obtain ⟨m, hm⟩ : ∃ m, l0.length = m := ⟨_, rfl⟩
      have hml : (l0 ++ [x]).length = m + 1 := by rw [List.length_append, hm]; rfl
      rw [hml] at hS hS0 ⊢
      have hFl : F.length < 400 := by have := hlN.out.1; have := hR.out.len (by simp); omega
      obtain ⟨f, hf, hfx⟩ := hR.out.2 x (by simp)
      obtain ⟨g, off, rfl, _, cx⟩ := hS.out.lft.at (prow_at (nb := nb) (l := l0 ++ [x]) (k := m) (x := x) (by rw [← hm]; simp))
      have hml2 : m ≤ 400 := by have := hS0.out.2; omega
      have hcl : m + 1 ≤ cl := by have := hS0.out.1; omega
      obtain ⟨n3, hn3⟩ : ∃ n3, n3 = F.length + 1 := ⟨_, rfl⟩
      obtain ⟨a3, cap3, w3, hr3, hb3, hA⟩ := hS.out.round hm (by omega) hml2 (hlN.out.2 x) hn3
      have HA := hid hA
      have HB2 := hid hb3
      have HK1 : Hid (∀ wx, Below w.heap.size w wx → Calls Try.prog 32 #[ptr (nb x)] wx (RowPost wx nb (kids L x))) := hid (fun wx hbx => by rw [← hfx]; exact kids_any (HL.out.below hbx (Nat.le_refl _)) HW.out.1 HW.out.2 hf)
      have HR2 := hid (hR.out.step HW.out.1 HW.out.2)
      have HF := hid (And.intro hn3 hFl)
      have hm0 : (0 : Int) ≤ (m : Int) := by omega
      have hm1 : (m : Int) < (m : Int) + 1 := by omega
      have hm2 : (m : Int) ≤ (cl : Int) := by omega
      clear hA hb3 hR hS hS0 hml hf hfx hFl hn3
      go_wp2_with (at_builtin; refine wpList_append_run rfl _ _ 68 68 rfl _ _ _ rfl rfl hr3 ?_)
      refine wp_region_held_drew (S := (fun _ => True)) (by kernel_rfl) trivial (fun hHeld => ?_)
      refine takeH (i := 0) (some 22) (.slice (some ⟨g, off, none⟩) (m + 1) cl) rfl rfl (by kernel_rfl) (by kernel_rfl) (by kernel_rfl) (fun _ _ _ h => h) (Or.inl ⟨by rfl, ?_⟩) (by assumption) ?_
      · (intro w hSw; (try dsimp only at hSw); go_simp)
      simp only [Act.put, List.setIfInBounds_toArray, List.set_cons_zero, List.set_cons_succ]
      refine takeH (i := 1) (some 23) (.int .i64 (m : Int)) rfl rfl (by kernel_rfl) (by kernel_rfl) (by kernel_rfl) (fun _ _ _ h => h) (Or.inl ⟨by rfl, ?_⟩) (by assumption) ?_
      · (intro w hSw; (try dsimp only at hSw); go_simp)
      simp only [Act.put, List.setIfInBounds_toArray, List.set_cons_zero, List.set_cons_succ]
      refine takeH (i := 2) (some 24) (.slice (some ⟨g, off, none⟩) m cl) rfl rfl (by kernel_rfl) (by kernel_rfl) (by kernel_rfl) (fun _ _ _ h => h) (Or.inl ⟨by rfl, ?_⟩) (by assumption) ?_
      · (intro w hSw; (try dsimp only at hSw); go_simp)
      simp only [Act.put, List.setIfInBounds_toArray, List.set_cons_zero, List.set_cons_succ]
      refine takeH (i := 3) (some 25) (ptr (nb x)) rfl rfl (by kernel_rfl) (by kernel_rfl) (by kernel_rfl) (fun _ _ _ h => h) (Or.inl ⟨by rfl, ?_⟩) (by assumption) ?_
      · (intro w hSw; (try dsimp only at hSw); go_simp)
      simp only [Act.put, List.setIfInBounds_toArray, List.set_cons_zero, List.set_cons_succ]
      refine wpAnyH_ready (rs := [4]) (by kernel_rfl) (by simp) ?_
      refine AllReadyH.cons (by simp only [List.getElem?_toArray, List.getElem?_cons_succ, List.getElem?_cons_zero]; rfl) (fun KK hK => ?_) AllReadyH.nil
      go_simp
      refine (HK1.out _ HB2.out).mono ?_
      rintro en w4 ⟨a4, cap4, rfl, ho4, hb4⟩
      obtain ⟨a5, cap5, w5, hr5, HN⟩ := HA.out w4 a4 cap4 ho4 hb4
      clear ho4 hb4
      go_wp2_with fail
      refine hK.out _ _ trivial (fun hHeld => ?_)
      clear hK KK
      try simp only [Act.put, List.setIfInBounds_toArray, List.set_cons_zero, List.set_cons_succ]
      refine wpAnyH_ready (rs := [5]) (by kernel_rfl) (by simp) ?_
      refine AllReadyH.cons (by simp only [List.getElem?_toArray, List.getElem?_cons_succ, List.getElem?_cons_zero]; rfl) (fun KK hK => ?_) AllReadyH.nil
      refine step_append_run _ _ _ rfl _ _ _ rfl _ _ (by rfl) (by rfl) hr5 ?_
      refine hK.out _ _ trivial (fun hHeld => ?_)
      clear hK KK
      try simp only [Act.put, List.setIfInBounds_toArray, List.set_cons_zero, List.set_cons_succ]
      refine takeH (i := 6) (some 4) (.slice a5 (m + (kids L x).length) cap5) rfl rfl (by kernel_rfl) (by kernel_rfl) (by kernel_rfl) (fun _ _ _ h => h) (Or.inl ⟨by rfl, ?_⟩) (by assumption) ?_
      · (intro w hSw; (try dsimp only at hSw); go_simp)
      simp only [Act.put, List.setIfInBounds_toArray, List.set_cons_zero, List.set_cons_succ]
      refine wpAnyH_done (by kernel_rfl) ?_ _
      clear hr5
      go_wp2_with fail
      go_step3
      have e1 : (F ++ [x]).length = n3 := by simp [HF.out.1]
      have e2 : (l0 ++ kids L x).length = m + (kids L x).length := by simp [hm]
      have h6 : (l0 ++ kids L x).length ≤ cap5 := by
        have := HN.lft
        rw [← e2] at this
        exact this.cap
      have h7 := hlN.out.2 x
      refine ⟨rfl, ⟨F ++ [x], l0 ++ kids L x, a3, a5, cap3, cap5, _, _, _, _, _, _, _, _, _, _, _, _, _, _, _, _, _, _, _, _, _, _, _, _, _, _, by rw [e1, e2], by rw [e1, e2]; exact hid HN, HR2, hid ⟨h6, ?_⟩⟩, ?_⟩
      · have := HR2.out.len2 hlN.out.1
        omega
      · have := HF.out
        simp [lenOf]
        omega
end
end Go.Proofs.Ytiechmcfafhfaaa
