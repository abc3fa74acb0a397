/- A cache: addSlab. -/
import Derived.Test.YtohaoeilodebmaaDoorS14
import Derived.Test.YtohaoeilodebmaaDoorS15
namespace Go.Proofs.YtohaoeilodebmaaDoor
open Go.RowKit Go.Maps

/-- The allocator's blocks. -/
def AB (p mm K : Nat) (bf gf : Nat → Nat) (x : Nat) : Prop := x = p ∨ x = mm ∨ ∃ k, k ≤ K ∧ (x = bf k ∨ x = gf k)
theorem Own.ab {p mm K : Nat} {bf gf : Nat → Nat} {x : Nat} (h : Own mm K gf x) : AB p mm K bf gf x := by
  rcases h with e | ⟨k, hk, e⟩
  · exact .inr (.inl e)
  · exact .inr (.inr ⟨k, hk, .inr e⟩)
theorem Good.other {w w' : World} {p mm K : Nat} {bf gf : Nat → Nat} {B : St} {ct : Nat} (h : Good w p mm K bf gf B ct) (ho : ∀ x, x < w.heap.size → AB p mm K bf gf x → w'.heap[x]? = w.heap[x]?) : Good w' p mm K bf gf B ct := ⟨h.1, h.2.1, h.2.2.other ho⟩
theorem Good.turn {T : Nat → Prop} {w w' : World} {p mm K : Nat} {bf gf : Nat → Nat} {B : St} {ct : Nat} (h : Good w p mm K bf gf B ct) (ht : Turn T w w') (hT : ∀ x, AB p mm K bf gf x → ¬ T x) : Good w' p mm K bf gf B ct := h.other fun x hx ha => ht.block x hx (hT x ha)
theorem Good.lab {w : World} {p mm K : Nat} {bf gf : Nat → Nat} {B : St} {ct : Nat} (h : Good w p mm K bf gf B ct) {x : Nat} (hx : AB p mm K bf gf x) : x < w.heap.size := by
  rcases hx with rfl | rfl | ⟨k, hk, rfl | rfl⟩
  · exact h.2.2.lp
  · exact h.2.2.lm
  · exact (h.2.2.lb k hk).1
  · exact (h.2.2.lb k hk).2
theorem Tab.turn {T : Nat → Prop} {w w' : World} (h : Tab w) (ht : Turn T w w') (h1 : ¬ T 1) : Tab w' := fun j hj => (World.cell?_of_block (ht.block 1 h.pos h1)).trans (h j hj)
theorem Turn.of_map {T : Nat → Prop} {w w' : World} {b : Nat} (h : w.mapTurned w' b) (hb : T b ∨ w.heap.size ≤ b) : Turn T w w' := Turn.of_grown h.grown (by rintro j e; cases e; exact hb)
theorem Turn.next {T T' : Nat → Prop} {a b c : World} (h : Turn T a b) (k : Turn T' b c) (hT : ∀ x, T' x → T x ∨ a.heap.size ≤ x) : Turn T a c :=
  ⟨k.os.trans h.os, k.tape.trans h.tape, k.output.trans h.output, Nat.le_trans h.size k.size, fun x hx hn => (k.block x (Nat.lt_of_lt_of_le hx h.size) (fun e => by
    rcases hT x e with e | e
    · exact hn e
    · omega)).trans (h.block x hx hn)⟩
theorem zero_addr (q : Nat) : addr 0 q = pag q := by unfold addr pag; simp

/-- What a cache turns: blocks of its own and of the allocator's lists. -/
def Tn (Z : Nat → Prop) (mm K : Nat) (gf : Nat → Nat) (x : Nat) : Prop := Z x ∨ Own mm K gf x

def AddPost (w : World) (Z : Nat → Prop) (c p sz m mm K : Nat) (bf gf : Nat → Nat) (B : St) (ct : Nat) (mb nm : Nat) (D : DataW Unit) (a : Option Addr) (cap nn : Nat) (L sb bm gm : Nat → Nat) (ws : Nat → List Nat) (S O : Nat → Prop) (U : Pls) (e : Ending) (w' : World) : Prop :=
  Turn (Tn Z mm K gf) w w' ∧
  ((e = .returned (.int .i64 4) ∧ (∀ k j, B k j ≠ .free) ∧ Ca w' c p sz m mb nm D a cap nn L sb bm gm ws S O U ∧ Good w' p mm K bf gf B (ct + 1)) ∨
   (e = .returned (.int .i64 0) ∧ ∃ q k j B' D' g cap2 L' sb' bm' gm' ws', Least B 0 k j ∧ pag q = addr k j ∧ B 0 q ≠ .used ∧ Plus B B' 0 q ∧ Good w' p mm K bf gf B' (ct + 1) ∧
      Ca w' c p sz m mb (nm + 1) D' (some ⟨g, 0, none⟩) cap2 (nn + 1) L' sb' bm' gm' ws' (fun r => S r ∨ r = q) (fun r => O r ∨ r = q) U ∧ ∀ x, Ow c mb (some ⟨g, 0, none⟩) sb' bm' gm' (fun r => S r ∨ r = q) x → Z x ∨ w.heap.size ≤ x))

set_option maxRecDepth 100000 in
set_option maxHeartbeats 2000000 in
theorem sadd_any {w : World} {Z : Nat → Prop} {c p sz m mm K : Nat} {bf gf : Nat → Nat} {B : St} {ct mb nm : Nat} {D : DataW Unit} {a : Option Addr} {cap nn : Nat} {L sb bm gm : Nat → Nat} {ws : Nat → List Nat} {S O : Nat → Prop} {U : Pls}
    (h : Ca w c p sz m mb nm D a cap nn L sb bm gm ws S O U) (hZ : ∀ x, Ow c mb a sb bm gm S x → Z x) (hG : Good w p mm K bf gf B ct) (hd : ∀ x, Z x → ¬ AB p mm K bf gf x) (hT : Tab w) (hc : ct ≤ 1000000) (hnm : nm ≤ 1000000) (hK : K ≤ 20)
    (hS : ∀ q, S q → B 0 q = .used) (hU : ∀ q i, ¬ S q → i < m → U q i = false) (hz1 : 16 ≤ sz) (hz2 : sz ≤ 512) (hm : m = 960 / sz) :
    Calls Tryd.prog 50 #[.pointer (some ⟨c, 0, none⟩)] w (AddPost w Z c p sz m mm K bf gf B ct mb nm D a cap nn L sb bm gm ws S O U) := by
  have c0 := h.c0
  have hmb : m ≤ 60 := by rw [hm]; exact Nat.le_trans (Nat.div_le_div_left hz1 (by omega)) (by omega)
  have HH := hid (And.intro h (And.intro hZ (And.intro hd (And.intro hS (And.intro hU (And.intro hm hc))))))
  have HG := hid (And.intro hG hT)
  clear hG hT hZ hd hS hU hm
  go_enter Tryd.func50, Tryd.ntmps50
  go_wp2_with fail
  refine (took_any w p mm K bf gf B ct 0 HG.out.1 HG.out.2 hc).mono ?_
  rintro e w1 ⟨at_, er, B', rfl, ht, hG1, hh⟩
  obtain ⟨_, hZ, hd, hS, hU, hm, hc⟩ := HH.out
  have hC1 : Ca w1 c p sz m mb nm D a cap nn L sb bm gm ws S O U := h.turn ht (fun x hx ho => hd x (hZ x hx) ho.ab)
  have ht1 : Turn (Tn Z mm K gf) w w1 := ht.wide (fun x hx => .inr hx)
  rcases hh with ⟨rfl, rfl, hno⟩ | ⟨rfl, o, k, i, n, ho, hoK, hl, rfl, hn, hu, hp⟩
  · rcases hno with ⟨rfl, hno⟩ | ⟨rfl, o, ho, _, hno⟩
    · omega
    · obtain rfl : o = 0 := by omega
      clear ho
      have HX := hid (And.intro ht1 (And.intro hC1 (And.intro hG1 hno)))
      clear ht hG1 ht1 hC1 hno HH HG hZ hd hS hU h c0
      go_wp2_with fail
      go_ret
      obtain ⟨ht1, hC1, hG1, hno⟩ := HX.out
      exact ⟨ht1, .inl ⟨rfl, fun k j => hno k j (Nat.zero_le _), hC1, hG1⟩⟩
  · obtain rfl : o = 0 := by omega
    clear ho
    have hpg : addr k i = ((n * 1024 : Nat) : Int) := by rw [← hn, zero_addr]; rfl
    have hnS : ¬ S n := fun hs => hu (hS n hs)
    have hnK : n < 2 ^ K := by
      have := (hG1.1.inn 0 n (by rw [(hp 0 n).2 (.inr ⟨rfl, rfl⟩)]; simp)).2
      simpa using this
    have hnK2 : n < 1048576 := Nat.lt_of_lt_of_le hnK (pow_le20 hK)
    have hSN : ∀ r, S r → r < 1048576 := fun r hr => by
      have := (HG.out.1.1.inn 0 r (by rw [hS r hr]; simp)).2
      exact Nat.lt_of_lt_of_le (by simpa using this) (pow_le20 hK)
    have c1 := hC1.c1
    have c2 := hC1.c2
    rw [hpg]
    rw [hpg] at hn
    have HX := hid (And.intro ht1 (And.intro hC1 (And.intro hG1 (And.intro hl (And.intro hn (And.intro hu (And.intro hp hpg)))))))
    clear ht hG1 ht1 hC1 hl hn hu hp hS hU hd hZ hpg h c0
    go_wp2_with fail
    refine (many_any w1 c sz c1 hz1 hz2).mono ?_
    rintro e w1' ⟨rfl, rfl⟩
    rw [← hm]
    have HM := hid hm
    clear hm
    go_wp2_with fail
    refine (newSlab_any w1' n m (by omega)).mono ?_
    rintro e w2 ⟨s, b, g, rfl, hs2, hB2, hb2, ls, lb, lg, hsb, hsg⟩
    obtain ⟨ht1, hC1, hG1, hl, hn, hu, hp, hpg⟩ := HX.out
    have hC2 := hC1.below hb2
    have c22 := hC2.c2
    have hm2 := hC2.map
    have HM2 := hid hm2
    have HY := hid (And.intro hs2 (And.intro hB2 (And.intro hb2 (And.intro ls (And.intro lb (And.intro lg (And.intro hsb hsg)))))))
    clear ht1 hC1 hG1 hl hn hu hp hs2 hB2 hb2 ls lb lg hsb hsg hm2 hC2 c1 c2 hpg
    go_wp2_with (at_mapUpdate; refine wpList_mapUpdate_in _ rfl _ _ _ 75 rfl 3 82 law3 Tryd.underlying75 ptrElem mb nm D rfl HM2.out (by unfold maxLen; omega) _ _ _ rfl rfl (keyOf_int_mk Tryd.underlying3 (wf_i64 (by omega) (by omega))) _ [] (ptrElem_mk s) ?_; intro w3 hU3 hturn3; have HU3 := hid hU3; have HT3 := hid hturn3; clear hU3 hturn3)
    obtain ⟨ht1, hC1, hG1, hl, hn, hu, hp, hpg⟩ := HX.out
    obtain ⟨hs2, hB2, hb2, ls, lb, lg, hsb, hsg⟩ := HY.out
    obtain ⟨hh0, hZ, hd, hS, hU, _, _⟩ := HH.out
    have hC2 := hC1.below hb2
    have eA : ((n : Int) * 1024) = pag n := by unfold pag; omega
    rw [eA] at HU3
    have hC3 := hC2.mapped hnS hs2 hB2 (fun i hi => hU n i hnS hi) (fun r hr e => by have := (hC1.bits r hr).lt.1; omega) (fun r hr e => by have := (hC1.bits r hr).lt.2; omega) HU3.out HT3.out
    have hpush := hC3.toPush (q := n) (.inr rfl) (fun ho => hnS (hC1.os n ho)) (N := 1048576) (fun r hr => hr.elim (hSN r) (fun e => by omega)) (Nat.le_refl _)
    rw [now_at] at hpush
    have HPu := hid hpush
    clear hpush hC2 hC3 hs2 hB2 hU hS hl hn hu hp hG1 hC1 ht1 hb2 hsb hsg hd hZ hh0 hpg eA
    go_wp2_with fail
    refine HPu.out.mono ?_
    rintro e w4 ⟨rfl, hp4⟩
    have HP4 := hid hp4
    clear hp4
    go_wp2_with fail
    go_ret
    obtain ⟨ht1, hC1, hG1, hl, hn, hu, hp, hpg⟩ := HX.out
    obtain ⟨hs2, hB2, hb2, ls, lb, lg, hsb, hsg⟩ := HY.out
    obtain ⟨hh0, hZ, hd, hS, hU, _, _⟩ := HH.out
    have hC2 := hC1.below hb2
    have hC3 := hC2.mapped hnS hs2 hB2 (fun i hi => hU n i hnS hi) (fun r hr e => by have := (hC1.bits r hr).lt.1; omega) (fun r hr e => by have := (hC1.bits r hr).lt.2; omega) HU3.out HT3.out
    obtain ⟨g4, cap4, L4, hC4, ha4, ht4⟩ := hC3.pushed (.inr rfl) (⟨rfl, HP4.out⟩ : HPushPost w3 c nn cap n a L _ _ (.returned (.tuple #[])) w4)
    have hsz1 := ht1.size
    have hsz2 := hb2.size
    have hsz3 := HT3.out.grown.size
    have hfin : ∀ r, S r → r ≠ n := fun r hr e => hnS (e ▸ hr)
    have hown : ∀ x, Ow c mb (some ⟨g4, 0, none⟩) (now sb n s) (now bm n b) (now gm n g) (fun r => S r ∨ r = n) x → Z x ∨ w1'.heap.size ≤ x := by
      rintro x (rfl | rfl | ⟨ad, e, rfl⟩ | ⟨r, hr, hx⟩)
      · exact .inl (hZ _ (.inl rfl))
      · exact .inl (hZ _ (.inr (.inl rfl)))
      · cases e
        rcases ha4 with e | e
        · exact .inl (hZ _ (.inr (.inr (.inl ⟨_, e, rfl⟩))))
        · right; show w1'.heap.size ≤ g4; omega
      · by_cases er : r = n
        · subst er
          rw [now_at, now_at, now_at] at hx
          right
          rcases hx with rfl | rfl | rfl <;> omega
        · have hr := hr.resolve_right er
          rw [now_ne _ _ er, now_ne _ _ er, now_ne _ _ er] at hx
          exact .inl (hZ _ (.inr (.inr (.inr ⟨r, hr, hx⟩))))
    have ht14 : Turn (Tn Z mm K gf) w1' w4 := by
      refine ((Turn.of_below hb2).trans (Turn.of_map HT3.out (.inl (.inl (hZ _ (.inr (.inl rfl))))))).next ht4 ?_
      rintro x (rfl | ⟨ad, e, rfl⟩ | ⟨r, hr, rfl⟩)
      · exact .inl (.inl (hZ _ (.inl rfl)))
      · exact .inl (.inl (hZ _ (.inr (.inr (.inl ⟨_, e, rfl⟩)))))
      · rcases hown _ (.inr (.inr (.inr ⟨r, hr, .inl rfl⟩))) with e | e
        · exact .inl (.inl e)
        · exact .inr e
    have hG4 : Good w4 p mm K bf gf B' (ct + 1) := by
      refine ((hG1.below hb2).turn (Turn.of_map (T := Z) HT3.out (.inl (hZ _ (.inr (.inl rfl))))) (fun x hx hz => hd x hz hx)).other fun x hx ha => ht4.block x hx ?_
      rintro (rfl | ⟨ad, e, rfl⟩ | ⟨r, hr, rfl⟩)
      · exact hd _ (hZ _ (.inl rfl)) ha
      · exact hd _ (hZ _ (.inr (.inr (.inl ⟨_, e, rfl⟩)))) ha
      · rcases hown _ (.inr (.inr (.inr ⟨r, hr, .inl rfl⟩))) with e | e
        · exact hd _ e ha
        · have := hG1.lab ha
          omega
    exact ⟨ht1.trans ht14, .inr ⟨rfl, n, k, i, B', _, g4, cap4, L4, _, _, _, _, hl, hpg.symm, hu, hp, hG4, hC4, fun x hx => (hown x hx).imp id (fun e => by omega)⟩⟩
end Go.Proofs.YtohaoeilodebmaaDoor
