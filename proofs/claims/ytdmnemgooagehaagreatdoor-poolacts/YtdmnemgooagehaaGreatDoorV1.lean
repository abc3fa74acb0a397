/- What PoolFails wants besides: lists of blocks held against one another, a call that is taken back, rows of numbers. -/
import Derived.Test.YtdmnemgooagehaaGreatDoorU1
import Derived.Deep.AppendLies
namespace Go.Proofs.YtdmnemgooagehaaGreatDoor
open Go.RowKit Go.Maps

set_option maxHeartbeats 1000000 in
set_option maxRecDepth 100000 in
theorem same_true (w : World) (L : List (Nat × Nat)) (aA aB : Option Addr) (b1 b2 c1 c2 : Nat) (rA : Rd w b1 aA L) (rB : Rd w b2 aB L) (hl : L.length ≤ 100000000) :
    Calls Tryz.prog 24 #[.slice aA L.length c1, .slice aB L.length c2] w fun e w' => e = .returned (.bool true) ∧ Below w.heap.size w w' := by
  have HA := hid rA
  have HB := hid rB
  clear rA rB
  go_enter Tryz.func24, Tryz.ntmps24
  go_wp2_with fail
  go_loopw [5] (fun t wr => ∃ i : Nat, i ≤ L.length ∧ t = .int .i64 (i : Int) ∧ Below w.heap.size w wr) (fun t _ => L.length - (intOf t).toNat)
  case atStart => exact ⟨0, Nat.zero_le _, rfl, Below.refl _ _⟩
  case round =>
    obtain ⟨i, hi, rfl, hX⟩ := hrel
    by_cases hlt : i < L.length
    · obtain ⟨⟨p, k⟩, hx⟩ : ∃ x, L[i]? = some x := ⟨_, List.getElem?_eq_getElem hlt⟩
      obtain ⟨g, rfl, c0, c1'⟩ := (HA.out.below hX).at hx
      obtain ⟨g2, rfl, d0, d1⟩ := (HB.out.below hX).at hx
      have hi1 : (i : Int) < (L.length : Int) := by omega
      have hi0 : (0 : Int) ≤ (i : Int) := by omega
      clear hx
      go_wp2_with fail
      go_quiet (fail)
      go_wp2_with fail
      exact ⟨⟨i + 1, by omega, by go_num, Below.drewN hX _⟩, by simp [intOf]; omega⟩
    · obtain rfl : i = L.length := by omega
      go_wp2_with fail
      go_ret
      exact ⟨rfl, hX⟩

theorem step_append_any {P : Program} (w : World) {ops : Array Oper} {o : Oper} {a : Act} {K : Act → World → Prop} {Q : Exit → Act → World → Prop} {E : Prop} (hgd : o.guard = none) (s x : Operand) (t : TypeId)
    (ho : o.op = .call { callee := .builtin .append, args := #[s, x], argTypes := #[t, t] })
    (base : Nat) (e : TypeId) (i : TypeInfo) (z : Value) (size bytes : Nat) (ht : P.underlying t = some (.slice e)) (hi : P.info? e = some i) (hz : i.zero = some z)
    (hsize : i.size = size) (hby : i.bytes = bytes) (hzs : z.cells.size = size) (hsz : 0 < size)
    (v : Value) (n : Nat) (xs : List Value) (hs : a.eval s = v) (hown : w.ownsRow base e size v n xs)
    (ad : Addr) (m c : Nat) (news : List Value) (hx : a.eval x = .slice (some ad) m c) (hl : news.length = m * size) (hnews : ∀ j u, news[j]? = some u → w.cell? (ad.add j) = some u) (h1 : ∀ u ∈ news, u.oneCell' = true)
    (h63 : n + m ≤ maxLen) (hbytes : (n + m) * bytes ≤ 140737488355328) (hbase : base ≤ w.heap.size)
    (h : ∀ v' w', w'.ownsRow base e size v' (n + m) (xs ++ news) → w.grownBy w' v.ownBlock → K (a.put o.dst v') w') :
    if Region.wanted o (yielded ops a.tmps) = true then Oper.wp P o a w K Q else E := by
  have hw : Region.wanted o (yielded ops a.tmps) = true := by simp [Region.wanted, hgd]
  rw [if_pos hw]
  exact wp_append_own w s x t ho base e i z size bytes ht hi hz hsize hby hzs hsz v n xs hs hown ad m c news hx hl hnews h1 h63 hbytes hbase fun v' w' h2 h3 _ => h v' w' h2 h3

theorem Acts6.at2 {w w' : World} {Bd : Nat} {a : Option Addr} {len : Nat} (h : Acts6 w a len) (hb : Below Bd w w') (hB : w.heap.size ≤ Bd) {i : Nat} (hi : i < len) :
    ∃ s o, ∃ kd f c n : Int, a = some ⟨s, o, none⟩ ∧ s < w.heap.size ∧ w'.cell? ⟨s, o + i * 4, none⟩ = some (.int .i64 kd) ∧ w'.cell? ⟨s, o + i * 4 + 1, none⟩ = some (.int .i64 f) ∧ w'.cell? ⟨s, o + i * 4 + 2, none⟩ = some (.int .i64 c) ∧ w'.cell? ⟨s, o + i * 4 + 3, none⟩ = some (.int .i64 n) := by
  rcases h with h | ⟨s, o, rfl, hs, hc⟩
  · omega
  · obtain ⟨kd, f, c, n, h0, h1, h2, h3, _⟩ := hc i hi
    exact ⟨s, o, kd, f, c, n, rfl, hs, (hb.cell (p := ⟨s, o + i * 4, none⟩) (show s < Bd by omega)).trans h0, (hb.cell (p := ⟨s, o + i * 4 + 1, none⟩) (show s < Bd by omega)).trans h1, (hb.cell (p := ⟨s, o + i * 4 + 2, none⟩) (show s < Bd by omega)).trans h2, (hb.cell (p := ⟨s, o + i * 4 + 3, none⟩) (show s < Bd by omega)).trans h3⟩
/-- What stood in old memory stands there in both. -/
theorem kept2 {w0 w w' : World} {B : Nat} (h : Below B w0 w) (h' : Below B w0 w') {s j : Nat} (hs : s < B) {v : Value} (hc : w.cell? ⟨s, j, none⟩ = some v) : w'.cell? ⟨s, j, none⟩ = some v :=
  (h'.cell (p := ⟨s, j, none⟩) hs).trans ((h.cell (p := ⟨s, j, none⟩) hs).symm.trans hc)

/-- How a Get and a Carve leave the counts. -/
def FaW (w0 w' : World) (G : Nat → Prop) (P : Pp) (i : Nat) : Prop := ∃ v', Hid (Pw w0 w' G P v' ∧ v'.ct ≤ i ∧ v'.nxt ≤ i + 1)
theorem fa_get {w0 w : World} {G : Nat → Prop} {P : Pp} {v : Pv} {i : Nat} (hp : Pw w0 w G P v) (hc : v.ct ≤ i) (hn : v.nxt ≤ i + 1) (hi : i ≤ 1000000) (f c : Int) : Calls Tryz.prog 30 #[.pointer (some ⟨P.pb, 0, none⟩), .int .i64 f, .int .i64 c] w fun e w' =>
    (∃ a b : Int, e = .returned (.tuple #[.int .i64 a, .int .i64 b])) ∧ FaW w0 w' G P (i + 1) := by
  refine (hp.get (by omega) f c).mono ?_
  rintro e w' ⟨_, ⟨er, rfl, _, _, hp'⟩ | ⟨k, q, i', B', U', hk, rfl, hg, hp'⟩⟩
  · exact ⟨⟨_, _, rfl⟩, _, hp', by show v.ct + 1 ≤ i + 1; omega, by show v.nxt ≤ i + 1 + 1; omega⟩
  · exact ⟨⟨_, _, rfl⟩, _, hp', by show v.ct + 1 ≤ i + 1; omega, by show v.nxt ≤ i + 1 + 1; omega⟩
theorem fa_carve {w0 w : World} {G : Nat → Prop} {P : Pp} {v : Pv} {i : Nat} (hp : Pw w0 w G P v) (hc : v.ct ≤ i) (hn : v.nxt ≤ i + 1) (hi : i ≤ 1000000) (f n : Int) : Calls Tryz.prog 44 #[.pointer (some ⟨P.tb, 0, none⟩), .int .i64 f, .int .i64 n] w fun e w' =>
    (∃ a b : Int, e = .returned (.tuple #[.int .i64 a, .int .i64 b])) ∧ FaW w0 w' G P (i + 1) := by
  refine (hp.carve (by omega) f n).mono ?_
  rintro e w' ⟨rfl, hp', _⟩
  exact ⟨⟨_, _, rfl⟩, _, hp', by show v.ct ≤ i + 1; omega, by have := (hp.qinv.carveA f n).2; show _ ≤ i + 1 + 1; exact Nat.le_trans this (by omega)⟩

/-- What is got and put back leaves the same blocks used. -/
theorem same_used {P : Pp} {v : Pv} {f : Int} {k q i : Nat} {B' B2 : St} {U' : Pls} (g : GotIt P v f k q i B' U') {f2 x : Int} (g2 : PutIt (gotV v f k q i B' U') f2 x k q i B2) (a r : Nat) : B2 a r = .used ↔ v.B a r = .used := by
  have eU : (gotV v f k q i B' U').U k = setU (v.U k) q i true := by show now v.U k U' k = _; rw [now_at, g.tk.now]
  have eb : setU ((gotV v f k q i B' U').U k) q i false = v.U k := by rw [eU]; exact setU_back (v.U k) g.tk.free
  have hl := g2.less
  rw [eb] at hl
  have hl' : (Slb (v.U k) (many k) q ∧ B2 = B') ∨ (¬ Slb (v.U k) (many k) q ∧ Less B' B2 0 q) := hl
  rcases g.cm with ⟨h1, e⟩ | ⟨h1, _, hn, hp, _⟩
  · rcases hl' with ⟨_, e2⟩ | ⟨h2, _⟩
    · rw [e2, e]
    · exact absurd h1 h2
  · rcases hl' with ⟨h2, _⟩ | ⟨_, h2⟩
    · exact absurd h2 h1
    · rw [h2 a r, hp a r]
      constructor
      · rintro ⟨h | h, hne⟩
        · exact h
        · exact absurd h hne
      · intro h
        exact ⟨.inl h, fun e => hn (by rw [← e.1, ← e.2]; exact h)⟩
theorem list_same {K : Nat} {A B : St} {L M : List (Nat × Nat)} (hA : Inv K A ∧ NoHeld A) (hB : Inv K B ∧ NoHeld B) (hu : ∀ a r, B a r = .used ↔ A a r = .used) (hL : Lst A .free L) (hM : Lst B .free M) : M = L :=
  (Lst.ext hL hM (fun k i => free_iff hA.1 hA.2 hB.1 hB.2 (fun a r => (hu a r).symm) k i)).symm
/-- What was got may be put back, by whom it was got. -/
theorem noput_got {P : Pp} {v : Pv} {N nxt : Nat} {f c : Int} {k q i : Nat} {B' : St} {U' : Pls} {er : Int} (hI : Qu.Inv N v.l nxt) (hk : Cls c k) (g : GotIt P v f k q i B' U') (h0 : er ≠ 0) (hn : NoPut (gotV v f k q i B' U') f c ((place (cost k) q i : Nat) : Int) er) : False := by
  rcases hn with ⟨_, h2⟩ | ⟨k', hk', h2⟩
  · exact h2 ⟨by have := hk.1; have := hk.2.1; omega, by have := hk.1; have := hk.2.2; omega⟩
  · have e1 : k' = k := by have := hk'.1; have := hk.1; omega
    subst e1
    rcases h2 with ⟨_, h2⟩ | h2
    · exact h2 q i g.tk.lt (by show now v.U k' U' k' q i = true; rw [now_at, g.tk.now]; exact setU_same _ _ _ _) rfl
    · have e2 : (Qu.refundA (Qu.chargeA v.l f ((cost k' : Nat) : Int)).2 f ((cost k' : Nat) : Int)) = (0, v.l) := refund_charge hI g.chg
      rw [show (gotV v f k' q i B' U').l = (Qu.chargeA v.l f ((cost k' : Nat) : Int)).2 from rfl, e2] at h2
      exact h0 h2
theorem put_same {P : Pp} {v : Pv} {f f2 c : Int} {k k2 q i q2 i2 : Nat} {B' B2 : St} {U' : Pls} (hk : Cls c k) (hk2 : Cls c k2) (g : GotIt P v f k q i B' U') (g2 : PutIt (gotV v f k q i B' U') f2 ((place (cost k) q i : Nat) : Int) k2 q2 i2 B2) : k2 = k ∧ q2 = q ∧ i2 = i := by
  have e1 : k2 = k := by have := hk.1; have := hk2.1; omega
  subst e1
  have hc := cost_in g.k1 g.k7
  have hm := many_in g.k1 g.k7
  obtain ⟨e2, e3⟩ := place_one (by omega) hm.2.2 g2.lt g.tk.lt (by have := g2.at_; omega : place (cost k2) q2 i2 = place (cost k2) q i)
  exact ⟨rfl, e2, e3⟩
theorem costI_pos {c : Int} {k : Nat} (hk : Cls c k) : 0 < costI c := by
  rw [costI_of hk]
  have := cost_in hk.2.1 hk.2.2
  omega
theorem Rd.kept {w w' : World} {base : Nat} {a : Option Addr} {L : List (Nat × Nat)} (h : Rd w base a L) (hb : ∀ g, base ≤ g → g < w.heap.size → w'.heap[g]? = w.heap[g]?) : Rd w' base a L := by
  rcases h with h | ⟨g, rfl, h1, h2, h3⟩
  · exact .inl h
  · have e0 := hb g h1 h2
    have hlt : g < w'.heap.size := by
      rw [Array.getElem?_eq_getElem h2] at e0
      exact (Array.getElem?_eq_some_iff.1 e0).1
    refine .inr ⟨g, rfl, h1, hlt, fun j p k hj => ?_⟩
    have e : ∀ o, w'.cell? ⟨g, o, none⟩ = w.cell? ⟨g, o, none⟩ := fun o => World.cell?_of_block (hb g h1 h2)
    rw [e, e]
    exact h3 j p k hj
theorem one_new (w : World) (u : Value) (t : TypeId) : ∀ j x, [u][j]? = some x → (w.alloc (.cells #[u] t)).cell? ((⟨w.heap.size, 0, none⟩ : Addr).add j) = some x := fun j x hj => by
  rw [addr_add, Nat.zero_add, cell_of_row _ _ _ _ _ _ (heap_alloc_new _ _), ← hj]
  match j, hj with
  | 0, _ => rfl
theorem one_cell (u : Int) : ∀ x ∈ [Value.int .i64 u], x.oneCell' = true := fun x hx => by
  simp at hx
  subst hx; rfl
/-- Uses, by factories. -/
def usesL (l : List Qu.Fac) : List Nat := l.map fun f => Qu.useOf l f
theorem usesL_len (l : List Qu.Fac) : (usesL l).length = l.length := by simp [usesL]
theorem usesL_next {l : List Qu.Fac} {k : Nat} {f : Qu.Fac} (h : l[k]? = some f) : (usesL l).take (k + 1) = (usesL l).take k ++ [Qu.useOf l f] := by
  rw [List.take_add_one]
  unfold usesL
  rw [List.getElem?_map, h]; rfl
theorem useA_mem {N nxt : Nat} {l : List Qu.Fac} (hI : Qu.Inv N l nxt) {f : Qu.Fac} (hf : f ∈ l) : Qu.useA l (f.id : Int) = ((Qu.useOf l f : Nat) : Int) := by
  unfold Qu.useA
  rw [Qu.the_mem hI.up hf]
end Go.Proofs.YtdmnemgooagehaaGreatDoor
