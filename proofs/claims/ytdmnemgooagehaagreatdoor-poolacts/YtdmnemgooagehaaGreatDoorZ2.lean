/- PoolZeros between two rounds: the pool, the two rows of what is had, and one Get, one Put. -/
import Derived.Test.YtdmnemgooagehaaGreatDoorZ1
import Derived.Maps.AppendAt
namespace Go.Proofs.YtdmnemgooagehaaGreatDoor
open Go.ChangeShapes Go.WideShapes Go.ChangeAt Go.RowKit Go.Maps

/-- The slice has so many bytes, in memory that was there. -/
def Bytes (w : World) (a : Option Addr) (len : Nat) : Prop :=
  len = 0 ∨ ∃ s o, a = some ⟨s, o, none⟩ ∧ s < w.heap.size ∧ ∀ i : Nat, i < len → ∃ n : Nat, n < 256 ∧ w.cell? ⟨s, o + i, none⟩ = some (.int .u8 (n : Int))
theorem Bytes.at {w w' : World} {Bd : Nat} {a : Option Addr} {len : Nat} (h : Bytes w a len) (hb : Below Bd w w') (hB : w.heap.size ≤ Bd) {i : Nat} (hi : i < len) :
    ∃ s o, ∃ n : Nat, a = some ⟨s, o, none⟩ ∧ s < w.heap.size ∧ n < 256 ∧ w'.cell? ⟨s, o + i, none⟩ = some (.int .u8 (n : Int)) := by
  rcases h with h | ⟨s, o, rfl, hs, hc⟩
  · omega
  · obtain ⟨n, hn, h0⟩ := hc i hi
    exact ⟨s, o, n, rfl, hs, hn, (hb.cell (p := ⟨s, o + i, none⟩) (show s < Bd by omega)).trans h0⟩
set_option maxRecDepth 1000000 in
theorem bytes_of {H : Type} {enc : TypeId × Value → H} {w : World} {fuel : Nat} {a : Option Addr} {len cap : Nat} {x : DataW H × List MemPlace} (h : DataW.trod enc Tryz.prog w 0 (fun _ => true) true fuel 149 [.slice a len cap] = some x) : Bytes w a len := by
  rcases Deep.open_slice Tryz.underlying149 h with ⟨hcs, _⟩ | ⟨b, l, c, m, n, D, Pl, hcs, _, hl, hm, hmm, _, hx⟩
  · obtain ⟨rfl, rfl, rfl⟩ : a = none ∧ len = 0 ∧ cap = 0 := by simpa using hcs
    exact .inl rfl
  · obtain ⟨rfl, rfl, rfl⟩ : a = some b ∧ len = l ∧ cap = c := by simpa using hcs
    simp only [if_true] at hmm
    subst hmm
    by_cases h0 : len = 0
    · exact .inl h0
    rw [cells5] at hx
    obtain ⟨cs0, hc0, ht0⟩ := hx 0 (by omega)
    obtain ⟨_, hl0, hcell0⟩ := World.cells?_some hc0
    obtain ⟨s, o, spot⟩ := b
    have hsp : spot = none := by
      have h1 := hcell0 0 (by omega)
      rw [List.getElem?_eq_getElem (by omega)] at h1
      have := World.cell?_spot h1
      simpa [Addr.add] using this
    subst hsp
    refine .inr ⟨s, o, rfl, ?_, ?_⟩
    · have h1 := hcell0 0 (by omega)
      rw [List.getElem?_eq_getElem (by omega), Nat.zero_mul, addr_add, addr_add] at h1
      exact block_lt_of_cell h1
    · intro i hi
      obtain ⟨cs, hc, ht⟩ := hx i (by omega)
      obtain ⟨_, hl1, hcell⟩ := World.cells?_some hc
      obtain ⟨z, e0, _, w0⟩ := DataW.trod_int Tryz.underlying5 ht
      have hb := bounds_u8 w0
      obtain ⟨k, rfl⟩ := Int.eq_ofNat_of_zero_le hb.1
      refine ⟨k, by omega, ?_⟩
      have := hcell 0 (by omega)
      rw [addr_add, addr_add, Nat.mul_one, Nat.add_zero, e0] at this
      exact this

/-- Between two rounds. -/
structure Zr (w w' : World) (P : Pp) (v : Pv) (s6 s7 : Value) (zs : List Trip) (G : Nat → Nat) (c i : Nat) : Prop where
  pw : Pw w w' (fun x => s6.ownBlock = some x ∨ s7.ownBlock = some x) P v
  sm : Sm P v 65536 c
  gh : Gh P v G i
  had : Had v zs
  r6 : w'.ownsRow w.heap.size 3 1 s6 zs.length (nums (zs.map plc))
  r7 : w'.ownsRow w.heap.size 3 1 s7 zs.length (nums (zs.map fun t => t.1))
  ne : ∀ x, s6.ownBlock = some x → s7.ownBlock ≠ some x
  ct : v.ct ≤ i
  ln : zs.length ≤ i
  hK : P.K = 6
theorem Zr.below {w w' w2 : World} {P : Pp} {v : Pv} {s6 s7 : Value} {zs : List Trip} {G : Nat → Nat} {c i : Nat} (h : Zr w w' P v s6 s7 zs G c i) (hb : Below w'.heap.size w' w2) : Zr w w2 P v s6 s7 zs G c i :=
  ⟨h.pw.below hb, h.sm, h.gh, h.had, h.r6.bel hb (Nat.le_refl _), h.r7.bel hb (Nat.le_refl _), h.ne, h.ct, h.ln, h.hK⟩
theorem Zr.next {w w' : World} {P : Pp} {v : Pv} {s6 s7 : Value} {zs : List Trip} {G : Nat → Nat} {c i : Nat} (h : Zr w w' P v s6 s7 zs G c i) : Zr w w' P v s6 s7 zs G c (i + 1) :=
  ⟨h.pw, h.sm, h.gh.more, h.had, h.r6, h.r7, h.ne, by have := h.ct; omega, by have := h.ln; omega, h.hK⟩

/-- Behind a Get: what was got is had, but stands in no row yet. -/
structure Zm (w w' : World) (P : Pp) (v : Pv) (s6 s7 : Value) (zs : List Trip) (t : Trip) (G : Nat → Nat) (c i : Nat) : Prop where
  pw : Pw w w' (fun x => s6.ownBlock = some x ∨ s7.ownBlock = some x) P v
  sm : Sm P v 65536 c
  gh : Gh P v G (i + 1)
  had : Had v (zs ++ [t])
  r6 : w'.ownsRow w.heap.size 3 1 s6 zs.length (nums (zs.map plc))
  r7 : w'.ownsRow w.heap.size 3 1 s7 zs.length (nums (zs.map fun t => t.1))
  ne : ∀ x, s6.ownBlock = some x → s7.ownBlock ≠ some x
  ct : v.ct ≤ i + 1
  ln : zs.length ≤ i
  hK : P.K = 6
  inn : plc t + cost t.1 ≤ v.m.length
  q64 : t.2.1 < 64
theorem Zm.t {w w' : World} {P : Pp} {v : Pv} {s6 s7 : Value} {zs : List Trip} {t : Trip} {G : Nat → Nat} {c i : Nat} (h : Zm w w' P v s6 s7 zs t G c i) : 1 ≤ t.1 ∧ t.1 ≤ 7 ∧ t.2.2 < many t.1 ∧ v.U t.1 t.2.1 t.2.2 = true := h.had.inn t (List.mem_append.2 (.inr (List.mem_singleton.2 rfl)))
theorem Zm.below {w w' w2 : World} {P : Pp} {v : Pv} {s6 s7 : Value} {zs : List Trip} {t : Trip} {G : Nat → Nat} {c i : Nat} (h : Zm w w' P v s6 s7 zs t G c i) (hb : Below w'.heap.size w' w2) : Zm w w2 P v s6 s7 zs t G c i :=
  ⟨h.pw.below hb, h.sm, h.gh, h.had, h.r6.bel hb (Nat.le_refl _), h.r7.bel hb (Nat.le_refl _), h.ne, h.ct, h.ln, h.hK, h.inn, h.q64⟩
theorem Zr.get {w w' : World} {P : Pp} {v : Pv} {s6 s7 : Value} {zs : List Trip} {G : Nat → Nat} {c i kk : Nat} (h : Zr w w' P v s6 s7 zs G c i) (hi : i < 100) (h1 : 1 ≤ kk) (h7 : kk ≤ 7) : Calls Tryz.prog 30 #[.pointer (some ⟨P.pb, 0, none⟩), .int .i64 0, .int .i64 (kk : Int)] w' fun e w2 =>
    ∃ (t : Trip) (v' : Pv) (G' : Nat → Nat) (c' : Nat), e = .returned (.tuple #[.int .i64 ((plc t : Nat) : Int), .int .i64 0]) ∧ t.1 = kk ∧ Hid (Zm w w2 P v' s6 s7 zs t G' c' i ∧ ∀ j, j < cost kk → v'.m[plc t + j]? = some 0) := by
  refine (h.pw.get (by have := h.ct; omega) 0 (kk : Int)).mono ?_
  rintro e w2 ⟨hk6, ⟨er, rfl, h0, hn, _⟩ | ⟨k, q, i', B', U', hk, rfl, hg, hp⟩⟩
  · exfalso
    rcases hn with ⟨_, h2⟩ | ⟨k, hk, h2⟩
    · exact h2 ⟨by omega, by omega⟩
    · have e1 := h.gh.costs_le
      have e2 := h.sm.sum
      have e3 := (cost_in hk.2.1 hk.2.2).2.1
      have ec : (Qu.chargeA v.l 0 ((cost k : Nat) : Int)).1 = 0 := by
        rw [h.sm.l, root_charge, if_pos (by omega)]
      rcases h2 with h2 | ⟨_, _, _, h3⟩
      · exact h0 (h2.trans ec)
      · exact h.gh.room h.sm.ex h.hK h.pw.inv (by omega) h3
  · have e1 : k = kk := by have := hk.1; omega
    subst e1
    have hl := hp.len
    have hq := hg.qN
    rw [h.hK] at hl hq
    have hm := many_in hg.k1 hg.k7
    have hpl := (place_in hm.2.2 hg.tk.lt (p := q)).2
    have e64 : (2 : Nat) ^ 6 = 64 := by decide
    have hin : place (cost k) q i' + cost k ≤ (gotV v 0 k q i' B' U').m.length := by rw [hl]; omega
    have hin2 : place (cost k) q i' + cost k ≤ v.m.length := by
      have := h.pw.len
      rw [h.hK] at this
      omega
    refine ⟨(k, q, i'), _, _, _, rfl, rfl, ⟨hp, h.sm.got hg, h.gh.got hg, h.had.got hg, h.r6.other (fun g e => hk6 g (.inl e)), h.r7.other (fun g e => hk6 g (.inr e)), h.ne, by show v.ct + 1 ≤ i + 1; have := h.ct; omega, h.ln, h.hK, hin, by omega⟩, fun j hj => zeros_at hin2 hj⟩
theorem Zr.put {w w' : World} {P : Pp} {v : Pv} {s6 s7 : Value} {zs : List Trip} {t : Trip} {G : Nat → Nat} {c i n : Nat} (h : Zr w w' P v s6 s7 zs G c i) (hn : zs[n]? = some t) : Calls Tryz.prog 31 #[.pointer (some ⟨P.pb, 0, none⟩), .int .i64 0, .int .i64 ((t.1 : Nat) : Int), .int .i64 ((plc t : Nat) : Int)] w' fun e w2 =>
    ∃ (v' : Pv) (c' : Nat), e = .returned (.int .i64 0) ∧ Hid (Pw w w2 (fun x => s6.ownBlock = some x ∨ s7.ownBlock = some x) P v' ∧ Sm P v' 65536 c' ∧ Gh P v' G i ∧ Had v' (zs.eraseIdx n) ∧ v'.ct ≤ i ∧ ∀ x, (s6.ownBlock = some x ∨ s7.ownBlock = some x) → w2.heap[x]? = w'.heap[x]?) := by
  obtain ⟨k, q, i'⟩ := t
  have ht := h.had.inn _ (List.mem_of_getElem? hn)
  simp only at ht
  have hm := many_in ht.1 ht.2.1
  have hc := cost_in ht.1 ht.2.1
  have hq := ((h.pw.fit ht.1 ht.2.1).page q ⟨i', ht.2.2.1, ht.2.2.2⟩).2
  have hpl := (place_in hm.2.2 ht.2.2.1 (p := q)).2
  have hq6 := hq
  rw [h.hK] at hq6
  have e64 : (2 : Nat) ^ 6 = 64 := by decide
  refine (h.pw.put 0 ((k : Nat) : Int) ((plc (k, q, i') : Nat) : Int) (by omega) (by show ((place (cost k) q i' : Nat) : Int) < _; omega)).mono ?_
  rintro e w2 ⟨hk6, ⟨er, rfl, h0, hno, _⟩ | ⟨k2, q2, i2, B', hk, rfl, hg, hp⟩⟩
  · exact (h.sm.noput ⟨rfl, ht.1, ht.2.1⟩ ((used_is (by omega) hm.2.2 hq ht.2.2.1).2 ht.2.2.2) rfl h0 hno).elim
  · have e1 : k2 = k := by have := hk.1; omega
    subst e1
    obtain ⟨rfl, rfl⟩ := place_one (by omega) hm.2.2 hg.lt ht.2.2.1 (by have := hg.at_; unfold plc at this; simp only at this; omega : place (cost k2) q2 i2 = place (cost k2) q i')
    obtain ⟨c', hs⟩ := Sm.put h.pw h.sm hg
    exact ⟨_, c', rfl, hp, hs, h.gh.put hg hq, h.had.put hn, h.ct, hk6⟩
end Go.Proofs.YtdmnemgooagehaaGreatDoor
