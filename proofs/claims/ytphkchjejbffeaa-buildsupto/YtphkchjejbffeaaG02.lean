/- The bourse in memory, and the walks of what goes out. -/
import Derived.Test.YtphkchjejbffeaaG01
import Derived.Deep.RegionHeld3
import Derived.Deep.DrawnRows
import Derived.BigQuiet
import Derived.Laws.BitsAllLaws
import Derived.Deep.QuietTactic
import Derived.Laws.CopyOwn
import Derived.Deep.RegionLaw
namespace Go.Proofs.Ytphkchjejbffeaa
open Go.RowKit
attribute [local go_sem ↓] Go.wp_at_zero Go.wp_at_succ

/-- What a Bourse's block holds. -/
structure BC where
  opn : Bool
  time : Nat
  bytes : List UInt8
  have_ : Nat
  refs : Nat
  mats : Nat
  pm : Nat
  bk : Nat
  va : Value
  vt : Value

def BC.cells (c : BC) : Array Value :=
  (([.bool c.opn, .int .u64 c.time] : List Value) ++ c.bytes.map B ++ ([.int .i64 c.have_, .int .u32 c.refs, .int .u32 c.mats, .map (some c.pm), .pointer (some ⟨c.bk, 0, none⟩), c.va, c.vt] : List Value)).toArray

/-- In the world the Bourse at block b is c. -/
structure IsB (w : World) (b : Nat) (c : BC) : Prop where
  blk : w.heap[b]? = some (.cells c.cells 81)
  len : c.bytes.length = 13

theorem IsB.cell {w : World} {b : Nat} {c : BC} (h : IsB w b c) (i : Nat) : w.cell? ⟨b, i, none⟩ = c.cells[i]? := cell_of_row w b i _ _ (0, 0) h.blk
theorem IsB.frozen {w : World} {b : Nat} {c : BC} (h : IsB w b c) (i : Nat) : w.frozen? ⟨b, i, none⟩ = false := by simp [World.frozen?, h.blk]
theorem IsB.lt {w : World} {b : Nat} {c : BC} (h : IsB w b c) : b < w.heap.size := (Array.getElem?_eq_some_iff.1 h.blk).1
theorem bytes13 (l : List UInt8) (h : l.length = 13) : ∃ a b c d e f g i j k m n o, l = [a, b, c, d, e, f, g, i, j, k, m, n, o] := by
  match l, h with
  | [a, b, c, d, e, f, g, i, j, k, m, n, o], _ => exact ⟨a, b, c, d, e, f, g, i, j, k, m, n, o, rfl⟩
theorem BC.get (c : BC) (h : c.bytes.length = 13) : c.cells[0]? = some (.bool c.opn) ∧ c.cells[1]? = some (.int .u64 c.time) ∧ c.cells[15]? = some (.int .i64 c.have_) ∧ c.cells[16]? = some (.int .u32 c.refs) ∧ c.cells[17]? = some (.int .u32 c.mats) ∧
    c.cells[18]? = some (.map (some c.pm)) ∧ c.cells[19]? = some (.pointer (some ⟨c.bk, 0, none⟩)) ∧ c.cells[20]? = some c.va ∧ c.cells[21]? = some c.vt := by
  obtain ⟨a1, a2, a3, a4, a5, a6, a7, a8, a9, a10, a11, a12, a13, e⟩ := bytes13 _ h
  unfold BC.cells
  rw [e]
  exact ⟨rfl, rfl, rfl, rfl, rfl, rfl, rfl, rfl, rfl⟩
theorem BC.set (c : BC) (h : c.bytes.length = 13) (v : Value) : c.cells.setIfInBounds 20 v = { c with va := v }.cells ∧ c.cells.setIfInBounds 21 v = { c with vt := v }.cells := by
  obtain ⟨a1, a2, a3, a4, a5, a6, a7, a8, a9, a10, a11, a12, a13, e⟩ := bytes13 _ h
  unfold BC.cells
  simp only [e]
  exact ⟨rfl, rfl⟩
theorem IsB.setA {w : World} {b : Nat} {c : BC} (h : IsB w b c) (v : Value) : IsB (w.setCell ⟨b, 20, none⟩ v) b { c with va := v } :=
  ⟨by rw [heap_setCell_same w b 20 _ _ v h.blk, (c.set h.len v).1], h.len⟩
theorem IsB.setT {w : World} {b : Nat} {c : BC} (h : IsB w b c) (v : Value) : IsB (w.setCell ⟨b, 21, none⟩ v) b { c with vt := v } :=
  ⟨by rw [heap_setCell_same w b 21 _ _ v h.blk, (c.set h.len v).2], h.len⟩
theorem IsB.keep {w w' : World} {b : Nat} {c : BC} (h : IsB w b c) (hk : w'.heap[b]? = w.heap[b]?) : IsB w' b c := ⟨hk.trans h.blk, h.len⟩
theorem IsB.fr {w w' : World} {b : Nat} {c : BC} {F : Nat → Prop} (h : IsB w b c) (hf : Fr F w w') (hn : ¬ F b) : IsB w' b c := h.keep (hf.block b h.lt hn)

theorem Puts.drew {w : World} {v : Value} {l : List UInt8} (h : Own w 0 v l) : Puts w w.drew v v l := ⟨h.keep (fun _ _ => rfl), Fr.drew _ _, .inl rfl⟩

/-- Of a bourse bytes went out as answers. -/
def TellA (w w' : World) (b : Nat) (c : BC) (l' : List UInt8) : Prop :=
  ∃ v', IsB w' b { c with va := v' } ∧ Own w' 0 v' l' ∧ v'.ownBlock ≠ some b ∧ (v'.ownBlock = c.va.ownBlock ∨ ∃ g, v'.ownBlock = some g ∧ w.heap.size ≤ g) ∧ Fr (fun k => k = b ∨ c.va.ownBlock = some k) w w'
/-- Of a bourse bytes went on the tape. -/
def TellT (w w' : World) (b : Nat) (c : BC) (l' : List UInt8) : Prop :=
  ∃ v', IsB w' b { c with vt := v' } ∧ Own w' 0 v' l' ∧ v'.ownBlock ≠ some b ∧ (v'.ownBlock = c.vt.ownBlock ∨ ∃ g, v'.ownBlock = some g ∧ w.heap.size ≤ g) ∧ Fr (fun k => k = b ∨ c.vt.ownBlock = some k) w w'

theorem puts_ne {w w1 : World} {b : Nat} {c : BC} {v v' : Value} {l' : List UInt8} (hB : IsB w b c) (hne : v.ownBlock ≠ some b) (hp : Puts w w1 v v' l') : v'.ownBlock ≠ some b := by
  intro e
  rcases hp.at_ with e' | ⟨g, e', hg⟩
  · exact hne (e'.symm.trans e)
  · rw [e'] at e; cases e
    have := hB.lt; omega
theorem TellA.mk {w w1 : World} {b : Nat} {c : BC} {v' : Value} {l' : List UInt8} (hB : IsB w b c) (hne : c.va.ownBlock ≠ some b) (hp : Puts w w1 c.va v' l') : TellA w (w1.setCell ⟨b, 20, none⟩ v') b c l' := by
  have hn := puts_ne hB hne hp
  refine ⟨v', (hB.fr hp.fr hne).setA v', hp.own.keep (fun g hg => Below.heap_setCell _ _ _ _ (fun e => hn (by rw [← show g = b from e]; exact hg))), hn, hp.at_, ?_⟩
  exact (hp.fr.mono (G := fun k => k = b ∨ c.va.ownBlock = some k) (fun k _ h => .inr h)).trans (Fr.setCell w1 ⟨b, 20, none⟩ v') (fun k _ h => .inl h)
theorem TellT.mk {w w1 : World} {b : Nat} {c : BC} {v' : Value} {l' : List UInt8} (hB : IsB w b c) (hne : c.vt.ownBlock ≠ some b) (hp : Puts w w1 c.vt v' l') : TellT w (w1.setCell ⟨b, 21, none⟩ v') b c l' := by
  have hn := puts_ne hB hne hp
  refine ⟨v', (hB.fr hp.fr hne).setT v', hp.own.keep (fun g hg => Below.heap_setCell _ _ _ _ (fun e => hn (by rw [← show g = b from e]; exact hg))), hn, hp.at_, ?_⟩
  exact (hp.fr.mono (G := fun k => k = b ∨ c.vt.ownBlock = some k) (fun k _ h => .inr h)).trans (Fr.setCell w1 ⟨b, 21, none⟩ v') (fun k _ h => .inl h)

/-- An order, as it lies in memory. -/
structure PO where
  before : Nat
  after : Nat
  ref : Nat
  token : Nat
  side : UInt8
  stock : Nat
  price : Nat
  shares : Nat
def PO.cells (o : PO) : Array Value := #[.int .i64 o.before, .int .i64 o.after, .int .u32 o.ref, .int .u32 o.token, .int .u8 o.side.toNat, .int .u8 o.stock, .int .u16 o.price, .int .u16 o.shares]
structure PO.ok (o : PO) : Prop where
  ref : o.ref < 4294967296
  token : o.token < 4294967296
  stock : o.stock < 256
  price : o.price < 65536
  shares : o.shares < 65536
theorem enc1 (t : UInt8) : enc t.toNat 1 = [t] := by simp [enc]
theorem enc1' (n : Nat) : enc n 1 = [UInt8.ofNat n] := rfl
theorem Puts.alloc {w : World} {v : Value} {l : List UInt8} (h : Own w 0 v l) (o : Obj) : Puts w (w.alloc o) v v l := ⟨own_alloc h o, Fr.alloc _ _ _, .inl rfl⟩

set_option maxHeartbeats 400000 in
theorem begin_any (b : Nat) (c : BC) (v : Value) (l : List UInt8) (t : UInt8) (w : World) (hB : IsB w b c) (ht : c.time < 18446744073709551616) (ho : Own w 0 v l) (hne : v.ownBlock ≠ some b) (hl : l.length + 16 ≤ 140737488355328) :
    Calls Try.prog 70 #[.pointer (some ⟨b, 0, none⟩), v, .int .u8 t.toNat] w fun e w' => ∃ v', e = .returned v' ∧ Puts w w' v v' (l ++ t :: enc c.time 6) := by
  have c1 : w.cell? ⟨b, 1, none⟩ = some (.int .u64 c.time) := by rw [hB.cell]; exact (c.get hB.len).2.1
  have hP := put8 v l t.toNat w.drew (ho.keep (fun _ _ => rfl)) (by have := t.toNat_lt; omega) (by omega)
  rw [show enc t.toNat 1 = [t] from by simp [enc]] at hP
  have HP := Hid.mk hP
  have HB := Hid.mk hB
  have HL := Hid.mk (And.intro ht hl)
  have HO := Hid.mk ho
  clear hP ho hB
  go_enter Try.func70, Try.ntmps70
  go_wp2_with fail
  go_region_held3 (fun w' => w'.cell? ⟨b, 1, none⟩ = some (.int .u64 c.time))
    (first | exact m1 | exact n1 | go_keep)
    (first
      | (go_at_call 110; refine HP.out.mono ?_; rintro e w1 ⟨v1, rfl, hp1⟩; have n1 : w1.cell? ⟨b, 1, none⟩ = some (.int .u64 c.time) := hp1.fr.cell (w := w.drew) c1 hne)
      | (go_at_call 109; refine (putLow64 v1 (l ++ [t]) c.time 6 w1 hp1.own HL.out.1 (by omega) (by rw [List.length_append]; simp only [List.length_cons, List.length_nil]; omega)).mono ?_; rintro e w2 ⟨v2, rfl, hp2⟩; have m1 : w2.cell? ⟨b, 1, none⟩ = some (.int .u64 c.time) := hp2.fr.cell n1 (fun e => by rcases hp1.at_ with e' | ⟨g, e', hg⟩; exact hne (e'.symm.trans e); rw [e'] at e; cases e; have := HB.out.lt; exact absurd (show w.heap.size ≤ b from hg) (by omega))))
  go_wp2
  go_ret
  exact ⟨_, rfl, Puts.cast (Puts.trans (Puts.trans (Puts.drew HO.out) hp1) hp2) (by simp)⟩

set_option maxHeartbeats 600000 in
theorem tellOpened_any (b : Nat) (c : BC) (l : List UInt8) (w : World) (hB : IsB w b c) (htm : c.time < 18446744073709551616) (_hmt : c.mats < 4294967296) (ho : Own w 0 c.va l) (hne : c.va.ownBlock ≠ some b) (hl : l.length + 64 ≤ 140737488355328) :
    Calls Try.prog 48 #[.pointer (some ⟨b, 0, none⟩)] w fun e w' => e = .returned (.tuple #[]) ∧ TellA w w' b c (l ++ 79 :: enc c.time 6) := by
  have g20 : w.cell? ⟨b, 20, none⟩ = some c.va := by rw [hB.cell]; exact (c.get hB.len).2.2.2.2.2.2.2.1
  have g17 : w.cell? ⟨b, 17, none⟩ = some (.int .u32 c.mats) := by rw [hB.cell]; exact (c.get hB.len).2.2.2.2.1
  have HB := Hid.mk hB
  have HO := Hid.mk ho
  have hbl := hB.lt
  clear hB ho
  go_enter Try.func48, Try.ntmps48
  go_wp2_with fail
  refine (begin_any b c c.va l 79 w HB.out htm HO.out hne (by omega)).mono ?_
  rintro e w0 ⟨v0, rfl, hp0⟩
  have hq0 := hp0
  obtain ⟨rr, cc, rfl, -, -⟩ := hp0.own.len
  have HQ := Hid.mk hq0
  have hBn := HB.out.fr hq0.fr hne
  have gs : w0.cell? ⟨b, 20, none⟩ = some c.va := by rw [hBn.cell]; exact (c.get hBn.len).2.2.2.2.2.2.2.1
  have gf := hBn.frozen 20
  clear hBn
  go_wp2_with fail
  go_end0
  refine ⟨rfl, ?_⟩
  have hfin := TellA.mk HB.out hne (HQ.out.cast (l' := l ++ 79 :: enc c.time 6) (by simp))
  simpa using hfin

set_option maxHeartbeats 600000 in
theorem tellClosed_any (b : Nat) (c : BC) (l : List UInt8) (w : World) (hB : IsB w b c) (htm : c.time < 18446744073709551616) (_hmt : c.mats < 4294967296) (ho : Own w 0 c.va l) (hne : c.va.ownBlock ≠ some b) (hl : l.length + 64 ≤ 140737488355328) :
    Calls Try.prog 88 #[.pointer (some ⟨b, 0, none⟩)] w fun e w' => e = .returned (.tuple #[]) ∧ TellA w w' b c (l ++ 90 :: enc c.time 6) := by
  have g20 : w.cell? ⟨b, 20, none⟩ = some c.va := by rw [hB.cell]; exact (c.get hB.len).2.2.2.2.2.2.2.1
  have g17 : w.cell? ⟨b, 17, none⟩ = some (.int .u32 c.mats) := by rw [hB.cell]; exact (c.get hB.len).2.2.2.2.1
  have HB := Hid.mk hB
  have HO := Hid.mk ho
  have hbl := hB.lt
  clear hB ho
  go_enter Try.func88, Try.ntmps88
  go_wp2_with fail
  refine (begin_any b c c.va l 90 w HB.out htm HO.out hne (by omega)).mono ?_
  rintro e w0 ⟨v0, rfl, hp0⟩
  have hq0 := hp0
  obtain ⟨rr, cc, rfl, -, -⟩ := hp0.own.len
  have HQ := Hid.mk hq0
  have hBn := HB.out.fr hq0.fr hne
  have gs : w0.cell? ⟨b, 20, none⟩ = some c.va := by rw [hBn.cell]; exact (c.get hBn.len).2.2.2.2.2.2.2.1
  have gf := hBn.frozen 20
  clear hBn
  go_wp2_with fail
  go_end0
  refine ⟨rfl, ?_⟩
  have hfin := TellA.mk HB.out hne (HQ.out.cast (l' := l ++ 90 :: enc c.time 6) (by simp))
  simpa using hfin

set_option maxHeartbeats 600000 in
theorem tellRejected_any (b : Nat) (c : BC) (l : List UInt8) (t : Nat) (r : UInt8) (w : World) (hB : IsB w b c) (htm : c.time < 18446744073709551616) (_hmt : c.mats < 4294967296) (ho : Own w 0 c.va l) (hne : c.va.ownBlock ≠ some b) (hl : l.length + 64 ≤ 140737488355328) (ht : t < 4294967296) :
    Calls Try.prog 72 #[.pointer (some ⟨b, 0, none⟩), .int .u32 t, .int .u8 r.toNat] w fun e w' => e = .returned (.tuple #[]) ∧ TellA w w' b c (l ++ 74 :: enc c.time 6 ++ enc t 4 ++ [r]) := by
  have g20 : w.cell? ⟨b, 20, none⟩ = some c.va := by rw [hB.cell]; exact (c.get hB.len).2.2.2.2.2.2.2.1
  have g17 : w.cell? ⟨b, 17, none⟩ = some (.int .u32 c.mats) := by rw [hB.cell]; exact (c.get hB.len).2.2.2.2.1
  have HB := Hid.mk hB
  have HO := Hid.mk ho
  have hbl := hB.lt
  clear hB ho
  go_enter Try.func72, Try.ntmps72
  go_wp2_with fail
  refine (begin_any b c c.va l 74 w HB.out htm HO.out hne (by omega)).mono ?_
  rintro e w0 ⟨v0, rfl, hp0⟩
  have hq0 := hp0
  go_wp2_with fail
  refine (put32 v0 _ (t) w0 hp0.own (by omega) (by simp [enc_length]; omega)).mono ?_
  rintro e w1 ⟨v1, rfl, hp1⟩
  have hq1 := hq0.trans hp1
  go_wp2_with fail
  refine (put8 v1 _ (r.toNat) w1 hp1.own (by have := r.toNat_lt; omega) (by simp [enc_length]; omega)).mono ?_
  rintro e w2 ⟨v2, rfl, hp2⟩
  have hq2 := hq1.trans hp2
  obtain ⟨rr, cc, rfl, -, -⟩ := hp2.own.len
  have HQ := Hid.mk hq2
  have hBn := HB.out.fr hq2.fr hne
  have gs : w2.cell? ⟨b, 20, none⟩ = some c.va := by rw [hBn.cell]; exact (c.get hBn.len).2.2.2.2.2.2.2.1
  have gf := hBn.frozen 20
  clear hBn
  go_wp2_with fail
  go_end0
  refine ⟨rfl, ?_⟩
  have hfin := TellA.mk HB.out hne (HQ.out.cast (l' := l ++ 74 :: enc c.time 6 ++ enc t 4 ++ [r]) (by simp [enc1']))
  simpa using hfin

set_option maxHeartbeats 1000000 in
theorem tellCanceled_any (b : Nat) (c : BC) (l : List UInt8) (t : Nat) (n : Nat) (r : UInt8) (w : World) (hB : IsB w b c) (htm : c.time < 18446744073709551616) (_hmt : c.mats < 4294967296) (ho : Own w 0 c.va l) (hne : c.va.ownBlock ≠ some b) (hl : l.length + 64 ≤ 140737488355328) (ht : t < 4294967296) (hn : n < 65536) :
    Calls Try.prog 76 #[.pointer (some ⟨b, 0, none⟩), .int .u32 t, .int .u16 n, .int .u8 r.toNat] w fun e w' => e = .returned (.tuple #[]) ∧ TellA w w' b c (l ++ 88 :: enc c.time 6 ++ enc t 4 ++ enc n 2 ++ [r]) := by
  have g20 : w.cell? ⟨b, 20, none⟩ = some c.va := by rw [hB.cell]; exact (c.get hB.len).2.2.2.2.2.2.2.1
  have g17 : w.cell? ⟨b, 17, none⟩ = some (.int .u32 c.mats) := by rw [hB.cell]; exact (c.get hB.len).2.2.2.2.1
  have HB := Hid.mk hB
  have HO := Hid.mk ho
  have hbl := hB.lt
  clear hB ho
  go_enter Try.func76, Try.ntmps76
  go_wp2_with fail
  refine (begin_any b c c.va l 88 w HB.out htm HO.out hne (by omega)).mono ?_
  rintro e w0 ⟨v0, rfl, hp0⟩
  have hq0 := hp0
  go_wp2_with fail
  refine (put32 v0 _ (t) w0 hp0.own (by omega) (by simp [enc_length]; omega)).mono ?_
  rintro e w1 ⟨v1, rfl, hp1⟩
  have hq1 := hq0.trans hp1
  go_wp2_with fail
  refine (put16 v1 _ (n) w1 hp1.own (by omega) (by simp [enc_length]; omega)).mono ?_
  rintro e w2 ⟨v2, rfl, hp2⟩
  have hq2 := hq1.trans hp2
  go_wp2_with fail
  refine (put8 v2 _ (r.toNat) w2 hp2.own (by have := r.toNat_lt; omega) (by simp [enc_length]; omega)).mono ?_
  rintro e w3 ⟨v3, rfl, hp3⟩
  have hq3 := hq2.trans hp3
  obtain ⟨rr, cc, rfl, -, -⟩ := hp3.own.len
  have HQ := Hid.mk hq3
  have hBn := HB.out.fr hq3.fr hne
  have gs : w3.cell? ⟨b, 20, none⟩ = some c.va := by rw [hBn.cell]; exact (c.get hBn.len).2.2.2.2.2.2.2.1
  have gf := hBn.frozen 20
  clear hBn
  go_wp2_with fail
  go_end0
  refine ⟨rfl, ?_⟩
  have hfin := TellA.mk HB.out hne (HQ.out.cast (l' := l ++ 88 :: enc c.time 6 ++ enc t 4 ++ enc n 2 ++ [r]) (by simp [enc1']))
  simpa using hfin

set_option maxHeartbeats 1000000 in
theorem tellFilled_any (b : Nat) (c : BC) (l : List UInt8) (t : Nat) (n : Nat) (p : Nat) (w : World) (hB : IsB w b c) (htm : c.time < 18446744073709551616) (hmt : c.mats < 4294967296) (ho : Own w 0 c.va l) (hne : c.va.ownBlock ≠ some b) (hl : l.length + 64 ≤ 140737488355328) (ht : t < 4294967296) (hn : n < 65536) (hp : p < 65536) :
    Calls Try.prog 139 #[.pointer (some ⟨b, 0, none⟩), .int .u32 t, .int .u16 n, .int .u16 p] w fun e w' => e = .returned (.tuple #[]) ∧ TellA w w' b c (l ++ 70 :: enc c.time 6 ++ enc t 4 ++ enc n 2 ++ enc p 2 ++ enc c.mats 4) := by
  have g20 : w.cell? ⟨b, 20, none⟩ = some c.va := by rw [hB.cell]; exact (c.get hB.len).2.2.2.2.2.2.2.1
  have g17 : w.cell? ⟨b, 17, none⟩ = some (.int .u32 c.mats) := by rw [hB.cell]; exact (c.get hB.len).2.2.2.2.1
  have HB := Hid.mk hB
  have HO := Hid.mk ho
  have hbl := hB.lt
  clear hB ho
  go_enter Try.func139, Try.ntmps139
  go_wp2_with fail
  refine (begin_any b c c.va l 70 w HB.out htm HO.out hne (by omega)).mono ?_
  rintro e w0 ⟨v0, rfl, hp0⟩
  have hq0 := hp0
  go_wp2_with fail
  refine (put32 v0 _ (t) w0 hp0.own (by omega) (by simp [enc_length]; omega)).mono ?_
  rintro e w1 ⟨v1, rfl, hp1⟩
  have hq1 := hq0.trans hp1
  go_wp2_with fail
  refine (put16 v1 _ (n) w1 hp1.own (by omega) (by simp [enc_length]; omega)).mono ?_
  rintro e w2 ⟨v2, rfl, hp2⟩
  have hq2 := hq1.trans hp2
  go_wp2_with fail
  refine (put16 v2 _ (p) w2 hp2.own (by omega) (by simp [enc_length]; omega)).mono ?_
  rintro e w3 ⟨v3, rfl, hp3⟩
  have hq3 := hq2.trans hp3
  have gm := hq3.fr.cell g17 hne
  go_wp2_with fail
  refine (put32 v3 _ (c.mats) w3 hp3.own (by omega) (by simp [enc_length]; omega)).mono ?_
  rintro e w4 ⟨v4, rfl, hp4⟩
  have hq4 := hq3.trans hp4
  obtain ⟨rr, cc, rfl, -, -⟩ := hp4.own.len
  have HQ := Hid.mk hq4
  have hBn := HB.out.fr hq4.fr hne
  have gs : w4.cell? ⟨b, 20, none⟩ = some c.va := by rw [hBn.cell]; exact (c.get hBn.len).2.2.2.2.2.2.2.1
  have gf := hBn.frozen 20
  clear hBn
  go_wp2_with fail
  go_end0
  refine ⟨rfl, ?_⟩
  have hfin := TellA.mk HB.out hne (HQ.out.cast (l' := l ++ 70 :: enc c.time 6 ++ enc t 4 ++ enc n 2 ++ enc p 2 ++ enc c.mats 4) (by simp))
  simpa using hfin

set_option maxHeartbeats 1000000 in
theorem tapeExecuted_any (b : Nat) (c : BC) (l : List UInt8) (t : Nat) (n : Nat) (w : World) (hB : IsB w b c) (htm : c.time < 18446744073709551616) (hmt : c.mats < 4294967296) (ho : Own w 0 c.vt l) (hne : c.vt.ownBlock ≠ some b) (hl : l.length + 64 ≤ 140737488355328) (ht : t < 4294967296) (hn : n < 65536) :
    Calls Try.prog 140 #[.pointer (some ⟨b, 0, none⟩), .int .u32 t, .int .u16 n] w fun e w' => e = .returned (.tuple #[]) ∧ TellT w w' b c (l ++ 101 :: enc c.time 6 ++ enc t 4 ++ enc n 2 ++ enc c.mats 4) := by
  have g21 : w.cell? ⟨b, 21, none⟩ = some c.vt := by rw [hB.cell]; exact (c.get hB.len).2.2.2.2.2.2.2.2
  have g17 : w.cell? ⟨b, 17, none⟩ = some (.int .u32 c.mats) := by rw [hB.cell]; exact (c.get hB.len).2.2.2.2.1
  have HB := Hid.mk hB
  have HO := Hid.mk ho
  have hbl := hB.lt
  clear hB ho
  go_enter Try.func140, Try.ntmps140
  go_wp2_with fail
  refine (begin_any b c c.vt l 101 w HB.out htm HO.out hne (by omega)).mono ?_
  rintro e w0 ⟨v0, rfl, hp0⟩
  have hq0 := hp0
  go_wp2_with fail
  refine (put32 v0 _ (t) w0 hp0.own (by omega) (by simp [enc_length]; omega)).mono ?_
  rintro e w1 ⟨v1, rfl, hp1⟩
  have hq1 := hq0.trans hp1
  go_wp2_with fail
  refine (put16 v1 _ (n) w1 hp1.own (by omega) (by simp [enc_length]; omega)).mono ?_
  rintro e w2 ⟨v2, rfl, hp2⟩
  have hq2 := hq1.trans hp2
  have gm := hq2.fr.cell g17 hne
  go_wp2_with fail
  refine (put32 v2 _ (c.mats) w2 hp2.own (by omega) (by simp [enc_length]; omega)).mono ?_
  rintro e w3 ⟨v3, rfl, hp3⟩
  have hq3 := hq2.trans hp3
  obtain ⟨rr, cc, rfl, -, -⟩ := hp3.own.len
  have HQ := Hid.mk hq3
  have hBn := HB.out.fr hq3.fr hne
  have gs : w3.cell? ⟨b, 21, none⟩ = some c.vt := by rw [hBn.cell]; exact (c.get hBn.len).2.2.2.2.2.2.2.2
  have gf := hBn.frozen 21
  clear hBn
  go_wp2_with fail
  go_end0
  refine ⟨rfl, ?_⟩
  have hfin := TellT.mk HB.out hne (HQ.out.cast (l' := l ++ 101 :: enc c.time 6 ++ enc t 4 ++ enc n 2 ++ enc c.mats 4) (by simp))
  simpa using hfin

set_option maxHeartbeats 1000000 in
theorem tapeCanceled_any (b : Nat) (c : BC) (l : List UInt8) (t : Nat) (n : Nat) (w : World) (hB : IsB w b c) (htm : c.time < 18446744073709551616) (_hmt : c.mats < 4294967296) (ho : Own w 0 c.vt l) (hne : c.vt.ownBlock ≠ some b) (hl : l.length + 64 ≤ 140737488355328) (ht : t < 4294967296) (hn : n < 65536) :
    Calls Try.prog 87 #[.pointer (some ⟨b, 0, none⟩), .int .u32 t, .int .u16 n] w fun e w' => e = .returned (.tuple #[]) ∧ TellT w w' b c (l ++ 120 :: enc c.time 6 ++ enc t 4 ++ enc n 2) := by
  have g21 : w.cell? ⟨b, 21, none⟩ = some c.vt := by rw [hB.cell]; exact (c.get hB.len).2.2.2.2.2.2.2.2
  have g17 : w.cell? ⟨b, 17, none⟩ = some (.int .u32 c.mats) := by rw [hB.cell]; exact (c.get hB.len).2.2.2.2.1
  have HB := Hid.mk hB
  have HO := Hid.mk ho
  have hbl := hB.lt
  clear hB ho
  go_enter Try.func87, Try.ntmps87
  go_wp2_with fail
  refine (begin_any b c c.vt l 120 w HB.out htm HO.out hne (by omega)).mono ?_
  rintro e w0 ⟨v0, rfl, hp0⟩
  have hq0 := hp0
  go_wp2_with fail
  refine (put32 v0 _ (t) w0 hp0.own (by omega) (by simp [enc_length]; omega)).mono ?_
  rintro e w1 ⟨v1, rfl, hp1⟩
  have hq1 := hq0.trans hp1
  go_wp2_with fail
  refine (put16 v1 _ (n) w1 hp1.own (by omega) (by simp [enc_length]; omega)).mono ?_
  rintro e w2 ⟨v2, rfl, hp2⟩
  have hq2 := hq1.trans hp2
  obtain ⟨rr, cc, rfl, -, -⟩ := hp2.own.len
  have HQ := Hid.mk hq2
  have hBn := HB.out.fr hq2.fr hne
  have gs : w2.cell? ⟨b, 21, none⟩ = some c.vt := by rw [hBn.cell]; exact (c.get hBn.len).2.2.2.2.2.2.2.2
  have gf := hBn.frozen 21
  clear hBn
  go_wp2_with fail
  go_end0
  refine ⟨rfl, ?_⟩
  have hfin := TellT.mk HB.out hne (HQ.out.cast (l' := l ++ 120 :: enc c.time 6 ++ enc t 4 ++ enc n 2) (by simp))
  simpa using hfin

set_option maxHeartbeats 1000000 in
theorem tapeGone_any (b : Nat) (c : BC) (l : List UInt8) (t : Nat) (w : World) (hB : IsB w b c) (htm : c.time < 18446744073709551616) (_hmt : c.mats < 4294967296) (ho : Own w 0 c.vt l) (hne : c.vt.ownBlock ≠ some b) (hl : l.length + 64 ≤ 140737488355328) (ht : t < 4294967296) :
    Calls Try.prog 85 #[.pointer (some ⟨b, 0, none⟩), .int .u32 t] w fun e w' => e = .returned (.tuple #[]) ∧ TellT w w' b c (l ++ 100 :: enc c.time 6 ++ enc t 4) := by
  have g21 : w.cell? ⟨b, 21, none⟩ = some c.vt := by rw [hB.cell]; exact (c.get hB.len).2.2.2.2.2.2.2.2
  have g17 : w.cell? ⟨b, 17, none⟩ = some (.int .u32 c.mats) := by rw [hB.cell]; exact (c.get hB.len).2.2.2.2.1
  have HB := Hid.mk hB
  have HO := Hid.mk ho
  have hbl := hB.lt
  clear hB ho
  go_enter Try.func85, Try.ntmps85
  go_wp2_with fail
  refine (begin_any b c c.vt l 100 w HB.out htm HO.out hne (by omega)).mono ?_
  rintro e w0 ⟨v0, rfl, hp0⟩
  have hq0 := hp0
  go_wp2_with fail
  refine (put32 v0 _ (t) w0 hp0.own (by omega) (by simp [enc_length]; omega)).mono ?_
  rintro e w1 ⟨v1, rfl, hp1⟩
  have hq1 := hq0.trans hp1
  obtain ⟨rr, cc, rfl, -, -⟩ := hp1.own.len
  have HQ := Hid.mk hq1
  have hBn := HB.out.fr hq1.fr hne
  have gs : w1.cell? ⟨b, 21, none⟩ = some c.vt := by rw [hBn.cell]; exact (c.get hBn.len).2.2.2.2.2.2.2.2
  have gf := hBn.frozen 21
  clear hBn
  go_wp2_with fail
  go_end0
  refine ⟨rfl, ?_⟩
  have hfin := TellT.mk HB.out hne (HQ.out.cast (l' := l ++ 100 :: enc c.time 6 ++ enc t 4) (by simp))
  simpa using hfin

set_option maxHeartbeats 1000000 in
theorem tellAccepted_any (b : Nat) (c : BC) (l : List UInt8) (o : PO) (kind : UInt8) (w : World) (hB : IsB w b c) (htm : c.time < 18446744073709551616) (_hmt : c.mats < 4294967296) (ho : Own w 0 c.va l) (hne : c.va.ownBlock ≠ some b) (hl : l.length + 64 ≤ 140737488355328) (hok : o.ok) :
    Calls Try.prog 118 #[.pointer (some ⟨b, 0, none⟩), .agg o.cells, .int .u8 kind.toNat] w fun e w' => e = .returned (.tuple #[]) ∧ TellA w w' b c (l ++ 65 :: enc c.time 6 ++ enc o.token 4 ++ [o.side] ++ [UInt8.ofNat o.stock] ++ enc o.price 2 ++ enc o.shares 2 ++ [kind] ++ enc o.ref 4) := by
  have g20 : w.cell? ⟨b, 20, none⟩ = some c.va := by rw [hB.cell]; exact (c.get hB.len).2.2.2.2.2.2.2.1
  have g17 : w.cell? ⟨b, 17, none⟩ = some (.int .u32 c.mats) := by rw [hB.cell]; exact (c.get hB.len).2.2.2.2.1
  have HB := Hid.mk hB
  have HO := Hid.mk ho
  have hbl := hB.lt
  clear hB ho
  obtain ⟨bf, af, ref, token, side, stock, price, shares⟩ := o
  obtain ⟨k1, k2, k3, k4, k5⟩ := hok
  simp only [PO.cells] at *
  go_enter Try.func118, Try.ntmps118
  go_wp2_with fail
  generalize hOb : Obj.cells _ 129 = Ob
  have hpa := Puts.alloc HO.out Ob
  have hBa := HB.out.fr (Fr.alloc (fun _ => False) w Ob) (fun h => h)
  have hbx : (w.alloc Ob).heap[w.heap.size]? = some Ob := by rw [heap_alloc, if_pos rfl]
  have nbx : c.va.ownBlock ≠ some w.heap.size := fun e => by have := (HO.out.lt _ e).2; omega
  refine (begin_any b c c.va l 65 _ hBa htm hpa.own hne (by omega)).mono ?_
  rintro e w0 ⟨v0, rfl, hp0⟩
  have hq0 := hp0
  have gb0 : w0.cell? ⟨w.heap.size, 3, none⟩ = some (.int .u32 token) := hq0.fr.cell (by subst hOb; rw [cell_of_row _ w.heap.size 3 _ 129 (0, 0) hbx]; rfl) nbx
  go_wp2_with fail
  refine (put32 v0 _ (token) w0 hp0.own (by omega) (by simp [enc_length]; omega)).mono ?_
  rintro e w1 ⟨v1, rfl, hp1⟩
  have hq1 := hq0.trans hp1
  have gb1 : w1.cell? ⟨w.heap.size, 4, none⟩ = some (.int .u8 side.toNat) := hq1.fr.cell (by subst hOb; rw [cell_of_row _ w.heap.size 4 _ 129 (0, 0) hbx]; rfl) nbx
  go_wp2_with fail
  refine (put8 v1 _ (side.toNat) w1 hp1.own (by have := side.toNat_lt; omega) (by simp [enc_length]; omega)).mono ?_
  rintro e w2 ⟨v2, rfl, hp2⟩
  have hq2 := hq1.trans hp2
  have gb2 : w2.cell? ⟨w.heap.size, 5, none⟩ = some (.int .u8 stock) := hq2.fr.cell (by subst hOb; rw [cell_of_row _ w.heap.size 5 _ 129 (0, 0) hbx]; rfl) nbx
  go_wp2_with fail
  refine (put8 v2 _ (stock) w2 hp2.own (by omega) (by simp [enc_length]; omega)).mono ?_
  rintro e w3 ⟨v3, rfl, hp3⟩
  have hq3 := hq2.trans hp3
  have gb3 : w3.cell? ⟨w.heap.size, 6, none⟩ = some (.int .u16 price) := hq3.fr.cell (by subst hOb; rw [cell_of_row _ w.heap.size 6 _ 129 (0, 0) hbx]; rfl) nbx
  go_wp2_with fail
  refine (put16 v3 _ (price) w3 hp3.own (by omega) (by simp [enc_length]; omega)).mono ?_
  rintro e w4 ⟨v4, rfl, hp4⟩
  have hq4 := hq3.trans hp4
  have gb4 : w4.cell? ⟨w.heap.size, 7, none⟩ = some (.int .u16 shares) := hq4.fr.cell (by subst hOb; rw [cell_of_row _ w.heap.size 7 _ 129 (0, 0) hbx]; rfl) nbx
  go_wp2_with fail
  refine (put16 v4 _ (shares) w4 hp4.own (by omega) (by simp [enc_length]; omega)).mono ?_
  rintro e w5 ⟨v5, rfl, hp5⟩
  have hq5 := hq4.trans hp5
  go_wp2_with fail
  refine (put8 v5 _ (kind.toNat) w5 hp5.own (by have := kind.toNat_lt; omega) (by simp [enc_length]; omega)).mono ?_
  rintro e w6 ⟨v6, rfl, hp6⟩
  have hq6 := hq5.trans hp6
  have gb6 : w6.cell? ⟨w.heap.size, 2, none⟩ = some (.int .u32 ref) := hq6.fr.cell (by subst hOb; rw [cell_of_row _ w.heap.size 2 _ 129 (0, 0) hbx]; rfl) nbx
  go_wp2_with fail
  refine (put32 v6 _ (ref) w6 hp6.own (by omega) (by simp [enc_length]; omega)).mono ?_
  rintro e w7 ⟨v7, rfl, hp7⟩
  have hq7 := hq6.trans hp7
  obtain ⟨rr, cc, rfl, -, -⟩ := hp7.own.len
  have HQ := Hid.mk hq7
  have hBn := hBa.fr hq7.fr hne
  have gs : w7.cell? ⟨b, 20, none⟩ = some c.va := by rw [hBn.cell]; exact (c.get hBn.len).2.2.2.2.2.2.2.1
  have gf := hBn.frozen 20
  clear hBn
  go_wp2_with fail
  go_end0
  refine ⟨rfl, ?_⟩
  have hfin := TellA.mk HB.out hne ((hpa.trans HQ.out).cast (l' := l ++ 65 :: enc c.time 6 ++ enc token 4 ++ [side] ++ [UInt8.ofNat stock] ++ enc price 2 ++ enc shares 2 ++ [kind] ++ enc ref 4) (by simp [enc1']))
  simpa using hfin

set_option maxHeartbeats 1000000 in
theorem tapeRests_any (b : Nat) (c : BC) (l : List UInt8) (o : PO) (w : World) (hB : IsB w b c) (htm : c.time < 18446744073709551616) (_hmt : c.mats < 4294967296) (ho : Own w 0 c.vt l) (hne : c.vt.ownBlock ≠ some b) (hl : l.length + 64 ≤ 140737488355328) (hok : o.ok) :
    Calls Try.prog 120 #[.pointer (some ⟨b, 0, none⟩), .agg o.cells] w fun e w' => e = .returned (.tuple #[]) ∧ TellT w w' b c (l ++ 97 :: enc c.time 6 ++ enc o.ref 4 ++ [o.side] ++ [UInt8.ofNat o.stock] ++ enc o.shares 2 ++ enc o.price 2) := by
  have g21 : w.cell? ⟨b, 21, none⟩ = some c.vt := by rw [hB.cell]; exact (c.get hB.len).2.2.2.2.2.2.2.2
  have g17 : w.cell? ⟨b, 17, none⟩ = some (.int .u32 c.mats) := by rw [hB.cell]; exact (c.get hB.len).2.2.2.2.1
  have HB := Hid.mk hB
  have HO := Hid.mk ho
  have hbl := hB.lt
  clear hB ho
  obtain ⟨bf, af, ref, token, side, stock, price, shares⟩ := o
  obtain ⟨k1, k2, k3, k4, k5⟩ := hok
  simp only [PO.cells] at *
  go_enter Try.func120, Try.ntmps120
  go_wp2_with fail
  generalize hOb : Obj.cells _ 129 = Ob
  have hpa := Puts.alloc HO.out Ob
  have hBa := HB.out.fr (Fr.alloc (fun _ => False) w Ob) (fun h => h)
  have hbx : (w.alloc Ob).heap[w.heap.size]? = some Ob := by rw [heap_alloc, if_pos rfl]
  have nbx : c.vt.ownBlock ≠ some w.heap.size := fun e => by have := (HO.out.lt _ e).2; omega
  refine (begin_any b c c.vt l 97 _ hBa htm hpa.own hne (by omega)).mono ?_
  rintro e w0 ⟨v0, rfl, hp0⟩
  have hq0 := hp0
  have gb0 : w0.cell? ⟨w.heap.size, 2, none⟩ = some (.int .u32 ref) := hq0.fr.cell (by subst hOb; rw [cell_of_row _ w.heap.size 2 _ 129 (0, 0) hbx]; rfl) nbx
  go_wp2_with fail
  refine (put32 v0 _ (ref) w0 hp0.own (by omega) (by simp [enc_length]; omega)).mono ?_
  rintro e w1 ⟨v1, rfl, hp1⟩
  have hq1 := hq0.trans hp1
  have gb1 : w1.cell? ⟨w.heap.size, 4, none⟩ = some (.int .u8 side.toNat) := hq1.fr.cell (by subst hOb; rw [cell_of_row _ w.heap.size 4 _ 129 (0, 0) hbx]; rfl) nbx
  go_wp2_with fail
  refine (put8 v1 _ (side.toNat) w1 hp1.own (by have := side.toNat_lt; omega) (by simp [enc_length]; omega)).mono ?_
  rintro e w2 ⟨v2, rfl, hp2⟩
  have hq2 := hq1.trans hp2
  have gb2 : w2.cell? ⟨w.heap.size, 5, none⟩ = some (.int .u8 stock) := hq2.fr.cell (by subst hOb; rw [cell_of_row _ w.heap.size 5 _ 129 (0, 0) hbx]; rfl) nbx
  go_wp2_with fail
  refine (put8 v2 _ (stock) w2 hp2.own (by omega) (by simp [enc_length]; omega)).mono ?_
  rintro e w3 ⟨v3, rfl, hp3⟩
  have hq3 := hq2.trans hp3
  have gb3 : w3.cell? ⟨w.heap.size, 7, none⟩ = some (.int .u16 shares) := hq3.fr.cell (by subst hOb; rw [cell_of_row _ w.heap.size 7 _ 129 (0, 0) hbx]; rfl) nbx
  go_wp2_with fail
  refine (put16 v3 _ (shares) w3 hp3.own (by omega) (by simp [enc_length]; omega)).mono ?_
  rintro e w4 ⟨v4, rfl, hp4⟩
  have hq4 := hq3.trans hp4
  have gb4 : w4.cell? ⟨w.heap.size, 6, none⟩ = some (.int .u16 price) := hq4.fr.cell (by subst hOb; rw [cell_of_row _ w.heap.size 6 _ 129 (0, 0) hbx]; rfl) nbx
  go_wp2_with fail
  refine (put16 v4 _ (price) w4 hp4.own (by omega) (by simp [enc_length]; omega)).mono ?_
  rintro e w5 ⟨v5, rfl, hp5⟩
  have hq5 := hq4.trans hp5
  obtain ⟨rr, cc, rfl, -, -⟩ := hp5.own.len
  have HQ := Hid.mk hq5
  have hBn := hBa.fr hq5.fr hne
  have gs : w5.cell? ⟨b, 21, none⟩ = some c.vt := by rw [hBn.cell]; exact (c.get hBn.len).2.2.2.2.2.2.2.2
  have gf := hBn.frozen 21
  clear hBn
  go_wp2_with fail
  go_end0
  refine ⟨rfl, ?_⟩
  have hfin := TellT.mk HB.out hne ((hpa.trans HQ.out).cast (l' := l ++ 97 :: enc c.time 6 ++ enc ref 4 ++ [side] ++ [UInt8.ofNat stock] ++ enc shares 2 ++ enc price 2) (by simp [enc1']))
  simpa using hfin

end Go.Proofs.Ytphkchjejbffeaa

/- The walks of field.Take and of reading messages. -/
namespace Go.Proofs.Ytphkchjejbffeaa
open Go.RowKit

theorem wrap_u64 (x : Int) (h0 : 0 ≤ x) (h1 : x < 72057594037927936) : IntKind.u64.wrap x = x := by
  rw [IntKind.wrap_u64]; omega
theorem or_byte (m : Nat) (c : UInt8) (h : m < 72057594037927936) : bits .or .u64 ((m : Int) * 256) (c.toNat : Int) = (256 * m + c.toNat : Nat) := by
  have hc := c.toNat_lt
  have := u64_or_nat (m * 256) c.toNat (by omega) (by omega)
  rw [show ((m * 256 : Nat) : Int) = (m : Int) * 256 by simp] at this
  rw [this]
  congr 1
  have h2 := Nat.two_pow_add_eq_or_of_lt (i := 8) (b := c.toNat) (by simpa using hc) m
  rw [show m * 256 = 2 ^ 8 * m by omega, ← h2]

set_option maxRecDepth 100000 in
set_option maxHeartbeats 600000 in
theorem take32 (g o cap : Nat) (l : List UInt8) (w : World) (hl : 4 ≤ l.length) (hc : l.length ≤ cap) (hc2 : cap ≤ 9223372036854775807) (h : Lies w g o l) :
    Calls Try.prog 77 #[.slice (some ⟨g, o, none⟩) l.length cap] w fun e w' => ∃ o', e = .returned (.tuple #[.int .u32 (num (l.take 4) 0 : Nat), .slice (some ⟨g, o', none⟩) (l.length - 4) (cap - 4)]) ∧ (4 < cap → o' = o + 4) ∧ ∃ n, w' = w.drewN n := by
  have i1 : (4 : Int) ≤ (l.length : Int) := by omega
  have i2 : (l.length : Int) ≤ (cap : Int) := by omega
  have i3 : (4 : Int) ≤ (cap : Int) := by omega
  have i4 : (cap : Int) ≤ 9223372036854775807 := by omega
  go_enter Try.func77, Try.ntmps77
  go_wp2_with (go_at_call 122; refine (width32 w).mono ?_; rintro e w' ⟨rfl, hw⟩; replace hw := hw.symm; subst hw)
  go_loop [5, 13] (fun v i => ∃ k : Nat, k ≤ 4 ∧ i = .int .i64 k ∧ v = .int .u64 (num (l.take k) 0 : Nat)) (fun _ i => 4 - (intOf i).toNat)
  case atStart => exact ⟨0, Nat.zero_le _, rfl, rfl⟩
  case round =>
    obtain ⟨k, hk, rfl, rfl⟩ := hrel
    by_cases hlt : k < 4
    · have hcell := h.cell k (by omega)
      have hcb := B_lt (l.getD k 0)
      have HS : Hid (num (l.take (k + 1)) 0 = 256 * num (l.take k) 0 + (l.getD k 0).toNat) := by
        show _ = _
        rw [getD_append_snoc l k (by omega), num_append]; rfl
      have hnb : num (l.take k) 0 < 16777216 := by
        have hlt' := num_lt (l.take k) 0
        have hle : (l.take k).length ≤ 3 := by rw [List.length_take]; omega
        have : 256 ^ (l.take k).length ≤ 256 ^ 3 := Nat.pow_le_pow_right (by omega) hle
        omega
      generalize l.getD k 0 = c at *
      generalize num (l.take k) 0 = m at *
      have hw1 : IntKind.u64.wrap ((m : Int) * 256) = (m : Int) * 256 := wrap_u64 _ (by omega) (by omega)
      have hw2 : IntKind.u64.wrap (c.toNat : Int) = (c.toNat : Int) := wrap_u64 _ (by omega) (by omega)
      have hor : bits .or .u64 ((m : Int) * 256) (c.toNat : Int) = (256 * m + c.toNat : Nat) := or_byte m c (by omega)
      go_wp2
      exact ⟨⟨k + 1, by omega, by go_num, by rw [HS.out]; simp⟩, by simp [intOf]; omega⟩
    · have hk4 : k = 4 := by omega
      subst hk4
      have hnb : num (l.take 4) 0 < 4294967296 := by
        have hlt' := num_lt (l.take 4) 0
        have hle : (l.take 4).length ≤ 4 := by rw [List.length_take]; omega
        have : 256 ^ (l.take 4).length ≤ 256 ^ 4 := Nat.pow_le_pow_right (by omega) hle
        omega
      generalize hN : num (l.take 4) 0 = N at *
      have HN := Hid.mk hN
      clear hN
      have hw3 : IntKind.u32.wrap (N : Int) = (N : Int) := by rw [IntKind.wrap_u32]; omega
      by_cases hcap : cap = 4
      · subst hcap
        go_wp2_with fail
        go_quiet (fail)
        go_wp2_with fail
        go_ret2
        exact ⟨o, by rw [HN.out, show l.length - 4 = 0 by omega]; rfl, fun h => by omega, _, rfl⟩
      · have hcn : (cap == 4) = false := by simpa using hcap
        go_wp2_with fail
        go_quiet (fail)
        go_wp2_with fail
        go_ret2
        exact ⟨_, by rw [HN.out]; rfl, fun _ => rfl, _, rfl⟩

set_option maxRecDepth 100000 in
set_option maxHeartbeats 600000 in
theorem take16 (g o cap : Nat) (l : List UInt8) (w : World) (hl : 2 ≤ l.length) (hc : l.length ≤ cap) (hc2 : cap ≤ 9223372036854775807) (h : Lies w g o l) :
    Calls Try.prog 79 #[.slice (some ⟨g, o, none⟩) l.length cap] w fun e w' => ∃ o', e = .returned (.tuple #[.int .u16 (num (l.take 2) 0 : Nat), .slice (some ⟨g, o', none⟩) (l.length - 2) (cap - 2)]) ∧ (2 < cap → o' = o + 2) ∧ ∃ n, w' = w.drewN n := by
  have i1 : (2 : Int) ≤ (l.length : Int) := by omega
  have i2 : (l.length : Int) ≤ (cap : Int) := by omega
  have i3 : (2 : Int) ≤ (cap : Int) := by omega
  have i4 : (cap : Int) ≤ 9223372036854775807 := by omega
  go_enter Try.func79, Try.ntmps79
  go_wp2_with (go_at_call 124; refine (width16 w).mono ?_; rintro e w' ⟨rfl, hw⟩; replace hw := hw.symm; subst hw)
  go_loop [5, 13] (fun v i => ∃ k : Nat, k ≤ 2 ∧ i = .int .i64 k ∧ v = .int .u64 (num (l.take k) 0 : Nat)) (fun _ i => 2 - (intOf i).toNat)
  case atStart => exact ⟨0, Nat.zero_le _, rfl, rfl⟩
  case round =>
    obtain ⟨k, hk, rfl, rfl⟩ := hrel
    by_cases hlt : k < 2
    · have hcell := h.cell k (by omega)
      have hcb := B_lt (l.getD k 0)
      have HS : Hid (num (l.take (k + 1)) 0 = 256 * num (l.take k) 0 + (l.getD k 0).toNat) := by
        show _ = _
        rw [getD_append_snoc l k (by omega), num_append]; rfl
      have hnb : num (l.take k) 0 < 16777216 := by
        have hlt' := num_lt (l.take k) 0
        have hle : (l.take k).length ≤ 1 := by rw [List.length_take]; omega
        have : 256 ^ (l.take k).length ≤ 256 ^ 1 := Nat.pow_le_pow_right (by omega) hle
        omega
      generalize l.getD k 0 = c at *
      generalize num (l.take k) 0 = m at *
      have hw1 : IntKind.u64.wrap ((m : Int) * 256) = (m : Int) * 256 := wrap_u64 _ (by omega) (by omega)
      have hw2 : IntKind.u64.wrap (c.toNat : Int) = (c.toNat : Int) := wrap_u64 _ (by omega) (by omega)
      have hor : bits .or .u64 ((m : Int) * 256) (c.toNat : Int) = (256 * m + c.toNat : Nat) := or_byte m c (by omega)
      go_wp2
      exact ⟨⟨k + 1, by omega, by go_num, by rw [HS.out]; simp⟩, by simp [intOf]; omega⟩
    · have hk4 : k = 2 := by omega
      subst hk4
      have hnb : num (l.take 2) 0 < 65536 := by
        have hlt' := num_lt (l.take 2) 0
        have hle : (l.take 2).length ≤ 2 := by rw [List.length_take]; omega
        have : 256 ^ (l.take 2).length ≤ 256 ^ 2 := Nat.pow_le_pow_right (by omega) hle
        omega
      generalize hN : num (l.take 2) 0 = N at *
      have HN := Hid.mk hN
      clear hN
      have hw3 : IntKind.u16.wrap (N : Int) = (N : Int) := by rw [IntKind.wrap_u16]; omega
      by_cases hcap : cap = 2
      · subst hcap
        go_wp2_with fail
        go_quiet (fail)
        go_wp2_with fail
        go_ret2
        exact ⟨o, by rw [HN.out, show l.length - 2 = 0 by omega]; rfl, fun h => by omega, _, rfl⟩
      · have hcn : (cap == 2) = false := by simpa using hcap
        go_wp2_with fail
        go_quiet (fail)
        go_wp2_with fail
        go_ret2
        exact ⟨_, by rw [HN.out]; rfl, fun _ => rfl, _, rfl⟩

set_option maxRecDepth 100000 in
set_option maxHeartbeats 600000 in
theorem take8 (g o cap : Nat) (l : List UInt8) (w : World) (hl : 1 ≤ l.length) (hc : l.length ≤ cap) (hc2 : cap ≤ 9223372036854775807) (h : Lies w g o l) :
    Calls Try.prog 78 #[.slice (some ⟨g, o, none⟩) l.length cap] w fun e w' => ∃ o', e = .returned (.tuple #[.int .u8 (num (l.take 1) 0 : Nat), .slice (some ⟨g, o', none⟩) (l.length - 1) (cap - 1)]) ∧ (1 < cap → o' = o + 1) ∧ ∃ n, w' = w.drewN n := by
  have i1 : (1 : Int) ≤ (l.length : Int) := by omega
  have i2 : (l.length : Int) ≤ (cap : Int) := by omega
  have i3 : (1 : Int) ≤ (cap : Int) := by omega
  have i4 : (cap : Int) ≤ 9223372036854775807 := by omega
  go_enter Try.func78, Try.ntmps78
  go_wp2_with (go_at_call 123; refine (width8 w).mono ?_; rintro e w' ⟨rfl, hw⟩; replace hw := hw.symm; subst hw)
  go_loop [5, 13] (fun v i => ∃ k : Nat, k ≤ 1 ∧ i = .int .i64 k ∧ v = .int .u64 (num (l.take k) 0 : Nat)) (fun _ i => 1 - (intOf i).toNat)
  case atStart => exact ⟨0, Nat.zero_le _, rfl, rfl⟩
  case round =>
    obtain ⟨k, hk, rfl, rfl⟩ := hrel
    by_cases hlt : k < 1
    · have hcell := h.cell k (by omega)
      have hcb := B_lt (l.getD k 0)
      have HS : Hid (num (l.take (k + 1)) 0 = 256 * num (l.take k) 0 + (l.getD k 0).toNat) := by
        show _ = _
        rw [getD_append_snoc l k (by omega), num_append]; rfl
      have hnb : num (l.take k) 0 < 16777216 := by
        have hlt' := num_lt (l.take k) 0
        have hle : (l.take k).length ≤ 0 := by rw [List.length_take]; omega
        have : 256 ^ (l.take k).length ≤ 256 ^ 0 := Nat.pow_le_pow_right (by omega) hle
        omega
      generalize l.getD k 0 = c at *
      generalize num (l.take k) 0 = m at *
      have hw1 : IntKind.u64.wrap ((m : Int) * 256) = (m : Int) * 256 := wrap_u64 _ (by omega) (by omega)
      have hw2 : IntKind.u64.wrap (c.toNat : Int) = (c.toNat : Int) := wrap_u64 _ (by omega) (by omega)
      have hor : bits .or .u64 ((m : Int) * 256) (c.toNat : Int) = (256 * m + c.toNat : Nat) := or_byte m c (by omega)
      go_wp2
      exact ⟨⟨k + 1, by omega, by go_num, by rw [HS.out]; simp⟩, by simp [intOf]; omega⟩
    · have hk4 : k = 1 := by omega
      subst hk4
      have hnb : num (l.take 1) 0 < 256 := by
        have hlt' := num_lt (l.take 1) 0
        have hle : (l.take 1).length ≤ 1 := by rw [List.length_take]; omega
        have : 256 ^ (l.take 1).length ≤ 256 ^ 1 := Nat.pow_le_pow_right (by omega) hle
        omega
      generalize hN : num (l.take 1) 0 = N at *
      have HN := Hid.mk hN
      clear hN
      have hw3 : IntKind.u8.wrap (N : Int) = (N : Int) := by rw [IntKind.wrap_u8]; omega
      by_cases hcap : cap = 1
      · subst hcap
        go_wp2_with fail
        go_quiet (fail)
        go_wp2_with fail
        go_ret2
        exact ⟨o, by rw [HN.out, show l.length - 1 = 0 by omega]; rfl, fun h => by omega, _, rfl⟩
      · have hcn : (cap == 1) = false := by simpa using hcap
        go_wp2_with fail
        go_quiet (fail)
        go_wp2_with fail
        go_ret2
        exact ⟨_, by rw [HN.out]; rfl, fun _ => rfl, _, rfl⟩

end Go.Proofs.Ytphkchjejbffeaa

/- The walks of reading messages. -/
namespace Go.Proofs.Ytphkchjejbffeaa
open Go.RowKit

theorem setCell_drewN (w : World) (n : Nat) (a : Addr) (v : Value) : (w.drewN n).setCell a v = (w.setCell a v).drewN n := rfl
theorem drewN_drewN (w : World) (n m : Nat) : (w.drewN n).drewN m = w.drewN (n + m) := by
  unfold World.drewN; simp [Nat.add_assoc]
theorem lies_two {w : World} {g o : Nat} {l : List UInt8} (h : Lies w g o l) (hg : g < w.heap.size) (A B : Obj) (n : Nat) : Lies (((w.alloc A).alloc B).drewN n) g o l :=
  h.keep (by show ((w.alloc A).alloc B).heap[g]? = _; rw [heap_alloc, if_neg (by rw [size_alloc]; omega), heap_alloc, if_neg (by omega)])
attribute [local go_sem] setCell_drewN drewN_drewN

theorem take32n (g o n cap : Nat) (l : List UInt8) (w : World) (hn : l.length = n) (hl : 4 ≤ n) (hc : n ≤ cap) (hc2 : cap ≤ 9223372036854775807) (h : Lies w g o l) :
    Calls Try.prog 77 #[.slice (some ⟨g, o, none⟩) n cap] w fun e w' => ∃ o', e = .returned (.tuple #[.int .u32 (num (l.take 4) 0 : Nat), .slice (some ⟨g, o', none⟩) (n - 4) (cap - 4)]) ∧ (4 < cap → o' = o + 4) ∧ ∃ n, w' = w.drewN n := by
  subst hn; exact take32 g o cap l w hl hc hc2 h
theorem take16n (g o n cap : Nat) (l : List UInt8) (w : World) (hn : l.length = n) (hl : 2 ≤ n) (hc : n ≤ cap) (hc2 : cap ≤ 9223372036854775807) (h : Lies w g o l) :
    Calls Try.prog 79 #[.slice (some ⟨g, o, none⟩) n cap] w fun e w' => ∃ o', e = .returned (.tuple #[.int .u16 (num (l.take 2) 0 : Nat), .slice (some ⟨g, o', none⟩) (n - 2) (cap - 2)]) ∧ (2 < cap → o' = o + 2) ∧ ∃ n, w' = w.drewN n := by
  subst hn; exact take16 g o cap l w hl hc hc2 h
theorem take8n (g o n cap : Nat) (l : List UInt8) (w : World) (hn : l.length = n) (hl : 1 ≤ n) (hc : n ≤ cap) (hc2 : cap ≤ 9223372036854775807) (h : Lies w g o l) :
    Calls Try.prog 78 #[.slice (some ⟨g, o, none⟩) n cap] w fun e w' => ∃ o', e = .returned (.tuple #[.int .u8 (num (l.take 1) 0 : Nat), .slice (some ⟨g, o', none⟩) (n - 1) (cap - 1)]) ∧ (1 < cap → o' = o + 1) ∧ ∃ n, w' = w.drewN n := by
  subst hn; exact take8 g o cap l w hl hc hc2 h

set_option maxHeartbeats 1000000 in
theorem readEnter_any (g o : Nat) (l : List UInt8) (w : World) (hl : l.length = 11) (h : Lies w g o l) (hg : g < w.heap.size) :
    Calls Try.prog 51 #[.slice (some ⟨g, o, none⟩) 11 12] w fun e w' =>
      e = .returned (.agg #[.int .u32 (num (l.take 4) 0 : Nat), .int .u8 (num ((l.drop 4).take 1) 0 : Nat), .int .u8 (num ((l.drop 5).take 1) 0 : Nat), .int .u16 (num ((l.drop 6).take 2) 0 : Nat), .int .u16 (num ((l.drop 8).take 2) 0 : Nat), .int .u8 (num ((l.drop 10).take 1) 0 : Nat)]) ∧ Below w.heap.size w w' := by
  go_enter Try.func51, Try.ntmps51
  go_wp2_with fail
  refine (take32n g o 11 12 l _ hl (by decide) (by decide) (by decide) (lies_two h hg _ _ 0)).mono ?_
  rintro e w1 ⟨o1, rfl, ho1, q1, rfl⟩
  obtain rfl := ho1 (by decide)
  clear ho1
  go_wp2_with fail
  refine (take8n g (o + 4) 7 8 (l.drop 4) _ (by rw [List.length_drop, hl]) (by decide) (by decide) (by decide) (lies_two (h.drop 4) hg _ _ _)).mono ?_
  rintro e w2 ⟨o2, rfl, ho2, q2, rfl⟩
  obtain rfl := ho2 (by decide)
  clear ho2
  go_wp2_with fail
  refine (take8n g (o + 5) 6 7 (l.drop 5) _ (by rw [List.length_drop, hl]) (by decide) (by decide) (by decide) (lies_two (h.drop 5) hg _ _ _)).mono ?_
  rintro e w3 ⟨o3, rfl, ho3, q3, rfl⟩
  obtain rfl := ho3 (by decide)
  clear ho3
  go_wp2_with fail
  refine (take16n g (o + 6) 5 6 (l.drop 6) _ (by rw [List.length_drop, hl]) (by decide) (by decide) (by decide) (lies_two (h.drop 6) hg _ _ _)).mono ?_
  rintro e w4 ⟨o4, rfl, ho4, q4, rfl⟩
  obtain rfl := ho4 (by decide)
  clear ho4
  go_wp2_with fail
  refine (take16n g (o + 8) 3 4 (l.drop 8) _ (by rw [List.length_drop, hl]) (by decide) (by decide) (by decide) (lies_two (h.drop 8) hg _ _ _)).mono ?_
  rintro e w5 ⟨o5, rfl, ho5, q5, rfl⟩
  obtain rfl := ho5 (by decide)
  clear ho5
  go_wp2_with fail
  refine (take8n g (o + 10) 1 2 (l.drop 10) _ (by rw [List.length_drop, hl]) (by decide) (by decide) (by decide) (lies_two (h.drop 10) hg _ _ _)).mono ?_
  rintro e w6 ⟨o6, rfl, ho6, q6, rfl⟩
  clear ho6
  go_wp2_with fail
  exact bodyPost_ret (v := .agg #[.int .u32 (num (l.take 4) 0 : Nat), .int .u8 (num ((l.drop 4).take 1) 0 : Nat), .int .u8 (num ((l.drop 5).take 1) 0 : Nat), .int .u16 (num ((l.drop 6).take 2) 0 : Nat), .int .u16 (num ((l.drop 8).take 2) 0 : Nat), .int .u8 (num ((l.drop 10).take 1) 0 : Nat)]) (by simp [results, Try.results51, go_sem]) rfl ⟨rfl, below_drewN (Below.alloc ((Below.refl _ _).alloc (Nat.le_refl _) _) (by rw [size_alloc]; omega) _) _⟩

set_option maxHeartbeats 1000000 in
theorem readCancel_any (g o : Nat) (l : List UInt8) (w : World) (hl : l.length = 6) (h : Lies w g o l) (hg : g < w.heap.size) :
    Calls Try.prog 55 #[.slice (some ⟨g, o, none⟩) 6 12] w fun e w' =>
      e = .returned (.agg #[.int .u32 (num (l.take 4) 0 : Nat), .int .u16 (num ((l.drop 4).take 2) 0 : Nat)]) ∧ Below w.heap.size w w' := by
  go_enter Try.func55, Try.ntmps55
  go_wp2_with fail
  refine (take32n g o 6 12 l _ hl (by decide) (by decide) (by decide) (lies_two h hg _ _ 0)).mono ?_
  rintro e w1 ⟨o1, rfl, ho1, q1, rfl⟩
  obtain rfl := ho1 (by decide)
  clear ho1
  go_wp2_with fail
  refine (take16n g (o + 4) 2 8 (l.drop 4) _ (by rw [List.length_drop, hl]) (by decide) (by decide) (by decide) (lies_two (h.drop 4) hg _ _ _)).mono ?_
  rintro e w2 ⟨o2, rfl, ho2, q2, rfl⟩
  clear ho2
  go_wp2_with fail
  exact bodyPost_ret (v := .agg #[.int .u32 (num (l.take 4) 0 : Nat), .int .u16 (num ((l.drop 4).take 2) 0 : Nat)]) (by simp [results, Try.results55, go_sem]) rfl ⟨rfl, below_drewN (Below.alloc ((Below.refl _ _).alloc (Nat.le_refl _) _) (by rw [size_alloc]; omega) _) _⟩

end Go.Proofs.Ytphkchjejbffeaa

/- The walks of gathering messages. -/
namespace Go.Proofs.Ytphkchjejbffeaa
open Go.RowKit

set_option maxHeartbeats 400000 in
theorem messageBytes_any (t : UInt8) (w : World) : Calls Try.prog 49 #[.int .u8 t.toNat] w fun e w' => e = .returned (.int .i64 (sizeOf t : Nat)) ∧ w' = w := by
  have ne : ∀ u : UInt8, t ≠ u → (((t.toNat : Int)) == (u.toNat : Int)) = false := by
    intro u hu
    rw [beq_eq_false_iff_ne]
    intro e
    exact hu (UInt8.toNat_inj.1 (by omega))
  by_cases h1 : t = 69
  · subst h1
    go_enter Try.func49, Try.ntmps49
    go_wp2
    go_ret
    exact ⟨rfl, rfl⟩
  · by_cases h2 : t = 82
    · subst h2
      go_enter Try.func49, Try.ntmps49
      go_wp2
      go_ret
      exact ⟨rfl, rfl⟩
    · by_cases h3 : t = 67
      · subst h3
        go_enter Try.func49, Try.ntmps49
        go_wp2
        go_ret
        exact ⟨rfl, rfl⟩
      · have e1 : (((t.toNat : Int)) == 69) = false := ne 69 h1
        have e2 : (((t.toNat : Int)) == 82) = false := ne 82 h2
        have e3 : (((t.toNat : Int)) == 67) = false := ne 67 h3
        have HS : Hid (sizeOf t = 1) := by
          show _ = _
          unfold sizeOf
          rw [if_neg h1, if_neg h2, if_neg h3]
        clear ne h1 h2 h3
        go_enter Try.func49, Try.ntmps49
        go_wp2
        go_ret
        exact ⟨by rw [HS.out]; rfl, rfl⟩

theorem size_pos (t : UInt8) : 1 ≤ sizeOf t ∧ sizeOf t ≤ 13 := by
  unfold sizeOf
  repeat' split
  all_goals omega

theorem Try.size5 : (Try.prog.info? 5).map (·.size) = some 1 := by kernel_rfl

/-- What a copy into block g leaves. -/
theorem wp_copy_mid {w : World} {o : Oper} {a : Go.Act} {K : Go.Act → World → Prop} {Q : Exit → Go.Act → World → Prop} (d s : Operand)
    (ho : o.op = .call { callee := .builtin .copy, args := #[d, s], argTypes := #[28, 28] })
    (g off dLen dCap : Nat) (vs : Value) (l : List UInt8) (F : Nat → Prop) (hd : a.eval d = .slice (some ⟨g, off, none⟩) dLen dCap) (hs : a.eval s = vs) (hrd : Rd w F vs l)
    (cur : List Value) (t : TypeId) (hg : w.heap[g]? = some (.cells cur.toArray t (0, 0))) (hfit : off + min l.length dLen ≤ cur.length)
    (h : ∀ w', Hid (w'.heap[g]? = some (.cells (splice cur off ((l.take (min l.length dLen)).map B)).toArray t (0, 0))) → Hid (Fr (fun k => k = g) w w') → K (a.put o.dst (.int .i64 (min l.length dLen : Nat))) w') :
    o.wp Try.prog a w K Q := by
  have hlen : ((l.take (min l.length dLen)).map B).length = min l.length dLen := by rw [List.length_map, List.length_take]; omega
  obtain ⟨sp, sCap, hvs⟩ : ∃ sp sCap, vs = .slice sp l.length sCap := by
    rcases hrd with ⟨rfl, rfl⟩ | ⟨g', o', cap, rfl, -⟩
    · exact ⟨none, 0, rfl⟩
    · exact ⟨_, _, rfl⟩
  by_cases h0 : min l.length dLen = 0
  · have hrun := run_copy_none (P := Try.prog) w 28 28 o.type 5 (some ⟨g, off, none⟩) sp dLen dCap l.length sCap Try.underlying28 Try.size5 h0
    have hk := h w (by show _ = _; rw [h0]; simpa [splice] using hg) (Fr.refl _ _)
    rw [h0] at hk
    unfold Oper.wp
    simp only [execOp, ho, resolve, invoke, builtin, Sem.run_bind, Sem.run_pure, Result.andThen_ok, List.map_toArray, List.map_cons, List.map_nil, hd, hs, hvs, hrun]
    exact hk
  · rcases hrd with ⟨rfl, rfl⟩ | ⟨g', o', cap, rfl, hl, -⟩
    · simp at h0
    · have hsrc : ∀ (j : Nat) (u : Value), ((l.take (min l.length dLen)).map B)[j]? = some u → w.cell? ((⟨g', o', none⟩ : Addr).add j) = some u := by
        intro j u hu
        rw [List.getElem?_map, Option.map_eq_some_iff] at hu
        obtain ⟨c, hc, rfl⟩ := hu
        rw [Addr.add_lit]
        exact (hl.take _) j c hc
      have hone : ∀ u ∈ (l.take (min l.length dLen)).map B, u.oneCell' = true := by
        intro u hu
        obtain ⟨c, _, rfl⟩ := List.mem_map.1 hu
        rfl
      generalize (l.take (min l.length dLen)).map B = cs at *
      have hrun := run_copy_row (P := Try.prog) w 28 28 o.type 5 g off dLen dCap ⟨g', o', none⟩ l.length cap cur.toArray t cs Try.underlying28 Try.size5 hg hlen hsrc (by rw [hlen]; simpa using hfit) hone
      unfold Oper.wp
      simp only [execOp, ho, resolve, invoke, builtin, Sem.run_bind, Sem.run_pure, Result.andThen_ok, List.map_toArray, List.map_cons, List.map_nil, hd, hs, hrun, hlen]
      refine h _ ?_ ?_
      · show _ = _
        rw [setRow_heap w g _ _ t _ hg]
        simp [splice, hlen]
      · exact ⟨rfl, rfl, rfl, by simp [World.setRow], fun k _ hk => setRow_other w g k _ hk⟩

theorem wpList_copy_mid {w : World} {ops : Array Oper} {rest : List Oper} {o : Oper} {a : Go.Act} {Q : Exit → Go.Act → World → Prop} (hgd : o.guard = none) (d s : Operand)
    (ho : o.op = .call { callee := .builtin .copy, args := #[d, s], argTypes := #[28, 28] })
    (g off dLen dCap : Nat) (vs : Value) (l : List UInt8) (F : Nat → Prop) (hd : a.eval d = .slice (some ⟨g, off, none⟩) dLen dCap) (hs : a.eval s = vs) (hrd : Rd w F vs l)
    (cur : List Value) (t : TypeId) (hg : w.heap[g]? = some (.cells cur.toArray t (0, 0))) (hfit : off + min l.length dLen ≤ cur.length)
    (h : ∀ w', Hid (w'.heap[g]? = some (.cells (splice cur off ((l.take (min l.length dLen)).map B)).toArray t (0, 0))) → Hid (Fr (fun k => k = g) w w') → wpList Try.prog ops Q rest (a.put o.dst (.int .i64 (min l.length dLen : Nat))) w') :
    wpList Try.prog ops Q (o :: rest) a w :=
  wpList_plain hgd fun _ hK => wp_copy_mid d s ho g off dLen dCap vs l F hd hs hrd cur t hg hfit fun w' h1 h2 => hK _ _ (h w' h1 h2)

theorem step_copy_mid {w : World} {ops : Array Oper} {o : Oper} {a : Go.Act} {K : Go.Act → World → Prop} {Q : Exit → Go.Act → World → Prop} {E : Prop} (hgd : o.guard = none) (d s : Operand)
    (ho : o.op = .call { callee := .builtin .copy, args := #[d, s], argTypes := #[28, 28] })
    (g off dLen dCap : Nat) (vs : Value) (l : List UInt8) (F : Nat → Prop) (hd : a.eval d = .slice (some ⟨g, off, none⟩) dLen dCap) (hs : a.eval s = vs) (hrd : Rd w F vs l)
    (cur : List Value) (t : TypeId) (hg : w.heap[g]? = some (.cells cur.toArray t (0, 0))) (hfit : off + min l.length dLen ≤ cur.length)
    (h : ∀ w', Hid (w'.heap[g]? = some (.cells (splice cur off ((l.take (min l.length dLen)).map B)).toArray t (0, 0))) → Hid (Fr (fun k => k = g) w w') → K (a.put o.dst (.int .i64 (min l.length dLen : Nat))) w') :
    if Region.wanted o (yielded ops a.tmps) = true then Oper.wp Try.prog o a w K Q else E := by
  have hw : Region.wanted o (yielded ops a.tmps) = true := by simp [Region.wanted, hgd]
  rw [if_pos hw]
  exact wp_copy_mid d s ho g off dLen dCap vs l F hd hs hrd cur t hg hfit h

end Go.Proofs.Ytphkchjejbffeaa
