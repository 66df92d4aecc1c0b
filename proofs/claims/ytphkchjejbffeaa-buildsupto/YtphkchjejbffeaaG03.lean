/- The walk of boursekeep's row: bytes, one behind the other. -/
import Derived.Test.YtphkchjejbffeaaG02
import Derived.Test.YtphkchjejbffeaaProg
import Derived.Deep.RegionHeld3
import Derived.Deep.DrawnRows
import Derived.Maps.AppendAt
import Derived.Laws.AppendOwnNone
namespace Go.Proofs.Ytphkchjejbffeaa
open Go.RowKit

/-- A list of bytes that lies in memory: its block, its offset, its capacity, its bytes. -/
structure Piece where
  b : Nat
  o : Nat
  cap : Nat
  l : List UInt8

def Piece.val (p : Piece) : Value := .slice (some ⟨p.b, p.o, none⟩) p.l.length p.cap
def cat (ps : List Piece) : List UInt8 := (ps.map (·.l)).flatten
theorem cat_snoc (ps : List Piece) (k : Nat) (p : Piece) (h : ps[k]? = some p) : cat (ps.take (k + 1)) = cat (ps.take k) ++ p.l := by
  have hk : k < ps.length := by
    rcases Nat.lt_or_ge k ps.length with h' | h'
    · exact h'
    · rw [List.getElem?_eq_none h'] at h; cases h
  rw [List.take_succ_eq_append_getElem hk]
  rw [List.getElem?_eq_getElem hk] at h
  cases h
  simp only [cat, List.map_append, List.flatten_append, List.map_cons, List.map_nil, List.flatten_cons, List.flatten_nil, List.append_nil]
theorem cat_le (ps : List Piece) (k : Nat) : (cat (ps.take k)).length ≤ (cat ps).length := by
  induction ps generalizing k with
  | nil => simp [cat]
  | cons p ps ih =>
    cases k with
    | zero => simp [cat]
    | succ k =>
      have := ih k
      simp only [cat, List.take_succ_cons, List.map_cons, List.flatten_cons, List.length_append] at *
      omega

set_option maxHeartbeats 400000 in
theorem row_any (bl : Nat) (ps : List Piece) (w : World)
    (hc : ∀ (i : Nat) (p : Piece), ps[i]? = some p → w.cell? ⟨bl, i, none⟩ = some p.val) (hbl : bl < w.heap.size)
    (hp : ∀ (i : Nat) (p : Piece), ps[i]? = some p → Lies w p.b p.o p.l ∧ p.b < w.heap.size)
    (hn : ps.length ≤ 1000) (ht : (cat ps).length ≤ 1000000) :
    Calls Try.prog 13 #[.slice (some ⟨bl, 0, none⟩) ps.length ps.length] w fun e w' => ∃ v, e = .returned v ∧ Own w' w.heap.size v (cat ps) ∧ Below w.heap.size w w' := by
  obtain ⟨i0, hi, hz0, hz1, hz2⟩ := info_parts Try.info5
  go_enter Try.func13, Try.ntmps13
  go_wp2
  go_loopw [3, 4] (fun v i wr => ∃ k : Nat, k ≤ ps.length ∧ i = .int .i64 k ∧ wr.ownsRow w.heap.size 5 1 v (cat (ps.take k)).length ((cat (ps.take k)).map B) ∧ Below w.heap.size w wr) (fun _ i _ => ps.length - (intOf i).toNat)
  case atStart => exact ⟨0, by omega, rfl, World.ownsRow_nil _ _ _ _, Below.refl _ _⟩
  case round =>
    obtain ⟨k, hk, rfl, hown, hbe⟩ := hrel
    by_cases hlt : k < ps.length
    · obtain ⟨p, hpk⟩ : ∃ p, ps[k]? = some p := ⟨_, List.getElem?_eq_getElem hlt⟩
      have hcell : wr.cell? ⟨bl, k, none⟩ = some (.slice (some ⟨p.b, p.o, none⟩) p.l.length p.cap) := (hbe.cell (p := ⟨bl, k, none⟩) hbl).trans (hc k p hpk)
      have HS : Hid (cat (ps.take (k + 1)) = cat (ps.take k) ++ p.l) := cat_snoc ps k p hpk
      have hle := cat_le ps (k + 1)
      rw [HS.out, List.length_append] at hle
      obtain ⟨hli, hpb⟩ := hp k p hpk
      have hnews : ∀ j u, (p.l.map B)[j]? = some u → wr.cell? ((⟨p.b, p.o, none⟩ : Addr).add j) = some u := by
        intro j u hu
        rw [List.getElem?_map, Option.map_eq_some_iff] at hu
        obtain ⟨c, hc', rfl⟩ := hu
        rw [Addr.add_lit, hbe.cell (p := ⟨p.b, p.o + j, none⟩) hpb]
        exact hli j c hc'
      clear hc hp
      have hsz := hbe.size
      go_wp2_with (first
        | (at_builtin; refine wpList_append_own _ rfl _ _ 28 rfl w.heap.size 5 i0 (.int .u8 0) 1 1 Try.underlying28 hi hz0 hz1 hz2 rfl (by decide) _ _ _ rfl hown ⟨p.b, p.o, none⟩ p.l.length p.cap (p.l.map B) rfl (by simp) hnews (fun x hx => by simp at hx; obtain ⟨c, _, rfl⟩ := hx; rfl) (by unfold maxLen; omega) (by omega) hsz ?_; intro v' w3 hown' hgrow3 hnil3))
      go_roundw
      case rel => exact ⟨k + 1, by omega, by go_num, by rw [HS.out, List.length_append, List.map_append]; exact hown', hbe.grown hgrow3 hsz (fun g hg => (hown.lt g hg).1)⟩
      case measure => simp [intOf]; omega
    · go_wp2
      go_ret
      exact ⟨_, rfl, by rw [List.take_of_length_le (by omega)] at hown; exact hown, hbe⟩

/-- The same, of blocks that are known whole. -/
theorem row_lit (bl : Nat) (ps : List Piece) (T : TypeId) (w : World) (n : Nat) (hn' : ps.length = n)
    (hbl : w.heap[bl]? = some (.cells (ps.map Piece.val).toArray T))
    (hp : ∀ p ∈ ps, p.o = 0 ∧ w.heap[p.b]? = some (.cells (p.l.map B).toArray 5))
    (hn : n ≤ 1000) (ht : (cat ps).length ≤ 1000000) :
    Calls Try.prog 13 #[.slice (some ⟨bl, 0, none⟩) n n] w fun e w' => ∃ v, e = .returned v ∧ Own w' w.heap.size v (cat ps) ∧ Below w.heap.size w w' := by
  subst hn'
  refine row_any bl ps w ?_ ?_ ?_ hn ht
  · intro i p h
    rw [cell_of_row w bl i _ T (0, 0) hbl]
    simp [h]
  · exact (Array.getElem?_eq_some_iff.1 hbl).1
  · intro i p h
    obtain ⟨h1, h2⟩ := hp p (List.mem_of_getElem? h)
    refine ⟨?_, (Array.getElem?_eq_some_iff.1 h2).1⟩
    intro j c hc
    rw [h1, Nat.zero_add, cell_of_row w p.b j _ 5 (0, 0) h2]
    simp [hc]

end Go.Proofs.Ytphkchjejbffeaa

/- The walk of boursekeep's Act.message: the bytes of an act. -/
namespace Go.Proofs.Ytphkchjejbffeaa
open Go.RowKit

structure Act where
  kind : Int
  token : Int
  other : Int
  side : Int
  stock : Int
  price : Int
  shares : Int

def I64 (x : Int) : Prop := -9223372036854775808 ≤ x ∧ x ≤ 9223372036854775807
structure Act.ok (a : Act) : Prop where
  kind : I64 a.kind
  token : I64 a.token
  other : I64 a.other
  side : I64 a.side
  stock : I64 a.stock
  price : I64 a.price
  shares : I64 a.shares
def Act.cells (a : Act) : Array Value := #[.int .i64 a.kind, .int .i64 a.token, .int .i64 a.other, .int .i64 a.side, .int .i64 a.stock, .int .i64 a.price, .int .i64 a.shares]

def sideOf (n : Nat) : UInt8 := if n = 0 then 66 else 83
def kindOf (n : Nat) : UInt8 := if n = 3 then 73 else 68

def Act.message (a : Act) : List UInt8 :=
  if pick a.kind 11 < 6 then
    [69] ++ enc (pick a.token 40) 4 ++ [sideOf (pick a.side 2), UInt8.ofNat (pick a.stock 4)] ++ enc (pick a.price 12) 2 ++ enc (pick a.shares 60) 2 ++ [kindOf (pick a.other 4)]
  else if pick a.kind 11 < 8 then [67] ++ enc (pick a.token 40) 4 ++ enc (pick a.shares 60) 2
  else [82] ++ enc (pick a.token 40) 4 ++ enc (pick a.other 40) 4 ++ enc (pick a.price 12) 2 ++ enc (pick a.shares 60) 2

theorem side_get (n : Nat) (h : n < (ByteArray.mk #[66, 83]).size) : (ByteArray.mk #[66, 83])[n] = sideOf n := by
  match n, h with
  | 0, _ => rfl
  | 1, _ => rfl
theorem kind_get (n : Nat) (h : n < (ByteArray.mk #[68, 68, 68, 73]).size) : (ByteArray.mk #[68, 68, 68, 73])[n] = kindOf n := by
  match n, h with
  | 0, _ => rfl
  | 1, _ => rfl
  | 2, _ => rfl
  | 3, _ => rfl

set_option maxHeartbeats 1000000 in
theorem message_any (a : Act) (w : World) (ha : a.ok) :
    Calls Try.prog 21 #[.agg a.cells] w fun e w' => ∃ v, e = .returned v ∧ Own w' w.heap.size v a.message ∧ Below w.heap.size w w' := by
  generalize hM : a.message = M
  obtain ⟨kind, token, other, side, stock, price, shares⟩ := a
  obtain ⟨⟨k1, k2⟩, ⟨t1, t2⟩, ⟨o1, o2⟩, ⟨s1, s2⟩, ⟨c1, c2⟩, ⟨p1, p2⟩, ⟨q1, q2⟩⟩ := ha
  simp only [Act.cells, Act.message] at *
  have b1 := pick_lt token 40 (by omega)
  have b2 := pick_lt price 12 (by omega)
  have b3 := pick_lt shares 60 (by omega)
  have b4 := pick_lt kind 11 (by omega)
  by_cases hk : pick kind 11 < 6
  · have b5 := pick_lt side 2 (by omega)
    have b6 := pick_lt other 4 (by omega)
    have b7 := pick_lt stock 4 (by omega)
    rw [if_pos hk] at hM
    have HM := Hid.mk hM
    clear hM
    go_enter Try.func21, Try.ntmps21
    go_wp2_with (first
      | (go_at_call 11; refine (pick_any _ _ _ (by assumption) (by assumption) (by decide) (by decide)).mono ?_; rintro e w' ⟨rfl, rfl⟩)
      | (go_at_call 14; refine (num_any _ _ _ (by omega) (by omega) (by decide) (by decide)).mono ?_; rintro e w' ⟨rfl, rfl⟩))
    refine (row_lit _ [⟨w.heap.size + 4, 0, 1, [69]⟩, ⟨w.heap.size + 1, 0, 4, enc (pick token 40) 4⟩, ⟨w.heap.size + 5, 0, 2, [sideOf (pick side 2), UInt8.ofNat (pick stock 4)]⟩, ⟨w.heap.size + 2, 0, 2, enc (pick price 12) 2⟩, ⟨w.heap.size + 3, 0, 2, enc (pick shares 60) 2⟩, ⟨w.heap.size + 6, 0, 1, [kindOf (pick other 4)]⟩] 28 _ 6 rfl ?_ ?_ (by decide) ?_).mono ?_
    · rw [heap_alloc, if_pos (by simp only [size_alloc])]
      simp [Piece.val, enc_length]
    · simp [heap_alloc, B, side_get, kind_get]
      omega
    · simp [cat, enc_length]
    · rintro e w' ⟨v, rfl, ho, hb⟩
      go_wp2
      go_ret
      refine ⟨v, rfl, (ho.base (by simp only [size_alloc]; omega)).cast ?_, ?_⟩
      · rw [← HM.out]; simp [cat]
      · refine Below.trans ?_ (hb.mono (by simp only [size_alloc]; omega))
        repeat refine Below.alloc ?_ (by first | exact Nat.le_refl _ | (simp only [size_alloc]; omega)) _
        exact Below.refl _ _
  · rw [if_neg hk] at hM
    by_cases hk2 : pick kind 11 < 8
    · rw [if_pos hk2] at hM
      have HM := Hid.mk hM
      clear hM
      go_enter Try.func21, Try.ntmps21
      go_wp2_with (first
        | (go_at_call 11; refine (pick_any _ _ _ (by assumption) (by assumption) (by decide) (by decide)).mono ?_; rintro e w' ⟨rfl, rfl⟩)
        | (go_at_call 14; refine (num_any _ _ _ (by omega) (by omega) (by decide) (by decide)).mono ?_; rintro e w' ⟨rfl, rfl⟩))
      refine (row_lit _ [⟨w.heap.size + 4, 0, 1, [67]⟩, ⟨w.heap.size + 1, 0, 4, enc (pick token 40) 4⟩, ⟨w.heap.size + 3, 0, 2, enc (pick shares 60) 2⟩] 28 _ 3 rfl ?_ ?_ (by decide) ?_).mono ?_
      · rw [heap_alloc, if_pos (by simp only [size_alloc])]
        simp [Piece.val, enc_length]
      · simp [heap_alloc, B]
      · simp [cat, enc_length]
      · rintro e w' ⟨v, rfl, ho, hb⟩
        go_wp2
        go_ret
        refine ⟨v, rfl, (ho.base (by simp only [size_alloc]; omega)).cast ?_, ?_⟩
        · rw [← HM.out]; simp [cat]
        · refine Below.trans ?_ (hb.mono (by simp only [size_alloc]; omega))
          repeat refine Below.alloc ?_ (by first | exact Nat.le_refl _ | (simp only [size_alloc]; omega)) _
          exact Below.refl _ _
    · rw [if_neg hk2] at hM
      have HM := Hid.mk hM
      have b5 := pick_lt other 40 (by omega)
      clear hM
      go_enter Try.func21, Try.ntmps21
      go_wp2_with (first
        | (go_at_call 11; refine (pick_any _ _ _ (by assumption) (by assumption) (by decide) (by decide)).mono ?_; rintro e w' ⟨rfl, rfl⟩)
        | (go_at_call 14; refine (num_any _ _ _ (by omega) (by omega) (by decide) (by decide)).mono ?_; rintro e w' ⟨rfl, rfl⟩))
      refine (row_lit _ [⟨w.heap.size + 4, 0, 1, [82]⟩, ⟨w.heap.size + 1, 0, 4, enc (pick token 40) 4⟩, ⟨w.heap.size + 5, 0, 4, enc (pick other 40) 4⟩, ⟨w.heap.size + 2, 0, 2, enc (pick price 12) 2⟩, ⟨w.heap.size + 3, 0, 2, enc (pick shares 60) 2⟩] 28 _ 5 rfl ?_ ?_ (by decide) ?_).mono ?_
      · rw [heap_alloc, if_pos (by simp only [size_alloc])]
        simp [Piece.val, enc_length]
      · simp [heap_alloc, B]
      · simp [cat, enc_length]
      · rintro e w' ⟨v, rfl, ho, hb⟩
        go_wp2
        go_ret
        refine ⟨v, rfl, (ho.base (by simp only [size_alloc]; omega)).cast ?_, ?_⟩
        · rw [← HM.out]; simp [cat]
        · refine Below.trans ?_ (hb.mono (by simp only [size_alloc]; omega))
          repeat refine Below.alloc ?_ (by first | exact Nat.le_refl _ | (simp only [size_alloc]; omega)) _
          exact Below.refl _ _

end Go.Proofs.Ytphkchjejbffeaa

/- What the calls of package bourse do, said of memory; and what holds of memory beside them. Laws lean on this alone. -/
namespace Go.Proofs.Ytphkchjejbffeaa
open Go.RowKit

/-- Of what was there, only blocks of F may have turned. -/
structure Fr (F : Nat → Prop) (w w' : World) : Prop where
  os : w'.os = w.os
  tape : w'.tape = w.tape
  output : w'.output = w.output
  size : w.heap.size ≤ w'.heap.size
  block : ∀ k, k < w.heap.size → ¬ F k → w'.heap[k]? = w.heap[k]?

theorem Fr.refl (F : Nat → Prop) (w : World) : Fr F w w := ⟨rfl, rfl, rfl, Nat.le_refl _, fun _ _ _ => rfl⟩
theorem Fr.trans {F G : Nat → Prop} {a b c : World} (h : Fr F a b) (k : Fr G b c) (hg : ∀ i, i < a.heap.size → G i → F i) : Fr F a c :=
  ⟨k.os.trans h.os, k.tape.trans h.tape, k.output.trans h.output, Nat.le_trans h.size k.size,
   fun i hi hf => (k.block i (Nat.lt_of_lt_of_le hi h.size) (fun g => hf (hg i hi g))).trans (h.block i hi hf)⟩
theorem Fr.mono {F G : Nat → Prop} {a b : World} (h : Fr F a b) (hg : ∀ i, i < a.heap.size → F i → G i) : Fr G a b :=
  ⟨h.os, h.tape, h.output, h.size, fun i hi hf => h.block i hi (fun g => hf (hg i hi g))⟩
theorem Fr.of_below {w w' : World} (h : Below w.heap.size w w') (F : Nat → Prop) : Fr F w w' :=
  ⟨h.os, h.tape, h.output, h.size, fun i hi _ => h.block i hi⟩
theorem Fr.below {F : Nat → Prop} {w w' : World} {n : Nat} (h : Fr F w w') (hn : n ≤ w.heap.size) (hF : ∀ k, F k → n ≤ k) : Below n w w' :=
  ⟨h.os, h.tape, h.output, h.size, fun i hi => h.block i (Nat.lt_of_lt_of_le hi hn) (fun f => by have := hF i f; omega)⟩
theorem Fr.of_grown {w w' : World} {r : Option Nat} (h : w.grownBy w' r) : Fr (fun k => some k = r) w w' := ⟨h.os, h.tape, h.output, h.size, h.block⟩
theorem Fr.alloc (F : Nat → Prop) (w : World) (o : Obj) : Fr F w (w.alloc o) :=
  ⟨rfl, rfl, rfl, by rw [size_alloc]; omega, fun i hi _ => by rw [heap_alloc, if_neg (by omega)]⟩
theorem Fr.drew (F : Nat → Prop) (w : World) : Fr F w w.drew := ⟨rfl, rfl, rfl, Nat.le_refl _, fun _ _ _ => rfl⟩
theorem Fr.setCell (w : World) (a : Addr) (v : Value) : Fr (fun k => k = a.block) w (w.setCell a v) :=
  ⟨rfl, rfl, rfl, by simp [World.setCell], fun i _ h => Below.heap_setCell _ _ _ _ h⟩

theorem Fr.cell {F : Nat → Prop} {w w' : World} {k o : Nat} {v : Value} (h : Fr F w w') (hc : w.cell? ⟨k, o, none⟩ = some v) (hF : ¬ F k) : w'.cell? ⟨k, o, none⟩ = some v :=
  (World.cell?_of_block (a := ⟨k, o, none⟩) (h.block k (World.block_lt_of_cell? w _ hc) hF)).trans hc
theorem Own.keep {w w' : World} {b : Nat} {v : Value} {l : List UInt8} (h : Own w b v l) (hk : ∀ g, v.ownBlock = some g → w'.heap[g]? = w.heap[g]?) : Own w' b v l := by
  refine ⟨h.1, ?_⟩
  rcases h.2 with h | ⟨g, cap, cur, h1, h2, h3, h4⟩
  · exact .inl h
  · exact .inr ⟨g, cap, cur, h1, h2, (hk g (by rw [h1]; rfl)).trans h3, h4⟩

theorem Own.lt {w : World} {b : Nat} {v : Value} {l : List UInt8} (h : Own w b v l) (g : Nat) (hg : v.ownBlock = some g) : b ≤ g ∧ g < w.heap.size := World.ownsRow.lt h g hg

/-- A list of bytes that may be read. -/
def Rd (w : World) (F : Nat → Prop) (v : Value) (l : List UInt8) : Prop :=
  (v = .slice none 0 0 ∧ l = []) ∨ ∃ g o cap, v = .slice (some ⟨g, o, none⟩) l.length cap ∧ Lies w g o l ∧ l.length ≤ cap ∧ cap ≤ maxLen ∧ ¬ F g ∧ g < w.heap.size

theorem Own.rd {w : World} {b : Nat} {v : Value} {l : List UInt8} {F : Nat → Prop} (h : Own w b v l) (hf : ∀ g, v.ownBlock = some g → ¬ F g) : Rd w F v l := by
  rcases h.2 with ⟨h1, h2⟩ | ⟨g, cap, cur, h1, h2, h3, h4, h5, h6, h7⟩
  · exact .inl ⟨h1, List.length_eq_zero_iff.1 h2⟩
  · refine .inr ⟨g, 0, cap, h1, ?_, h4, h5, hf g (by rw [h1]; rfl), (Array.getElem?_eq_some_iff.1 h3).1⟩
    intro j c hc
    rw [Nat.zero_add, cell_of_row w g j cur 5 (0, 0) h3]
    have : (cur.toList.take (l.length * 1))[j]? = some (B c) := by rw [h7]; simp [hc]
    rw [List.getElem?_take] at this
    split at this
    · simpa using this
    · cases this

theorem Own.len {w : World} {b : Nat} {v : Value} {l : List UInt8} (h : Own w b v l) : ∃ a cap, v = .slice a l.length cap ∧ l.length ≤ cap ∧ cap ≤ maxLen := by
  rcases h.2 with ⟨h1, h2⟩ | ⟨g, cap, cur, h1, h2, h3, h4, h5, h6, h7⟩
  · exact ⟨none, 0, by rw [h1, h2], by omega, by unfold maxLen; omega⟩
  · exact ⟨_, cap, h1, h4, h5⟩

def big : Nat := 70368744177664

/-- The cells of an order, as it is told. -/
def Ord.cells (o : Ord) : List Value := [.int .i64 o.ref, .int .i64 o.token, .int .u8 o.side.toNat, .int .i64 o.stock, .int .i64 o.price, .int .i64 o.shares]

def viewOf (st : St) : Value := .agg #[.int .i64 st.time, .int .i64 st.resting, .bool st.opn, .int .i64 st.part.length]

/-- The calls of the program do what the document says: 'At w b G st': in the world w the bourse at block b, with the blocks G, is as st says. -/
structure Api (At : World → Nat → (Nat → Prop) → St → Prop) : Prop where
  lt : ∀ {w b G st}, At w b G st → ∀ k, G k → k < w.heap.size
  keep : ∀ {w w' b G st}, At w b G st → (∀ k, G k → w'.heap[k]? = w.heap[k]?) → At w' b G st
  new : ∀ (s l p : Int) (w : World), 1 ≤ s → s ≤ 8 → 1 ≤ l → l ≤ 64 → 1 ≤ p → p ≤ 64 →
    Calls Try.prog 27 #[.int .i64 s, .int .i64 l, .int .i64 p] w fun e w' => ∃ b G,
      e = .returned (.tuple #[.pointer (some ⟨b, 0, none⟩), .int .i64 0]) ∧ At w' b G (opened s.toNat l.toNat p.toNat) ∧ (∀ k, G k → w.heap.size ≤ k) ∧ Below w.heap.size w w'
  feed : ∀ (b : Nat) (G : Nat → Prop) (st : St) (v : Value) (l : List UInt8) (w : World), At w b G st → Rd w G v l → (st.feed l).ans.length ≤ big → (st.feed l).tape.length ≤ big →
    Calls Try.prog 12 #[.pointer (some ⟨b, 0, none⟩), v] w fun e w' => ∃ G',
      e = .returned (.tuple #[]) ∧ At w' b G' (st.feed l) ∧ (∀ k, G' k → G k ∨ w.heap.size ≤ k) ∧ Fr G w w'
  tick : ∀ (b : Nat) (G : Nat → Prop) (st : St) (n : Int) (w : World), At w b G st → 0 ≤ n → n ≤ 1000000 →
    Calls Try.prog 34 #[.pointer (some ⟨b, 0, none⟩), .int .i64 n] w fun e w' =>
      e = .returned (.int .i64 0) ∧ At w' b G (st.tick n.toNat) ∧ Fr G w w'
  answers : ∀ (b : Nat) (G : Nat → Prop) (st : St) (w : World), At w b G st →
    Calls Try.prog 15 #[.pointer (some ⟨b, 0, none⟩)] w fun e w' => ∃ v G',
      e = .returned v ∧ Own w' 0 v st.ans ∧ At w' b G' st.told ∧ (∀ k, G' k → G k ∨ w.heap.size ≤ k) ∧ (∀ g, v.ownBlock = some g → (G g ∨ w.heap.size ≤ g) ∧ ¬ G' g) ∧ Fr G w w'
  tape : ∀ (b : Nat) (G : Nat → Prop) (st : St) (w : World), At w b G st →
    Calls Try.prog 20 #[.pointer (some ⟨b, 0, none⟩)] w fun e w' => ∃ v G',
      e = .returned v ∧ Own w' 0 v st.tape ∧ At w' b G' st.taped ∧ (∀ k, G' k → G k ∨ w.heap.size ≤ k) ∧ (∀ g, v.ownBlock = some g → (G g ∨ w.heap.size ≤ g) ∧ ¬ G' g) ∧ Fr G w w'
  look : ∀ (b : Nat) (G : Nat → Prop) (st : St) (w : World), At w b G st →
    Calls Try.prog 17 #[.pointer (some ⟨b, 0, none⟩)] w fun e w' => e = .returned (viewOf st) ∧ Below w.heap.size w w'
  book : ∀ (b : Nat) (G : Nat → Prop) (st : St) (s : Int) (w : World), At w b G st → 0 ≤ s → s < st.stocks →
    Calls Try.prog 33 #[.pointer (some ⟨b, 0, none⟩), .int .i64 s] w fun e w' => ∃ v,
      e = .returned (.tuple #[v, .int .i64 0]) ∧ w'.ownsRow w.heap.size 46 6 v (st.book s.toNat).length ((st.book s.toNat).flatMap Ord.cells) ∧ Below w.heap.size w w'

end Go.Proofs.Ytphkchjejbffeaa

/- The bourse that boursekeep opens, as the document has it. -/
namespace Go.Proofs.Ytphkchjejbffeaa

def sellMsg : List UInt8 := [69] ++ enc 1000 4 ++ [83, 0] ++ enc 5 2 ++ enc 100 2 ++ [68]
def buyMsg : List UInt8 := [69] ++ enc 1001 4 ++ [66, 0] ++ enc 6 2 ++ enc 100 2 ++ [73]
def st1 (p : Nat) : St := (opened 3 10 p).feed sellMsg
def st2 (p : Nat) : St := (st1 p).feed buyMsg
/-- Behind all that. -/
def openSt (p : Nat) : St := (st2 p).told.taped

def openOk (p : Nat) : Bool := (st1 p).resting == 1 && (st2 p).resting == 0 && (st2 p).opn && (st2 p).ans.length == 89 && (st2 p).tape.length == 34 && (st1 p).ans.length ≤ 89 && (st1 p).tape.length ≤ 34
theorem open_all : (List.range 64).all (fun p => openOk (1 + p)) = true := by decide +kernel
theorem open_ok (p : Nat) (h1 : 1 ≤ p) (h2 : p ≤ 64) : (st1 p).resting = 1 ∧ (st2 p).resting = 0 ∧ (st2 p).opn = true ∧ (st2 p).ans.length = 89 ∧ (st2 p).tape.length = 34 ∧ (st1 p).ans.length ≤ 89 ∧ (st1 p).tape.length ≤ 34 := by
  have h := List.all_eq_true.1 open_all (p - 1) (by simp; omega)
  rw [show 1 + (p - 1) = p by omega] at h
  simpa [openOk, and_assoc] using h

end Go.Proofs.Ytphkchjejbffeaa

/- The walk of boursekeep's open. -/
namespace Go.Proofs.Ytphkchjejbffeaa
open Go.RowKit

theorem Api.below {At : World → Nat → (Nat → Prop) → St → Prop} (api : Api At) {w w' : World} {b : Nat} {G : Nat → Prop} {st : St} (h : At w b G st) (hb : Below w.heap.size w w') : At w' b G st :=
  api.keep h (fun k hk => hb.block k (api.lt h k hk))
theorem Own.below {w w' : World} {b : Nat} {v : Value} {l : List UInt8} (h : Own w b v l) (hb : Below w.heap.size w w') : Own w' b v l :=
  h.keep (fun g hg => hb.block g (h.lt g hg).2)
theorem Own.fr {w w' : World} {b : Nat} {v : Value} {l : List UInt8} {F : Nat → Prop} (h : Own w b v l) (hb : Fr F w w') (hF : ∀ g, v.ownBlock = some g → ¬ F g) : Own w' b v l :=
  h.keep (fun g hg => hb.block g (h.lt g hg).2 (hF g hg))

theorem told_tape (st : St) : st.told.tape = st.tape := rfl
/-- A house: its block hb, the bourse's block b with the blocks G, all that went out. -/
structure House (At : World → Nat → (Nat → Prop) → St → Prop) (w : World) (hb b : Nat) (G : Nat → Prop) (vo vt : Value) (st : St) (out tape : List UInt8) : Prop where
  cell : w.heap[hb]? = some (.cells #[.pointer (some ⟨b, 0, none⟩), vo, vt] 30)
  at_ : At w b G st
  out : Own w 0 vo out
  tape : Own w 0 vt tape
  hG : ¬ G hb
  ho : ∀ g, vo.ownBlock = some g → ¬ G g ∧ g ≠ hb
  ht : ∀ g, vt.ownBlock = some g → ¬ G g ∧ g ≠ hb
  hot : ∀ g, vo.ownBlock = some g → vt.ownBlock ≠ some g

/-- The blocks of a house. -/
def HF (hb : Nat) (G : Nat → Prop) (vo vt : Value) (k : Nat) : Prop := k = hb ∨ G k ∨ vo.ownBlock = some k ∨ vt.ownBlock = some k

theorem House.step {At : World → Nat → (Nat → Prop) → St → Prop} {w w' : World} {hb b : Nat} {G G' : Nat → Prop} {vo vt : Value} {st st' : St} {out tape : List UInt8}
    (h : House At w hb b G vo vt st out tape) (hat : At w' b G' st') (hfr : Fr G w w') (hG : ∀ k, G' k → G k ∨ w.heap.size ≤ k) : House At w' hb b G' vo vt st' out tape := by
  have hlt : hb < w.heap.size := (Array.getElem?_eq_some_iff.1 h.cell).1
  refine ⟨(hfr.block hb hlt h.hG).trans h.cell, hat, h.out.fr hfr (fun g hg => (h.ho g hg).1), h.tape.fr hfr (fun g hg => (h.ht g hg).1), ?_, ?_, ?_, h.hot⟩
  · intro hk
    rcases hG _ hk with hk | hk
    · exact h.hG hk
    · omega
  · intro g hg
    refine ⟨fun hk => ?_, (h.ho g hg).2⟩
    rcases hG _ hk with hk | hk
    · exact (h.ho g hg).1 hk
    · have := (h.out.lt g hg).2; omega
  · intro g hg
    refine ⟨fun hk => ?_, (h.ht g hg).2⟩
    rcases hG _ hk with hk | hk
    · exact (h.ht g hg).1 hk
    · have := (h.tape.lt g hg).2; omega

theorem House.lt {At : World → Nat → (Nat → Prop) → St → Prop} (api : Api At) {w : World} {hb b : Nat} {G : Nat → Prop} {vo vt : Value} {st : St} {out tape : List UInt8}
    (h : House At w hb b G vo vt st out tape) (k : Nat) (hk : HF hb G vo vt k) : k < w.heap.size := by
  rcases hk with rfl | hk | hk | hk
  · exact (Array.getElem?_eq_some_iff.1 h.cell).1
  · exact api.lt h.at_ k hk
  · exact (h.out.lt k hk).2
  · exact (h.tape.lt k hk).2

theorem Fr.then {F : Nat → Prop} {a b c : World} (h : Fr F a b) (k : Fr F b c) : Fr F a c := h.trans k (fun _ _ h => h)

set_option maxHeartbeats 600000 in
theorem open_any {At : World → Nat → (Nat → Prop) → St → Prop} (api : Api At) (pool : Int) (w : World) (h1 : -9223372036854775808 ≤ pool) (h2 : pool ≤ 9223372036854775807) :
    Calls Try.prog 10 #[.int .i64 pool] w fun e w' => ∃ hb b G vo vt,
      e = .returned (.tuple #[.pointer (some ⟨hb, 0, none⟩), .bool true]) ∧ House At w' hb b G vo vt (openSt (1 + pick pool 64)) [] [] ∧ (∀ k, HF hb G vo vt k → w.heap.size ≤ k) ∧ Below w.heap.size w w' := by
  have hp := pick_lt pool 64 (by omega)
  obtain ⟨f1, f2, f3, f4, f5, f6, f7⟩ := open_ok (1 + pick pool 64) (by omega) (by omega)
  have F1 := Hid.mk f1
  have F2 := Hid.mk f2
  have F3 := Hid.mk f3
  have F4 := Hid.mk f4
  have F5 := Hid.mk f5
  clear f1 f2 f3 f4 f5
  go_enter Try.func10, Try.ntmps10
  go_wp2_with (go_at_call 11; refine (pick_any _ _ _ h1 h2 (by decide) (by decide)).mono ?_; rintro e w' ⟨rfl, hw⟩; replace hw := hw.symm; subst hw)
  refine (api.new 3 10 _ _ (by decide) (by decide) (by decide) (by decide) (by omega) (by omega)).mono ?_
  rintro e w1 ⟨b, G, rfl, hat, hG, hb1⟩
  rw [show (1 + ((pick pool 64 : Nat) : Int)).toNat = 1 + pick pool 64 from by omega, show (3 : Int).toNat = 3 from rfl, show (10 : Int).toNat = 10 from rfl] at hat
  generalize hpe : pick pool 64 = p at *
  have HP := Hid.mk hpe
  clear hpe
  go_wp2_with (go_at_call 14; refine (num_any _ _ _ (by decide) (by decide) (by decide) (by decide)).mono ?_; rintro e w' ⟨rfl, rfl⟩)
  refine (row_lit _ [⟨w1.heap.size, 0, 1, [69]⟩, ⟨w1.heap.size + 1, 0, 4, enc 1000 4⟩, ⟨w1.heap.size + 2, 0, 2, [83, 0]⟩, ⟨w1.heap.size + 3, 0, 2, enc 5 2⟩, ⟨w1.heap.size + 4, 0, 2, enc 100 2⟩, ⟨w1.heap.size + 5, 0, 1, [68]⟩] 28 _ 6 rfl ?_ ?_ (by decide) ?_).mono ?_
  · rw [heap_alloc, if_pos (by simp only [size_alloc])]
    simp [Piece.val, enc_length]
  · simp [heap_alloc, B, Nat.add_assoc]
  · simp [cat, enc_length]
  rintro e w2 ⟨vs, rfl, hos, hb2⟩
  replace hos := hos.cast (show _ = sellMsg from rfl)
  have hB2 : Below w1.heap.size w1 w2 := by
    refine Below.trans ?_ (hb2.mono (by simp only [size_alloc]; omega))
    repeat refine Below.alloc ?_ (by first | exact Nat.le_refl _ | (simp only [size_alloc]; omega)) _
    exact Below.refl _ _
  replace hos := hos.base (b' := w1.heap.size) (by simp only [size_alloc]; omega)
  clear hb2
  go_wp2_with (go_at_call 14; refine (num_any _ _ _ (by decide) (by decide) (by decide) (by decide)).mono ?_; rintro e w' ⟨rfl, rfl⟩)
  refine (row_lit _ [⟨w2.heap.size, 0, 1, [69]⟩, ⟨w2.heap.size + 1, 0, 4, enc 1001 4⟩, ⟨w2.heap.size + 2, 0, 2, [66, 0]⟩, ⟨w2.heap.size + 3, 0, 2, enc 6 2⟩, ⟨w2.heap.size + 4, 0, 2, enc 100 2⟩, ⟨w2.heap.size + 5, 0, 1, [73]⟩] 28 _ 6 rfl ?_ ?_ (by decide) ?_).mono ?_
  · rw [heap_alloc, if_pos (by simp only [size_alloc])]
    simp [Piece.val, enc_length]
  · simp [heap_alloc, B, Nat.add_assoc]
  · simp [cat, enc_length]
  rintro e w3 ⟨vb, rfl, hob, hb3⟩
  replace hob := hob.cast (show _ = buyMsg from rfl)
  have hB3 : Below w2.heap.size w2 w3 := by
    refine Below.trans ?_ (hb3.mono (by simp only [size_alloc]; omega))
    repeat refine Below.alloc ?_ (by first | exact Nat.le_refl _ | (simp only [size_alloc]; omega)) _
    exact Below.refl _ _
  replace hob := hob.base (b' := w2.heap.size) (by simp only [size_alloc]; omega)
  clear hb3
  have hat3 := api.below (api.below hat hB2) hB3
  have hG3 : ∀ k, G k → k < w1.heap.size := api.lt hat
  go_wp2_with fail
  refine (api.feed b G _ vs sellMsg w3 hat3 ((hos.below hB3).rd (fun g hg h => by have := hG3 g h; have := (hos.lt g hg).1; omega)) (Nat.le_trans f6 (by decide)) (Nat.le_trans f7 (by decide))).mono ?_
  rintro e w4 ⟨G4, rfl, (hat4 : At w4 b G4 (st1 (1 + p))), hG4, hfr4⟩
  have hob4 : Own w4 w2.heap.size vb buyMsg := hob.fr hfr4 (fun g hg h => by have := hG3 g h; have := (hob.lt g hg).1; have := hB2.size; omega)
  have hlt4 := api.lt hat4
  go_wp2_with fail
  refine (api.look b G4 (st1 (1 + p)) w4 hat4).mono ?_
  rintro e w5 ⟨rfl, hb5⟩
  rw [viewOf, F1.out]
  go_wp2_with fail
  generalize hXo : Obj.cells _ 37 = Xo
  have hBX : Below w4.heap.size w4 (w5.alloc Xo) := hb5.alloc hb5.size Xo
  have s5 := hb5.size
  have s4 := hfr4.size
  have s3 := hB3.size
  have s2 := hB2.size
  have s1 := hb1.size
  have hvb4 : ∀ g, vb.ownBlock = some g → ¬ G4 g := fun g hg h => by
    have := hob.lt g hg
    rcases hG4 g h with h | h
    · have := hG3 g h; omega
    · omega
  refine (api.feed b G4 (st1 (1 + p)) vb buyMsg _ (api.below hat4 hBX) ((hob4.below hBX).rd hvb4) (by rw [show (st1 (1 + p)).feed buyMsg = st2 (1 + p) from rfl, F4.out]; decide) (by rw [show (st1 (1 + p)).feed buyMsg = st2 (1 + p) from rfl, F5.out]; decide)).mono ?_
  rintro e w6 ⟨G6, rfl, (hat6 : At w6 b G6 (st2 (1 + p))), hG6, hfr6⟩
  have s6 := hfr6.size
  rw [size_alloc] at s6 hG6
  have k6 : w6.heap[w5.heap.size]? = some Xo := by
    rw [hfr6.block _ (by rw [size_alloc]; omega) (fun h => by have := hlt4 _ h; omega), heap_alloc, if_pos rfl]
  go_wp2_with fail
  refine (api.look b G6 (st2 (1 + p)) w6 hat6).mono ?_
  rintro e w7 ⟨rfl, hb7⟩
  rw [viewOf, F2.out, F3.out]
  go_wp2_with fail
  generalize hYo : Obj.cells _ 37 = Yo
  have hBY : Below w6.heap.size w6 (w7.alloc Yo) := hb7.alloc hb7.size Yo
  have s7 := hb7.size
  have hlt6 := api.lt hat6
  refine (api.answers b G6 (st2 (1 + p)) _ (api.below hat6 hBY)).mono ?_
  rintro e w8 ⟨va, G8, rfl, hoa, hat8, hG8, hva, hfr8⟩
  have s8 := hfr8.size
  rw [size_alloc] at s8 hG8
  have n6 : ¬ G6 w5.heap.size := fun h => by
    rcases hG6 _ h with h | h
    · have := hlt4 _ h; omega
    · omega
  have n6' : ¬ G6 w7.heap.size := fun h => by have := hlt6 _ h; omega
  have k8 : w8.heap[w5.heap.size]? = some Xo := by
    rw [hfr8.block _ (by rw [size_alloc]; omega) n6, hBY.block _ (by omega), k6]
  have j8 : w8.heap[w7.heap.size]? = some Yo := by
    rw [hfr8.block _ (by rw [size_alloc]; omega) n6', heap_alloc, if_pos rfl]
  go_wp2_with fail
  refine (api.tape b G8 _ w8 hat8).mono ?_
  rintro e w9 ⟨vt, G9, rfl, hot, hat9, hG9, hvt, hfr9⟩
  have s9 := hfr9.size
  have n8 : ¬ G8 w5.heap.size := fun h => by
    rcases hG8 _ h with h | h
    · exact n6 h
    · omega
  have n8' : ¬ G8 w7.heap.size := fun h => by
    rcases hG8 _ h with h | h
    · exact n6' h
    · omega
  have k9 : w9.heap[w5.heap.size]? = some Xo := by rw [hfr9.block _ (by omega) n8, k8]
  have j9 : w9.heap[w7.heap.size]? = some Yo := by rw [hfr9.block _ (by omega) n8', j8]
  have c1 : w9.cell? ⟨w5.heap.size, 1, none⟩ = some (.int .i64 1) := by
    subst hXo; rw [cell_of_row w9 _ 1 _ 37 (0, 0) k9]; rfl
  have c2 : w9.cell? ⟨w7.heap.size, 1, none⟩ = some (.int .i64 0) := by
    subst hYo; rw [cell_of_row w9 _ 1 _ 37 (0, 0) j9]; rfl
  have c3 : w9.cell? ⟨w7.heap.size, 2, none⟩ = some (.bool true) := by
    subst hYo; rw [cell_of_row w9 _ 2 _ 37 (0, 0) j9]; rfl
  have l1 : w5.heap.size < w9.heap.size := by omega
  have l2 : w7.heap.size < w9.heap.size := by omega
  have hBl : Below w.heap.size w w9 := by
    have a1 : Below w.heap.size w w3 := hb1.trans ((hB2.trans (hB3.mono s2)).mono s1)
    have a2 : Below w.heap.size w3 w4 := hfr4.below (by omega) hG
    have a3 : Below w.heap.size (w5.alloc Xo) w6 := hfr6.below (by rw [size_alloc]; omega) (fun k h => by rcases hG4 k h with h | h; exact hG k h; omega)
    have g6 : ∀ k, G6 k → w.heap.size ≤ k := fun k h => by
      rcases hG6 k h with h | h
      · rcases hG4 k h with h | h
        · exact hG k h
        · omega
      · omega
    have a4 : Below w.heap.size (w7.alloc Yo) w8 := hfr8.below (by rw [size_alloc]; omega) g6
    have a5 : Below w.heap.size w8 w9 := hfr9.below (by omega) (fun k h => by rcases hG8 k h with h | h; exact g6 k h; omega)
    exact ((((((a1.trans a2).trans (hBX.mono (by omega))).trans a3).trans (hBY.mono (by omega))).trans a4).trans a5)
  have g9 : ∀ k, G9 k → w.heap.size ≤ k := fun k h => by
    rcases hG9 k h with h | h
    · rcases hG8 k h with h | h
      · rcases hG6 k h with h | h
        · rcases hG4 k h with h | h
          · exact hG k h
          · omega
        · omega
      · omega
    · omega
  have hat10 : At w9 b G9 (openSt (1 + p)) := by rw [openSt]; exact hat9
  obtain ⟨ra, ca, rfl, _, _⟩ := hoa.len
  obtain ⟨rt, ct, rfl, _, _⟩ := hot.len
  have q1 : (st2 (1 + p)).ans.length = 89 := F4.out
  have q2 : (St.told (st2 (1 + p))).tape.length = 34 := by rw [told_tape]; exact F5.out
  simp only [q1, q2]
  have FIN := Hid.mk (And.intro hBl (And.intro hat10 (And.intro g9 (api.lt hat9))))
  clear q1 q2 hoa hot hva hvt k6 k8 j8 k9 j9 hXo hYo hBl hat10 g9 n8 n8' n6 n6' hat9 hG9 hfr9 hat8 hG8 hfr8 hlt6 hBY hb7 hat6 hG6 hfr6 hvb4 hBX hb5 hlt4 hob4 hat4 hG4 hfr4 hG3 hat3 hob hB3 hos hB2 hat hG hb1 s1 s2 s3 s4 s5 s6 s7 s8 s9 f6 f7 F1 F2 F3 F4 F5
  go_wp2_with fail
  go_ret2
  obtain ⟨hBl, hat10, g9, hlt9⟩ := FIN.out
  have hBa : Below w9.heap.size w9 (w9.alloc (.cells #[.pointer (some ⟨b, 0, none⟩), .slice none 0 0, .slice none 0 0] 30)) := (Below.refl _ _).alloc (Nat.le_refl _) _
  refine ⟨w9.heap.size, b, G9, .slice none 0 0, .slice none 0 0, rfl, ?_, ?_, ?_⟩
  · rw [HP.out]
    refine ⟨by rw [heap_alloc, if_pos rfl], api.below hat10 hBa, World.ownsRow_nil _ _ _ _, World.ownsRow_nil _ _ _ _, fun h => (by have := hlt9 _ h; omega), fun g hg => (by cases hg), fun g hg => (by cases hg), fun g hg => (by cases hg)⟩
  · intro k hk
    rcases hk with rfl | hk | hk | hk
    · exact hBl.size
    · exact g9 k hk
    · cases hk
    · cases hk
  · exact hBl.trans (hBa.mono hBl.size)
end Go.Proofs.Ytphkchjejbffeaa

/- The walk of boursekeep's House.act. -/
namespace Go.Proofs.Ytphkchjejbffeaa
open Go.RowKit
attribute [local go_sem ↓] Go.wp_at_zero Go.wp_at_succ

/-- What an act does to the bourse. -/
def St.done (st : St) (a : Act) : St := if pick a.kind 11 = 10 then st.tick (pick a.price 100) else st.feed a.message

set_option maxHeartbeats 600000 in
theorem act_tick {At : World → Nat → (Nat → Prop) → St → Prop} (api : Api At) (hb b : Nat) (G : Nat → Prop) (vo vt : Value) (st : St) (out tape : List UInt8) (a : Act) (w : World)
    (hh : House At w hb b G vo vt st out tape) (ha : a.ok) (hk : pick a.kind 11 = 10) :
    Calls Try.prog 22 #[.pointer (some ⟨hb, 0, none⟩), .agg a.cells] w fun e w' =>
      e = .returned (.bool true) ∧ House At w' hb b G vo vt (st.tick (pick a.price 100)) out tape ∧ Fr (HF hb G vo vt) w w' := by
  obtain ⟨kind, token, other, side, stock, price, shares⟩ := a
  obtain ⟨⟨k1, k2⟩, ⟨t1, t2⟩, ⟨o1, o2⟩, ⟨s1, s2⟩, ⟨c1, c2⟩, ⟨p1, p2⟩, ⟨q1, q2⟩⟩ := ha
  simp only [Act.cells] at *
  have b1 := pick_lt price 100 (by omega)
  have hc := cell_of_row w hb 0 _ 30 (0, 0) hh.cell
  simp only [List.getElem?_toArray, List.getElem?_cons_zero] at hc
  have hlt : hb < w.heap.size := (Array.getElem?_eq_some_iff.1 hh.cell).1
  have HH := Hid.mk hh
  clear hh
  go_enter Try.func22, Try.ntmps22
  go_wp2_with (go_at_call 11; refine (pick_any _ _ _ (by assumption) (by assumption) (by decide) (by decide)).mono ?_; rintro e w' ⟨rfl, rfl⟩)
  generalize hBo : Obj.cells _ 49 = Bo
  have hc' : (w.alloc Bo).cell? ⟨hb, 0, none⟩ = some (.pointer (some ⟨b, 0, none⟩)) := by rw [(Below.alloc (Below.refl _ w) (Nat.le_refl _) Bo).cell (p := ⟨hb, 0, none⟩) hlt, hc]
  have hd' : (w.alloc Bo).cell? ⟨w.heap.size, 5, none⟩ = some (.int .i64 price) := by subst hBo; rw [cell_of_row (w.alloc _) w.heap.size 5 _ 49 (0, 0) (by rw [heap_alloc, if_pos rfl])]; rfl
  have hat' : At (w.alloc Bo).drew b G st := api.keep HH.out.at_ (fun k hk => by rw [show (w.alloc Bo).drew.heap = (w.alloc Bo).heap from rfl, heap_alloc, if_neg (by have := api.lt HH.out.at_ k hk; omega)])
  have nG : ¬ G w.heap.size := fun h => by have := api.lt HH.out.at_ _ h; omega
  have nH : ¬ G hb := HH.out.hG
  clear hc hBo
  go_region_held3 (fun w' => w'.cell? ⟨hb, 0, none⟩ = some (.pointer (some ⟨b, 0, none⟩)) ∧ w'.cell? ⟨w.heap.size, 5, none⟩ = some (.int .i64 price))
    (first | go_keep | exact ⟨m1, m2⟩)
    (first
      | (go_at_call 11; refine (pick_any price 100 _ p1 p2 (by decide) (by decide)).mono ?_; rintro e w' ⟨rfl, rfl⟩)
      | (go_at_call 34; refine (api.tick b G st (pick price 100 : Nat) _ hat' (by omega) (by omega)).mono ?_; rintro e w5 ⟨rfl, hat5, hfr⟩; have m1 := hfr.cell (o := 0) hc' nH; have m2 := hfr.cell (o := 5) hd' nG))
  all_goals go_wp2_with fail
  go_ret
  have hF : Fr G w w5 := ((Fr.alloc G w Bo).then (Fr.drew G _)).then hfr
  exact ⟨rfl, HH.out.step hat5 hF (fun k hk => .inl hk), hF.mono (fun k _ hk => .inr (.inl hk))⟩

end Go.Proofs.Ytphkchjejbffeaa

/- append of bytes that may be read onto bytes of the call's own, in one law. -/
namespace Go.Proofs.Ytphkchjejbffeaa
open Go.RowKit

theorem wpList_append_rd {w : World} {ops : Array Oper} {rest : List Oper} {o : Oper} {a : Go.Act} {Q : Exit → Go.Act → World → Prop} (hgd : o.guard = none) (s x : Operand)
    (ho : o.op = .call { callee := .builtin .append, args := #[s, x], argTypes := #[28, 28] })
    (base : Nat) (vo : Value) (out : List UInt8) (hs : a.eval s = vo) (hown : Own w base vo out) (vx : Value) (l : List UInt8) (hx : a.eval x = vx) (F : Nat → Prop) (hrd : Rd w F vx l)
    (hlen : out.length + l.length ≤ 140737488355328) (hbase : base ≤ w.heap.size)
    (h : ∀ ra n cap w', Own w' base (.slice ra n cap) (out ++ l) → w.grownBy w' vo.ownBlock → (Value.ownBlock (.slice ra n cap) = vo.ownBlock ∨ Value.ownBlock (.slice ra n cap) = some w.heap.size) → wpList Try.prog ops Q rest (a.put o.dst (.slice ra n cap)) w') :
    wpList Try.prog ops Q (o :: rest) a w := by
  obtain ⟨i0, hi, hz0, hz1, hz2⟩ := info_parts Try.info5
  rcases hrd with ⟨rfl, rfl⟩ | ⟨g, off, cap, rfl, hl, hc1, hc2, _, _⟩
  · refine wpList_append_own_none hgd s x 28 ho base 5 i0 1 Try.underlying28 hi vo _ _ hs hown hx ?_
    obtain ⟨ra, cap, rfl, _, _⟩ := hown.len
    exact h ra _ cap w (by rw [List.append_nil]; exact hown) ⟨rfl, rfl, rfl, Nat.le_refl _, fun _ _ _ => rfl⟩ (.inl rfl)
  · refine wpList_append_own_at w hgd s x 28 ho base 5 i0 (.int .u8 0) 1 1 Try.underlying28 hi hz0 hz1 hz2 rfl (by decide) vo _ _ hs hown ⟨g, off, none⟩ l.length cap (l.map B) hx (by simp) ?_ ?_ (by unfold maxLen; omega) (by omega) hbase ?_
    · intro j u hu
      rw [List.getElem?_map, Option.map_eq_some_iff] at hu
      obtain ⟨c, hc', rfl⟩ := hu
      rw [Addr.add_lit]
      exact hl j c hc'
    · intro u hu
      simp at hu
      obtain ⟨c, _, rfl⟩ := hu
      rfl
    · intro v' w' h2 h3 _ h5
      have h2' : Own w' base v' (out ++ l) := by
        unfold Own
        rw [List.length_append, List.map_append]
        exact h2
      obtain ⟨ra, cap, rfl, _, _⟩ := h2'.len
      exact h ra _ cap w' h2' h3 h5

theorem rd_one (w : World) (c : UInt8) (n : Int) (hn : n = c.toNat) (F : Nat → Prop) (hF : ¬ F w.heap.size) : Rd (w.alloc (.cells #[.int .u8 n] 5)) F (.slice (some ⟨w.heap.size, 0, none⟩) 1 1) [c] := by
  subst hn
  refine .inr ⟨w.heap.size, 0, 1, rfl, ?_, by simp, by unfold maxLen; omega, hF, by rw [size_alloc]; omega⟩
  intro j d hd
  cases j with
  | zero =>
    simp at hd
    subst hd
    rw [cell_of_row _ w.heap.size 0 _ 5 (0, 0) (by rw [heap_alloc, if_pos rfl])]
    rfl
  | succ j => simp at hd

/-- A row of cells that may be read, as a slice of m elements. -/
def RdRow (w : World) (size : Nat) (v : Value) (m : Nat) (xs : List Value) : Prop :=
  (v = .slice none 0 0 ∧ m = 0 ∧ xs = []) ∨ ∃ g o cap, v = .slice (some ⟨g, o, none⟩) m cap ∧ xs.length = m * size ∧ ∀ j u, xs[j]? = some u → w.cell? ⟨g, o + j, none⟩ = some u

theorem ownsRow_rd {w : World} {b : Nat} {e : TypeId} {size : Nat} {v : Value} {n : Nat} {xs : List Value} (h : w.ownsRow b e size v n xs) : RdRow w size v n xs := by
  rcases h.2 with ⟨h1, h2⟩ | ⟨g, cap, cur, h1, h2, h3, h4, h5, h6, h7⟩
  · refine .inl ⟨h1, h2, ?_⟩
    have := h.1
    rw [h2, Nat.zero_mul] at this
    exact List.length_eq_zero_iff.1 this
  · refine .inr ⟨g, 0, cap, h1, h.1, ?_⟩
    intro j u hu
    have := h.cells (g := g) (by rw [h1]; rfl) j u hu
    rwa [Addr.add_lit] at this

theorem ownsRow_len {w : World} {b : Nat} {e : TypeId} {size : Nat} {v : Value} {n : Nat} {xs : List Value} (h : w.ownsRow b e size v n xs) : ∃ a cap, v = .slice a n cap ∧ n ≤ cap ∧ cap ≤ maxLen := by
  rcases h.2 with ⟨h1, h2⟩ | ⟨g, cap, cur, h1, h2, h3, h4, h5, h6, h7⟩
  · exact ⟨none, 0, by rw [h1, h2], by omega, by unfold maxLen; omega⟩
  · exact ⟨_, cap, h1, h4, h5⟩

theorem ownsRow_keep {w w' : World} {b : Nat} {e : TypeId} {size : Nat} {v : Value} {n : Nat} {xs : List Value} (h : w.ownsRow b e size v n xs) (hk : ∀ g, v.ownBlock = some g → w'.heap[g]? = w.heap[g]?) : w'.ownsRow b e size v n xs := by
  refine ⟨h.1, ?_⟩
  rcases h.2 with h | ⟨g, cap, cur, h1, h2, h3, h4⟩
  · exact .inl h
  · exact .inr ⟨g, cap, cur, h1, h2, (hk g (by rw [h1]; rfl)).trans h3, h4⟩

theorem wpList_append_row {w : World} {ops : Array Oper} {rest : List Oper} {o : Oper} {a : Go.Act} {Q : Exit → Go.Act → World → Prop} (hgd : o.guard = none) (s x : Operand) (t : TypeId)
    (ho : o.op = .call { callee := .builtin .append, args := #[s, x], argTypes := #[t, t] })
    (base : Nat) (e : TypeId) (i : TypeInfo) (z : Value) (size bytes : Nat) (ht : Try.prog.underlying t = some (.slice e)) (hi : Try.prog.info? e = some i) (hz : i.zero = some z)
    (hsize : i.size = size) (hby : i.bytes = bytes) (hzs : z.cells.size = size) (hsz : 0 < size)
    (vo : Value) (n : Nat) (xs : List Value) (hs : a.eval s = vo) (hown : w.ownsRow base e size vo n xs) (vx : Value) (m : Nat) (ys : List Value) (hx : a.eval x = vx) (hrd : RdRow w size vx m ys) (h1 : ∀ u ∈ ys, u.oneCell' = true)
    (h63 : n + m ≤ maxLen) (hbytes : (n + m) * bytes ≤ 140737488355328) (hbase : base ≤ w.heap.size)
    (h : ∀ ra cap w', w'.ownsRow base e size (.slice ra (n + m) cap) (n + m) (xs ++ ys) → w.grownBy w' vo.ownBlock → (Value.ownBlock (.slice ra (n + m) cap) = vo.ownBlock ∨ Value.ownBlock (.slice ra (n + m) cap) = some w.heap.size) → wpList Try.prog ops Q rest (a.put o.dst (.slice ra (n + m) cap)) w') :
    wpList Try.prog ops Q (o :: rest) a w := by
  rcases hrd with ⟨rfl, rfl, rfl⟩ | ⟨g, off, cap, rfl, hl, hc⟩
  · refine wpList_append_own_none hgd s x t ho base e i size ht hi vo _ _ hs hown hx ?_
    obtain ⟨ra, cap, rfl, _, _⟩ := ownsRow_len hown
    exact h ra cap w (by rw [List.append_nil]; exact hown) ⟨rfl, rfl, rfl, Nat.le_refl _, fun _ _ _ => rfl⟩ (.inl rfl)
  · refine wpList_append_own_at w hgd s x t ho base e i z size bytes ht hi hz hsize hby hzs hsz vo _ _ hs hown ⟨g, off, none⟩ m cap ys hx hl ?_ h1 h63 hbytes hbase ?_
    · intro j u hu
      rw [Addr.add_lit]
      exact hc j u hu
    · intro v' w' h2 h3 _ h5
      obtain ⟨ra, cap, rfl, _, _⟩ := ownsRow_len h2
      exact h ra cap w' h2 h3 h5

end Go.Proofs.Ytphkchjejbffeaa

/- The walk of boursekeep's House.act where a message comes. -/
namespace Go.Proofs.Ytphkchjejbffeaa
open Go.RowKit
attribute [local go_sem ↓] Go.wp_at_zero Go.wp_at_succ

theorem cells7 {W : World} {k : Nat} {T : TypeId} {v0 v1 v2 v3 v4 v5 v6 : Value} (h : W.heap[k]? = some (.cells #[v0, v1, v2, v3, v4, v5, v6] T)) :
    W.cell? ⟨k, 0, none⟩ = some v0 ∧ W.cell? ⟨k, 1, none⟩ = some v1 ∧ W.cell? ⟨k, 2, none⟩ = some v2 ∧ W.cell? ⟨k, 3, none⟩ = some v3 ∧ W.cell? ⟨k, 4, none⟩ = some v4 ∧ W.cell? ⟨k, 5, none⟩ = some v5 ∧ W.cell? ⟨k, 6, none⟩ = some v6 := by
  refine ⟨?_, ?_, ?_, ?_, ?_, ?_, ?_⟩ <;> (rw [cell_of_row W k _ _ T (0, 0) h]; rfl)

theorem House.setOut {At : World → Nat → (Nat → Prop) → St → Prop} (api : Api At) {w w' : World} {hb b : Nat} {G : Nat → Prop} {vo vt v' : Value} {st : St} {out out' tape : List UInt8}
    (h : House At w hb b G vo vt st out tape) (hown : Own w' 0 v' out') (hg : w.grownBy w' vo.ownBlock) (hv : v'.ownBlock = vo.ownBlock ∨ v'.ownBlock = some w.heap.size) :
    House At (w'.setCell ⟨hb, 1, none⟩ v') hb b G v' vt st out' tape ∧ w'.heap[hb]? = some (.cells #[.pointer (some ⟨b, 0, none⟩), vo, vt] 30) := by
  have hlt : hb < w.heap.size := (Array.getElem?_eq_some_iff.1 h.cell).1
  have hc : w'.heap[hb]? = some (.cells #[.pointer (some ⟨b, 0, none⟩), vo, vt] 30) := (hg.block hb hlt (fun e => (h.ho hb e.symm).2 rfl)).trans h.cell
  have hv' : ∀ g, v'.ownBlock = some g → ¬ G g ∧ g ≠ hb ∧ vt.ownBlock ≠ some g := by
    intro g hgg
    rcases hv with hv | hv
    · rw [hv] at hgg; exact ⟨(h.ho g hgg).1, (h.ho g hgg).2, h.hot g hgg⟩
    · rw [hv] at hgg; cases hgg
      exact ⟨fun hk => by have := api.lt h.at_ _ hk; omega, by omega, fun hk => by have := (h.tape.lt _ hk).2; omega⟩
  have hkeep : ∀ k, k < w.heap.size → some k ≠ vo.ownBlock → k ≠ hb → (w'.setCell ⟨hb, 1, none⟩ v').heap[k]? = w.heap[k]? := fun k h1 h2 h3 =>
    (Below.heap_setCell _ _ _ _ h3).trans (hg.block k h1 h2)
  refine ⟨⟨?_, ?_, ?_, ?_, h.hG, fun g hgg => ⟨(hv' g hgg).1, (hv' g hgg).2.1⟩, h.ht, fun g hgg => (hv' g hgg).2.2⟩, hc⟩
  · rw [heap_setCell_same w' hb 1 _ _ v' hc]; rfl
  · exact api.keep h.at_ (fun k hk => hkeep k (api.lt h.at_ k hk) (fun e => (h.ho k e.symm).1 hk) (fun e => h.hG (e ▸ hk)))
  · exact hown.keep (fun g hgg => Below.heap_setCell _ _ _ _ (hv' g hgg).2.1)
  · exact h.tape.keep (fun g hgg => hkeep g (h.tape.lt g hgg).2 (fun e => h.hot g e.symm hgg) (h.ht g hgg).2)

theorem House.setTape {At : World → Nat → (Nat → Prop) → St → Prop} (api : Api At) {w w' : World} {hb b : Nat} {G : Nat → Prop} {vo vt v' : Value} {st : St} {out tape tape' : List UInt8}
    (h : House At w hb b G vo vt st out tape) (hown : Own w' 0 v' tape') (hg : w.grownBy w' vt.ownBlock) (hv : v'.ownBlock = vt.ownBlock ∨ v'.ownBlock = some w.heap.size) :
    House At (w'.setCell ⟨hb, 2, none⟩ v') hb b G vo v' st out tape' ∧ w'.heap[hb]? = some (.cells #[.pointer (some ⟨b, 0, none⟩), vo, vt] 30) := by
  have hlt : hb < w.heap.size := (Array.getElem?_eq_some_iff.1 h.cell).1
  have hc : w'.heap[hb]? = some (.cells #[.pointer (some ⟨b, 0, none⟩), vo, vt] 30) := (hg.block hb hlt (fun e => (h.ht hb e.symm).2 rfl)).trans h.cell
  have hv' : ∀ g, v'.ownBlock = some g → ¬ G g ∧ g ≠ hb ∧ vo.ownBlock ≠ some g := by
    intro g hgg
    rcases hv with hv | hv
    · rw [hv] at hgg; exact ⟨(h.ht g hgg).1, (h.ht g hgg).2, fun e => h.hot g e hgg⟩
    · rw [hv] at hgg; cases hgg
      exact ⟨fun hk => by have := api.lt h.at_ _ hk; omega, by omega, fun hk => by have := (h.out.lt _ hk).2; omega⟩
  have hkeep : ∀ k, k < w.heap.size → some k ≠ vt.ownBlock → k ≠ hb → (w'.setCell ⟨hb, 2, none⟩ v').heap[k]? = w.heap[k]? := fun k h1 h2 h3 =>
    (Below.heap_setCell _ _ _ _ h3).trans (hg.block k h1 h2)
  refine ⟨⟨?_, ?_, ?_, ?_, h.hG, h.ho, fun g hgg => ⟨(hv' g hgg).1, (hv' g hgg).2.1⟩, fun g hgg e => (hv' g e).2.2 hgg⟩, hc⟩
  · rw [heap_setCell_same w' hb 2 _ _ v' hc]; rfl
  · exact api.keep h.at_ (fun k hk => hkeep k (api.lt h.at_ k hk) (fun e => (h.ht k e.symm).1 hk) (fun e => h.hG (e ▸ hk)))
  · exact h.out.keep (fun g hgg => hkeep g (h.out.lt g hgg).2 (fun e => h.hot g hgg e.symm) (h.ho g hgg).2)
  · exact hown.keep (fun g hgg => Below.heap_setCell _ _ _ _ (hv' g hgg).2.1)

theorem cells3 {W : World} {k : Nat} {T : TypeId} {v0 v1 v2 : Value} (h : W.heap[k]? = some (.cells #[v0, v1, v2] T)) :
    W.cell? ⟨k, 0, none⟩ = some v0 ∧ W.cell? ⟨k, 1, none⟩ = some v1 ∧ W.cell? ⟨k, 2, none⟩ = some v2 ∧ W.frozen? ⟨k, 1, none⟩ = false ∧ W.frozen? ⟨k, 2, none⟩ = false := by
  refine ⟨?_, ?_, ?_, by simp [World.frozen?, h], by simp [World.frozen?, h]⟩ <;> (rw [cell_of_row W k _ _ T (0, 0) h]; rfl)

set_option maxHeartbeats 600000 in
theorem act_feed {At : World → Nat → (Nat → Prop) → St → Prop} (api : Api At) (hb b : Nat) (G : Nat → Prop) (vo vt : Value) (st : St) (out tape : List UInt8) (a : Act) (w : World)
    (hh : House At w hb b G vo vt st out tape) (ha : a.ok) (hk : pick a.kind 11 ≠ 10)
    (ho : out.length + (st.feed a.message).ans.length ≤ big) (ht : tape.length + (st.feed a.message).tape.length ≤ big) :
    Calls Try.prog 22 #[.pointer (some ⟨hb, 0, none⟩), .agg a.cells] w fun e w' => ∃ G' vo' vt',
      e = .returned (.bool true) ∧ House At w' hb b G' vo' vt' (st.feed a.message).told.taped (out ++ (st.feed a.message).ans) (tape ++ (st.feed a.message).tape) ∧
      (∀ k, HF hb G' vo' vt' k → HF hb G vo vt k ∨ w.heap.size ≤ k) ∧ Fr (HF hb G vo vt) w w' := by
  have hmsg := fun w => message_any a w ha
  generalize a.message = M at *
  obtain ⟨kind, token, other, side, stock, price, shares⟩ := a
  obtain ⟨⟨k1, k2⟩, -, -, -, -, -, -⟩ := ha
  simp only [Act.cells] at *
  have HMsg := Hid.mk hmsg
  have hk' : ((pick kind 11 : Nat) : Int) ≠ 10 := by omega
  have hk'' : (((pick kind 11 : Nat) : Int) == 10) = false := by simpa using hk'
  have HOL := Hid.mk ho
  have HTL := Hid.mk ht
  clear hk hk' hmsg ho ht
  have hc := cell_of_row w hb 0 _ 30 (0, 0) hh.cell
  simp only [List.getElem?_toArray, List.getElem?_cons_zero] at hc
  have hlt : hb < w.heap.size := (Array.getElem?_eq_some_iff.1 hh.cell).1
  have HH := Hid.mk hh
  clear hh
  go_enter Try.func22, Try.ntmps22
  go_wp2_with (go_at_call 11; refine (pick_any _ _ _ (by assumption) (by assumption) (by decide) (by decide)).mono ?_; rintro e w' ⟨rfl, rfl⟩)
  have hBB := Below.alloc (Below.refl _ w) (Nat.le_refl _) (Obj.cells #[.int .i64 kind, .int .i64 token, .int .i64 other, .int .i64 side, .int .i64 stock, .int .i64 price, .int .i64 shares] 49)
  have hd' : (w.alloc (Obj.cells #[.int .i64 kind, .int .i64 token, .int .i64 other, .int .i64 side, .int .i64 stock, .int .i64 price, .int .i64 shares] 49)).heap[w.heap.size]? = some (Obj.cells #[.int .i64 kind, .int .i64 token, .int .i64 other, .int .i64 side, .int .i64 stock, .int .i64 price, .int .i64 shares] 49) := by rw [heap_alloc, if_pos rfl]
  generalize hBo : Obj.cells _ 49 = Bo at *
  have hc' : (w.alloc Bo).cell? ⟨hb, 0, none⟩ = some (.pointer (some ⟨b, 0, none⟩)) := by rw [hBB.cell (p := ⟨hb, 0, none⟩) hlt, hc]
  have hat' : At (w.alloc Bo).drew b G st := api.keep (api.below HH.out.at_ hBB) (fun k hk => rfl)
  have ltG := api.lt HH.out.at_
  have nG : ¬ G w.heap.size := fun h => by have := ltG _ h; omega
  have nH : ¬ G hb := HH.out.hG
  have HBB := Hid.mk hBB
  have HD := Hid.mk hd'
  obtain ⟨d0, d1, d2, d3, d4, d5, d6⟩ := cells7 (hd'.trans (congrArg some hBo.symm))
  clear hc hBB hd'
  go_region_held3 (fun w' => w'.cell? ⟨hb, 0, none⟩ = some (.pointer (some ⟨b, 0, none⟩)) ∧ w'.cell? ⟨w.heap.size, 0, none⟩ = some (.int .i64 kind) ∧ w'.cell? ⟨w.heap.size, 1, none⟩ = some (.int .i64 token) ∧ w'.cell? ⟨w.heap.size, 2, none⟩ = some (.int .i64 other) ∧ w'.cell? ⟨w.heap.size, 3, none⟩ = some (.int .i64 side) ∧ w'.cell? ⟨w.heap.size, 4, none⟩ = some (.int .i64 stock) ∧ w'.cell? ⟨w.heap.size, 5, none⟩ = some (.int .i64 price) ∧ w'.cell? ⟨w.heap.size, 6, none⟩ = some (.int .i64 shares))
    (first | exact ⟨m1, cells7 (m2.trans (congrArg some hBo.symm))⟩ | exact ⟨n1, cells7 (n2.trans (congrArg some hBo.symm))⟩ | go_keep)
    (first
      | (go_at_call 21; refine (HMsg.out _).mono ?_; rintro e w1 ⟨v, rfl, hov, hb1⟩; have n1 : w1.cell? ⟨hb, 0, none⟩ = some (.pointer (some ⟨b, 0, none⟩)) := (hb1.cell (p := ⟨hb, 0, none⟩) (by simp; omega)).trans hc'; have n2 := (hb1.block w.heap.size (by simp)).trans HD.out; have hat1 := api.below hat' hb1)
      | (go_at_call 12; refine (api.feed b G st v M _ hat1 (hov.rd (fun g hg h => by have := ltG _ h; have := (hov.lt g hg).1; simp at this; omega)) (Nat.le_trans (Nat.le_add_left _ _) HOL.out) (Nat.le_trans (Nat.le_add_left _ _) HTL.out)).mono ?_; rintro e w2 ⟨G2, rfl, hat2, hG2, hfr2⟩; have m1 := hfr2.cell n1 nH; have m2 := (hfr2.block w.heap.size (by have := hb1.size; simp at this; omega) nG).trans n2))
  all_goals go_wp2_with fail
  have hF2 : Fr G w w2 := (((Fr.alloc G w Bo).then (Fr.drew G _)).then (Fr.of_below hb1 G)).then hfr2
  have z1 := hb1.size
  have H2 := HH.out.step hat2 hF2 (fun k hk => by
    rcases hG2 k hk with h | h
    · exact .inl h
    · right; rw [show (w.alloc Bo).drew.heap.size = w.heap.size + 1 from size_alloc w Bo] at z1; omega)
  have hG2' : ∀ k, G2 k → G k ∨ w.heap.size ≤ k := fun k hk => by
    rcases hG2 k hk with h | h
    · exact .inl h
    · right; rw [show (w.alloc Bo).drew.heap.size = w.heap.size + 1 from size_alloc w Bo] at z1; omega
  clear z1 m2 hfr2 hG2 hat2 hat1 n1 n2 hb1 hov d0 d1 d2 d3 d4 d5 d6 HD HBB nG hat' hc' hBo hk'' HMsg
  refine (api.answers b G2 _ w2 H2.at_).mono ?_
  rintro e w3 ⟨va, G3, rfl, hoa, hat3, hG3, hva, hfr3⟩
  have c3 := hfr3.cell m1 H2.hG
  have H3 := H2.step hat3 hfr3 hG3
  have HX := Hid.mk (And.intro hva (And.intro hG3 hfr3))
  clear hva hG3 hfr3 hat3
  go_wp2_with fail
  refine (api.tape b G3 _ w3 H3.at_).mono ?_
  rintro e w4 ⟨vp, G4, rfl, hop, hat4, hG4, hvp, hfr4⟩
  have H4 := H3.step hat4 hfr4 hG4
  have hoa4 : Own w4 0 va (st.feed M).ans := hoa.fr hfr4 (fun g hg => (HX.out.1 g hg).2)
  obtain ⟨e0, e1, e2, e3, e4⟩ := cells3 H4.cell
  have hra : Rd w4 (fun _ => False) va (st.feed M).ans := hoa4.rd (fun _ _ h => h)
  have hpa : ∀ g, vp.ownBlock = some g → g ≠ hb ∧ vo.ownBlock ≠ some g ∧ g < w4.heap.size := by
    intro g hg
    have l3 : hb < w3.heap.size := (Array.getElem?_eq_some_iff.1 H3.cell).1
    rcases (hvp g hg).1 with h | h
    · exact ⟨fun e => H3.hG (e ▸ h), fun e => (H3.ho g e).1 h, (hop.lt g hg).2⟩
    · exact ⟨by omega, fun e => by have := (H3.out.lt g e).2; omega, (hop.lt g hg).2⟩
  have HY := Hid.mk (And.intro hG4 hfr4)
  clear hvp hG4 hfr4 hat4 c3 hoa
  go_wp2_with (first
    | (at_builtin; refine wpList_append_rd rfl _ _ rfl 0 vo out rfl H4.out va (st.feed M).ans rfl (fun _ => False) hra (Nat.le_trans HOL.out (by decide)) (Nat.zero_le _) ?_; intro r5 n5 q5 w5 ho5 hg5 hv5; have H5 := H4.setOut api ho5 hg5 hv5; obtain ⟨f0, f1, f2, f3, f4⟩ := cells3 H5.2; obtain ⟨f5, f6, f7, f8, f9⟩ := cells3 H5.1.cell; have hrp : Rd (w5.setCell ⟨hb, 1, none⟩ (.slice r5 n5 q5)) (fun _ => False) vp (st.feed M).tape := (hop.keep (fun g hg => (Below.heap_setCell _ _ _ _ (hpa g hg).1).trans (hg5.block g (hpa g hg).2.2 (fun e => (hpa g hg).2.1 e.symm)))).rd (fun _ _ h => h))
    | (at_builtin; refine wpList_append_rd rfl _ _ rfl 0 vt tape rfl H5.1.tape vp (st.feed M).tape rfl (fun _ => False) hrp (Nat.le_trans HTL.out (by decide)) (Nat.zero_le _) ?_; intro r6 n6 q6 w6 ho6 hg6 hv6; have H6 := H5.1.setTape api ho6 hg6 hv6; obtain ⟨g0, g1, g2, g3, g4⟩ := cells3 H6.2))
  go_ret
  obtain ⟨hva, hG3, hfr3⟩ := HX.out
  obtain ⟨hG4, hfr4⟩ := HY.out
  have y2 := hF2.size
  have y3 := hfr3.size
  have y4 := hfr4.size
  have y5 := hg5.size
  have hG3' : ∀ k, G3 k → G k ∨ w.heap.size ≤ k := fun k hk => by
    rcases hG3 k hk with h | h
    · exact hG2' k h
    · right; omega
  have hG4' : ∀ k, G4 k → G k ∨ w.heap.size ≤ k := fun k hk => by
    rcases hG4 k hk with h | h
    · exact hG3' k h
    · right; omega
  refine ⟨G4, .slice r5 n5 q5, .slice r6 n6 q6, rfl, H6.1, ?_, ?_⟩
  · intro k hk
    rcases hk with rfl | hk | hk | hk
    · exact .inl (.inl rfl)
    · rcases hG4' k hk with h | h
      · exact .inl (.inr (.inl h))
      · exact .inr h
    · rcases hv5 with h | h
      · exact .inl (.inr (.inr (.inl (h ▸ hk))))
      · rw [h] at hk; cases hk; right; omega
    · rcases hv6 with h | h
      · exact .inl (.inr (.inr (.inr (h ▸ hk))))
      · rw [h] at hk; cases hk; right
        rw [World.size_setCell]; omega
  · have a2 : Fr (HF hb G vo vt) w w2 := hF2.mono (fun k _ h => .inr (.inl h))
    have a3 : Fr (HF hb G vo vt) w w3 := a2.trans hfr3 (fun k hk h => by
      rcases hG2' k h with h | h
      · exact .inr (.inl h)
      · omega)
    have a4 : Fr (HF hb G vo vt) w w4 := a3.trans hfr4 (fun k hk h => by
      rcases hG3' k h with h | h
      · exact .inr (.inl h)
      · omega)
    have a5 : Fr (HF hb G vo vt) w w5 := a4.trans (Fr.of_grown hg5) (fun k _ h => .inr (.inr (.inl h.symm)))
    have a6 := a5.trans (Fr.setCell w5 ⟨hb, 1, none⟩ (.slice r5 n5 q5)) (fun k _ h => .inl h)
    have a7 := a6.trans (Fr.of_grown hg6) (fun k _ h => .inr (.inr (.inr h.symm)))
    exact a7.trans (Fr.setCell w6 ⟨hb, 2, none⟩ (.slice r6 n6 q6)) (fun k _ h => .inl h)

end Go.Proofs.Ytphkchjejbffeaa
