/- Plain facts on bytes and worlds that all walks use; nothing of the program. -/
import Derived.WalkKit
import Derived.WalkSpells
import Derived.WalkLawsBesides
import Derived.Deep.AppendLies
import Derived.Test.YtphkchjejbffeaaProg
import Derived.Maps.AppendAt
import Derived.Laws.AppendOwnNone
namespace Go.Proofs.Ytphkchjejbffeaa
open Go.RowKit

theorem _root_.Go.RowKit.Hid.mk {p : Prop} (h : p) : Hid p := h

/-- A byte as a cell's value. -/
def B (c : UInt8) : Value := .int .u8 (c.toNat : Int)
theorem B_one (c : UInt8) : (B c).oneCell' = true := rfl
theorem B_lt (c : UInt8) : (c.toNat : Int) < 256 := by have := c.toNat_lt; omega

/-- The bytes l lie in block b from o on. -/
def Lies (w : World) (b o : Nat) (l : List UInt8) : Prop := ∀ j c, l[j]? = some c → w.cell? ⟨b, o + j, none⟩ = some (B c)

theorem Lies.cell {w : World} {b o : Nat} {l : List UInt8} (h : Lies w b o l) (k : Nat) (hk : k < l.length) : w.cell? ⟨b, o + k, none⟩ = some (.int .u8 ((l.getD k 0).toNat : Int)) := by
  have := h k (l[k]) (by simp [hk])
  rw [this]; simp [B, hk]

theorem Lies.of_cells {w : World} {b o : Nat} {l : List UInt8} (h : ∀ j u, (l.map B)[j]? = some u → w.cell? ⟨b, o + j, none⟩ = some u) : Lies w b o l :=
  fun j c hc => h j (B c) (by simp [hc])

theorem Lies.drop {w : World} {b o : Nat} {l : List UInt8} (h : Lies w b o l) (n : Nat) : Lies w b (o + n) (l.drop n) := by
  intro j c hc
  rw [List.getElem?_drop] at hc
  have := h _ _ hc
  rw [← this]; congr 2; omega

theorem Lies.take {w : World} {b o : Nat} {l : List UInt8} (h : Lies w b o l) (n : Nat) : Lies w b o (l.take n) := by
  intro j c hc
  rw [List.getElem?_take] at hc
  split at hc
  · exact h _ _ hc
  · cases hc

theorem Lies.keep {w w' : World} {b o : Nat} {l : List UInt8} (h : Lies w b o l) (hb : w'.heap[b]? = w.heap[b]?) : Lies w' b o l :=
  fun j c hc => (World.cell?_of_block (a := ⟨b, o + j, none⟩) hb).trans (h j c hc)

/-- The number that bytes tell, the highest first. -/
def num : List UInt8 → Nat → Nat
  | [], v => v
  | c :: l, v => num l (256 * v + c.toNat)
theorem num_append (l m : List UInt8) (v : Nat) : num (l ++ m) v = num m (num l v) := by
  induction l generalizing v with
  | nil => rfl
  | cons c l ih => simp [num, ih]
theorem num_lt (l : List UInt8) (v : Nat) : num l v < 256 ^ l.length * (v + 1) := by
  induction l generalizing v with
  | nil => simp [num]
  | cons c l ih =>
    have h := ih (256 * v + c.toNat)
    have hc := c.toNat_lt
    have : 256 ^ l.length * (256 * v + c.toNat + 1) ≤ 256 ^ l.length * (256 * (v + 1)) := Nat.mul_le_mul_left _ (by omega)
    simp only [num, List.length_cons, Nat.pow_succ]
    calc _ < _ := h
      _ ≤ _ := this
      _ = _ := by rw [Nat.mul_assoc]

/-- A number in n bytes, the highest first. -/
def enc (v : Nat) : Nat → List UInt8
  | 0 => []
  | n + 1 => enc (v / 256) n ++ [UInt8.ofNat v]
theorem enc_length (v n : Nat) : (enc v n).length = n := by
  induction n generalizing v with
  | zero => rfl
  | succ n ih => simp [enc, ih]
theorem num_enc (v n : Nat) : num (enc v n) 0 = v % 256 ^ n := by
  induction n generalizing v with
  | zero => simp [enc, num, Nat.mod_one]
  | succ n ih =>
    simp only [enc, num_append, ih, num]
    rw [Nat.pow_succ, Nat.mul_comm (256 ^ n) 256, Nat.mod_mul]
    have : (UInt8.ofNat v).toNat = v % 256 := by simp
    omega

theorem enc_get (v n j : Nat) (h : j < n) : (enc v n)[n - 1 - j]? = some (UInt8.ofNat (v / 256 ^ j)) := by
  induction n generalizing v j with
  | zero => omega
  | succ n ih =>
    cases j with
    | zero => simp [enc, enc_length]
    | succ j =>
      have := ih (v / 256) j (by omega)
      simp only [enc]
      rw [show n + 1 - 1 - (j + 1) = n - 1 - j by omega, List.getElem?_append_left (by rw [enc_length]; omega), this]
      rw [Nat.div_div_eq_div_mul, Nat.pow_succ, Nat.mul_comm 256]

/-- A row of n bytes of which the last j of a number's are written. -/
def half (v n j : Nat) : Array Value := (List.replicate (n - j) (B 0) ++ ((enc v n).drop (n - j)).map B).toArray
theorem half_size (v n j : Nat) (_ : j ≤ n) : (half v n j).size = n := by
  have : (List.replicate (n - j) (B 0) ++ ((enc v n).drop (n - j)).map B).length = n := by simp [enc_length]; try omega
  exact this
theorem half_zero (v n : Nat) : half v n 0 = (List.replicate n (B 0)).toArray := by
  unfold half
  rw [Nat.sub_zero, List.drop_of_length_le (by rw [enc_length]; omega)]
  simp
theorem half_full (v n : Nat) : half v n n = ((enc v n).map B).toArray := by simp [half]
theorem half_set (v n j : Nat) (h : j < n) : (half v n j).setIfInBounds (n - 1 - j) (B (UInt8.ofNat (v / 256 ^ j))) = half v n (j + 1) := by
  unfold half
  rw [List.setIfInBounds_toArray]
  congr 1
  have hd : (enc v n).drop (n - (j + 1)) = UInt8.ofNat (v / 256 ^ j) :: (enc v n).drop (n - j) := by
    have hg := enc_get v n j h
    have hlt : n - (j + 1) < (enc v n).length := by rw [enc_length]; omega
    rw [List.drop_eq_getElem_cons hlt, show n - (j + 1) + 1 = n - j by omega]
    congr 1
    rw [show n - 1 - j = n - (j + 1) by omega, List.getElem?_eq_getElem hlt] at hg
    exact Option.some.inj hg
  rw [hd, show n - j = (n - (j + 1)) + 1 by omega, List.replicate_succ', List.append_assoc, List.set_append_right _ _ (by simp; omega)]
  simp [show n - 1 - j - (n - (j + 1)) = 0 by omega]

theorem half_get (v n j : Nat) (h : j < n) : (half v n j)[n - 1 - j]? = some (B 0) := by
  unfold half
  rw [List.getElem?_toArray, List.getElem?_append_left (by simp; omega), List.getElem?_replicate, if_pos (by omega)]
theorem B_ofNat (v : Nat) : B (UInt8.ofNat v) = .int .u8 ((v : Int) % 256) := by simp [B]

/-- Which of n things a raw number speaks of. -/
def pick (c : Int) (n : Nat) : Nat := (if c < 0 then -(c + 1) else c).toNat % n
theorem pick_lt (c : Int) (n : Nat) (h : 0 < n) : pick c n < n := Nat.mod_lt _ h

theorem getD_append_snoc (l : List UInt8) (k : Nat) (h : k < l.length) : l.take (k + 1) = l.take k ++ [l.getD k 0] := by
  rw [List.take_succ_eq_append_getElem h]; simp [h]

theorem heap_alloc (w : World) (o : Obj) (k : Nat) : (w.alloc o).heap[k]? = if k = w.heap.size then some o else w.heap[k]? := by
  show (w.heap.push o)[k]? = _
  rw [Array.getElem?_push]
theorem size_alloc (w : World) (o : Obj) : (w.alloc o).heap.size = w.heap.size + 1 := by
  show (w.heap.push o).size = _
  simp

theorem ownsRow_base {w : World} {b b' : Nat} {e : TypeId} {size : Nat} {v : Value} {n : Nat} {xs : List Value} (h : w.ownsRow b e size v n xs) (hb : b' ≤ b) : w.ownsRow b' e size v n xs := by
  refine ⟨h.1, ?_⟩
  rcases h.2 with h | ⟨g, cap, cur, h1, h2, h3⟩
  · exact .inl h
  · exact .inr ⟨g, cap, cur, h1, Nat.le_trans hb h2, h3⟩

/-- A slice of bytes of the call's own. -/
def Own (w : World) (b : Nat) (v : Value) (l : List UInt8) : Prop := w.ownsRow b 5 1 v l.length (l.map B)
theorem Own.base {w : World} {b b' : Nat} {v : Value} {l : List UInt8} (h : Own w b v l) (hb : b' ≤ b) : Own w b' v l := ownsRow_base h hb
theorem Own.cast {w : World} {b : Nat} {v : Value} {l l' : List UInt8} (h : Own w b v l) (hl : l = l') : Own w b v l' := hl ▸ h

end Go.Proofs.Ytphkchjejbffeaa

/- What the document says, as plain functions: a bourse's state, and what each call does to it. Nothing of the program. -/
namespace Go.Proofs.Ytphkchjejbffeaa

/-- An order that rests. -/
structure Ord where
  ref : Nat
  token : Nat
  side : UInt8
  stock : Nat
  price : Nat
  shares : Nat

/-- A bourse. 'q': by stock, side and price: the orders that rest there, the oldest first. -/
structure St where
  stocks : Nat
  levels : Nat
  pool : Nat
  time : Nat
  opn : Bool
  part : List UInt8
  refs : Nat
  mats : Nat
  used : List Nat
  q : Nat → UInt8 → Nat → List Ord
  ans : List UInt8
  tape : List UInt8

namespace St
def bids (st : St) (s : Nat) : List Ord := (List.range st.levels).flatMap fun r => st.q s 66 (st.levels - r)
def asks (st : St) (s : Nat) : List Ord := (List.range st.levels).flatMap fun r => st.q s 83 (r + 1)
def book (st : St) (s : Nat) : List Ord := st.bids s ++ st.asks s
def all (st : St) : List Ord := (List.range st.stocks).flatMap st.book
def resting (st : St) : Nat := st.all.length
def find (st : St) (t : Nat) : Option Ord := st.all.find? (·.token == t)

def head (st : St) (c : UInt8) : List UInt8 := c :: enc st.time 6
def say (st : St) (l : List UInt8) : St := { st with ans := st.ans ++ l }
def put (st : St) (l : List UInt8) : St := { st with tape := st.tape ++ l }

def upd (st : St) (s : Nat) (d : UInt8) (p : Nat) (f : List Ord → List Ord) : St :=
  { st with q := fun s' d' p' => if s' = s ∧ d' = d ∧ p' = p then f (st.q s d p) else st.q s' d' p' }

end St

/-- Of the order with a token n shares are gone. -/
def redO (t n : Nat) : List Ord → List Ord
  | [] => []
  | x :: l => if x.token = t then (if x.shares ≤ n then l else { x with shares := x.shares - n } :: l) else x :: redO t n l
/-- The order with a token is gone. -/
def delO (t : Nat) : List Ord → List Ord
  | [] => []
  | x :: l => if x.token = t then l else x :: delO t l
/-- The order with a token is another one. -/
def subO (t : Nat) (y : Ord) : List Ord → List Ord
  | [] => []
  | x :: l => if x.token = t then y :: l else x :: subO t y l

def other (d : UInt8) : UInt8 := if d = 66 then 83 else 66
def reaches (o : Ord) (p : Nat) : Bool := if o.side = 66 then p ≤ o.price else o.price ≤ p

namespace St
/-- A price by how good it is for who comes from the other side. -/
def ranked (st : St) (d : UInt8) (r : Nat) : Nat := if d = 66 then st.levels - r else r + 1
/-- The order that this one meets first, if it crosses. -/
def meets (st : St) (o : Ord) : Option Ord :=
  (List.range st.levels).findSome? fun r =>
    if reaches o (st.ranked (other o.side) r) then (st.q o.stock (other o.side) (st.ranked (other o.side) r)).head? else none

def fill (st : St) (t n p m : Nat) : List UInt8 := st.head 70 ++ enc t 4 ++ enc n 2 ++ enc p 2 ++ enc m 4

def execute (st : St) (o f : Ord) (n : Nat) : St :=
  let m := (st.mats + 1) % 4294967296
  let st := { st with mats := m }
  let st := st.say (st.fill f.token n f.price m)
  let st := st.say (st.fill o.token n f.price m)
  let st := st.put (st.head 101 ++ enc f.ref 4 ++ enc n 2 ++ enc m 4)
  st.upd f.stock f.side f.price (redO f.token n)

/-- An order meets others, as long as it has shares and crosses: the bourse behind it, and the order with what is left. -/
def meet : Nat → St → Ord → St × Ord
  | 0, st, o => (st, o)
  | k + 1, st, o =>
    if o.shares = 0 then (st, o) else
    match st.meets o with
    | none => (st, o)
    | some f => meet k (st.execute o f (min o.shares f.shares)) { o with shares := o.shares - min o.shares f.shares }

def rest (st : St) (o : Ord) : St :=
  (st.upd o.stock o.side o.price (· ++ [o])).put (st.head 97 ++ enc o.ref 4 ++ [o.side, UInt8.ofNat o.stock] ++ enc o.shares 2 ++ enc o.price 2)

def why (st : St) (t : Nat) (side : UInt8) (stock price shares : Nat) (kind : UInt8) : Option UInt8 :=
  if t ∈ st.used then some 68
  else if side ≠ 66 ∧ side ≠ 83 then some 66
  else if st.stocks ≤ stock then some 83
  else if price < 1 ∨ st.levels < price then some 80
  else if shares < 1 ∨ 9999 < shares then some 81
  else if kind ≠ 68 ∧ kind ≠ 73 then some 75
  else if kind = 68 ∧ st.pool ≤ st.resting then some 70
  else none

def reject (st : St) (t : Nat) (r : UInt8) : St := st.say (st.head 74 ++ enc t 4 ++ [r])
def cancelled (st : St) (t n : Nat) (r : UInt8) : St := st.say (st.head 88 ++ enc t 4 ++ enc n 2 ++ [r])

def accept (st : St) (o : Ord) (kind : UInt8) : St :=
  { st with refs := o.ref, used := o.token :: st.used }.say
    (st.head 65 ++ enc o.token 4 ++ [o.side, UInt8.ofNat o.stock] ++ enc o.price 2 ++ enc o.shares 2 ++ [kind] ++ enc o.ref 4)

def enter (st : St) (t : Nat) (side : UInt8) (stock price shares : Nat) (kind : UInt8) : St :=
  match st.why t side stock price shares kind with
  | some r => st.reject t r
  | none =>
    let o : Ord := { ref := (st.refs + 1) % 4294967296, token := t, side, stock, price, shares }
    let x := (st.accept o kind).meet 65 o
    if x.2.shares = 0 then x.1
    else if kind = 68 then x.1.rest x.2
    else x.1.cancelled t x.2.shares 73

def cancel (st : St) (t n : Nat) : St :=
  match st.find t with
  | none => st
  | some o =>
    if o.shares ≤ n then st else
    let st := st.cancelled t (o.shares - n) 85
    let st := if n = 0 then st.put (st.head 100 ++ enc o.ref 4) else st.put (st.head 120 ++ enc o.ref 4 ++ enc (o.shares - n) 2)
    st.upd o.stock o.side o.price (redO t (o.shares - n))

def whyR (st : St) (t price shares : Nat) : Option UInt8 :=
  if t ∈ st.used then some 68
  else if price < 1 ∨ st.levels < price then some 80
  else if shares < 1 ∨ 9999 < shares then some 81
  else none

def replace (st : St) (t n price shares : Nat) : St :=
  match st.find t with
  | none => st
  | some o =>
    match st.whyR n price shares with
    | some r => st.reject n r
    | none =>
      let y : Ord := { o with ref := (st.refs + 1) % 4294967296, token := n, price, shares }
      let st := { st with refs := y.ref, used := n :: st.used }.say (st.head 85 ++ enc n 4 ++ enc price 2 ++ enc shares 2 ++ enc y.ref 4 ++ enc t 4)
      match st.meets y with
      | none =>
        let st := st.put (st.head 117 ++ enc o.ref 4 ++ enc y.ref 4 ++ enc shares 2 ++ enc price 2)
        if price = o.price ∧ shares ≤ o.shares then st.upd o.stock o.side o.price (subO t y)
        else (st.upd o.stock o.side o.price (delO t)).upd o.stock o.side price (· ++ [y])
      | some _ =>
        let st := (st.put (st.head 100 ++ enc o.ref 4)).upd o.stock o.side o.price (delO t)
        let x := st.meet 65 y
        if x.2.shares = 0 then x.1 else x.1.rest x.2

def shut (st : St) : St := { st with opn := false }.say (st.head 90)

end St

def at_ (m : List UInt8) (i n : Nat) : Nat := num ((m.drop i).take n) 0
def byteAt (m : List UInt8) (i : Nat) : UInt8 := m.getD i 0

/-- How many bytes a message has that begins with this letter. -/
def sizeOf (c : UInt8) : Nat := if c = 69 then 12 else if c = 82 then 13 else if c = 67 then 7 else 1

namespace St
/-- A message that is whole is done. -/
def act (st : St) (m : List UInt8) : St :=
  if byteAt m 0 = 69 then st.enter (at_ m 1 4) (byteAt m 5) (byteAt m 6).toNat (at_ m 7 2) (at_ m 9 2) (byteAt m 11)
  else if byteAt m 0 = 82 then st.replace (at_ m 1 4) (at_ m 5 4) (at_ m 9 2) (at_ m 11 2)
  else if byteAt m 0 = 67 then st.cancel (at_ m 1 4) (at_ m 5 2)
  else st.shut

def step (st : St) (c : UInt8) : St :=
  if st.opn then
    if (st.part ++ [c]).length = sizeOf (byteAt (st.part ++ [c]) 0) then { st with part := [] }.act (st.part ++ [c])
    else { st with part := st.part ++ [c] }
  else st

def feed (st : St) (l : List UInt8) : St := l.foldl step st
def tick (st : St) (n : Nat) : St := { st with time := (st.time + n) % 281474976710656 }
def told (st : St) : St := { st with ans := [] }
def taped (st : St) : St := { st with tape := [] }
end St

def opened (stocks levels pool : Nat) : St :=
  { stocks, levels, pool, time := 0, opn := true, part := [], refs := 0, mats := 0, used := [], q := fun _ _ _ => [], ans := [79, 0, 0, 0, 0, 0, 0], tape := [] }

theorem feed_append (st : St) (a b : List UInt8) : st.feed (a ++ b) = (st.feed a).feed b := by simp [St.feed]

end Go.Proofs.Ytphkchjejbffeaa

/- What the calls of package bourse do, said of memory; and what holds of memory beside them. Laws lean on this alone. -/
namespace Go.Proofs.Ytphkchjejbffeaa
open Go.RowKit

/-- Of what was there, only blocks of F may have turned. -/
structure Fr (F : Nat → Prop) (w w' : World) : Prop where
  os : w'.os = w.os
  tape : w'.tape = w.tape
  output : w'.output = w.output
  size : w.heap.size ≤ w'.heap.size
  block : ∀ k, k < w.heap.size → ¬ F k → w'.heap[k]? = w.heap[k]?

theorem Fr.refl (F : Nat → Prop) (w : World) : Fr F w w := ⟨rfl, rfl, rfl, Nat.le_refl _, fun _ _ _ => rfl⟩
theorem Fr.trans {F G : Nat → Prop} {a b c : World} (h : Fr F a b) (k : Fr G b c) (hg : ∀ i, i < a.heap.size → G i → F i) : Fr F a c :=
  ⟨k.os.trans h.os, k.tape.trans h.tape, k.output.trans h.output, Nat.le_trans h.size k.size,
   fun i hi hf => (k.block i (Nat.lt_of_lt_of_le hi h.size) (fun g => hf (hg i hi g))).trans (h.block i hi hf)⟩
theorem Fr.mono {F G : Nat → Prop} {a b : World} (h : Fr F a b) (hg : ∀ i, i < a.heap.size → F i → G i) : Fr G a b :=
  ⟨h.os, h.tape, h.output, h.size, fun i hi hf => h.block i hi (fun g => hf (hg i hi g))⟩
theorem Fr.of_below {w w' : World} (h : Below w.heap.size w w') (F : Nat → Prop) : Fr F w w' :=
  ⟨h.os, h.tape, h.output, h.size, fun i hi _ => h.block i hi⟩
theorem Fr.below {F : Nat → Prop} {w w' : World} {n : Nat} (h : Fr F w w') (hn : n ≤ w.heap.size) (hF : ∀ k, F k → n ≤ k) : Below n w w' :=
  ⟨h.os, h.tape, h.output, h.size, fun i hi => h.block i (Nat.lt_of_lt_of_le hi hn) (fun f => by have := hF i f; omega)⟩
theorem Fr.of_grown {w w' : World} {r : Option Nat} (h : w.grownBy w' r) : Fr (fun k => some k = r) w w' := ⟨h.os, h.tape, h.output, h.size, h.block⟩
theorem Fr.alloc (F : Nat → Prop) (w : World) (o : Obj) : Fr F w (w.alloc o) :=
  ⟨rfl, rfl, rfl, by rw [size_alloc]; omega, fun i hi _ => by rw [heap_alloc, if_neg (by omega)]⟩
theorem Fr.drew (F : Nat → Prop) (w : World) : Fr F w w.drew := ⟨rfl, rfl, rfl, Nat.le_refl _, fun _ _ _ => rfl⟩
theorem Fr.setCell (w : World) (a : Addr) (v : Value) : Fr (fun k => k = a.block) w (w.setCell a v) :=
  ⟨rfl, rfl, rfl, by simp [World.setCell], fun i _ h => Below.heap_setCell _ _ _ _ h⟩

theorem Fr.cell {F : Nat → Prop} {w w' : World} {k o : Nat} {v : Value} (h : Fr F w w') (hc : w.cell? ⟨k, o, none⟩ = some v) (hF : ¬ F k) : w'.cell? ⟨k, o, none⟩ = some v :=
  (World.cell?_of_block (a := ⟨k, o, none⟩) (h.block k (World.block_lt_of_cell? w _ hc) hF)).trans hc
theorem Own.keep {w w' : World} {b : Nat} {v : Value} {l : List UInt8} (h : Own w b v l) (hk : ∀ g, v.ownBlock = some g → w'.heap[g]? = w.heap[g]?) : Own w' b v l := by
  refine ⟨h.1, ?_⟩
  rcases h.2 with h | ⟨g, cap, cur, h1, h2, h3, h4⟩
  · exact .inl h
  · exact .inr ⟨g, cap, cur, h1, h2, (hk g (by rw [h1]; rfl)).trans h3, h4⟩

theorem Own.lt {w : World} {b : Nat} {v : Value} {l : List UInt8} (h : Own w b v l) (g : Nat) (hg : v.ownBlock = some g) : b ≤ g ∧ g < w.heap.size := World.ownsRow.lt h g hg

/-- A list of bytes that may be read. -/
def Rd (w : World) (F : Nat → Prop) (v : Value) (l : List UInt8) : Prop :=
  (v = .slice none 0 0 ∧ l = []) ∨ ∃ g o cap, v = .slice (some ⟨g, o, none⟩) l.length cap ∧ Lies w g o l ∧ l.length ≤ cap ∧ cap ≤ maxLen ∧ ¬ F g ∧ g < w.heap.size

theorem Own.rd {w : World} {b : Nat} {v : Value} {l : List UInt8} {F : Nat → Prop} (h : Own w b v l) (hf : ∀ g, v.ownBlock = some g → ¬ F g) : Rd w F v l := by
  rcases h.2 with ⟨h1, h2⟩ | ⟨g, cap, cur, h1, h2, h3, h4, h5, h6, h7⟩
  · exact .inl ⟨h1, List.length_eq_zero_iff.1 h2⟩
  · refine .inr ⟨g, 0, cap, h1, ?_, h4, h5, hf g (by rw [h1]; rfl), (Array.getElem?_eq_some_iff.1 h3).1⟩
    intro j c hc
    rw [Nat.zero_add, cell_of_row w g j cur 5 (0, 0) h3]
    have : (cur.toList.take (l.length * 1))[j]? = some (B c) := by rw [h7]; simp [hc]
    rw [List.getElem?_take] at this
    split at this
    · simpa using this
    · cases this

theorem Own.len {w : World} {b : Nat} {v : Value} {l : List UInt8} (h : Own w b v l) : ∃ a cap, v = .slice a l.length cap ∧ l.length ≤ cap ∧ cap ≤ maxLen := by
  rcases h.2 with ⟨h1, h2⟩ | ⟨g, cap, cur, h1, h2, h3, h4, h5, h6, h7⟩
  · exact ⟨none, 0, by rw [h1, h2], by omega, by unfold maxLen; omega⟩
  · exact ⟨_, cap, h1, h4, h5⟩

def big : Nat := 70368744177664

/-- The cells of an order, as it is told. -/
def Ord.cells (o : Ord) : List Value := [.int .i64 o.ref, .int .i64 o.token, .int .u8 o.side.toNat, .int .i64 o.stock, .int .i64 o.price, .int .i64 o.shares]

def viewOf (st : St) : Value := .agg #[.int .i64 st.time, .int .i64 st.resting, .bool st.opn, .int .i64 st.part.length]

/-- The calls of the program do what the document says: 'At w b G st': in the world w the bourse at block b, with the blocks G, is as st says. -/
structure Api (At : World → Nat → (Nat → Prop) → St → Prop) : Prop where
  lt : ∀ {w b G st}, At w b G st → ∀ k, G k → k < w.heap.size
  keep : ∀ {w w' b G st}, At w b G st → (∀ k, G k → w'.heap[k]? = w.heap[k]?) → At w' b G st
  new : ∀ (s l p : Int) (w : World), 1 ≤ s → s ≤ 8 → 1 ≤ l → l ≤ 64 → 1 ≤ p → p ≤ 64 →
    Calls Try.prog 27 #[.int .i64 s, .int .i64 l, .int .i64 p] w fun e w' => ∃ b G,
      e = .returned (.tuple #[.pointer (some ⟨b, 0, none⟩), .int .i64 0]) ∧ At w' b G (opened s.toNat l.toNat p.toNat) ∧ (∀ k, G k → w.heap.size ≤ k) ∧ Below w.heap.size w w'
  feed : ∀ (b : Nat) (G : Nat → Prop) (st : St) (v : Value) (l : List UInt8) (w : World), At w b G st → Rd w G v l → (st.feed l).ans.length ≤ big → (st.feed l).tape.length ≤ big →
    Calls Try.prog 12 #[.pointer (some ⟨b, 0, none⟩), v] w fun e w' => ∃ G',
      e = .returned (.tuple #[]) ∧ At w' b G' (st.feed l) ∧ (∀ k, G' k → G k ∨ w.heap.size ≤ k) ∧ Fr G w w'
  tick : ∀ (b : Nat) (G : Nat → Prop) (st : St) (n : Int) (w : World), At w b G st → 0 ≤ n → n ≤ 1000000 →
    Calls Try.prog 34 #[.pointer (some ⟨b, 0, none⟩), .int .i64 n] w fun e w' =>
      e = .returned (.int .i64 0) ∧ At w' b G (st.tick n.toNat) ∧ Fr G w w'
  answers : ∀ (b : Nat) (G : Nat → Prop) (st : St) (w : World), At w b G st →
    Calls Try.prog 15 #[.pointer (some ⟨b, 0, none⟩)] w fun e w' => ∃ v G',
      e = .returned v ∧ Own w' 0 v st.ans ∧ At w' b G' st.told ∧ (∀ k, G' k → G k ∨ w.heap.size ≤ k) ∧ (∀ g, v.ownBlock = some g → (G g ∨ w.heap.size ≤ g) ∧ ¬ G' g) ∧ Fr G w w'
  tape : ∀ (b : Nat) (G : Nat → Prop) (st : St) (w : World), At w b G st →
    Calls Try.prog 20 #[.pointer (some ⟨b, 0, none⟩)] w fun e w' => ∃ v G',
      e = .returned v ∧ Own w' 0 v st.tape ∧ At w' b G' st.taped ∧ (∀ k, G' k → G k ∨ w.heap.size ≤ k) ∧ (∀ g, v.ownBlock = some g → (G g ∨ w.heap.size ≤ g) ∧ ¬ G' g) ∧ Fr G w w'
  look : ∀ (b : Nat) (G : Nat → Prop) (st : St) (w : World), At w b G st →
    Calls Try.prog 17 #[.pointer (some ⟨b, 0, none⟩)] w fun e w' => e = .returned (viewOf st) ∧ Below w.heap.size w w'
  book : ∀ (b : Nat) (G : Nat → Prop) (st : St) (s : Int) (w : World), At w b G st → 0 ≤ s → s < st.stocks →
    Calls Try.prog 33 #[.pointer (some ⟨b, 0, none⟩), .int .i64 s] w fun e w' => ∃ v,
      e = .returned (.tuple #[v, .int .i64 0]) ∧ w'.ownsRow w.heap.size 46 6 v (st.book s.toNat).length ((st.book s.toNat).flatMap Ord.cells) ∧ Below w.heap.size w w'

end Go.Proofs.Ytphkchjejbffeaa

/- The walks of boursekeep's small helpers: pick, num, val. -/
namespace Go.Proofs.Ytphkchjejbffeaa
open Go.RowKit

theorem ret_int {k : IntKind} {a b : Int} (h : a = b) : Ending.returned (.int k a) = .returned (.int k b) := by rw [h]

set_option maxHeartbeats 400000 in
theorem pick_any (c n : Int) (w : World) (hc1 : -9223372036854775808 ≤ c) (hc2 : c ≤ 9223372036854775807) (hn1 : 0 < n) (hn2 : n ≤ 9223372036854775807) :
    Calls Try.prog 11 #[.int .i64 c, .int .i64 n] w fun e w' => e = .returned (.int .i64 (pick c n.toNat : Nat)) ∧ w' = w := by
  have hp : ((pick c n.toNat : Nat) : Int) = (if c < 0 then -(c + 1) else c) % n := by
    unfold pick
    rw [Int.natCast_emod, Int.toNat_of_nonneg (by split <;> omega), Int.toNat_of_nonneg (by omega)]
  by_cases hc : c < 0
  · rw [if_pos hc] at hp
    have H : Hid (((pick c n.toNat : Nat) : Int) = (-(c + 1)) % n) := hp
    clear hp
    go_enter Try.func11, Try.ntmps11
    go_wp2
    go_ret
    exact ⟨ret_int (by rw [H.out, ← Int.neg_tmod, Int.tmod_eq_emod_of_nonneg (by omega)]), rfl⟩
  · rw [if_neg hc] at hp
    have H : Hid (((pick c n.toNat : Nat) : Int) = c % n) := hp
    clear hp
    go_enter Try.func11, Try.ntmps11
    go_wp2
    go_ret
    exact ⟨ret_int (by rw [H.out]), rfl⟩

theorem Try.info5 : (Try.prog.info? 5).map (fun i => (i.zero, i.size, i.bytes)) = some (some (.int .u8 0), 1, 1) := by kernel_rfl

theorem made_bytes (n : Nat) : madeCells (Value.int .u8 0).cells (n * 1) = half 0 n 0 := by
  rw [half_zero]
  apply Array.ext_getElem?
  intro i
  simp [madeCells, Value.cells, Array.getElem?_range, B]
  split <;> simp_all [Nat.mod_one]

set_option maxHeartbeats 400000 in
theorem num_nat (v n : Nat) (w : World) (hv : v ≤ 9223372036854775807) (hn : n ≤ 8) :
    Calls Try.prog 14 #[.int .i64 v, .int .i64 n] w fun e w' => e = .returned (.slice (some ⟨w.heap.size, 0, none⟩) n n) ∧ w' = w.alloc (.cells ((enc v n).map B).toArray 5) := by
  have hm : (Instr.makeSlice 28 (.int .i64 n) (.int .i64 n)).run Try.prog w = .ok (.slice (some ⟨w.heap.size, 0, none⟩) n n) (w.alloc (.cells (half v n 0) 5)) := by
    obtain ⟨i0, hi, hz0, hz1, hz2⟩ := info_parts Try.info5
    have := run_make (P := Try.prog) w 28 5 i0 (.int .u8 0) Try.underlying28 hi hz0 .i64 .i64 n n (by omega) (by omega) (by rw [hz2]; omega) (by omega)
    rw [this, hz1, Int.toNat_natCast, made_bytes, half_zero, half_zero]
  go_enter Try.func14, Try.ntmps14
  go_wp2
  clear hm
  go_loopw [0, 6] (fun x i wr => ∃ j : Nat, j ≤ n ∧ i = .int .i64 ((n : Int) - 1 - j) ∧ x = .int .i64 (v / 256 ^ j : Nat) ∧ wr = w.alloc (.cells (half v n j) 5)) (fun _ i _ => (intOf i + 1).toNat)
  case atStart => exact ⟨0, by omega, by simp, by simp, rfl⟩
  case round =>
    obtain ⟨j, hj, rfl, rfl, rfl⟩ := hrel
    by_cases hlt : j < n
    · have hsz := half_size v n j hj
      have h1 : (0 : Int) ≤ (n : Int) - 1 - j := by omega
      have h2 : (n : Int) - 1 - j < n := by omega
      have hq : v / 256 ^ j ≤ 9223372036854775807 := Nat.le_trans (Nat.div_le_self _ _) hv
      have HS : Hid (v / 256 ^ (j + 1) = v / 256 ^ j / 256) := by show _ = _; rw [Nat.pow_succ, Nat.div_div_eq_div_mul]
      have hT := half_set v n j hlt
      rw [B_ofNat] at hT
      have HT : Hid ((half v n j).setIfInBounds (n - 1 - j) (.int .u8 (((v / 256 ^ j : Nat) : Int) % 256)) = half v n (j + 1)) := hT
      clear hT
      have hg := half_get v n j hlt
      generalize v / 256 ^ j = q at *
      go_wp2
      go_roundw
      case rel => exact ⟨j + 1, by omega, by go_num, by rw [HS.out]; simp, by rw [HT.out]⟩
      case measure => simp [intOf]; omega
    · go_wp2
      go_ret
      have : j = n := by omega
      subst this
      exact ⟨rfl, by rw [half_full]⟩

theorem num_any (v n : Int) (w : World) (h0 : 0 ≤ v) (hv : v ≤ 9223372036854775807) (hn0 : 0 ≤ n) (hn : n ≤ 8) :
    Calls Try.prog 14 #[.int .i64 v, .int .i64 n] w fun e w' => e = .returned (.slice (some ⟨w.heap.size, 0, none⟩) n.toNat n.toNat) ∧ w' = w.alloc (.cells ((enc v.toNat n.toNat).map B).toArray 5) := by
  have := num_nat v.toNat n.toNat w (by omega) (by omega)
  rwa [Int.toNat_of_nonneg h0, Int.toNat_of_nonneg hn0] at this

end Go.Proofs.Ytphkchjejbffeaa

/- append of bytes that may be read onto bytes of the call's own, in one law. -/
namespace Go.Proofs.Ytphkchjejbffeaa
open Go.RowKit

theorem wpList_append_rd {w : World} {ops : Array Oper} {rest : List Oper} {o : Oper} {a : Go.Act} {Q : Exit → Go.Act → World → Prop} (hgd : o.guard = none) (s x : Operand)
    (ho : o.op = .call { callee := .builtin .append, args := #[s, x], argTypes := #[28, 28] })
    (base : Nat) (vo : Value) (out : List UInt8) (hs : a.eval s = vo) (hown : Own w base vo out) (vx : Value) (l : List UInt8) (hx : a.eval x = vx) (F : Nat → Prop) (hrd : Rd w F vx l)
    (hlen : out.length + l.length ≤ 140737488355328) (hbase : base ≤ w.heap.size)
    (h : ∀ ra n cap w', Own w' base (.slice ra n cap) (out ++ l) → w.grownBy w' vo.ownBlock → (Value.ownBlock (.slice ra n cap) = vo.ownBlock ∨ Value.ownBlock (.slice ra n cap) = some w.heap.size) → wpList Try.prog ops Q rest (a.put o.dst (.slice ra n cap)) w') :
    wpList Try.prog ops Q (o :: rest) a w := by
  obtain ⟨i0, hi, hz0, hz1, hz2⟩ := info_parts Try.info5
  rcases hrd with ⟨rfl, rfl⟩ | ⟨g, off, cap, rfl, hl, hc1, hc2, _, _⟩
  · refine wpList_append_own_none hgd s x 28 ho base 5 i0 1 Try.underlying28 hi vo _ _ hs hown hx ?_
    obtain ⟨ra, cap, rfl, _, _⟩ := hown.len
    exact h ra _ cap w (by rw [List.append_nil]; exact hown) ⟨rfl, rfl, rfl, Nat.le_refl _, fun _ _ _ => rfl⟩ (.inl rfl)
  · refine wpList_append_own_at w hgd s x 28 ho base 5 i0 (.int .u8 0) 1 1 Try.underlying28 hi hz0 hz1 hz2 rfl (by decide) vo _ _ hs hown ⟨g, off, none⟩ l.length cap (l.map B) hx (by simp) ?_ ?_ (by unfold maxLen; omega) (by omega) hbase ?_
    · intro j u hu
      rw [List.getElem?_map, Option.map_eq_some_iff] at hu
      obtain ⟨c, hc', rfl⟩ := hu
      rw [Addr.add_lit]
      exact hl j c hc'
    · intro u hu
      simp at hu
      obtain ⟨c, _, rfl⟩ := hu
      rfl
    · intro v' w' h2 h3 _ h5
      have h2' : Own w' base v' (out ++ l) := by
        unfold Own
        rw [List.length_append, List.map_append]
        exact h2
      obtain ⟨ra, cap, rfl, _, _⟩ := h2'.len
      exact h ra _ cap w' h2' h3 h5

theorem rd_one (w : World) (c : UInt8) (n : Int) (hn : n = c.toNat) (F : Nat → Prop) (hF : ¬ F w.heap.size) : Rd (w.alloc (.cells #[.int .u8 n] 5)) F (.slice (some ⟨w.heap.size, 0, none⟩) 1 1) [c] := by
  subst hn
  refine .inr ⟨w.heap.size, 0, 1, rfl, ?_, by simp, by unfold maxLen; omega, hF, by rw [size_alloc]; omega⟩
  intro j d hd
  cases j with
  | zero =>
    simp at hd
    subst hd
    rw [cell_of_row _ w.heap.size 0 _ 5 (0, 0) (by rw [heap_alloc, if_pos rfl])]
    rfl
  | succ j => simp at hd

/-- A row of cells that may be read, as a slice of m elements. -/
def RdRow (w : World) (size : Nat) (v : Value) (m : Nat) (xs : List Value) : Prop :=
  (v = .slice none 0 0 ∧ m = 0 ∧ xs = []) ∨ ∃ g o cap, v = .slice (some ⟨g, o, none⟩) m cap ∧ xs.length = m * size ∧ ∀ j u, xs[j]? = some u → w.cell? ⟨g, o + j, none⟩ = some u

theorem ownsRow_rd {w : World} {b : Nat} {e : TypeId} {size : Nat} {v : Value} {n : Nat} {xs : List Value} (h : w.ownsRow b e size v n xs) : RdRow w size v n xs := by
  rcases h.2 with ⟨h1, h2⟩ | ⟨g, cap, cur, h1, h2, h3, h4, h5, h6, h7⟩
  · refine .inl ⟨h1, h2, ?_⟩
    have := h.1
    rw [h2, Nat.zero_mul] at this
    exact List.length_eq_zero_iff.1 this
  · refine .inr ⟨g, 0, cap, h1, h.1, ?_⟩
    intro j u hu
    have := h.cells (g := g) (by rw [h1]; rfl) j u hu
    rwa [Addr.add_lit] at this

theorem ownsRow_len {w : World} {b : Nat} {e : TypeId} {size : Nat} {v : Value} {n : Nat} {xs : List Value} (h : w.ownsRow b e size v n xs) : ∃ a cap, v = .slice a n cap ∧ n ≤ cap ∧ cap ≤ maxLen := by
  rcases h.2 with ⟨h1, h2⟩ | ⟨g, cap, cur, h1, h2, h3, h4, h5, h6, h7⟩
  · exact ⟨none, 0, by rw [h1, h2], by omega, by unfold maxLen; omega⟩
  · exact ⟨_, cap, h1, h4, h5⟩

theorem ownsRow_keep {w w' : World} {b : Nat} {e : TypeId} {size : Nat} {v : Value} {n : Nat} {xs : List Value} (h : w.ownsRow b e size v n xs) (hk : ∀ g, v.ownBlock = some g → w'.heap[g]? = w.heap[g]?) : w'.ownsRow b e size v n xs := by
  refine ⟨h.1, ?_⟩
  rcases h.2 with h | ⟨g, cap, cur, h1, h2, h3, h4⟩
  · exact .inl h
  · exact .inr ⟨g, cap, cur, h1, h2, (hk g (by rw [h1]; rfl)).trans h3, h4⟩

theorem wpList_append_row {w : World} {ops : Array Oper} {rest : List Oper} {o : Oper} {a : Go.Act} {Q : Exit → Go.Act → World → Prop} (hgd : o.guard = none) (s x : Operand) (t : TypeId)
    (ho : o.op = .call { callee := .builtin .append, args := #[s, x], argTypes := #[t, t] })
    (base : Nat) (e : TypeId) (i : TypeInfo) (z : Value) (size bytes : Nat) (ht : Try.prog.underlying t = some (.slice e)) (hi : Try.prog.info? e = some i) (hz : i.zero = some z)
    (hsize : i.size = size) (hby : i.bytes = bytes) (hzs : z.cells.size = size) (hsz : 0 < size)
    (vo : Value) (n : Nat) (xs : List Value) (hs : a.eval s = vo) (hown : w.ownsRow base e size vo n xs) (vx : Value) (m : Nat) (ys : List Value) (hx : a.eval x = vx) (hrd : RdRow w size vx m ys) (h1 : ∀ u ∈ ys, u.oneCell' = true)
    (h63 : n + m ≤ maxLen) (hbytes : (n + m) * bytes ≤ 140737488355328) (hbase : base ≤ w.heap.size)
    (h : ∀ ra cap w', w'.ownsRow base e size (.slice ra (n + m) cap) (n + m) (xs ++ ys) → w.grownBy w' vo.ownBlock → (Value.ownBlock (.slice ra (n + m) cap) = vo.ownBlock ∨ Value.ownBlock (.slice ra (n + m) cap) = some w.heap.size) → wpList Try.prog ops Q rest (a.put o.dst (.slice ra (n + m) cap)) w') :
    wpList Try.prog ops Q (o :: rest) a w := by
  rcases hrd with ⟨rfl, rfl, rfl⟩ | ⟨g, off, cap, rfl, hl, hc⟩
  · refine wpList_append_own_none hgd s x t ho base e i size ht hi vo _ _ hs hown hx ?_
    obtain ⟨ra, cap, rfl, _, _⟩ := ownsRow_len hown
    exact h ra cap w (by rw [List.append_nil]; exact hown) ⟨rfl, rfl, rfl, Nat.le_refl _, fun _ _ _ => rfl⟩ (.inl rfl)
  · refine wpList_append_own_at w hgd s x t ho base e i z size bytes ht hi hz hsize hby hzs hsz vo _ _ hs hown ⟨g, off, none⟩ m cap ys hx hl ?_ h1 h63 hbytes hbase ?_
    · intro j u hu
      rw [Addr.add_lit]
      exact hc j u hu
    · intro v' w' h2 h3 _ h5
      obtain ⟨ra, cap, rfl, _, _⟩ := ownsRow_len h2
      exact h ra cap w' h2 h3 h5

end Go.Proofs.Ytphkchjejbffeaa

/- The walks of package field. -/
namespace Go.Proofs.Ytphkchjejbffeaa
open Go.RowKit

set_option maxRecDepth 100000 in
set_option maxHeartbeats 400000 in
theorem len64_32 (w : World) : Calls Try.prog 145 #[.int .u64 4294967295] w fun e w' => e = .returned (.int .i64 32) ∧ w' = w := by
  go_enter Try.func145, Try.ntmps145
  go_wp2
  go_ret
  refine ⟨?_, rfl⟩
  show Ending.returned (.int .i64 _) = _
  exact ret_int (by decide +kernel)
set_option maxRecDepth 100000 in
set_option maxHeartbeats 400000 in
theorem len64_16 (w : World) : Calls Try.prog 145 #[.int .u64 65535] w fun e w' => e = .returned (.int .i64 16) ∧ w' = w := by
  go_enter Try.func145, Try.ntmps145
  go_wp2
  go_ret
  refine ⟨?_, rfl⟩
  show Ending.returned (.int .i64 _) = _
  exact ret_int (by decide +kernel)
set_option maxRecDepth 100000 in
set_option maxHeartbeats 400000 in
theorem len64_8 (w : World) : Calls Try.prog 145 #[.int .u64 255] w fun e w' => e = .returned (.int .i64 8) ∧ w' = w := by
  go_enter Try.func145, Try.ntmps145
  go_wp2
  go_ret
  refine ⟨?_, rfl⟩
  show Ending.returned (.int .i64 _) = _
  exact ret_int (by decide +kernel)

theorem ones32 : IntKind.u64.wrap (bits BinOp.xor IntKind.u32 IntKind.u32.max 0) = 4294967295 := by decide +kernel
theorem ones16 : IntKind.u64.wrap (bits BinOp.xor IntKind.u16 IntKind.u16.max 0) = 65535 := by decide +kernel
theorem ones8 : IntKind.u64.wrap (bits BinOp.xor IntKind.u8 IntKind.u8.max 0) = 255 := by decide +kernel

set_option maxRecDepth 100000 in
set_option maxHeartbeats 400000 in
theorem width32 (w : World) : Calls Try.prog 122 #[] w fun e w' => e = .returned (.int .i64 4) ∧ w' = w := by
  go_enter Try.func122, Try.ntmps122
  go_wp2_with fail
  rw [ones32]
  refine (len64_32 w).mono ?_
  rintro e w' ⟨rfl, rfl⟩
  go_wp2
  go_ret
  exact ⟨rfl, rfl⟩
set_option maxRecDepth 100000 in
set_option maxHeartbeats 400000 in
theorem width16 (w : World) : Calls Try.prog 124 #[] w fun e w' => e = .returned (.int .i64 2) ∧ w' = w := by
  go_enter Try.func124, Try.ntmps124
  go_wp2_with fail
  rw [ones16]
  refine (len64_16 w).mono ?_
  rintro e w' ⟨rfl, rfl⟩
  go_wp2
  go_ret
  exact ⟨rfl, rfl⟩
set_option maxRecDepth 100000 in
set_option maxHeartbeats 400000 in
theorem width8 (w : World) : Calls Try.prog 123 #[] w fun e w' => e = .returned (.int .i64 1) ∧ w' = w := by
  go_enter Try.func123, Try.ntmps123
  go_wp2_with fail
  rw [ones8]
  refine (len64_8 w).mono ?_
  rintro e w' ⟨rfl, rfl⟩
  go_wp2
  go_ret
  exact ⟨rfl, rfl⟩

/-- Bytes were put behind others: v was l, v' is l'. -/
structure Puts (w w' : World) (v v' : Value) (l' : List UInt8) : Prop where
  own : Own w' 0 v' l'
  fr : Fr (fun k => v.ownBlock = some k) w w'
  at_ : v'.ownBlock = v.ownBlock ∨ ∃ g, v'.ownBlock = some g ∧ w.heap.size ≤ g

theorem Puts.refl {w : World} {v : Value} {l : List UInt8} (h : Own w 0 v l) : Puts w w v v l := ⟨h, Fr.refl _ _, .inl rfl⟩
theorem Puts.trans {a b c : World} {u v x : Value} {l m : List UInt8} (h : Puts a b u v l) (k : Puts b c v x m) : Puts a c u x m := by
  refine ⟨k.own, h.fr.trans k.fr ?_, ?_⟩
  · intro i hi hv
    rcases h.at_ with e | ⟨g, e, hg⟩
    · rw [← e]; exact hv
    · rw [e] at hv; cases hv; omega
  · rcases k.at_ with e | ⟨g, e, hg⟩
    · rcases h.at_ with e' | ⟨g, e', hg⟩
      · exact .inl (e.trans e')
      · exact .inr ⟨g, e.trans e', hg⟩
    · exact .inr ⟨g, e, Nat.le_trans h.fr.size hg⟩
theorem Puts.cast {w w' : World} {v v' : Value} {l l' : List UInt8} (h : Puts w w' v v' l) (e : l = l') : Puts w w' v v' l' := e ▸ h

theorem enc_take (n size j : Nat) (h : j < size) : (enc n size).take (j + 1) = (enc n size).take j ++ [UInt8.ofNat (n / 256 ^ (size - 1 - j))] := by
  have hl : j < (enc n size).length := by rw [enc_length]; exact h
  rw [List.take_succ_eq_append_getElem hl]
  congr 2
  have := enc_get n size (size - 1 - j) (by omega)
  rw [show size - 1 - (size - 1 - j) = j by omega, List.getElem?_eq_getElem hl] at this
  exact Option.some.inj this

theorem byte_of (n k : Nat) : (n : Int) / 2 ^ (8 * k) % 256 = ((UInt8.ofNat (n / 256 ^ k)).toNat : Int) := by
  have e : (2 : Int) ^ (8 * k) = ((256 ^ k : Nat) : Int) := by
    have h : (2 : Nat) ^ (8 * k) = 256 ^ k := by rw [Nat.pow_mul]
    rw [← h]; simp
  rw [UInt8.toNat_ofNat', e, ← Int.natCast_ediv]
  omega

/-- One append more. -/
theorem Puts.app {w wr w2 : World} {v x v2 : Value} {m l2 : List UInt8} {o : Obj} (h : Puts w wr v x m) (ho : Own w2 0 v2 l2) (hg : (wr.alloc o).grownBy w2 x.ownBlock)
    (hv : v2.ownBlock = x.ownBlock ∨ v2.ownBlock = some (wr.alloc o).heap.size) : Puts w w2 v v2 l2 := by
  refine h.trans ⟨ho, ?_, ?_⟩
  · exact (Fr.alloc _ wr o).trans (Fr.of_grown hg) (fun i _ e => e.symm)
  · rcases hv with e | e
    · exact .inl e
    · exact .inr ⟨_, e, by rw [size_alloc]; omega⟩

theorem own_alloc {w : World} {b : Nat} {v : Value} {l : List UInt8} (h : Own w b v l) (o : Obj) : Own (w.alloc o) b v l :=
  h.keep (fun g hg => by rw [heap_alloc, if_neg (by have := (Own.lt h g hg).2; omega)])

set_option maxRecDepth 100000 in
set_option maxHeartbeats 600000 in
theorem putLow64 (v : Value) (l : List UInt8) (n size : Nat) (w : World) (ho : Own w 0 v l) (_hn : n < 18446744073709551616) (hs : size ≤ 8) (hl : l.length + 8 ≤ 140737488355328) :
    Calls Try.prog 109 #[v, .int .u64 n, .int .i64 size] w fun e w' => ∃ v', e = .returned v' ∧ Puts w w' v v' (l ++ enc n size) := by
  go_enter Try.func109, Try.ntmps109
  go_wp2
  go_loopw [0, 7] (fun x i wr => ∃ j : Nat, j ≤ size ∧ i = .int .i64 ((size : Int) - 1 - j) ∧ Puts w wr v x (l ++ (enc n size).take j)) (fun _ i _ => (intOf i + 1).toNat)
  case atStart => exact ⟨0, by omega, by simp, by simpa using Puts.refl ho⟩
  case round =>
    obtain ⟨j, hj, rfl, hp⟩ := hrel
    have HP := Hid.mk hp
    clear hp
    by_cases hlt : j < size
    · have h1 : (0 : Int) ≤ (size : Int) - 1 - j := by omega
      have h2 : (size : Int) - 1 - j < 8 := by omega
      have hown := fun o : Obj => own_alloc HP.out.own o
      have HO := Hid.mk hown
      have hlen : (l ++ (enc n size).take j).length + 1 ≤ 140737488355328 := by
        rw [List.length_append, List.length_take, enc_length]; omega
      have HLen := Hid.mk hlen
      have HT := Hid.mk (enc_take n size j hlt)
      have HB := Hid.mk (byte_of n (size - 1 - j))
      clear hown hlen
      go_wp2_with (at_builtin; go_must (refine wpList_append_rd rfl _ _ rfl 0 _ (l ++ (enc n size).take j) rfl (HO.out _) _ [UInt8.ofNat (n / 256 ^ (size - 1 - j))] rfl (fun _ => False) (rd_one wr _ _ HB.out _ (fun h => h)) HLen.out (Nat.zero_le _) ?_); intro r2 n2 c2 w2 ho2 hg2 hv2)
      exact ⟨⟨j + 1, by omega, by go_num, by rw [HT.out, ← List.append_assoc]; exact HP.out.app ho2 hg2 hv2⟩, by simp [intOf]; omega⟩
    · go_wp2
      go_ret
      refine ⟨_, rfl, HP.out.cast ?_⟩
      rw [List.take_of_length_le (by rw [enc_length]; omega)]

set_option maxRecDepth 100000 in
set_option maxHeartbeats 600000 in
theorem putLow8 (v : Value) (l : List UInt8) (n size : Nat) (w : World) (ho : Own w 0 v l) (hn : n < 256) (hs : size ≤ 8) (hl : l.length + 8 ≤ 140737488355328) :
    Calls Try.prog 136 #[v, .int .u8 n, .int .i64 size] w fun e w' => ∃ v', e = .returned v' ∧ Puts w w' v v' (l ++ enc n size) := by
  go_enter Try.func136, Try.ntmps136
  go_wp2
  go_loopw [0, 7] (fun x i wr => ∃ j : Nat, j ≤ size ∧ i = .int .i64 ((size : Int) - 1 - j) ∧ Puts w wr v x (l ++ (enc n size).take j)) (fun _ i _ => (intOf i + 1).toNat)
  case atStart => exact ⟨0, by omega, by simp, by simpa using Puts.refl ho⟩
  case round =>
    obtain ⟨j, hj, rfl, hp⟩ := hrel
    have HP := Hid.mk hp
    clear hp
    by_cases hlt : j < size
    · have h1 : (0 : Int) ≤ (size : Int) - 1 - j := by omega
      have h2 : (size : Int) - 1 - j < 8 := by omega
      have hown := fun o : Obj => own_alloc HP.out.own o
      have HO := Hid.mk hown
      have hlen : (l ++ (enc n size).take j).length + 1 ≤ 140737488355328 := by
        rw [List.length_append, List.length_take, enc_length]; omega
      have HLen := Hid.mk hlen
      have HT := Hid.mk (enc_take n size j hlt)
      have HB := Hid.mk (byte_of n (size - 1 - j))
      clear hown hlen
      go_wp2_with (at_builtin; go_must (refine wpList_append_rd rfl _ _ rfl 0 _ (l ++ (enc n size).take j) rfl (HO.out _) _ [UInt8.ofNat (n / 256 ^ (size - 1 - j))] rfl (fun _ => False) (rd_one wr _ _ HB.out _ (fun h => h)) HLen.out (Nat.zero_le _) ?_); intro r2 n2 c2 w2 ho2 hg2 hv2)
      exact ⟨⟨j + 1, by omega, by go_num, by rw [HT.out, ← List.append_assoc]; exact HP.out.app ho2 hg2 hv2⟩, by simp [intOf]; omega⟩
    · go_wp2
      go_ret
      refine ⟨_, rfl, HP.out.cast ?_⟩
      rw [List.take_of_length_le (by rw [enc_length]; omega)]

set_option maxHeartbeats 400000 in
theorem put8 (v : Value) (l : List UInt8) (n : Nat) (w : World) (ho : Own w 0 v l) (hn : n < 256) (hl : l.length + 8 ≤ 140737488355328) :
    Calls Try.prog 110 #[v, .int .u8 n] w fun e w' => ∃ v', e = .returned v' ∧ Puts w w' v v' (l ++ enc n 1) := by
  have HA := Hid.mk (putLow8 v l n 1 w ho hn (by omega) hl)
  clear ho
  go_enter Try.func110, Try.ntmps110
  go_wp2_with (go_at_call 123; refine (width8 w).mono ?_; rintro e w' ⟨rfl, hw⟩; replace hw := hw.symm; subst hw)
  refine HA.out.mono ?_
  rintro e w1 ⟨v1, rfl, hp⟩
  have HP := Hid.mk hp
  clear hp
  go_wp2
  go_ret
  exact ⟨_, rfl, HP.out⟩

set_option maxRecDepth 100000 in
set_option maxHeartbeats 600000 in
theorem putLow16 (v : Value) (l : List UInt8) (n size : Nat) (w : World) (ho : Own w 0 v l) (hn : n < 65536) (hs : size ≤ 8) (hl : l.length + 8 ≤ 140737488355328) :
    Calls Try.prog 144 #[v, .int .u16 n, .int .i64 size] w fun e w' => ∃ v', e = .returned v' ∧ Puts w w' v v' (l ++ enc n size) := by
  go_enter Try.func144, Try.ntmps144
  go_wp2
  go_loopw [0, 7] (fun x i wr => ∃ j : Nat, j ≤ size ∧ i = .int .i64 ((size : Int) - 1 - j) ∧ Puts w wr v x (l ++ (enc n size).take j)) (fun _ i _ => (intOf i + 1).toNat)
  case atStart => exact ⟨0, by omega, by simp, by simpa using Puts.refl ho⟩
  case round =>
    obtain ⟨j, hj, rfl, hp⟩ := hrel
    have HP := Hid.mk hp
    clear hp
    by_cases hlt : j < size
    · have h1 : (0 : Int) ≤ (size : Int) - 1 - j := by omega
      have h2 : (size : Int) - 1 - j < 8 := by omega
      have hown := fun o : Obj => own_alloc HP.out.own o
      have HO := Hid.mk hown
      have hlen : (l ++ (enc n size).take j).length + 1 ≤ 140737488355328 := by
        rw [List.length_append, List.length_take, enc_length]; omega
      have HLen := Hid.mk hlen
      have HT := Hid.mk (enc_take n size j hlt)
      have HB := Hid.mk (byte_of n (size - 1 - j))
      clear hown hlen
      go_wp2_with (at_builtin; go_must (refine wpList_append_rd rfl _ _ rfl 0 _ (l ++ (enc n size).take j) rfl (HO.out _) _ [UInt8.ofNat (n / 256 ^ (size - 1 - j))] rfl (fun _ => False) (rd_one wr _ _ HB.out _ (fun h => h)) HLen.out (Nat.zero_le _) ?_); intro r2 n2 c2 w2 ho2 hg2 hv2)
      exact ⟨⟨j + 1, by omega, by go_num, by rw [HT.out, ← List.append_assoc]; exact HP.out.app ho2 hg2 hv2⟩, by simp [intOf]; omega⟩
    · go_wp2
      go_ret
      refine ⟨_, rfl, HP.out.cast ?_⟩
      rw [List.take_of_length_le (by rw [enc_length]; omega)]

set_option maxHeartbeats 400000 in
theorem put16 (v : Value) (l : List UInt8) (n : Nat) (w : World) (ho : Own w 0 v l) (hn : n < 65536) (hl : l.length + 8 ≤ 140737488355328) :
    Calls Try.prog 121 #[v, .int .u16 n] w fun e w' => ∃ v', e = .returned v' ∧ Puts w w' v v' (l ++ enc n 2) := by
  have HA := Hid.mk (putLow16 v l n 2 w ho hn (by omega) hl)
  clear ho
  go_enter Try.func121, Try.ntmps121
  go_wp2_with (go_at_call 124; refine (width16 w).mono ?_; rintro e w' ⟨rfl, hw⟩; replace hw := hw.symm; subst hw)
  refine HA.out.mono ?_
  rintro e w1 ⟨v1, rfl, hp⟩
  have HP := Hid.mk hp
  clear hp
  go_wp2
  go_ret
  exact ⟨_, rfl, HP.out⟩

set_option maxRecDepth 100000 in
set_option maxHeartbeats 600000 in
theorem putLow32 (v : Value) (l : List UInt8) (n size : Nat) (w : World) (ho : Own w 0 v l) (hn : n < 4294967296) (hs : size ≤ 8) (hl : l.length + 8 ≤ 140737488355328) :
    Calls Try.prog 138 #[v, .int .u32 n, .int .i64 size] w fun e w' => ∃ v', e = .returned v' ∧ Puts w w' v v' (l ++ enc n size) := by
  go_enter Try.func138, Try.ntmps138
  go_wp2
  go_loopw [0, 7] (fun x i wr => ∃ j : Nat, j ≤ size ∧ i = .int .i64 ((size : Int) - 1 - j) ∧ Puts w wr v x (l ++ (enc n size).take j)) (fun _ i _ => (intOf i + 1).toNat)
  case atStart => exact ⟨0, by omega, by simp, by simpa using Puts.refl ho⟩
  case round =>
    obtain ⟨j, hj, rfl, hp⟩ := hrel
    have HP := Hid.mk hp
    clear hp
    by_cases hlt : j < size
    · have h1 : (0 : Int) ≤ (size : Int) - 1 - j := by omega
      have h2 : (size : Int) - 1 - j < 8 := by omega
      have hown := fun o : Obj => own_alloc HP.out.own o
      have HO := Hid.mk hown
      have hlen : (l ++ (enc n size).take j).length + 1 ≤ 140737488355328 := by
        rw [List.length_append, List.length_take, enc_length]; omega
      have HLen := Hid.mk hlen
      have HT := Hid.mk (enc_take n size j hlt)
      have HB := Hid.mk (byte_of n (size - 1 - j))
      clear hown hlen
      go_wp2_with (at_builtin; go_must (refine wpList_append_rd rfl _ _ rfl 0 _ (l ++ (enc n size).take j) rfl (HO.out _) _ [UInt8.ofNat (n / 256 ^ (size - 1 - j))] rfl (fun _ => False) (rd_one wr _ _ HB.out _ (fun h => h)) HLen.out (Nat.zero_le _) ?_); intro r2 n2 c2 w2 ho2 hg2 hv2)
      exact ⟨⟨j + 1, by omega, by go_num, by rw [HT.out, ← List.append_assoc]; exact HP.out.app ho2 hg2 hv2⟩, by simp [intOf]; omega⟩
    · go_wp2
      go_ret
      refine ⟨_, rfl, HP.out.cast ?_⟩
      rw [List.take_of_length_le (by rw [enc_length]; omega)]

set_option maxHeartbeats 400000 in
theorem put32 (v : Value) (l : List UInt8) (n : Nat) (w : World) (ho : Own w 0 v l) (hn : n < 4294967296) (hl : l.length + 8 ≤ 140737488355328) :
    Calls Try.prog 115 #[v, .int .u32 n] w fun e w' => ∃ v', e = .returned v' ∧ Puts w w' v v' (l ++ enc n 4) := by
  have HA := Hid.mk (putLow32 v l n 4 w ho hn (by omega) hl)
  clear ho
  go_enter Try.func115, Try.ntmps115
  go_wp2_with (go_at_call 122; refine (width32 w).mono ?_; rintro e w' ⟨rfl, hw⟩; replace hw := hw.symm; subst hw)
  refine HA.out.mono ?_
  rintro e w1 ⟨v1, rfl, hp⟩
  have HP := Hid.mk hp
  clear hp
  go_wp2
  go_ret
  exact ⟨_, rfl, HP.out⟩

end Go.Proofs.Ytphkchjejbffeaa
