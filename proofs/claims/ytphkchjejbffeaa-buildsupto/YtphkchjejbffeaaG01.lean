/- Plain facts on bytes and worlds that all walks use; nothing of the program. -/
import Derived.WalkKit
import Derived.WalkSpells
import Derived.WalkLawsBesides
import Derived.Deep.AppendLies
namespace Go.Proofs.Ytphkchjejbffeaa
open Go.RowKit

theorem _root_.Go.RowKit.Hid.mk {p : Prop} (h : p) : Hid p := h

/-- A byte as a cell's value. -/
def B (c : UInt8) : Value := .int .u8 (c.toNat : Int)
theorem B_one (c : UInt8) : (B c).oneCell' = true := rfl
theorem B_lt (c : UInt8) : (c.toNat : Int) < 256 := by have := c.toNat_lt; omega

/-- The bytes l lie in block b from o on. -/
def Lies (w : World) (b o : Nat) (l : List UInt8) : Prop := ∀ j c, l[j]? = some c → w.cell? ⟨b, o + j, none⟩ = some (B c)

theorem Lies.cell {w : World} {b o : Nat} {l : List UInt8} (h : Lies w b o l) (k : Nat) (hk : k < l.length) : w.cell? ⟨b, o + k, none⟩ = some (.int .u8 ((l.getD k 0).toNat : Int)) := by
  have := h k (l[k]) (by simp [hk])
  rw [this]; simp [B, hk]

theorem Lies.of_cells {w : World} {b o : Nat} {l : List UInt8} (h : ∀ j u, (l.map B)[j]? = some u → w.cell? ⟨b, o + j, none⟩ = some u) : Lies w b o l :=
  fun j c hc => h j (B c) (by simp [hc])

theorem Lies.drop {w : World} {b o : Nat} {l : List UInt8} (h : Lies w b o l) (n : Nat) : Lies w b (o + n) (l.drop n) := by
  intro j c hc
  rw [List.getElem?_drop] at hc
  have := h _ _ hc
  rw [← this]; congr 2; omega

theorem Lies.take {w : World} {b o : Nat} {l : List UInt8} (h : Lies w b o l) (n : Nat) : Lies w b o (l.take n) := by
  intro j c hc
  rw [List.getElem?_take] at hc
  split at hc
  · exact h _ _ hc
  · cases hc

theorem Lies.keep {w w' : World} {b o : Nat} {l : List UInt8} (h : Lies w b o l) (hb : w'.heap[b]? = w.heap[b]?) : Lies w' b o l :=
  fun j c hc => (World.cell?_of_block (a := ⟨b, o + j, none⟩) hb).trans (h j c hc)

/-- The number that bytes tell, the highest first. -/
def num : List UInt8 → Nat → Nat
  | [], v => v
  | c :: l, v => num l (256 * v + c.toNat)
theorem num_append (l m : List UInt8) (v : Nat) : num (l ++ m) v = num m (num l v) := by
  induction l generalizing v with
  | nil => rfl
  | cons c l ih => simp [num, ih]
theorem num_lt (l : List UInt8) (v : Nat) : num l v < 256 ^ l.length * (v + 1) := by
  induction l generalizing v with
  | nil => simp [num]
  | cons c l ih =>
    have h := ih (256 * v + c.toNat)
    have hc := c.toNat_lt
    have : 256 ^ l.length * (256 * v + c.toNat + 1) ≤ 256 ^ l.length * (256 * (v + 1)) := Nat.mul_le_mul_left _ (by omega)
    simp only [num, List.length_cons, Nat.pow_succ]
    calc _ < _ := h
      _ ≤ _ := this
      _ = _ := by rw [Nat.mul_assoc]

/-- A number in n bytes, the highest first. -/
def enc (v : Nat) : Nat → List UInt8
  | 0 => []
  | n + 1 => enc (v / 256) n ++ [UInt8.ofNat v]
theorem enc_length (v n : Nat) : (enc v n).length = n := by
  induction n generalizing v with
  | zero => rfl
  | succ n ih => simp [enc, ih]
theorem num_enc (v n : Nat) : num (enc v n) 0 = v % 256 ^ n := by
  induction n generalizing v with
  | zero => simp [enc, num, Nat.mod_one]
  | succ n ih =>
    simp only [enc, num_append, ih, num]
    rw [Nat.pow_succ, Nat.mul_comm (256 ^ n) 256, Nat.mod_mul]
    have : (UInt8.ofNat v).toNat = v % 256 := by simp
    omega

theorem enc_get (v n j : Nat) (h : j < n) : (enc v n)[n - 1 - j]? = some (UInt8.ofNat (v / 256 ^ j)) := by
  induction n generalizing v j with
  | zero => omega
  | succ n ih =>
    cases j with
    | zero => simp [enc, enc_length]
    | succ j =>
      have := ih (v / 256) j (by omega)
      simp only [enc]
      rw [show n + 1 - 1 - (j + 1) = n - 1 - j by omega, List.getElem?_append_left (by rw [enc_length]; omega), this]
      rw [Nat.div_div_eq_div_mul, Nat.pow_succ, Nat.mul_comm 256]

/-- A row of n bytes of which the last j of a number's are written. -/
def half (v n j : Nat) : Array Value := (List.replicate (n - j) (B 0) ++ ((enc v n).drop (n - j)).map B).toArray
theorem half_size (v n j : Nat) (_ : j ≤ n) : (half v n j).size = n := by
  have : (List.replicate (n - j) (B 0) ++ ((enc v n).drop (n - j)).map B).length = n := by simp [enc_length]; try omega
  exact this
theorem half_zero (v n : Nat) : half v n 0 = (List.replicate n (B 0)).toArray := by
  unfold half
  rw [Nat.sub_zero, List.drop_of_length_le (by rw [enc_length]; omega)]
  simp
theorem half_full (v n : Nat) : half v n n = ((enc v n).map B).toArray := by simp [half]
theorem half_set (v n j : Nat) (h : j < n) : (half v n j).setIfInBounds (n - 1 - j) (B (UInt8.ofNat (v / 256 ^ j))) = half v n (j + 1) := by
  unfold half
  rw [List.setIfInBounds_toArray]
  congr 1
  have hd : (enc v n).drop (n - (j + 1)) = UInt8.ofNat (v / 256 ^ j) :: (enc v n).drop (n - j) := by
    have hg := enc_get v n j h
    have hlt : n - (j + 1) < (enc v n).length := by rw [enc_length]; omega
    rw [List.drop_eq_getElem_cons hlt, show n - (j + 1) + 1 = n - j by omega]
    congr 1
    rw [show n - 1 - j = n - (j + 1) by omega, List.getElem?_eq_getElem hlt] at hg
    exact Option.some.inj hg
  rw [hd, show n - j = (n - (j + 1)) + 1 by omega, List.replicate_succ', List.append_assoc, List.set_append_right _ _ (by simp; omega)]
  simp [show n - 1 - j - (n - (j + 1)) = 0 by omega]

theorem half_get (v n j : Nat) (h : j < n) : (half v n j)[n - 1 - j]? = some (B 0) := by
  unfold half
  rw [List.getElem?_toArray, List.getElem?_append_left (by simp; omega), List.getElem?_replicate, if_pos (by omega)]
theorem B_ofNat (v : Nat) : B (UInt8.ofNat v) = .int .u8 ((v : Int) % 256) := by simp [B]

/-- Which of n things a raw number speaks of. -/
def pick (c : Int) (n : Nat) : Nat := (if c < 0 then -(c + 1) else c).toNat % n
theorem pick_lt (c : Int) (n : Nat) (h : 0 < n) : pick c n < n := Nat.mod_lt _ h

theorem getD_append_snoc (l : List UInt8) (k : Nat) (h : k < l.length) : l.take (k + 1) = l.take k ++ [l.getD k 0] := by
  rw [List.take_succ_eq_append_getElem h]; simp [h]

theorem heap_alloc (w : World) (o : Obj) (k : Nat) : (w.alloc o).heap[k]? = if k = w.heap.size then some o else w.heap[k]? := by
  show (w.heap.push o)[k]? = _
  rw [Array.getElem?_push]
theorem size_alloc (w : World) (o : Obj) : (w.alloc o).heap.size = w.heap.size + 1 := by
  show (w.heap.push o).size = _
  simp

theorem ownsRow_base {w : World} {b b' : Nat} {e : TypeId} {size : Nat} {v : Value} {n : Nat} {xs : List Value} (h : w.ownsRow b e size v n xs) (hb : b' ≤ b) : w.ownsRow b' e size v n xs := by
  refine ⟨h.1, ?_⟩
  rcases h.2 with h | ⟨g, cap, cur, h1, h2, h3⟩
  · exact .inl h
  · exact .inr ⟨g, cap, cur, h1, Nat.le_trans hb h2, h3⟩

/-- A slice of bytes of the call's own. -/
def Own (w : World) (b : Nat) (v : Value) (l : List UInt8) : Prop := w.ownsRow b 5 1 v l.length (l.map B)
theorem Own.base {w : World} {b b' : Nat} {v : Value} {l : List UInt8} (h : Own w b v l) (hb : b' ≤ b) : Own w b' v l := ownsRow_base h hb
theorem Own.cast {w : World} {b : Nat} {v : Value} {l l' : List UInt8} (h : Own w b v l) (hl : l = l') : Own w b v l' := hl ▸ h

end Go.Proofs.Ytphkchjejbffeaa

/- Lines of places that hang together by links: plain facts. -/
namespace Go.Proofs.Ytphkchjejbffeaa

def updN {α : Type} (g : Nat → α) (i : Nat) (v : α) : Nat → α := fun j => if j = i then v else g j
theorem updN_same {α : Type} (g : Nat → α) (i : Nat) (v : α) : updN g i v i = v := if_pos rfl
theorem updN_ne {α : Type} (g : Nat → α) (i j : Nat) (v : α) (h : j ≠ i) : updN g i v j = g j := if_neg h

/-- The places behind p are these, each with its neighbours. -/
def Chain (bef aft : Nat → Nat) : Nat → List Nat → Prop
  | _, [] => True
  | p, x :: l => x ≠ 0 ∧ bef x = p ∧ aft x = l.headD 0 ∧ Chain bef aft x l

theorem Chain.congr {bef aft bef' aft' : Nat → Nat} {l : List Nat} : ∀ {p : Nat}, Chain bef aft p l → (∀ x ∈ l, bef' x = bef x) → (∀ x ∈ l, aft' x = aft x) → Chain bef' aft' p l := by
  induction l with
  | nil => intros; trivial
  | cons x l ih =>
    intro p h h1 h2
    exact ⟨h.1, (h1 x (by simp)).trans h.2.1, (h2 x (by simp)).trans h.2.2.1, ih h.2.2.2 (fun y hy => h1 y (by simp [hy])) (fun y hy => h2 y (by simp [hy]))⟩

theorem Chain.ne {bef aft : Nat → Nat} {l : List Nat} : ∀ {p : Nat}, Chain bef aft p l → ∀ x ∈ l, x ≠ 0 := by
  induction l with
  | nil => intro p _ x hx; cases hx
  | cons y l ih =>
    intro p h x hx
    rcases List.mem_cons.1 hx with rfl | hx
    · exact h.1
    · exact ih h.2.2.2 x hx

theorem Chain.mid {bef aft : Nat → Nat} {a : List Nat} {x : Nat} {b : List Nat} : ∀ {p : Nat}, Chain bef aft p (a ++ x :: b) → bef x = a.getLastD p ∧ aft x = b.headD 0 ∧ x ≠ 0 := by
  induction a with
  | nil => intro p h; exact ⟨h.2.1, h.2.2.1, h.1⟩
  | cons z a ih =>
    intro p h
    have := ih h.2.2.2
    rw [List.getLastD_cons]
    exact this

theorem getLastD_mem (l : List Nat) (p : Nat) : l.getLastD p = p ∨ l.getLastD p ∈ l := by
  induction l generalizing p with
  | nil => exact Or.inl rfl
  | cons x l ih =>
    rw [List.getLastD_cons]
    rcases ih x with h | h
    · exact Or.inr (by rw [h]; simp)
    · exact Or.inr (List.mem_cons_of_mem _ h)

/-- A place joins behind the others. -/
theorem Chain.join {bef aft : Nat → Nat} {l : List Nat} {x : Nat} (hx : x ≠ 0) : ∀ {p : Nat}, Chain bef aft p l → (p :: l).Nodup → x ∉ p :: l →
    Chain (updN bef x (l.getLastD p)) (updN (updN aft x 0) (l.getLastD p) x) p (l ++ [x]) := by
  induction l with
  | nil =>
    intro p h hn hm
    have hxp : x ≠ p := by simpa using hm
    refine ⟨hx, updN_same _ _ _, ?_, trivial⟩
    show updN (updN aft x 0) p x x = 0
    rw [updN_ne _ _ _ _ hxp, updN_same]
  | cons z l ih =>
    intro p h hn hm
    have hn' : (z :: l).Nodup := (List.nodup_cons.1 hn).2
    have hm' : x ∉ z :: l := fun h => hm (by simp at h ⊢; exact Or.inr h)
    have hxz : z ≠ x := fun e => hm' (by simp [e])
    rw [List.getLastD_cons]
    refine ⟨h.1, by rw [updN_ne _ _ _ _ hxz]; exact h.2.1, ?_, ih h.2.2.2 hn' hm'⟩
    rcases l with _ | ⟨y, l⟩
    · exact updN_same _ _ _
    · have hzl : z ≠ (y :: l).getLastD z := by
        intro e
        have : (y :: l).getLastD z ∈ y :: l := by
          rw [List.getLastD_cons]
          rcases getLastD_mem l y with h | h
          · rw [h]; simp
          · exact List.mem_cons_of_mem _ h
        exact (List.nodup_cons.1 hn').1 (e ▸ this)
      rw [updN_ne _ _ _ _ hzl, updN_ne _ _ _ _ hxz]
      exact h.2.2.1

/-- A place leaves. -/
theorem Chain.leave {bef aft : Nat → Nat} {a : List Nat} {x : Nat} {b : List Nat} : ∀ {p : Nat}, Chain bef aft p (a ++ x :: b) → (p :: (a ++ x :: b)).Nodup →
    Chain (updN bef (b.headD 0) (a.getLastD p)) (updN aft (a.getLastD p) (b.headD 0)) p (a ++ b) := by
  induction a with
  | nil =>
    intro p h hn
    obtain ⟨h1, h2, h3, h4⟩ := h
    rcases b with _ | ⟨y, b⟩
    · trivial
    · have hp : p ∉ x :: y :: b := (List.nodup_cons.1 hn).1
      have hn2 : (y :: b).Nodup := (List.nodup_cons.1 (List.nodup_cons.1 hn).2).2
      refine ⟨h4.1, updN_same _ _ _, ?_, ?_⟩
      · show updN aft p y y = _
        rw [updN_ne _ _ _ _ (fun e => hp (by simp [e]))]
        exact h4.2.2.1
      · refine h4.2.2.2.congr (fun u hu => updN_ne _ _ _ _ ?_) (fun u hu => updN_ne _ _ _ _ ?_)
        · intro e
          exact (List.nodup_cons.1 hn2).1 ((show u = y from e) ▸ hu)
        · intro e
          exact hp (by have e : u = p := e
                       rw [← e]; simp [hu])
  | cons z a ih =>
    intro p h hn
    obtain ⟨h1, h2, h3, h4⟩ := h
    have hn' : (z :: (a ++ x :: b)).Nodup := (List.nodup_cons.1 hn).2
    have hz : z ∉ a ++ x :: b := (List.nodup_cons.1 hn').1
    rw [List.getLastD_cons]
    refine ⟨h1, ?_, ?_, ih h4 hn'⟩
    · rw [updN_ne _ _ _ _ ?_]
      · exact h2
      · intro e
        rcases b with _ | ⟨y, b⟩
        · exact h1 e
        · exact hz (by rw [show z = y from e]; simp)
    · rcases a with _ | ⟨y, a⟩
      · exact updN_same _ _ _
      · rw [updN_ne _ _ _ _ ?_]
        · exact h3
        · intro e
          rw [List.getLastD_cons] at e
          refine hz ?_
          rcases getLastD_mem a y with h | h
          · rw [e, h]; simp
          · rw [e]; exact List.mem_append_left _ (List.mem_cons_of_mem _ h)

/-- A line: the places of one price, the first and the last. -/
structure LineOf (bef aft : Nat → Nat) (f l : Nat) (ps : List Nat) : Prop where
  chain : Chain bef aft 0 ps
  first : f = ps.headD 0
  last : l = ps.getLastD 0
  nodup : ps.Nodup

theorem LineOf.zero {bef aft : Nat → Nat} {f l : Nat} {ps : List Nat} (h : LineOf bef aft f l ps) : (0 :: ps).Nodup :=
  List.nodup_cons.2 ⟨fun h0 => h.chain.ne 0 h0 rfl, h.nodup⟩

theorem LineOf.join {bef aft : Nat → Nat} {f l : Nat} {ps : List Nat} (h : LineOf bef aft f l ps) {x : Nat} (hx : x ≠ 0) (hm : x ∉ ps) :
    LineOf (updN bef x l) (updN (updN aft x 0) l x) (if f = 0 then x else f) x (ps ++ [x]) := by
  refine ⟨?_, ?_, by rw [List.getLastD_concat], ?_⟩
  · rw [h.last]
    exact h.chain.join hx h.zero (by simp [hm, hx])
  · rcases ps with _ | ⟨y, ps⟩
    · rw [h.first]; rfl
    · rw [h.first]
      have : y ≠ 0 := h.chain.1
      simp [this]
  · rw [List.nodup_append]
    exact ⟨h.nodup, by simp, by intro a ha b hb; simp at hb; subst hb; exact fun e => hm (e ▸ ha)⟩

theorem LineOf.leave {bef aft : Nat → Nat} {f l : Nat} {a b : List Nat} {x : Nat} (h : LineOf bef aft f l (a ++ x :: b)) :
    LineOf (updN bef (aft x) (bef x)) (updN aft (bef x) (aft x)) (if f = x then aft x else f) (if l = x then bef x else l) (a ++ b) := by
  obtain ⟨e1, e2, e3⟩ := h.chain.mid
  have hnd := h.nodup
  refine ⟨?_, ?_, ?_, ?_⟩
  · rw [e1, e2]
    exact h.chain.leave h.zero
  · rw [h.first]
    rcases a with _ | ⟨y, a⟩
    · simp [e2]
    · have : y ≠ x := by
        intro e
        have := (List.nodup_cons.1 hnd).1
        exact this (by rw [e]; simp)
      simp [this]
  · rw [h.last]
    rcases List.eq_nil_or_concat b with rfl | ⟨b, y, rfl⟩
    · simp [e1]
    · have : y ≠ x := by
        intro e
        subst e
        rw [List.nodup_append] at hnd
        have := (List.nodup_cons.1 hnd.2.1).1
        exact this (by simp)
      have q1 : (a ++ x :: b.concat y).getLastD 0 = y := by
        rw [show a ++ x :: b.concat y = (a ++ x :: b) ++ [y] by simp, List.getLastD_concat]
      have q2 : (a ++ b.concat y).getLastD 0 = y := by
        rw [show a ++ b.concat y = (a ++ b) ++ [y] by simp, List.getLastD_concat]
      rw [q1, q2, if_neg this]
  · rw [List.nodup_append] at hnd ⊢
    exact ⟨hnd.1, (List.nodup_cons.1 hnd.2.1).2, fun u hu v hv => hnd.2.2 u hu v (by simp [hv])⟩

theorem LineOf.congr {bef aft bef' aft' : Nat → Nat} {f l : Nat} {ps : List Nat} (h : LineOf bef aft f l ps) (h1 : ∀ x ∈ ps, bef' x = bef x) (h2 : ∀ x ∈ ps, aft' x = aft x) : LineOf bef' aft' f l ps :=
  ⟨h.chain.congr h1 h2, h.first, h.last, h.nodup⟩

end Go.Proofs.Ytphkchjejbffeaa

/- Books by links: plain facts of lines, free places, joining and leaving. -/
namespace Go.Proofs.Ytphkchjejbffeaa

def jx (s : Nat) (d : UInt8) : Nat := s * 2 + (if d = 66 then 0 else 1)
theorem jx_inj {s s' : Nat} {d d' : UInt8} (h : d = 66 ∨ d = 83) (h' : d' = 66 ∨ d' = 83) (e : jx s d = jx s' d') : s = s' ∧ d = d' := by
  unfold jx at e
  rcases h with rfl | rfl <;> rcases h' with rfl | rfl <;> simp at e ⊢ <;> omega
theorem jx_lt {s n : Nat} (d : UInt8) (h : s < n) : jx s d < n * 2 := by
  unfold jx
  split <;> omega

/-- Free places hang together by one link. -/
def FreeC (aft : Nat → Nat) : Nat → List Nat → Prop
  | f, [] => f = 0
  | f, x :: l => f = x ∧ x ≠ 0 ∧ FreeC aft (aft x) l
theorem FreeC.congr {aft aft' : Nat → Nat} {l : List Nat} : ∀ {f : Nat}, FreeC aft f l → (∀ x ∈ l, aft' x = aft x) → FreeC aft' f l := by
  induction l with
  | nil => intro f h _; exact h
  | cons x l ih =>
    intro f h h2
    exact ⟨h.1, h.2.1, by rw [h2 x (by simp)]; exact ih h.2.2 (fun y hy => h2 y (by simp [hy]))⟩
theorem FreeC.ne {aft : Nat → Nat} {l : List Nat} : ∀ {f : Nat}, FreeC aft f l → ∀ x ∈ l, x ≠ 0 := by
  induction l with
  | nil => intro f _ x hx; cases hx
  | cons y l ih =>
    intro f h x hx
    rcases List.mem_cons.1 hx with rfl | hx
    · exact h.2.1
    · exact ih h.2.2 x hx

def upd2 (f : Nat → Nat → Nat) (j i v : Nat) : Nat → Nat → Nat := updN f j (updN (f j) i v)
theorem upd2_same (f : Nat → Nat → Nat) (j i v : Nat) : upd2 f j i v j i = v := by
  unfold upd2; rw [updN_same, updN_same]
theorem upd2_ne (f : Nat → Nat → Nat) (j i v j' i' : Nat) (h : ¬ (j' = j ∧ i' = i)) : upd2 f j i v j' i' = f j' i' := by
  unfold upd2
  by_cases e : j' = j
  · subst e
    rw [updN_same, updN_ne]
    exact fun e2 => h ⟨rfl, e2⟩
  · rw [updN_ne _ _ _ _ e]

def updQ (ps : Nat → UInt8 → Nat → List Nat) (s : Nat) (d : UInt8) (p : Nat) (l : List Nat) : Nat → UInt8 → Nat → List Nat := fun s' d' p' => if s' = s ∧ d' = d ∧ p' = p then l else ps s' d' p'
theorem updQ_same (ps : Nat → UInt8 → Nat → List Nat) (s : Nat) (d : UInt8) (p : Nat) (l : List Nat) : updQ ps s d p l s d p = l := if_pos ⟨rfl, rfl, rfl⟩
theorem updQ_ne (ps : Nat → UInt8 → Nat → List Nat) (s : Nat) (d : UInt8) (p : Nat) (l : List Nat) {s' : Nat} {d' : UInt8} {p' : Nat} (h : ¬ (s' = s ∧ d' = d ∧ p' = p)) : updQ ps s d p l s' d' p' = ps s' d' p' := if_neg h

def VV (S L : Nat) (s : Nat) (d : UInt8) (p : Nat) : Prop := s < S ∧ (d = 66 ∨ d = 83) ∧ 1 ≤ p ∧ p ≤ L

theorem VV.far {S L s s' p p' : Nat} {d d' : UInt8} (h : VV S L s d p) (h' : VV S L s' d' p') (hn : ¬ (s' = s ∧ d' = d ∧ p' = p)) : ¬ (jx s' d' = jx s d ∧ p' - 1 = p - 1) := by
  rintro ⟨e1, e2⟩
  obtain ⟨rfl, rfl⟩ := jx_inj h'.2.1 h.2.1 e1
  have := h.2.2.1
  have := h'.2.2.1
  exact hn ⟨rfl, rfl, by omega⟩

/-- The lines and the free places, by their links. -/
structure Lk (S L n free : Nat) (fs ls : Nat → Nat → Nat) (bef aft : Nat → Nat) (ps : Nat → UInt8 → Nat → List Nat) (fl : List Nat) : Prop where
  line : ∀ s d p, VV S L s d p → LineOf bef aft (fs (jx s d) (p - 1)) (ls (jx s d) (p - 1)) (ps s d p)
  lt : ∀ s d p, VV S L s d p → ∀ x ∈ ps s d p, x < n
  dis : ∀ s d p s' d' p', VV S L s d p → VV S L s' d' p' → ∀ x, x ∈ ps s d p → x ∈ ps s' d' p' → s' = s ∧ d' = d ∧ p' = p
  free : FreeC aft free fl
  flt : ∀ x ∈ fl, x < n
  fnd : fl.Nodup
  fdis : ∀ s d p, VV S L s d p → ∀ x ∈ ps s d p, x ∉ fl

def Fresh (S L : Nat) (ps : Nat → UInt8 → Nat → List Nat) (fl : List Nat) (x : Nat) : Prop := (∀ s d p, VV S L s d p → x ∉ ps s d p) ∧ x ∉ fl

section
variable {S L n free : Nat} {fs ls : Nat → Nat → Nat} {bef aft : Nat → Nat} {ps : Nat → UInt8 → Nat → List Nat} {fl : List Nat}

theorem Lk.ne0 (h : Lk S L n free fs ls bef aft ps fl) {s : Nat} {d : UInt8} {p : Nat} (hv : VV S L s d p) {x : Nat} (hx : x ∈ ps s d p) : x ≠ 0 := (h.line s d p hv).chain.ne x hx

theorem Lk.setx (h : Lk S L n free fs ls bef aft ps fl) {x : Nat} (hf : Fresh S L ps fl x) (a b : Nat) : Lk S L n free fs ls (updN bef x a) (updN aft x b) ps fl := by
  refine ⟨?_, h.lt, h.dis, ?_, h.flt, h.fnd, h.fdis⟩
  · intro s d p hv
    refine (h.line s d p hv).congr (fun y hy => updN_ne _ _ _ _ ?_) (fun y hy => updN_ne _ _ _ _ ?_)
    · intro e; subst e; exact hf.1 s d p hv hy
    · intro e; subst e; exact hf.1 s d p hv hy
  · refine h.free.congr (fun y hy => updN_ne _ _ _ _ ?_)
    intro e; subst e; exact hf.2 hy

theorem Lk.take {x : Nat} (h : Lk S L n free fs ls bef aft ps (x :: fl)) : Lk S L n (aft x) fs ls bef aft ps fl ∧ Fresh S L ps fl x ∧ free = x ∧ x ≠ 0 ∧ x < n := by
  obtain ⟨h1, h2, h3⟩ := h.free
  have hn := List.nodup_cons.1 h.fnd
  refine ⟨⟨h.line, h.lt, h.dis, h3, fun y hy => h.flt y (by simp [hy]), hn.2, fun s d p hv y hy hm => h.fdis s d p hv y hy (by simp [hm])⟩, ⟨?_, hn.1⟩, h1, h2, h.flt x (by simp)⟩
  intro s d p hv hx
  exact h.fdis s d p hv x hx (by simp)

theorem Lk.give (h : Lk S L n free fs ls bef aft ps fl) {x : Nat} (hf : Fresh S L ps fl x) (hx : x ≠ 0) (hn : x < n) (ha : aft x = free) : Lk S L n x fs ls bef aft ps (x :: fl) := by
  refine ⟨h.line, h.lt, h.dis, ⟨rfl, hx, by rw [ha]; exact h.free⟩, ?_, List.nodup_cons.2 ⟨hf.2, h.fnd⟩, ?_⟩
  · intro y hy
    rcases List.mem_cons.1 hy with rfl | hy
    · exact hn
    · exact h.flt y hy
  · intro s d p hv y hy hm
    rcases List.mem_cons.1 hm with rfl | hm
    · exact hf.1 s d p hv hy
    · exact h.fdis s d p hv y hy hm

theorem Lk.join (h : Lk S L n free fs ls bef aft ps fl) {s : Nat} {d : UInt8} {p : Nat} (hv : VV S L s d p) {x : Nat} (hx : x ≠ 0) (hxn : x < n) (hf : Fresh S L ps fl x) :
    Lk S L n free (upd2 fs (jx s d) (p - 1) (if fs (jx s d) (p - 1) = 0 then x else fs (jx s d) (p - 1))) (upd2 ls (jx s d) (p - 1) x) (updN bef x (ls (jx s d) (p - 1))) (updN (updN aft x 0) (ls (jx s d) (p - 1)) x) (updQ ps s d p (ps s d p ++ [x])) fl := by
  have hl := h.line s d p hv
  have hlast : ls (jx s d) (p - 1) = 0 ∨ ls (jx s d) (p - 1) ∈ ps s d p := by rw [hl.last]; exact getLastD_mem _ _
  have mem_upd : ∀ s' d' p', VV S L s' d' p' → ∀ y, y ∈ updQ ps s d p (ps s d p ++ [x]) s' d' p' → y ∈ ps s' d' p' ∨ (y = x ∧ s' = s ∧ d' = d ∧ p' = p) := by
    intro s' d' p' hv' y hy
    by_cases e : s' = s ∧ d' = d ∧ p' = p
    · obtain ⟨rfl, rfl, rfl⟩ := e
      rw [updQ_same] at hy
      rcases List.mem_append.1 hy with hy | hy
      · exact Or.inl hy
      · exact Or.inr ⟨by simpa using hy, rfl, rfl, rfl⟩
    · rw [updQ_ne _ _ _ _ _ e] at hy
      exact Or.inl hy
  refine ⟨?_, ?_, ?_, ?_, h.flt, h.fnd, ?_⟩
  · intro s' d' p' hv'
    by_cases e : s' = s ∧ d' = d ∧ p' = p
    · obtain ⟨rfl, rfl, rfl⟩ := e
      rw [updQ_same, upd2_same, upd2_same]
      exact hl.join hx (hf.1 _ _ _ hv')
    · rw [updQ_ne _ _ _ _ _ e, upd2_ne _ _ _ _ _ _ (hv.far hv' e), upd2_ne _ _ _ _ _ _ (hv.far hv' e)]
      have hyx : ∀ y ∈ ps s' d' p', y ≠ x := fun y hy e2 => hf.1 _ _ _ hv' (e2 ▸ hy)
      have hyl : ∀ y ∈ ps s' d' p', y ≠ ls (jx s d) (p - 1) := by
        intro y hy e2
        rcases hlast with h0 | h0
        · exact h.ne0 hv' hy (e2.trans h0)
        · exact e (h.dis _ _ _ _ _ _ hv hv' y (e2 ▸ h0) hy)
      exact (h.line s' d' p' hv').congr (fun y hy => updN_ne _ _ _ _ (hyx y hy)) (fun y hy => by rw [updN_ne _ _ _ _ (hyl y hy), updN_ne _ _ _ _ (hyx y hy)])
  · intro s' d' p' hv' y hy
    rcases mem_upd s' d' p' hv' y hy with hy | ⟨rfl, -⟩
    · exact h.lt _ _ _ hv' y hy
    · exact hxn
  · intro s1 d1 p1 s2 d2 p2 hv1 hv2 y hy1 hy2
    rcases mem_upd _ _ _ hv1 y hy1 with k1 | ⟨e0, e1, e2, e3⟩
    · rcases mem_upd _ _ _ hv2 y hy2 with k2 | ⟨e0, e1, e2, e3⟩
      · exact h.dis _ _ _ _ _ _ hv1 hv2 y k1 k2
      · exact absurd k1 (e0 ▸ hf.1 _ _ _ hv1)
    · rcases mem_upd _ _ _ hv2 y hy2 with k2 | ⟨-, h1, h2, h3⟩
      · exact absurd k2 (e0 ▸ hf.1 _ _ _ hv2)
      · exact ⟨h1.trans e1.symm, h2.trans e2.symm, h3.trans e3.symm⟩
  · refine h.free.congr (fun y hy => ?_)
    have h1 : y ≠ x := fun e => hf.2 (e ▸ hy)
    have h2 : y ≠ ls (jx s d) (p - 1) := by
      intro e
      rcases hlast with h0 | h0
      · exact h.free.ne y hy (e.trans h0)
      · exact h.fdis _ _ _ hv y (e ▸ h0) hy
    rw [updN_ne _ _ _ _ h2, updN_ne _ _ _ _ h1]
  · intro s' d' p' hv' y hy
    rcases mem_upd s' d' p' hv' y hy with hy | ⟨rfl, -⟩
    · exact h.fdis _ _ _ hv' y hy
    · exact hf.2

theorem Lk.leave (h : Lk S L n free fs ls bef aft ps fl) {s : Nat} {d : UInt8} {p : Nat} (hv : VV S L s d p) {x : Nat} {a b : List Nat} (hab : ps s d p = a ++ x :: b) :
    Lk S L n free (upd2 fs (jx s d) (p - 1) (if fs (jx s d) (p - 1) = x then aft x else fs (jx s d) (p - 1))) (upd2 ls (jx s d) (p - 1) (if ls (jx s d) (p - 1) = x then bef x else ls (jx s d) (p - 1))) (updN bef (aft x) (bef x)) (updN aft (bef x) (aft x)) (updQ ps s d p (a ++ b)) fl ∧
      Fresh S L (updQ ps s d p (a ++ b)) fl x ∧ (bef x = 0 ∨ bef x ∈ a) ∧ (aft x = 0 ∨ aft x ∈ b) ∧ bef x ≠ x ∧ aft x ≠ x := by
  have hl := h.line s d p hv
  have hl' := hl
  rw [hab] at hl'
  obtain ⟨m1, m2, m3⟩ := hl'.chain.mid
  have hnd := hl'.nodup
  rw [List.nodup_append] at hnd
  have hxa : x ∉ a := fun e => hnd.2.2 x e x (by simp) rfl
  have hxb : x ∉ b := (List.nodup_cons.1 hnd.2.1).1
  have hb : bef x = 0 ∨ bef x ∈ a := by rw [m1]; exact getLastD_mem _ _
  have ha : aft x = 0 ∨ aft x ∈ b := by
    rw [m2]
    rcases b with _ | ⟨y, b⟩
    · exact Or.inl rfl
    · exact Or.inr (by simp)
  have mem_old : ∀ y, y ∈ a ∨ y ∈ b → y ∈ ps s d p := by
    intro y hy
    rw [hab]
    rcases hy with hy | hy <;> simp [hy]
  have mem_upd : ∀ s' d' p', VV S L s' d' p' → ∀ y, y ∈ updQ ps s d p (a ++ b) s' d' p' → y ∈ ps s' d' p' := by
    intro s' d' p' hv' y hy
    by_cases e : s' = s ∧ d' = d ∧ p' = p
    · obtain ⟨rfl, rfl, rfl⟩ := e
      rw [updQ_same] at hy
      exact mem_old y (List.mem_append.1 hy)
    · rw [updQ_ne _ _ _ _ _ e] at hy
      exact hy
  have hfr : Fresh S L (updQ ps s d p (a ++ b)) fl x := by
    have hx : x ∈ ps s d p := by rw [hab]; simp
    refine ⟨?_, h.fdis _ _ _ hv x hx⟩
    intro s' d' p' hv' hm
    by_cases e : s' = s ∧ d' = d ∧ p' = p
    · obtain ⟨rfl, rfl, rfl⟩ := e
      rw [updQ_same] at hm
      rcases List.mem_append.1 hm with hm | hm
      · exact hxa hm
      · exact hxb hm
    · rw [updQ_ne _ _ _ _ _ e] at hm
      exact e (h.dis _ _ _ _ _ _ hv hv' x hx hm)
  refine ⟨⟨?_, fun s' d' p' hv' y hy => h.lt _ _ _ hv' y (mem_upd _ _ _ hv' y hy), fun s1 d1 p1 s2 d2 p2 hv1 hv2 y h1 h2 => h.dis _ _ _ _ _ _ hv1 hv2 y (mem_upd _ _ _ hv1 y h1) (mem_upd _ _ _ hv2 y h2), ?_, h.flt, h.fnd, fun s' d' p' hv' y hy => h.fdis _ _ _ hv' y (mem_upd _ _ _ hv' y hy)⟩, hfr, hb, ha, ?_, ?_⟩
  · intro s' d' p' hv'
    by_cases e : s' = s ∧ d' = d ∧ p' = p
    · obtain ⟨rfl, rfl, rfl⟩ := e
      rw [updQ_same, upd2_same, upd2_same]
      exact hl'.leave
    · rw [updQ_ne _ _ _ _ _ e, upd2_ne _ _ _ _ _ _ (hv.far hv' e), upd2_ne _ _ _ _ _ _ (hv.far hv' e)]
      have far : ∀ z, z = 0 ∨ z ∈ ps s d p → ∀ y ∈ ps s' d' p', y ≠ z := by
        intro z hz y hy e2
        rcases hz with h0 | h0
        · exact h.ne0 hv' hy (e2.trans h0)
        · exact e (h.dis _ _ _ _ _ _ hv hv' y (e2 ▸ h0) hy)
      exact (h.line s' d' p' hv').congr (fun y hy => updN_ne _ _ _ _ (far _ (ha.imp id (fun q => mem_old _ (Or.inr q))) y hy)) (fun y hy => updN_ne _ _ _ _ (far _ (hb.imp id (fun q => mem_old _ (Or.inl q))) y hy))
  · refine h.free.congr (fun y hy => updN_ne _ _ _ _ ?_)
    intro e
    rcases hb with h0 | h0
    · exact h.free.ne y hy (e.trans h0)
    · exact h.fdis _ _ _ hv y (mem_old y (Or.inl (e ▸ h0))) hy
  · intro e
    rcases hb with h0 | h0
    · exact m3 (e.symm.trans h0)
    · exact hxa (e ▸ h0)
  · intro e
    rcases ha with h0 | h0
    · exact m3 (e.symm.trans h0)
    · exact hxb (e ▸ h0)
end

end Go.Proofs.Ytphkchjejbffeaa

/- What the document says, as plain functions: a bourse's state, and what each call does to it. Nothing of the program. -/
namespace Go.Proofs.Ytphkchjejbffeaa

/-- An order that rests. -/
structure Ord where
  ref : Nat
  token : Nat
  side : UInt8
  stock : Nat
  price : Nat
  shares : Nat

/-- A bourse. 'q': by stock, side and price: the orders that rest there, the oldest first. -/
structure St where
  stocks : Nat
  levels : Nat
  pool : Nat
  time : Nat
  opn : Bool
  part : List UInt8
  refs : Nat
  mats : Nat
  used : List Nat
  q : Nat → UInt8 → Nat → List Ord
  ans : List UInt8
  tape : List UInt8

namespace St
def bids (st : St) (s : Nat) : List Ord := (List.range st.levels).flatMap fun r => st.q s 66 (st.levels - r)
def asks (st : St) (s : Nat) : List Ord := (List.range st.levels).flatMap fun r => st.q s 83 (r + 1)
def book (st : St) (s : Nat) : List Ord := st.bids s ++ st.asks s
def all (st : St) : List Ord := (List.range st.stocks).flatMap st.book
def resting (st : St) : Nat := st.all.length
def find (st : St) (t : Nat) : Option Ord := st.all.find? (·.token == t)

def head (st : St) (c : UInt8) : List UInt8 := c :: enc st.time 6
def say (st : St) (l : List UInt8) : St := { st with ans := st.ans ++ l }
def put (st : St) (l : List UInt8) : St := { st with tape := st.tape ++ l }

def upd (st : St) (s : Nat) (d : UInt8) (p : Nat) (f : List Ord → List Ord) : St :=
  { st with q := fun s' d' p' => if s' = s ∧ d' = d ∧ p' = p then f (st.q s d p) else st.q s' d' p' }

end St

/-- Of the order with a token n shares are gone. -/
def redO (t n : Nat) : List Ord → List Ord
  | [] => []
  | x :: l => if x.token = t then (if x.shares ≤ n then l else { x with shares := x.shares - n } :: l) else x :: redO t n l
/-- The order with a token is gone. -/
def delO (t : Nat) : List Ord → List Ord
  | [] => []
  | x :: l => if x.token = t then l else x :: delO t l
/-- The order with a token is another one. -/
def subO (t : Nat) (y : Ord) : List Ord → List Ord
  | [] => []
  | x :: l => if x.token = t then y :: l else x :: subO t y l

def other (d : UInt8) : UInt8 := if d = 66 then 83 else 66
def reaches (o : Ord) (p : Nat) : Bool := if o.side = 66 then p ≤ o.price else o.price ≤ p

namespace St
/-- A price by how good it is for who comes from the other side. -/
def ranked (st : St) (d : UInt8) (r : Nat) : Nat := if d = 66 then st.levels - r else r + 1
/-- The order that this one meets first, if it crosses. -/
def meets (st : St) (o : Ord) : Option Ord :=
  (List.range st.levels).findSome? fun r =>
    if reaches o (st.ranked (other o.side) r) then (st.q o.stock (other o.side) (st.ranked (other o.side) r)).head? else none

def fill (st : St) (t n p m : Nat) : List UInt8 := st.head 70 ++ enc t 4 ++ enc n 2 ++ enc p 2 ++ enc m 4

def execute (st : St) (o f : Ord) (n : Nat) : St :=
  let m := (st.mats + 1) % 4294967296
  let st := { st with mats := m }
  let st := st.say (st.fill f.token n f.price m)
  let st := st.say (st.fill o.token n f.price m)
  let st := st.put (st.head 101 ++ enc f.ref 4 ++ enc n 2 ++ enc m 4)
  st.upd f.stock f.side f.price (redO f.token n)

/-- An order meets others, as long as it has shares and crosses: the bourse behind it, and the order with what is left. -/
def meet : Nat → St → Ord → St × Ord
  | 0, st, o => (st, o)
  | k + 1, st, o =>
    if o.shares = 0 then (st, o) else
    match st.meets o with
    | none => (st, o)
    | some f => meet k (st.execute o f (min o.shares f.shares)) { o with shares := o.shares - min o.shares f.shares }

def rest (st : St) (o : Ord) : St :=
  (st.upd o.stock o.side o.price (· ++ [o])).put (st.head 97 ++ enc o.ref 4 ++ [o.side, UInt8.ofNat o.stock] ++ enc o.shares 2 ++ enc o.price 2)

def why (st : St) (t : Nat) (side : UInt8) (stock price shares : Nat) (kind : UInt8) : Option UInt8 :=
  if t ∈ st.used then some 68
  else if side ≠ 66 ∧ side ≠ 83 then some 66
  else if st.stocks ≤ stock then some 83
  else if price < 1 ∨ st.levels < price then some 80
  else if shares < 1 ∨ 9999 < shares then some 81
  else if kind ≠ 68 ∧ kind ≠ 73 then some 75
  else if kind = 68 ∧ st.pool ≤ st.resting then some 70
  else none

def reject (st : St) (t : Nat) (r : UInt8) : St := st.say (st.head 74 ++ enc t 4 ++ [r])
def cancelled (st : St) (t n : Nat) (r : UInt8) : St := st.say (st.head 88 ++ enc t 4 ++ enc n 2 ++ [r])

def accept (st : St) (o : Ord) (kind : UInt8) : St :=
  { st with refs := o.ref, used := o.token :: st.used }.say
    (st.head 65 ++ enc o.token 4 ++ [o.side, UInt8.ofNat o.stock] ++ enc o.price 2 ++ enc o.shares 2 ++ [kind] ++ enc o.ref 4)

def enter (st : St) (t : Nat) (side : UInt8) (stock price shares : Nat) (kind : UInt8) : St :=
  match st.why t side stock price shares kind with
  | some r => st.reject t r
  | none =>
    let o : Ord := { ref := (st.refs + 1) % 4294967296, token := t, side, stock, price, shares }
    let x := (st.accept o kind).meet 65 o
    if x.2.shares = 0 then x.1
    else if kind = 68 then x.1.rest x.2
    else x.1.cancelled t x.2.shares 73

def cancel (st : St) (t n : Nat) : St :=
  match st.find t with
  | none => st
  | some o =>
    if o.shares ≤ n then st else
    let st := st.cancelled t (o.shares - n) 85
    let st := if n = 0 then st.put (st.head 100 ++ enc o.ref 4) else st.put (st.head 120 ++ enc o.ref 4 ++ enc (o.shares - n) 2)
    st.upd o.stock o.side o.price (redO t (o.shares - n))

def whyR (st : St) (t price shares : Nat) : Option UInt8 :=
  if t ∈ st.used then some 68
  else if price < 1 ∨ st.levels < price then some 80
  else if shares < 1 ∨ 9999 < shares then some 81
  else none

def replace (st : St) (t n price shares : Nat) : St :=
  match st.find t with
  | none => st
  | some o =>
    match st.whyR n price shares with
    | some r => st.reject n r
    | none =>
      let y : Ord := { o with ref := (st.refs + 1) % 4294967296, token := n, price, shares }
      let st := { st with refs := y.ref, used := n :: st.used }.say (st.head 85 ++ enc n 4 ++ enc price 2 ++ enc shares 2 ++ enc y.ref 4 ++ enc t 4)
      match st.meets y with
      | none =>
        let st := st.put (st.head 117 ++ enc o.ref 4 ++ enc y.ref 4 ++ enc shares 2 ++ enc price 2)
        if price = o.price ∧ shares ≤ o.shares then st.upd o.stock o.side o.price (subO t y)
        else (st.upd o.stock o.side o.price (delO t)).upd o.stock o.side price (· ++ [y])
      | some _ =>
        let st := (st.put (st.head 100 ++ enc o.ref 4)).upd o.stock o.side o.price (delO t)
        let x := st.meet 65 y
        if x.2.shares = 0 then x.1 else x.1.rest x.2

def shut (st : St) : St := { st with opn := false }.say (st.head 90)

end St

def at_ (m : List UInt8) (i n : Nat) : Nat := num ((m.drop i).take n) 0
def byteAt (m : List UInt8) (i : Nat) : UInt8 := m.getD i 0

/-- How many bytes a message has that begins with this letter. -/
def sizeOf (c : UInt8) : Nat := if c = 69 then 12 else if c = 82 then 13 else if c = 67 then 7 else 1

namespace St
/-- A message that is whole is done. -/
def act (st : St) (m : List UInt8) : St :=
  if byteAt m 0 = 69 then st.enter (at_ m 1 4) (byteAt m 5) (byteAt m 6).toNat (at_ m 7 2) (at_ m 9 2) (byteAt m 11)
  else if byteAt m 0 = 82 then st.replace (at_ m 1 4) (at_ m 5 4) (at_ m 9 2) (at_ m 11 2)
  else if byteAt m 0 = 67 then st.cancel (at_ m 1 4) (at_ m 5 2)
  else st.shut

def step (st : St) (c : UInt8) : St :=
  if st.opn then
    if (st.part ++ [c]).length = sizeOf (byteAt (st.part ++ [c]) 0) then { st with part := [] }.act (st.part ++ [c])
    else { st with part := st.part ++ [c] }
  else st

def feed (st : St) (l : List UInt8) : St := l.foldl step st
def tick (st : St) (n : Nat) : St := { st with time := (st.time + n) % 281474976710656 }
def told (st : St) : St := { st with ans := [] }
def taped (st : St) : St := { st with tape := [] }
end St

def opened (stocks levels pool : Nat) : St :=
  { stocks, levels, pool, time := 0, opn := true, part := [], refs := 0, mats := 0, used := [], q := fun _ _ _ => [], ans := [79, 0, 0, 0, 0, 0, 0], tape := [] }

theorem feed_append (st : St) (a b : List UInt8) : st.feed (a ++ b) = (st.feed a).feed b := by simp [St.feed]

end Go.Proofs.Ytphkchjejbffeaa

/- Plain: where orders rest, and how a change at one place changes all of them. -/
namespace Go.Proofs.Ytphkchjejbffeaa

abbrev Co := Nat × UInt8 × Nat
def St.get (st : St) (c : Co) : List Ord := st.q c.1 c.2.1 c.2.2
def bidCo (n s : Nat) : List Co := (List.range n).map fun r => (s, 66, n - r)
def askCo (n s : Nat) : List Co := (List.range n).map fun r => (s, 83, r + 1)
def bookCo (n s : Nat) : List Co := bidCo n s ++ askCo n s
def allCo (m n : Nat) : List Co := (List.range m).flatMap (bookCo n)

theorem bids_eq (st : St) (s : Nat) : st.bids s = (bidCo st.levels s).flatMap st.get := by
  simp [St.bids, bidCo, List.flatMap_map, St.get]
theorem asks_eq (st : St) (s : Nat) : st.asks s = (askCo st.levels s).flatMap st.get := by
  simp [St.asks, askCo, List.flatMap_map, St.get]
theorem book_eq (st : St) (s : Nat) : st.book s = (bookCo st.levels s).flatMap st.get := by
  simp [St.book, bids_eq, asks_eq, bookCo]
theorem all_eq (st : St) : st.all = (allCo st.stocks st.levels).flatMap st.get := by
  rw [allCo, List.flatMap_assoc]
  unfold St.all
  congr 1
  funext s
  exact book_eq st s

theorem mem_bookCo (n s : Nat) (c : Co) : c ∈ bookCo n s ↔ c.1 = s ∧ (c.2.1 = 66 ∨ c.2.1 = 83) ∧ 1 ≤ c.2.2 ∧ c.2.2 ≤ n := by
  obtain ⟨a, d, p⟩ := c
  simp only [bookCo, bidCo, askCo, List.mem_append, List.mem_map, List.mem_range, Prod.mk.injEq]
  constructor
  · rintro (⟨r, h, rfl, rfl, rfl⟩ | ⟨r, h, rfl, rfl, rfl⟩)
    · exact ⟨rfl, .inl rfl, by omega, by omega⟩
    · exact ⟨rfl, .inr rfl, by omega, by omega⟩
  · rintro ⟨rfl, rfl | rfl, h1, h2⟩
    · exact .inl ⟨n - p, by omega, rfl, rfl, by omega⟩
    · exact .inr ⟨p - 1, by omega, rfl, rfl, by omega⟩
theorem mem_allCo (m n : Nat) (c : Co) : c ∈ allCo m n ↔ c.1 < m ∧ (c.2.1 = 66 ∨ c.2.1 = 83) ∧ 1 ≤ c.2.2 ∧ c.2.2 ≤ n := by
  simp only [allCo, List.mem_flatMap, List.mem_range, mem_bookCo]
  constructor
  · rintro ⟨s, h1, h2, h3⟩
    exact ⟨h2 ▸ h1, h3⟩
  · rintro ⟨h1, h2⟩
    exact ⟨c.1, h1, rfl, h2⟩

theorem nodup_map_inj {α β : Type} (f : α → β) (l : List α) (hl : l.Nodup) (hf : ∀ a ∈ l, ∀ b ∈ l, f a = f b → a = b) : (l.map f).Nodup := by
  induction l with
  | nil => simp
  | cons x l ih =>
    rw [List.nodup_cons] at hl
    rw [List.map_cons, List.nodup_cons]
    refine ⟨?_, ih hl.2 (fun a ha b hb => hf a (by simp [ha]) b (by simp [hb]))⟩
    intro h
    obtain ⟨y, hy, e⟩ := List.mem_map.1 h
    have := hf y (by simp [hy]) x (by simp) e
    exact hl.1 (this ▸ hy)

theorem nodup_bookCo (n s : Nat) : (bookCo n s).Nodup := by
  unfold bookCo
  rw [List.nodup_append]
  refine ⟨?_, ?_, ?_⟩
  · exact nodup_map_inj _ _ List.nodup_range (fun a ha b hb h => by simp at ha hb h; omega)
  · exact nodup_map_inj _ _ List.nodup_range (fun a ha b hb h => by simp at h; omega)
  · intro a ha b hb h
    simp only [bidCo, askCo, List.mem_map] at ha hb
    obtain ⟨r, _, rfl⟩ := ha
    obtain ⟨t, _, rfl⟩ := hb
    have := congrArg (fun c : Co => c.2.1) h
    revert this
    show (66 : UInt8) = 83 → False
    decide
theorem nodup_allCo (m n : Nat) : (allCo m n).Nodup := by
  induction m with
  | zero => simp [allCo]
  | succ m ih =>
    have : allCo (m + 1) n = allCo m n ++ bookCo n m := by simp [allCo, List.range_succ]
    rw [this, List.nodup_append]
    refine ⟨ih, nodup_bookCo n m, ?_⟩
    intro a ha b hb h
    subst h
    have h1 := (mem_allCo m n a).1 ha
    have h2 := (mem_bookCo n m a).1 hb
    omega

theorem split_mem {α : Type} (l : List α) (c : α) (hn : l.Nodup) (h : c ∈ l) : ∃ l1 l2, l = l1 ++ c :: l2 ∧ c ∉ l1 ∧ c ∉ l2 := by
  obtain ⟨l1, l2, rfl⟩ := List.append_of_mem h
  rw [List.nodup_append] at hn
  obtain ⟨_, h2, h3⟩ := hn
  rw [List.nodup_cons] at h2
  exact ⟨l1, l2, rfl, fun hc => h3 c hc c (by simp) rfl, h2.1⟩

theorem flatMap_congr_mem {α β : Type} (l : List α) (f g : α → List β) (h : ∀ a ∈ l, f a = g a) : l.flatMap f = l.flatMap g := by
  induction l with
  | nil => rfl
  | cons x l ih =>
    rw [List.flatMap_cons, List.flatMap_cons, h x (by simp), ih (fun a ha => h a (by simp [ha]))]

theorem upd_get (st : St) (s : Nat) (d : UInt8) (p : Nat) (f : List Ord → List Ord) (c : Co) : (st.upd s d p f).get c = if c = (s, d, p) then f (st.q s d p) else st.get c := by
  obtain ⟨a, e, r⟩ := c
  simp [St.get, St.upd]

/-- A change at one place of a list of places. -/
theorem flat_upd (st : St) (l : List Co) (hl : l.Nodup) (s : Nat) (d : UInt8) (p : Nat) (h : (s, d, p) ∈ l) :
    ∃ A B, l.flatMap st.get = A ++ st.q s d p ++ B ∧ ∀ f : List Ord → List Ord, l.flatMap (st.upd s d p f).get = A ++ f (st.q s d p) ++ B := by
  obtain ⟨l1, l2, rfl, h1, h2⟩ := split_mem l (s, d, p) hl h
  refine ⟨l1.flatMap st.get, l2.flatMap st.get, ?_, ?_⟩
  · rw [List.flatMap_append, List.flatMap_cons, ← List.append_assoc]
    rfl
  · intro f
    rw [List.flatMap_append, List.flatMap_cons, ← List.append_assoc]
    rw [flatMap_congr_mem l1 (st.upd s d p f).get st.get (fun a ha => by rw [upd_get, if_neg (by rintro rfl; exact h1 ha)])]
    rw [flatMap_congr_mem l2 (st.upd s d p f).get st.get (fun a ha => by rw [upd_get, if_neg (by rintro rfl; exact h2 ha)])]
    rw [upd_get, if_pos rfl]

theorem all_upd (st : St) (s : Nat) (d : UInt8) (p : Nat) (h : s < st.stocks ∧ (d = 66 ∨ d = 83) ∧ 1 ≤ p ∧ p ≤ st.levels) :
    ∃ A B, st.all = A ++ st.q s d p ++ B ∧ ∀ f : List Ord → List Ord, (st.upd s d p f).all = A ++ f (st.q s d p) ++ B := by
  obtain ⟨A, B, h1, h2⟩ := flat_upd st (allCo st.stocks st.levels) (nodup_allCo _ _) s d p ((mem_allCo _ _ _).2 h)
  refine ⟨A, B, by rw [all_eq, h1], fun f => ?_⟩
  rw [all_eq]
  exact h2 f

theorem mem_all (st : St) (x : Ord) : x ∈ st.all ↔ ∃ s d p, s < st.stocks ∧ (d = 66 ∨ d = 83) ∧ 1 ≤ p ∧ p ≤ st.levels ∧ x ∈ st.q s d p := by
  rw [all_eq, List.mem_flatMap]
  constructor
  · rintro ⟨⟨s, d, p⟩, h1, h2⟩
    obtain ⟨a, b, c, e⟩ := (mem_allCo _ _ _).1 h1
    exact ⟨s, d, p, a, b, c, e, h2⟩
  · rintro ⟨s, d, p, a, b, c, e, h2⟩
    exact ⟨(s, d, p), (mem_allCo _ _ _).2 ⟨a, b, c, e⟩, h2⟩

end Go.Proofs.Ytphkchjejbffeaa

/- Plain: what holds of every bourse, and that each step keeps it. -/
namespace Go.Proofs.Ytphkchjejbffeaa

def Valid (st : St) (s : Nat) (d : UInt8) (p : Nat) : Prop := s < st.stocks ∧ (d = 66 ∨ d = 83) ∧ 1 ≤ p ∧ p ≤ st.levels
/-- Of an order that rests at a place. -/
structure Fits (s : Nat) (d : UInt8) (p : Nat) (x : Ord) : Prop where
  stock : x.stock = s
  side : x.side = d
  price : x.price = p
  least : 1 ≤ x.shares
  most : x.shares ≤ 9999
  ref : x.ref < 4294967296
  token : x.token < 4294967296

structure Inv (st : St) : Prop where
  stocks : 1 ≤ st.stocks ∧ st.stocks ≤ 8
  levels : 1 ≤ st.levels ∧ st.levels ≤ 64
  pool : 1 ≤ st.pool ∧ st.pool ≤ 64
  ord : ∀ s d p x, x ∈ st.q s d p → Fits s d p x
  ok : ∀ s d p, st.q s d p ≠ [] → Valid st s d p
  nodup : (st.all.map (·.token)).Nodup
  used : ∀ x ∈ st.all, x.token ∈ st.used
  room : st.resting ≤ st.pool
  unc : ∀ s pb pa, st.q s 66 pb ≠ [] → st.q s 83 pa ≠ [] → pb < pa
  refs : st.refs < 4294967296
  mats : st.mats < 4294967296
  time : st.time < 281474976710656

theorem Inv.of_q {st st' : St} (h : Inv st) (hq : st'.q = st.q) (h1 : st'.stocks = st.stocks) (h2 : st'.levels = st.levels) (h3 : st'.pool = st.pool) (h4 : ∀ t, t ∈ st.used → t ∈ st'.used)
    (h5 : st'.refs < 4294967296) (h6 : st'.mats < 4294967296) (h7 : st'.time < 281474976710656) : Inv st' := by
  have ha : st'.all = st.all := by
    unfold St.all
    rw [h1]
    congr 1
    funext s
    simp only [St.book, St.bids, St.asks, hq, h2]
  refine ⟨h1 ▸ h.stocks, h2 ▸ h.levels, h3 ▸ h.pool, ?_, ?_, ?_, ?_, ?_, ?_, h5, h6, h7⟩
  · rw [hq]; exact h.ord
  · intro s d p hne
    rw [hq] at hne
    have := h.ok s d p hne
    unfold Valid at *
    rw [h1, h2]; exact this
  · rw [ha]; exact h.nodup
  · rw [ha]; exact fun x hx => h4 _ (h.used x hx)
  · unfold St.resting at *; rw [ha, h3]; exact h.room
  · rw [hq]; exact h.unc

theorem Inv.say {st : St} (h : Inv st) (l : List UInt8) : Inv (st.say l) := h.of_q rfl rfl rfl rfl (fun _ h => h) h.refs h.mats h.time
theorem Inv.put {st : St} (h : Inv st) (l : List UInt8) : Inv (st.put l) := h.of_q rfl rfl rfl rfl (fun _ h => h) h.refs h.mats h.time

/-- A place at which only less than before is. -/
theorem Inv.shrink {st : St} (h : Inv st) (s : Nat) (d : UInt8) (p : Nat) (f : List Ord → List Ord) (hv : Valid st s d p)
    (hm : ∀ y ∈ f (st.q s d p), ∃ x ∈ st.q s d p, y.token = x.token ∧ y.ref = x.ref ∧ y.stock = x.stock ∧ y.side = x.side ∧ y.price = x.price ∧ 1 ≤ y.shares ∧ y.shares ≤ x.shares)
    (hs : ((f (st.q s d p)).map (·.token)).Sublist ((st.q s d p).map (·.token))) : Inv (st.upd s d p f) := by
  obtain ⟨A, B, h1, h2⟩ := all_upd st s d p hv
  have h2 := h2 f
  have hsub : ((st.upd s d p f).all.map (·.token)).Sublist (st.all.map (·.token)) := by
    rw [h1, h2]
    simp only [List.map_append]
    exact (List.Sublist.refl _).append hs |>.append (List.Sublist.refl _)
  have hq : ∀ s' d' p', (st.upd s d p f).q s' d' p' = if s' = s ∧ d' = d ∧ p' = p then f (st.q s d p) else st.q s' d' p' := fun _ _ _ => rfl
  have hne : ∀ s' d' p', (st.upd s d p f).q s' d' p' ≠ [] → st.q s' d' p' ≠ [] := by
    intro s' d' p' hn
    rw [hq] at hn
    split at hn
    · rename_i hc
      obtain ⟨rfl, rfl, rfl⟩ := hc
      obtain ⟨y, hy⟩ := List.exists_mem_of_ne_nil _ hn
      obtain ⟨x, hx, _⟩ := hm y hy
      exact List.ne_nil_of_mem hx
    · exact hn
  refine ⟨h.stocks, h.levels, h.pool, ?_, ?_, hsub.nodup h.nodup, ?_, ?_, ?_, h.refs, h.mats, h.time⟩
  · intro s' d' p' y hy
    rw [hq] at hy
    split at hy
    · rename_i hc
      obtain ⟨rfl, rfl, rfl⟩ := hc
      obtain ⟨x, hx, e1, e2, e3, e4, e5, e6, e7⟩ := hm y hy
      have := h.ord _ _ _ x hx
      exact ⟨e3.trans this.stock, e4.trans this.side, e5.trans this.price, e6, Nat.le_trans e7 this.most, e2 ▸ this.ref, e1 ▸ this.token⟩
    · exact h.ord _ _ _ y hy
  · intro s' d' p' hn
    exact h.ok _ _ _ (hne _ _ _ hn)
  · intro y hy
    have : y.token ∈ st.all.map (·.token) := hsub.subset (List.mem_map.2 ⟨y, hy, rfl⟩)
    obtain ⟨x, hx, e⟩ := List.mem_map.1 this
    have e : x.token = y.token := e
    exact e ▸ h.used x hx
  · have := hsub.length_le
    simp only [List.length_map] at this
    exact Nat.le_trans this h.room
  · intro s' pb pa hb ha
    exact h.unc s' pb pa (hne _ _ _ hb) (hne _ _ _ ha)

theorem red_mem (t n : Nat) (l : List Ord) (hl : ∀ x ∈ l, 1 ≤ x.shares) (y : Ord) (hy : y ∈ redO t n l) :
    ∃ x ∈ l, y.token = x.token ∧ y.ref = x.ref ∧ y.stock = x.stock ∧ y.side = x.side ∧ y.price = x.price ∧ 1 ≤ y.shares ∧ y.shares ≤ x.shares := by
  induction l with
  | nil => simp [redO] at hy
  | cons x l ih =>
    simp only [redO] at hy
    split at hy
    · split at hy
      · exact ⟨y, by simp [hy], rfl, rfl, rfl, rfl, rfl, hl y (by simp [hy]), Nat.le_refl _⟩
      · rcases List.mem_cons.1 hy with rfl | hy
        · exact ⟨x, by simp, rfl, rfl, rfl, rfl, rfl, by show 1 ≤ x.shares - n; omega, by show x.shares - n ≤ x.shares; omega⟩
        · exact ⟨y, by simp [hy], rfl, rfl, rfl, rfl, rfl, hl y (by simp [hy]), Nat.le_refl _⟩
    · rcases List.mem_cons.1 hy with rfl | hy
      · exact ⟨y, by simp, rfl, rfl, rfl, rfl, rfl, hl y (by simp), Nat.le_refl _⟩
      · obtain ⟨z, hz, e⟩ := ih (fun x hx => hl x (by simp [hx])) hy
        exact ⟨z, by simp [hz], e⟩
theorem red_sub (t n : Nat) (l : List Ord) : ((redO t n l).map (·.token)).Sublist (l.map (·.token)) := by
  induction l with
  | nil => simp [redO]
  | cons x l ih =>
    simp only [redO]
    split
    · split
      · simp
      · simp
    · simpa using ih
theorem del_mem (t : Nat) (l : List Ord) : (delO t l).Sublist l := by
  induction l with
  | nil => simp [delO]
  | cons x l ih =>
    simp only [delO]
    split
    · simp
    · simpa using ih

theorem Inv.red {st : St} (h : Inv st) (s : Nat) (d : UInt8) (p : Nat) (t n : Nat) (hv : Valid st s d p) : Inv (st.upd s d p (redO t n)) :=
  h.shrink s d p _ hv (fun y hy => red_mem t n _ (fun x hx => (h.ord s d p x hx).least) y hy) (red_sub t n _)
theorem Inv.del {st : St} (h : Inv st) (s : Nat) (d : UInt8) (p : Nat) (t : Nat) (hv : Valid st s d p) : Inv (st.upd s d p (delO t)) :=
  h.shrink s d p _ hv (fun y hy => ⟨y, (del_mem t _).subset hy, rfl, rfl, rfl, rfl, rfl, (h.ord s d p y ((del_mem t _).subset hy)).least, Nat.le_refl _⟩) ((del_mem t _).map _)

/-- One order more. -/
theorem Inv.push {st : St} (h : Inv st) (o : Ord) (hv : Valid st o.stock o.side o.price) (h1 : 1 ≤ o.shares) (h2 : o.shares ≤ 9999) (h3 : o.ref < 4294967296) (h4 : o.token < 4294967296)
    (hu : o.token ∈ st.used) (hn : ∀ x ∈ st.all, x.token ≠ o.token) (hr : st.resting < st.pool) (hx : ∀ p, st.q o.stock (other o.side) p ≠ [] → reaches o p = false) :
    Inv (st.upd o.stock o.side o.price (· ++ [o])) := by
  obtain ⟨A, B, e1, e2⟩ := all_upd st o.stock o.side o.price hv
  have e2 := e2 (· ++ [o])
  have hperm : (st.upd o.stock o.side o.price (· ++ [o])).all.Perm (o :: st.all) := by
    rw [e1, e2]
    simp only [List.append_assoc, List.singleton_append]
    rw [← List.append_assoc, ← List.append_assoc]
    exact List.perm_middle
  have hq : ∀ s' d' p', (st.upd o.stock o.side o.price (· ++ [o])).q s' d' p' = if s' = o.stock ∧ d' = o.side ∧ p' = o.price then st.q o.stock o.side o.price ++ [o] else st.q s' d' p' := fun _ _ _ => rfl
  refine ⟨h.stocks, h.levels, h.pool, ?_, ?_, ?_, ?_, ?_, ?_, h.refs, h.mats, h.time⟩
  · intro s d p y hy
    rw [hq] at hy
    split at hy
    · rename_i hc
      obtain ⟨rfl, rfl, rfl⟩ := hc
      rcases List.mem_append.1 hy with hy | hy
      · exact h.ord _ _ _ y hy
      · simp at hy; subst hy
        exact ⟨rfl, rfl, rfl, h1, h2, h3, h4⟩
    · exact h.ord _ _ _ y hy
  · intro s d p hne
    rw [hq] at hne
    split at hne
    · rename_i hc
      obtain ⟨rfl, rfl, rfl⟩ := hc
      exact hv
    · exact h.ok _ _ _ hne
  · rw [(hperm.map (·.token)).nodup_iff, List.map_cons, List.nodup_cons]
    refine ⟨fun hm => ?_, h.nodup⟩
    obtain ⟨x, hx', e⟩ := List.mem_map.1 hm
    exact hn x hx' e
  · intro x hx'
    rcases List.mem_cons.1 (hperm.subset hx') with rfl | hx'
    · exact hu
    · exact h.used x hx'
  · have := hperm.length_eq
    simp only [List.length_cons] at this
    show (st.upd o.stock o.side o.price (· ++ [o])).all.length ≤ st.pool
    have hr' : st.all.length < st.pool := hr
    omega
  · intro s pb pa hb ha
    rw [hq] at hb ha
    split at hb
    · rename_i hc
      obtain ⟨rfl, hd, rfl⟩ := hc
      rw [if_neg (by rw [← hd]; intro hc; exact absurd hc.2.1 (by decide))] at ha
      have := hx pa (by rw [← hd]; exact ha)
      simp only [reaches, ← hd, if_pos] at this
      simpa using this
    · split at ha
      · rename_i hc
        obtain ⟨rfl, hd, rfl⟩ := hc
        have := hx pb (by rw [← hd]; exact hb)
        simp only [reaches, ← hd] at this
        simpa using this
      · exact h.unc _ _ _ hb ha

theorem meets_some {st : St} {o f : Ord} (h : st.meets o = some f) : ∃ r, r < st.levels ∧ reaches o (st.ranked (other o.side) r) = true ∧ (st.q o.stock (other o.side) (st.ranked (other o.side) r)).head? = some f ∧
    ∀ r', r' < r → reaches o (st.ranked (other o.side) r') = true → st.q o.stock (other o.side) (st.ranked (other o.side) r') = [] := by
  unfold St.meets at h
  obtain ⟨l1, r, l2, e, h1, h2⟩ := List.findSome?_eq_some_iff.1 h
  have hr : (List.range st.levels)[l1.length]? = some r := by rw [e]; simp
  rw [List.getElem?_range] at hr
  · cases hr
    split at h1
    · rename_i hrc
      refine ⟨l1.length, ?_, hrc, h1, ?_⟩
      · have := congrArg List.length e
        simp at this; omega
      · intro r' hr' hre
        have hm : r' ∈ l1 := by
          have : (List.range st.levels)[r']? = l1[r']? := by rw [e, List.getElem?_append_left hr']
          have hlt : r' < st.levels := by have := congrArg List.length e; simp at this; omega
          rw [List.getElem?_range hlt] at this
          exact List.mem_of_getElem? this.symm
        have := h2 r' hm
        rw [if_pos hre] at this
        simpa using this
    · cases h1
  · have := congrArg List.length e
    simp at this; omega
theorem meets_none {st : St} {o : Ord} (h : st.meets o = none) (r : Nat) (hr : r < st.levels) (hc : reaches o (st.ranked (other o.side) r) = true) : st.q o.stock (other o.side) (st.ranked (other o.side) r) = [] := by
  unfold St.meets at h
  have := List.findSome?_eq_none_iff.1 h r (by simp [hr])
  rw [if_pos hc] at this
  simpa using this
theorem ranked_of (st : St) (d : UInt8) (p : Nat) (h1 : 1 ≤ p) (h2 : p ≤ st.levels) : ∃ r, r < st.levels ∧ st.ranked d r = p := by
  unfold St.ranked
  by_cases hd : d = 66
  · exact ⟨st.levels - p, by omega, by rw [if_pos hd]; omega⟩
  · exact ⟨p - 1, by omega, by rw [if_neg hd]; omega⟩
theorem ranked_le (st : St) (d : UInt8) (r : Nat) (h : r < st.levels) : 1 ≤ st.ranked d r ∧ st.ranked d r ≤ st.levels := by
  unfold St.ranked
  split <;> omega
theorem other_ok (d : UInt8) : other d = 66 ∨ other d = 83 := by
  unfold other
  split
  · exact .inr rfl
  · exact .inl rfl

end Go.Proofs.Ytphkchjejbffeaa
