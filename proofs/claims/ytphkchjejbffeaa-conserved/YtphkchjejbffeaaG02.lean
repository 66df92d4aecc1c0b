/- Plain: books are sorted and not crossed; what no message changes. -/
import Derived.Test.YtphkchjejbffeaaG01
import Derived.Test.YtphkchjejbffeaaProg
namespace Go.Proofs.Ytphkchjejbffeaa

/-- What no call changes, and what no message but a closing one does. -/
structure Same (a b : St) : Prop where
  stocks : b.stocks = a.stocks
  levels : b.levels = a.levels
  pool : b.pool = a.pool
theorem Same.refl (a : St) : Same a a := ⟨rfl, rfl, rfl⟩
theorem Same.trans {a b c : St} (h : Same a b) (k : Same b c) : Same a c := ⟨k.stocks.trans h.stocks, k.levels.trans h.levels, k.pool.trans h.pool⟩

structure Keeps (a b : St) : Prop where
  same : Same a b
  opn : b.opn = a.opn
  part : b.part = a.part
  time : b.time = a.time
theorem Keeps.refl (a : St) : Keeps a a := ⟨Same.refl a, rfl, rfl, rfl⟩
theorem Keeps.trans {a b c : St} (h : Keeps a b) (k : Keeps b c) : Keeps a c := ⟨h.same.trans k.same, k.opn.trans h.opn, k.part.trans h.part, k.time.trans h.time⟩

theorem keeps_execute (st : St) (o f : Ord) (n : Nat) : Keeps st (st.execute o f n) := ⟨⟨rfl, rfl, rfl⟩, rfl, rfl, rfl⟩
theorem keeps_meet (k : Nat) : ∀ (st : St) (o : Ord), Keeps st (st.meet k o).1 := by
  induction k with
  | zero => intro st o; exact Keeps.refl _
  | succ k ih =>
    intro st o
    simp only [St.meet]
    split
    · exact Keeps.refl _
    · split
      · exact Keeps.refl _
      · exact (keeps_execute _ _ _ _).trans (ih _ _)
theorem keeps_rest (st : St) (o : Ord) : Keeps st (st.rest o) := ⟨⟨rfl, rfl, rfl⟩, rfl, rfl, rfl⟩
theorem keeps_say (st : St) (l : List UInt8) : Keeps st (st.say l) := ⟨⟨rfl, rfl, rfl⟩, rfl, rfl, rfl⟩
theorem keeps_enter (st : St) (t : Nat) (side : UInt8) (stock price shares : Nat) (kind : UInt8) : Keeps st (st.enter t side stock price shares kind) := by
  unfold St.enter
  split
  · exact keeps_say _ _
  · dsimp only
    have h1 : Keeps st (st.accept { ref := (st.refs + 1) % 4294967296, token := t, side := side, stock := stock, price := price, shares := shares } kind) := ⟨⟨rfl, rfl, rfl⟩, rfl, rfl, rfl⟩
    have h2 := h1.trans (keeps_meet 65 _ { ref := (st.refs + 1) % 4294967296, token := t, side := side, stock := stock, price := price, shares := shares })
    split
    · exact h2
    · split
      · exact h2.trans (keeps_rest _ _)
      · exact h2.trans (keeps_say _ _)
theorem keeps_cancel (st : St) (t n : Nat) : Keeps st (st.cancel t n) := by
  unfold St.cancel
  split
  · exact Keeps.refl _
  · split
    · exact Keeps.refl _
    · dsimp only
      split <;> exact ⟨⟨rfl, rfl, rfl⟩, rfl, rfl, rfl⟩
theorem keeps_replace (st : St) (t n price shares : Nat) : Keeps st (st.replace t n price shares) := by
  unfold St.replace
  split
  · exact Keeps.refl _
  · split
    · exact keeps_say _ _
    · dsimp only
      split
      · split <;> exact ⟨⟨rfl, rfl, rfl⟩, rfl, rfl, rfl⟩
      · split
        · refine Keeps.trans ?_ (keeps_meet 65 _ _)
          exact ⟨⟨rfl, rfl, rfl⟩, rfl, rfl, rfl⟩
        · refine Keeps.trans ?_ (keeps_rest _ _)
          refine Keeps.trans ?_ (keeps_meet 65 _ _)
          exact ⟨⟨rfl, rfl, rfl⟩, rfl, rfl, rfl⟩

theorem same_act (st : St) (m : List UInt8) : Same st (st.act m) := by
  unfold St.act
  split
  · exact (keeps_enter _ _ _ _ _ _ _).same
  · split
    · exact (keeps_replace _ _ _ _ _).same
    · split
      · exact (keeps_cancel _ _ _).same
      · exact ⟨rfl, rfl, rfl⟩
theorem same_step (st : St) (c : UInt8) : Same st (st.step c) := by
  unfold St.step
  split
  · split
    · exact Same.trans (b := { st with part := [] }) ⟨rfl, rfl, rfl⟩ (same_act _ _)
    · exact ⟨rfl, rfl, rfl⟩
  · exact Same.refl _
theorem same_feed (l : List UInt8) : ∀ st : St, Same st (st.feed l) := by
  induction l with
  | nil => intro st; exact Same.refl _
  | cons c l ih => intro st; exact (same_step st c).trans (ih _)

/-- One order ahead of another in a book. -/
def Ahead (p x : Ord) : Prop := (p.side = 66 ∧ x.side = 66 ∧ x.price ≤ p.price) ∨ (p.side = 83 ∧ x.side = 83 ∧ p.price ≤ x.price) ∨ (p.side = 66 ∧ x.side = 83 ∧ p.price < x.price)

theorem pair_map_range {α : Type} (R : α → α → Prop) (f : Nat → α) (n : Nat) (h : ∀ i j, i < j → j < n → R (f i) (f j)) : List.Pairwise R ((List.range n).map f) := by
  rw [List.pairwise_map]
  have := @List.pairwise_lt_range n
  refine List.Pairwise.imp_of_mem ?_ this
  intro a b ha hb hab
  exact h a b hab (by simpa using hb)

theorem ahead_book {st : St} (h : Inv st) (s : Nat) : List.Pairwise Ahead (st.book s) := by
  rw [book_eq, List.pairwise_flatMap]
  have hfit : ∀ (c : Co) (x : Ord), x ∈ st.get c → Fits c.1 c.2.1 c.2.2 x := fun c x hx => h.ord _ _ _ x hx
  constructor
  · rintro ⟨s', d, p⟩ hc
    obtain ⟨-, hd, -, -⟩ := (mem_bookCo _ _ _).1 hc
    refine List.Pairwise.imp_of_mem (R := fun _ _ => True) ?_ ?_
    · intro a b ha hb _
      have fa := hfit _ a ha
      have fb := hfit _ b hb
      have ha1 := fa.side
      have hb1 := fb.side
      have ha2 := fa.price
      have hb2 := fb.price
      simp only at ha1 hb1 ha2 hb2 hd
      rcases hd with rfl | rfl
      · exact .inl ⟨ha1, hb1, by omega⟩
      · exact .inr (.inl ⟨ha1, hb1, by omega⟩)
    · exact List.pairwise_of_forall (fun _ _ => trivial)
  · unfold bookCo
    rw [List.pairwise_append]
    refine ⟨?_, ?_, ?_⟩
    · refine pair_map_range _ _ _ ?_
      intro i j hij hj x hx y hy
      have fx := hfit _ x hx
      have fy := hfit _ y hy
      exact .inl ⟨fx.side, fy.side, by rw [fx.price, fy.price]; show st.levels - j ≤ st.levels - i; omega⟩
    · refine pair_map_range _ _ _ ?_
      intro i j hij hj x hx y hy
      have fx := hfit _ x hx
      have fy := hfit _ y hy
      exact .inr (.inl ⟨fx.side, fy.side, by rw [fx.price, fy.price]; show i + 1 ≤ j + 1; omega⟩)
    · intro a ha b hb x hx y hy
      simp only [bidCo, askCo, List.mem_map] at ha hb
      obtain ⟨i, _, rfl⟩ := ha
      obtain ⟨j, _, rfl⟩ := hb
      have fx := hfit _ x hx
      have fy := hfit _ y hy
      refine .inr (.inr ⟨fx.side, fy.side, ?_⟩)
      rw [fx.price, fy.price]
      exact h.unc s _ _ (List.ne_nil_of_mem hx) (List.ne_nil_of_mem hy)

theorem book_each {st : St} (h : Inv st) (s : Nat) (x : Ord) (hx : x ∈ st.book s) : x.stock = s ∧ 1 ≤ x.price ∧ x.price ≤ st.levels ∧ 1 ≤ x.shares ∧ x.shares ≤ 9999 ∧ (x.side = 66 ∨ x.side = 83) ∧ x.ref < 4294967296 ∧ x.token < 4294967296 := by
  rw [book_eq, List.mem_flatMap] at hx
  obtain ⟨⟨s', d, p⟩, hc, hx⟩ := hx
  obtain ⟨e, hd, h1, h2⟩ := (mem_bookCo _ _ _).1 hc
  have f := h.ord _ _ _ x hx
  simp only at e hd h1 h2
  subst e
  exact ⟨f.stock, by rw [f.price]; exact h1, by rw [f.price]; exact h2, f.least, f.most, by rw [f.side]; exact hd, f.ref, f.token⟩

theorem book_pair {st : St} (h : Inv st) (s i : Nat) (f p x : Ord) (hf : (st.book s)[0]? = some f) (hp : (st.book s)[i]? = some p) (hx : (st.book s)[i + 1]? = some x) :
    (p.side = 66 ∧ x.side = 66 ∧ x.price ≤ p.price) ∨ (p.side = 83 ∧ x.side = 83 ∧ p.price ≤ x.price) ∨ (p.side = 66 ∧ x.side = 83 ∧ f.price < x.price) := by
  have hpw := ahead_book h s
  rw [List.pairwise_iff_getElem] at hpw
  have get : ∀ (k : Nat) (z : Ord), (st.book s)[k]? = some z → ∃ hk : k < (st.book s).length, (st.book s)[k] = z := fun k z hz => List.getElem?_eq_some_iff.1 hz
  obtain ⟨k0, e0⟩ := get 0 f hf
  obtain ⟨k1, e1⟩ := get i p hp
  obtain ⟨k2, e2⟩ := get (i + 1) x hx
  have a1 := hpw i (i + 1) k1 k2 (by omega)
  rw [e1, e2] at a1
  rcases a1 with a1 | a1 | ⟨a1, a2, a3⟩
  · exact .inl a1
  · exact .inr (.inl a1)
  · refine .inr (.inr ⟨a1, a2, ?_⟩)
    have b1 := hpw 0 (i + 1) k0 k2 (by omega)
    rw [e0, e2] at b1
    rcases b1 with ⟨_, b2, _⟩ | ⟨b1, _, _⟩ | ⟨_, _, b3⟩
    · rw [a2] at b2; exact absurd b2 (by decide)
    · by_cases hi : i = 0
      · subst hi
        rw [hf] at hp
        cases hp
        rw [a1] at b1; exact absurd b1 (by decide)
      · have c1 := hpw 0 i k0 k1 (by omega)
        rw [e0, e1] at c1
        rcases c1 with ⟨c1, _, _⟩ | ⟨_, c2, _⟩ | ⟨c1, _, _⟩
        · rw [b1] at c1; exact absurd c1 (by decide)
        · rw [a1] at c2; exact absurd c2 (by decide)
        · rw [b1] at c1; exact absurd c1 (by decide)
    · exact b3

end Go.Proofs.Ytphkchjejbffeaa

/- Plain: a whole message that comes is done; how much goes out; which tokens are used. -/
namespace Go.Proofs.Ytphkchjejbffeaa

theorem part_nil (st : St) (hp : st.part = []) : ({ st with part := [] } : St) = st := by
  cases st
  simp only at hp
  subst hp
  rfl

theorem feed_part (m : List UInt8) (st : St) (ho : st.opn = true) (hp : st.part = []) (hm : m.length = sizeOf (byteAt m 0)) : ∀ j, j < m.length → st.feed (m.take j) = { st with part := m.take j } := by
  intro j
  induction j with
  | zero => intro _; exact (part_nil st hp).symm
  | succ j ih =>
    intro hj
    have h := ih (by omega)
    rw [List.take_succ_eq_append_getElem (by omega : j < m.length), feed_append, h]
    show St.step _ _ = _
    have hlen : (m.take j ++ [m[j]]).length ≠ sizeOf (byteAt (m.take j ++ [m[j]]) 0) := by
      have e : byteAt (m.take j ++ [m[j]]) 0 = byteAt m 0 := by
        rw [← List.take_succ_eq_append_getElem (by omega : j < m.length)]
        unfold byteAt
        simp
      rw [e, ← hm]
      simp
      omega
    unfold St.step
    dsimp only
    rw [if_pos ho, if_neg hlen]

theorem feed_whole (m : List UInt8) (st : St) (ho : st.opn = true) (hp : st.part = []) (hm : m.length = sizeOf (byteAt m 0)) (h0 : 0 < m.length) : st.feed m = st.act m := by
  have h := feed_part m st ho hp hm (m.length - 1) (by omega)
  have e : m = m.take (m.length - 1) ++ [m[m.length - 1]] := by
    rw [← List.take_succ_eq_append_getElem (by omega : m.length - 1 < m.length), List.take_of_length_le (by omega)]
  have h2 : st.feed m = (st.feed (m.take (m.length - 1))).step m[m.length - 1] := by
    conv => lhs; rw [e]
    rw [feed_append]; rfl
  rw [h2, h]
  unfold St.step
  dsimp only
  rw [if_pos ho, ← e, if_pos hm]
  exact congrArg (fun x : St => x.act m) (part_nil st hp)

theorem head_len (st : St) (c : UInt8) : (st.head c).length = 7 := by simp [St.head, enc_length]

/-- How much more went out, and how many tokens more are used. -/
structure Grew (a b : St) (x y u : Nat) : Prop where
  ans : b.ans.length ≤ a.ans.length + x
  tape : b.tape.length ≤ a.tape.length + y
  used : b.used.length = a.used.length + u
theorem Grew.trans {a b c : St} {x y u x' y' u' : Nat} (h : Grew a b x y u) (k : Grew b c x' y' u') : Grew a c (x + x') (y + y') (u + u') :=
  ⟨by have := h.ans; have := k.ans; omega, by have := h.tape; have := k.tape; omega, by rw [k.used, h.used]; omega⟩
theorem Grew.mono {a b : St} {x y u x' y' : Nat} (h : Grew a b x y u) (hx : x ≤ x') (hy : y ≤ y') : Grew a b x' y' u := ⟨by have := h.ans; omega, by have := h.tape; omega, h.used⟩
theorem Grew.refl (a : St) : Grew a a 0 0 0 := ⟨Nat.le_refl _, Nat.le_refl _, rfl⟩

theorem grew_execute (st : St) (o f : Ord) (n : Nat) : Grew st (st.execute o f n) 38 17 0 := by
  refine ⟨?_, ?_, rfl⟩
  · simp [St.execute, St.upd, St.put, St.say, St.fill, head_len, enc_length]
  · simp [St.execute, St.upd, St.put, St.say, St.fill, head_len, enc_length]
theorem grew_meet (k : Nat) : ∀ (st : St) (o : Ord), Grew st (st.meet k o).1 (38 * k) (17 * k) 0 := by
  induction k with
  | zero => intro st o; exact Grew.refl _
  | succ k ih =>
    intro st o
    simp only [St.meet]
    split
    · exact (Grew.refl _).mono (by omega) (by omega)
    · split
      · exact (Grew.refl _).mono (by omega) (by omega)
      · exact ((grew_execute _ _ _ _).trans (ih _ _)).mono (by omega) (by omega)
theorem grew_rest (st : St) (o : Ord) : Grew st (st.rest o) 0 17 0 := by
  refine ⟨?_, ?_, rfl⟩
  · simp [St.rest, St.upd, St.put]
  · simp [St.rest, St.upd, St.put, head_len, enc_length]

theorem grew_cancelled (st : St) (t n : Nat) (r : UInt8) : Grew st (st.cancelled t n r) 14 0 0 := by
  refine ⟨?_, ?_, rfl⟩
  · simp [St.cancelled, St.say, head_len, enc_length]
  · simp [St.cancelled, St.say]

theorem grew_enter (st : St) (t : Nat) (side : UInt8) (stock price shares : Nat) (kind : UInt8) :
    (Grew st (st.enter t side stock price shares kind) 14 14 0 ∧ (st.enter t side stock price shares kind).used = st.used) ∨ (Grew st (st.enter t side stock price shares kind) 4000 4000 1 ∧ t ∉ st.used ∧ (st.enter t side stock price shares kind).used = t :: st.used) := by
  unfold St.enter
  split
  · left
    refine ⟨⟨?_, ?_, rfl⟩, rfl⟩
    · simp [St.reject, St.say, head_len, enc_length]
    · simp [St.reject, St.say]
  · rename_i hw
    right
    have hu : t ∉ st.used := by
      intro hc
      unfold St.why at hw
      rw [if_pos hc] at hw
      cases hw
    dsimp only
    have h1 : Grew st (st.accept { ref := (st.refs + 1) % 4294967296, token := t, side := side, stock := stock, price := price, shares := shares } kind) 22 0 1 := by
      refine ⟨?_, ?_, ?_⟩
      · simp [St.accept, St.say, head_len, enc_length]
      · simp [St.accept, St.say]
      · simp [St.accept, St.say]
    have h2 := h1.trans (grew_meet 65 _ { ref := (st.refs + 1) % 4294967296, token := t, side := side, stock := stock, price := price, shares := shares })
    have h3 : ((st.accept { ref := (st.refs + 1) % 4294967296, token := t, side := side, stock := stock, price := price, shares := shares } kind).meet 65 { ref := (st.refs + 1) % 4294967296, token := t, side := side, stock := stock, price := price, shares := shares }).1.used = t :: st.used := used_meet 65 _ _
    refine ⟨?_, hu, ?_⟩
    · split
      · exact h2.mono (by omega) (by omega)
      · split
        · exact (h2.trans (grew_rest _ _)).mono (by omega) (by omega)
        · exact (h2.trans (grew_cancelled _ _ _ _)).mono (by omega) (by omega)
    · split
      · exact h3
      · split
        · exact h3
        · exact h3
where
  used_meet (k : Nat) : ∀ (st : St) (o : Ord), (st.meet k o).1.used = st.used := by
    induction k with
    | zero => intro st o; rfl
    | succ k ih =>
      intro st o
      simp only [St.meet]
      split
      · rfl
      · split
        · rfl
        · rw [ih]; rfl

theorem grew_cancel (st : St) (t n : Nat) : Grew st (st.cancel t n) 14 14 0 := by
  unfold St.cancel
  split
  · exact (Grew.refl _).mono (by omega) (by omega)
  · split
    · exact (Grew.refl _).mono (by omega) (by omega)
    · dsimp only
      split
      · refine ⟨?_, ?_, rfl⟩
        · simp [St.upd, St.put, St.cancelled, St.say, head_len, enc_length]
        · simp [St.upd, St.put, St.cancelled, St.say, head_len, enc_length]
      · refine ⟨?_, ?_, rfl⟩
        · simp [St.upd, St.put, St.cancelled, St.say, head_len, enc_length]
        · simp [St.upd, St.put, St.cancelled, St.say, head_len, enc_length]

theorem used_meet (k : Nat) : ∀ (st : St) (o : Ord), (st.meet k o).1.used = st.used := by
  induction k with
  | zero => intro st o; rfl
  | succ k ih =>
    intro st o
    simp only [St.meet]
    split
    · rfl
    · split
      · rfl
      · rw [ih]; rfl

theorem grew_replace (st : St) (t n price shares : Nat) :
    (Grew st (st.replace t n price shares) 14 14 0 ∧ (st.replace t n price shares).used = st.used) ∨ (Grew st (st.replace t n price shares) 4000 4000 1 ∧ n ∉ st.used ∧ (st.replace t n price shares).used = n :: st.used) := by
  unfold St.replace
  split
  · exact .inl ⟨(Grew.refl _).mono (by omega) (by omega), rfl⟩
  · split
    · left
      refine ⟨⟨?_, ?_, rfl⟩, rfl⟩
      · simp [St.reject, St.say, head_len, enc_length]
      · simp [St.reject, St.say]
    · rename_i o ho _ hw
      right
      have hu : n ∉ st.used := by
        intro hc
        unfold St.whyR at hw
        rw [if_pos hc] at hw
        cases hw
      dsimp only
      have h1 : Grew st (({ st with refs := (st.refs + 1) % 4294967296, used := n :: st.used } : St).say (st.head 85 ++ enc n 4 ++ enc price 2 ++ enc shares 2 ++ enc ((st.refs + 1) % 4294967296) 4 ++ enc t 4)) 23 0 1 := by
        refine ⟨?_, ?_, ?_⟩
        · simp [St.say, head_len, enc_length]
        · simp [St.say]
        · simp [St.say]
      have hused : (({ st with refs := (st.refs + 1) % 4294967296, used := n :: st.used } : St).say (st.head 85 ++ enc n 4 ++ enc price 2 ++ enc shares 2 ++ enc ((st.refs + 1) % 4294967296) 4 ++ enc t 4)).used = n :: st.used := rfl
      generalize (({ st with refs := (st.refs + 1) % 4294967296, used := n :: st.used } : St).say (st.head 85 ++ enc n 4 ++ enc price 2 ++ enc shares 2 ++ enc ((st.refs + 1) % 4294967296) 4 ++ enc t 4)) = b at *
      split
      · have h2 : ∀ f g s d p, Grew b ((b.put (b.head 117 ++ enc o.ref 4 ++ enc ((st.refs + 1) % 4294967296) 4 ++ enc shares 2 ++ enc price 2)).upd s d p f) 0 21 0 ∧ Grew b (((b.put (b.head 117 ++ enc o.ref 4 ++ enc ((st.refs + 1) % 4294967296) 4 ++ enc shares 2 ++ enc price 2)).upd s d p f).upd s d price g) 0 21 0 := by
          intro f g s d p
          constructor
          · refine ⟨?_, ?_, rfl⟩
            · simp [St.upd, St.put]
            · simp [St.upd, St.put, head_len, enc_length]
          · refine ⟨?_, ?_, rfl⟩
            · simp [St.upd, St.put]
            · simp [St.upd, St.put, head_len, enc_length]
        split
        · exact ⟨(h1.trans (h2 _ (fun l => l) _ _ _).1).mono (by omega) (by omega), hu, hused⟩
        · exact ⟨(h1.trans (h2 _ _ _ _ _).2).mono (by omega) (by omega), hu, hused⟩
      · have h2 : ∀ f s d p, Grew b ((b.put (b.head 100 ++ enc o.ref 4)).upd s d p f) 0 11 0 := by
          intro f s d p
          refine ⟨?_, ?_, rfl⟩
          · simp [St.upd, St.put]
          · simp [St.upd, St.put, head_len, enc_length]
        have h3 := (h1.trans (h2 (delO t) o.stock o.side o.price)).trans (grew_meet 65 _ { ref := (st.refs + 1) % 4294967296, token := n, side := o.side, stock := o.stock, price := price, shares := shares })
        have h4 := used_meet 65 ((b.put (b.head 100 ++ enc o.ref 4)).upd o.stock o.side o.price (delO t)) { ref := (st.refs + 1) % 4294967296, token := n, side := o.side, stock := o.stock, price := price, shares := shares }
        refine ⟨?_, hu, ?_⟩
        · split
          · exact h3.mono (by omega) (by omega)
          · exact (h3.trans (grew_rest _ _)).mono (by omega) (by omega)
        · split
          · exact h4.trans hused
          · exact h4.trans hused

end Go.Proofs.Ytphkchjejbffeaa

/- The walks of boursekeep's small helpers: pick, num, val. -/
namespace Go.Proofs.Ytphkchjejbffeaa
open Go.RowKit

theorem ret_int {k : IntKind} {a b : Int} (h : a = b) : Ending.returned (.int k a) = .returned (.int k b) := by rw [h]

set_option maxHeartbeats 400000 in
theorem pick_any (c n : Int) (w : World) (hc1 : -9223372036854775808 ≤ c) (hc2 : c ≤ 9223372036854775807) (hn1 : 0 < n) (hn2 : n ≤ 9223372036854775807) :
    Calls Try.prog 11 #[.int .i64 c, .int .i64 n] w fun e w' => e = .returned (.int .i64 (pick c n.toNat : Nat)) ∧ w' = w := by
  have hp : ((pick c n.toNat : Nat) : Int) = (if c < 0 then -(c + 1) else c) % n := by
    unfold pick
    rw [Int.natCast_emod, Int.toNat_of_nonneg (by split <;> omega), Int.toNat_of_nonneg (by omega)]
  by_cases hc : c < 0
  · rw [if_pos hc] at hp
    have H : Hid (((pick c n.toNat : Nat) : Int) = (-(c + 1)) % n) := hp
    clear hp
    go_enter Try.func11, Try.ntmps11
    go_wp2
    go_ret
    exact ⟨ret_int (by rw [H.out, ← Int.neg_tmod, Int.tmod_eq_emod_of_nonneg (by omega)]), rfl⟩
  · rw [if_neg hc] at hp
    have H : Hid (((pick c n.toNat : Nat) : Int) = c % n) := hp
    clear hp
    go_enter Try.func11, Try.ntmps11
    go_wp2
    go_ret
    exact ⟨ret_int (by rw [H.out]), rfl⟩

set_option maxHeartbeats 400000 in
theorem val_any (b o cap : Nat) (l : List UInt8) (w : World) (hl : l.length ≤ 7) (h : Lies w b o l) :
    Calls Try.prog 16 #[.slice (some ⟨b, o, none⟩) l.length cap] w fun e w' => e = .returned (.int .i64 (num l 0 : Nat)) ∧ w' = w := by
  go_enter Try.func16, Try.ntmps16
  go_wp2
  go_loop [3, 4] (fun v i => ∃ k : Nat, k ≤ l.length ∧ i = .int .i64 k ∧ v = .int .i64 (num (l.take k) 0 : Nat)) (fun _ i => l.length - (intOf i).toNat)
  case atStart => exact ⟨0, Nat.zero_le _, rfl, rfl⟩
  case round =>
    obtain ⟨k, hk, rfl, rfl⟩ := hrel
    by_cases hlt : k < l.length
    · have hb : num (l.take k) 0 < 281474976710656 := by
        have hlt := num_lt (l.take k) 0
        rw [List.length_take, Nat.min_eq_left hk] at hlt
        have : 256 ^ k ≤ 256 ^ 6 := Nat.pow_le_pow_right (by omega) (by omega)
        omega
      have hcell := h.cell k hlt
      have hc := B_lt (l.getD k 0)
      have HS : Hid (num (l.take (k + 1)) 0 = 256 * num (l.take k) 0 + (l.getD k 0).toNat) := by
        show _ = _
        rw [getD_append_snoc l k hlt, num_append]; rfl
      generalize l.getD k 0 = c at *
      generalize num (l.take k) 0 = m at *
      have hn : (m : Int) < 281474976710656 := by omega
      go_wp2
      go_round
      case rel => exact ⟨k + 1, by omega, by go_num, by rw [HS.out]; simp⟩
      case measure => simp [intOf]; omega
    · go_wp2
      go_ret
      exact ⟨ret_int (by rw [List.take_of_length_le (by omega)]), rfl⟩

theorem Try.info5 : (Try.prog.info? 5).map (fun i => (i.zero, i.size, i.bytes)) = some (some (.int .u8 0), 1, 1) := by kernel_rfl

theorem made_bytes (n : Nat) : madeCells (Value.int .u8 0).cells (n * 1) = half 0 n 0 := by
  rw [half_zero]
  apply Array.ext_getElem?
  intro i
  simp [madeCells, Value.cells, Array.getElem?_range, B]
  split <;> simp_all [Nat.mod_one]

set_option maxHeartbeats 400000 in
theorem num_nat (v n : Nat) (w : World) (hv : v ≤ 9223372036854775807) (hn : n ≤ 8) :
    Calls Try.prog 14 #[.int .i64 v, .int .i64 n] w fun e w' => e = .returned (.slice (some ⟨w.heap.size, 0, none⟩) n n) ∧ w' = w.alloc (.cells ((enc v n).map B).toArray 5) := by
  have hm : (Instr.makeSlice 28 (.int .i64 n) (.int .i64 n)).run Try.prog w = .ok (.slice (some ⟨w.heap.size, 0, none⟩) n n) (w.alloc (.cells (half v n 0) 5)) := by
    obtain ⟨i0, hi, hz0, hz1, hz2⟩ := info_parts Try.info5
    have := run_make (P := Try.prog) w 28 5 i0 (.int .u8 0) Try.underlying28 hi hz0 .i64 .i64 n n (by omega) (by omega) (by rw [hz2]; omega) (by omega)
    rw [this, hz1, Int.toNat_natCast, made_bytes, half_zero, half_zero]
  go_enter Try.func14, Try.ntmps14
  go_wp2
  clear hm
  go_loopw [0, 6] (fun x i wr => ∃ j : Nat, j ≤ n ∧ i = .int .i64 ((n : Int) - 1 - j) ∧ x = .int .i64 (v / 256 ^ j : Nat) ∧ wr = w.alloc (.cells (half v n j) 5)) (fun _ i _ => (intOf i + 1).toNat)
  case atStart => exact ⟨0, by omega, by simp, by simp, rfl⟩
  case round =>
    obtain ⟨j, hj, rfl, rfl, rfl⟩ := hrel
    by_cases hlt : j < n
    · have hsz := half_size v n j hj
      have h1 : (0 : Int) ≤ (n : Int) - 1 - j := by omega
      have h2 : (n : Int) - 1 - j < n := by omega
      have hq : v / 256 ^ j ≤ 9223372036854775807 := Nat.le_trans (Nat.div_le_self _ _) hv
      have HS : Hid (v / 256 ^ (j + 1) = v / 256 ^ j / 256) := by show _ = _; rw [Nat.pow_succ, Nat.div_div_eq_div_mul]
      have hT := half_set v n j hlt
      rw [B_ofNat] at hT
      have HT : Hid ((half v n j).setIfInBounds (n - 1 - j) (.int .u8 (((v / 256 ^ j : Nat) : Int) % 256)) = half v n (j + 1)) := hT
      clear hT
      have hg := half_get v n j hlt
      generalize v / 256 ^ j = q at *
      go_wp2
      go_roundw
      case rel => exact ⟨j + 1, by omega, by go_num, by rw [HS.out]; simp, by rw [HT.out]⟩
      case measure => simp [intOf]; omega
    · go_wp2
      go_ret
      have : j = n := by omega
      subst this
      exact ⟨rfl, by rw [half_full]⟩

theorem num_any (v n : Int) (w : World) (h0 : 0 ≤ v) (hv : v ≤ 9223372036854775807) (hn0 : 0 ≤ n) (hn : n ≤ 8) :
    Calls Try.prog 14 #[.int .i64 v, .int .i64 n] w fun e w' => e = .returned (.slice (some ⟨w.heap.size, 0, none⟩) n.toNat n.toNat) ∧ w' = w.alloc (.cells ((enc v.toNat n.toNat).map B).toArray 5) := by
  have := num_nat v.toNat n.toNat w (by omega) (by omega)
  rwa [Int.toNat_of_nonneg h0, Int.toNat_of_nonneg hn0] at this

end Go.Proofs.Ytphkchjejbffeaa

/- The walk of boursekeep's row: bytes, one behind the other. -/
namespace Go.Proofs.Ytphkchjejbffeaa
open Go.RowKit

/-- A list of bytes that lies in memory: its block, its offset, its capacity, its bytes. -/
structure Piece where
  b : Nat
  o : Nat
  cap : Nat
  l : List UInt8

def Piece.val (p : Piece) : Value := .slice (some ⟨p.b, p.o, none⟩) p.l.length p.cap
def cat (ps : List Piece) : List UInt8 := (ps.map (·.l)).flatten
theorem cat_snoc (ps : List Piece) (k : Nat) (p : Piece) (h : ps[k]? = some p) : cat (ps.take (k + 1)) = cat (ps.take k) ++ p.l := by
  have hk : k < ps.length := by
    rcases Nat.lt_or_ge k ps.length with h' | h'
    · exact h'
    · rw [List.getElem?_eq_none h'] at h; cases h
  rw [List.take_succ_eq_append_getElem hk]
  rw [List.getElem?_eq_getElem hk] at h
  cases h
  simp only [cat, List.map_append, List.flatten_append, List.map_cons, List.map_nil, List.flatten_cons, List.flatten_nil, List.append_nil]
theorem cat_le (ps : List Piece) (k : Nat) : (cat (ps.take k)).length ≤ (cat ps).length := by
  induction ps generalizing k with
  | nil => simp [cat]
  | cons p ps ih =>
    cases k with
    | zero => simp [cat]
    | succ k =>
      have := ih k
      simp only [cat, List.take_succ_cons, List.map_cons, List.flatten_cons, List.length_append] at *
      omega

set_option maxHeartbeats 400000 in
theorem row_any (bl : Nat) (ps : List Piece) (w : World)
    (hc : ∀ (i : Nat) (p : Piece), ps[i]? = some p → w.cell? ⟨bl, i, none⟩ = some p.val) (hbl : bl < w.heap.size)
    (hp : ∀ (i : Nat) (p : Piece), ps[i]? = some p → Lies w p.b p.o p.l ∧ p.b < w.heap.size)
    (hn : ps.length ≤ 1000) (ht : (cat ps).length ≤ 1000000) :
    Calls Try.prog 13 #[.slice (some ⟨bl, 0, none⟩) ps.length ps.length] w fun e w' => ∃ v, e = .returned v ∧ Own w' w.heap.size v (cat ps) ∧ Below w.heap.size w w' := by
  obtain ⟨i0, hi, hz0, hz1, hz2⟩ := info_parts Try.info5
  go_enter Try.func13, Try.ntmps13
  go_wp2
  go_loopw [3, 4] (fun v i wr => ∃ k : Nat, k ≤ ps.length ∧ i = .int .i64 k ∧ wr.ownsRow w.heap.size 5 1 v (cat (ps.take k)).length ((cat (ps.take k)).map B) ∧ Below w.heap.size w wr) (fun _ i _ => ps.length - (intOf i).toNat)
  case atStart => exact ⟨0, by omega, rfl, World.ownsRow_nil _ _ _ _, Below.refl _ _⟩
  case round =>
    obtain ⟨k, hk, rfl, hown, hbe⟩ := hrel
    by_cases hlt : k < ps.length
    · obtain ⟨p, hpk⟩ : ∃ p, ps[k]? = some p := ⟨_, List.getElem?_eq_getElem hlt⟩
      have hcell : wr.cell? ⟨bl, k, none⟩ = some (.slice (some ⟨p.b, p.o, none⟩) p.l.length p.cap) := (hbe.cell (p := ⟨bl, k, none⟩) hbl).trans (hc k p hpk)
      have HS : Hid (cat (ps.take (k + 1)) = cat (ps.take k) ++ p.l) := cat_snoc ps k p hpk
      have hle := cat_le ps (k + 1)
      rw [HS.out, List.length_append] at hle
      obtain ⟨hli, hpb⟩ := hp k p hpk
      have hnews : ∀ j u, (p.l.map B)[j]? = some u → wr.cell? ((⟨p.b, p.o, none⟩ : Addr).add j) = some u := by
        intro j u hu
        rw [List.getElem?_map, Option.map_eq_some_iff] at hu
        obtain ⟨c, hc', rfl⟩ := hu
        rw [Addr.add_lit, hbe.cell (p := ⟨p.b, p.o + j, none⟩) hpb]
        exact hli j c hc'
      clear hc hp
      have hsz := hbe.size
      go_wp2_with (first
        | (at_builtin; refine wpList_append_own _ rfl _ _ 28 rfl w.heap.size 5 i0 (.int .u8 0) 1 1 Try.underlying28 hi hz0 hz1 hz2 rfl (by decide) _ _ _ rfl hown ⟨p.b, p.o, none⟩ p.l.length p.cap (p.l.map B) rfl (by simp) hnews (fun x hx => by simp at hx; obtain ⟨c, _, rfl⟩ := hx; rfl) (by unfold maxLen; omega) (by omega) hsz ?_; intro v' w3 hown' hgrow3 hnil3))
      go_roundw
      case rel => exact ⟨k + 1, by omega, by go_num, by rw [HS.out, List.length_append, List.map_append]; exact hown', hbe.grown hgrow3 hsz (fun g hg => (hown.lt g hg).1)⟩
      case measure => simp [intOf]; omega
    · go_wp2
      go_ret
      exact ⟨_, rfl, by rw [List.take_of_length_le (by omega)] at hown; exact hown, hbe⟩

/-- The same, of blocks that are known whole. -/
theorem row_lit (bl : Nat) (ps : List Piece) (T : TypeId) (w : World) (n : Nat) (hn' : ps.length = n)
    (hbl : w.heap[bl]? = some (.cells (ps.map Piece.val).toArray T))
    (hp : ∀ p ∈ ps, p.o = 0 ∧ w.heap[p.b]? = some (.cells (p.l.map B).toArray 5))
    (hn : n ≤ 1000) (ht : (cat ps).length ≤ 1000000) :
    Calls Try.prog 13 #[.slice (some ⟨bl, 0, none⟩) n n] w fun e w' => ∃ v, e = .returned v ∧ Own w' w.heap.size v (cat ps) ∧ Below w.heap.size w w' := by
  subst hn'
  refine row_any bl ps w ?_ ?_ ?_ hn ht
  · intro i p h
    rw [cell_of_row w bl i _ T (0, 0) hbl]
    simp [h]
  · exact (Array.getElem?_eq_some_iff.1 hbl).1
  · intro i p h
    obtain ⟨h1, h2⟩ := hp p (List.mem_of_getElem? h)
    refine ⟨?_, (Array.getElem?_eq_some_iff.1 h2).1⟩
    intro j c hc
    rw [h1, Nat.zero_add, cell_of_row w p.b j _ 5 (0, 0) h2]
    simp [hc]

end Go.Proofs.Ytphkchjejbffeaa

/- The walk of boursekeep's Act.message: the bytes of an act. -/
namespace Go.Proofs.Ytphkchjejbffeaa
open Go.RowKit

structure Act where
  kind : Int
  token : Int
  other : Int
  side : Int
  stock : Int
  price : Int
  shares : Int

def I64 (x : Int) : Prop := -9223372036854775808 ≤ x ∧ x ≤ 9223372036854775807
structure Act.ok (a : Act) : Prop where
  kind : I64 a.kind
  token : I64 a.token
  other : I64 a.other
  side : I64 a.side
  stock : I64 a.stock
  price : I64 a.price
  shares : I64 a.shares
def Act.cells (a : Act) : Array Value := #[.int .i64 a.kind, .int .i64 a.token, .int .i64 a.other, .int .i64 a.side, .int .i64 a.stock, .int .i64 a.price, .int .i64 a.shares]

def sideOf (n : Nat) : UInt8 := if n = 0 then 66 else 83
def kindOf (n : Nat) : UInt8 := if n = 3 then 73 else 68

def Act.message (a : Act) : List UInt8 :=
  if pick a.kind 11 < 6 then
    [69] ++ enc (pick a.token 40) 4 ++ [sideOf (pick a.side 2), UInt8.ofNat (pick a.stock 4)] ++ enc (pick a.price 12) 2 ++ enc (pick a.shares 60) 2 ++ [kindOf (pick a.other 4)]
  else if pick a.kind 11 < 8 then [67] ++ enc (pick a.token 40) 4 ++ enc (pick a.shares 60) 2
  else [82] ++ enc (pick a.token 40) 4 ++ enc (pick a.other 40) 4 ++ enc (pick a.price 12) 2 ++ enc (pick a.shares 60) 2

theorem side_get (n : Nat) (h : n < (ByteArray.mk #[66, 83]).size) : (ByteArray.mk #[66, 83])[n] = sideOf n := by
  match n, h with
  | 0, _ => rfl
  | 1, _ => rfl
theorem kind_get (n : Nat) (h : n < (ByteArray.mk #[68, 68, 68, 73]).size) : (ByteArray.mk #[68, 68, 68, 73])[n] = kindOf n := by
  match n, h with
  | 0, _ => rfl
  | 1, _ => rfl
  | 2, _ => rfl
  | 3, _ => rfl

set_option maxHeartbeats 1000000 in
theorem message_any (a : Act) (w : World) (ha : a.ok) :
    Calls Try.prog 21 #[.agg a.cells] w fun e w' => ∃ v, e = .returned v ∧ Own w' w.heap.size v a.message ∧ Below w.heap.size w w' := by
  generalize hM : a.message = M
  obtain ⟨kind, token, other, side, stock, price, shares⟩ := a
  obtain ⟨⟨k1, k2⟩, ⟨t1, t2⟩, ⟨o1, o2⟩, ⟨s1, s2⟩, ⟨c1, c2⟩, ⟨p1, p2⟩, ⟨q1, q2⟩⟩ := ha
  simp only [Act.cells, Act.message] at *
  have b1 := pick_lt token 40 (by omega)
  have b2 := pick_lt price 12 (by omega)
  have b3 := pick_lt shares 60 (by omega)
  have b4 := pick_lt kind 11 (by omega)
  by_cases hk : pick kind 11 < 6
  · have b5 := pick_lt side 2 (by omega)
    have b6 := pick_lt other 4 (by omega)
    have b7 := pick_lt stock 4 (by omega)
    rw [if_pos hk] at hM
    have HM := Hid.mk hM
    clear hM
    go_enter Try.func21, Try.ntmps21
    go_wp2_with (first
      | (go_at_call 11; refine (pick_any _ _ _ (by assumption) (by assumption) (by decide) (by decide)).mono ?_; rintro e w' ⟨rfl, rfl⟩)
      | (go_at_call 14; refine (num_any _ _ _ (by omega) (by omega) (by decide) (by decide)).mono ?_; rintro e w' ⟨rfl, rfl⟩))
    refine (row_lit _ [⟨w.heap.size + 4, 0, 1, [69]⟩, ⟨w.heap.size + 1, 0, 4, enc (pick token 40) 4⟩, ⟨w.heap.size + 5, 0, 2, [sideOf (pick side 2), UInt8.ofNat (pick stock 4)]⟩, ⟨w.heap.size + 2, 0, 2, enc (pick price 12) 2⟩, ⟨w.heap.size + 3, 0, 2, enc (pick shares 60) 2⟩, ⟨w.heap.size + 6, 0, 1, [kindOf (pick other 4)]⟩] 28 _ 6 rfl ?_ ?_ (by decide) ?_).mono ?_
    · rw [heap_alloc, if_pos (by simp only [size_alloc])]
      simp [Piece.val, enc_length]
    · simp [heap_alloc, B, side_get, kind_get]
      omega
    · simp [cat, enc_length]
    · rintro e w' ⟨v, rfl, ho, hb⟩
      go_wp2
      go_ret
      refine ⟨v, rfl, (ho.base (by simp only [size_alloc]; omega)).cast ?_, ?_⟩
      · rw [← HM.out]; simp [cat]
      · refine Below.trans ?_ (hb.mono (by simp only [size_alloc]; omega))
        repeat refine Below.alloc ?_ (by first | exact Nat.le_refl _ | (simp only [size_alloc]; omega)) _
        exact Below.refl _ _
  · rw [if_neg hk] at hM
    by_cases hk2 : pick kind 11 < 8
    · rw [if_pos hk2] at hM
      have HM := Hid.mk hM
      clear hM
      go_enter Try.func21, Try.ntmps21
      go_wp2_with (first
        | (go_at_call 11; refine (pick_any _ _ _ (by assumption) (by assumption) (by decide) (by decide)).mono ?_; rintro e w' ⟨rfl, rfl⟩)
        | (go_at_call 14; refine (num_any _ _ _ (by omega) (by omega) (by decide) (by decide)).mono ?_; rintro e w' ⟨rfl, rfl⟩))
      refine (row_lit _ [⟨w.heap.size + 4, 0, 1, [67]⟩, ⟨w.heap.size + 1, 0, 4, enc (pick token 40) 4⟩, ⟨w.heap.size + 3, 0, 2, enc (pick shares 60) 2⟩] 28 _ 3 rfl ?_ ?_ (by decide) ?_).mono ?_
      · rw [heap_alloc, if_pos (by simp only [size_alloc])]
        simp [Piece.val, enc_length]
      · simp [heap_alloc, B]
      · simp [cat, enc_length]
      · rintro e w' ⟨v, rfl, ho, hb⟩
        go_wp2
        go_ret
        refine ⟨v, rfl, (ho.base (by simp only [size_alloc]; omega)).cast ?_, ?_⟩
        · rw [← HM.out]; simp [cat]
        · refine Below.trans ?_ (hb.mono (by simp only [size_alloc]; omega))
          repeat refine Below.alloc ?_ (by first | exact Nat.le_refl _ | (simp only [size_alloc]; omega)) _
          exact Below.refl _ _
    · rw [if_neg hk2] at hM
      have HM := Hid.mk hM
      have b5 := pick_lt other 40 (by omega)
      clear hM
      go_enter Try.func21, Try.ntmps21
      go_wp2_with (first
        | (go_at_call 11; refine (pick_any _ _ _ (by assumption) (by assumption) (by decide) (by decide)).mono ?_; rintro e w' ⟨rfl, rfl⟩)
        | (go_at_call 14; refine (num_any _ _ _ (by omega) (by omega) (by decide) (by decide)).mono ?_; rintro e w' ⟨rfl, rfl⟩))
      refine (row_lit _ [⟨w.heap.size + 4, 0, 1, [82]⟩, ⟨w.heap.size + 1, 0, 4, enc (pick token 40) 4⟩, ⟨w.heap.size + 5, 0, 4, enc (pick other 40) 4⟩, ⟨w.heap.size + 2, 0, 2, enc (pick price 12) 2⟩, ⟨w.heap.size + 3, 0, 2, enc (pick shares 60) 2⟩] 28 _ 5 rfl ?_ ?_ (by decide) ?_).mono ?_
      · rw [heap_alloc, if_pos (by simp only [size_alloc])]
        simp [Piece.val, enc_length]
      · simp [heap_alloc, B]
      · simp [cat, enc_length]
      · rintro e w' ⟨v, rfl, ho, hb⟩
        go_wp2
        go_ret
        refine ⟨v, rfl, (ho.base (by simp only [size_alloc]; omega)).cast ?_, ?_⟩
        · rw [← HM.out]; simp [cat]
        · refine Below.trans ?_ (hb.mono (by simp only [size_alloc]; omega))
          repeat refine Below.alloc ?_ (by first | exact Nat.le_refl _ | (simp only [size_alloc]; omega)) _
          exact Below.refl _ _

end Go.Proofs.Ytphkchjejbffeaa

/- What the calls of package bourse do, said of memory; and what holds of memory beside them. Laws lean on this alone. -/
namespace Go.Proofs.Ytphkchjejbffeaa
open Go.RowKit

/-- Of what was there, only blocks of F may have turned. -/
structure Fr (F : Nat → Prop) (w w' : World) : Prop where
  os : w'.os = w.os
  tape : w'.tape = w.tape
  output : w'.output = w.output
  size : w.heap.size ≤ w'.heap.size
  block : ∀ k, k < w.heap.size → ¬ F k → w'.heap[k]? = w.heap[k]?

theorem Fr.refl (F : Nat → Prop) (w : World) : Fr F w w := ⟨rfl, rfl, rfl, Nat.le_refl _, fun _ _ _ => rfl⟩
theorem Fr.trans {F G : Nat → Prop} {a b c : World} (h : Fr F a b) (k : Fr G b c) (hg : ∀ i, i < a.heap.size → G i → F i) : Fr F a c :=
  ⟨k.os.trans h.os, k.tape.trans h.tape, k.output.trans h.output, Nat.le_trans h.size k.size,
   fun i hi hf => (k.block i (Nat.lt_of_lt_of_le hi h.size) (fun g => hf (hg i hi g))).trans (h.block i hi hf)⟩
theorem Fr.mono {F G : Nat → Prop} {a b : World} (h : Fr F a b) (hg : ∀ i, i < a.heap.size → F i → G i) : Fr G a b :=
  ⟨h.os, h.tape, h.output, h.size, fun i hi hf => h.block i hi (fun g => hf (hg i hi g))⟩
theorem Fr.of_below {w w' : World} (h : Below w.heap.size w w') (F : Nat → Prop) : Fr F w w' :=
  ⟨h.os, h.tape, h.output, h.size, fun i hi _ => h.block i hi⟩
theorem Fr.below {F : Nat → Prop} {w w' : World} {n : Nat} (h : Fr F w w') (hn : n ≤ w.heap.size) (hF : ∀ k, F k → n ≤ k) : Below n w w' :=
  ⟨h.os, h.tape, h.output, h.size, fun i hi => h.block i (Nat.lt_of_lt_of_le hi hn) (fun f => by have := hF i f; omega)⟩
theorem Fr.of_grown {w w' : World} {r : Option Nat} (h : w.grownBy w' r) : Fr (fun k => some k = r) w w' := ⟨h.os, h.tape, h.output, h.size, h.block⟩
theorem Fr.alloc (F : Nat → Prop) (w : World) (o : Obj) : Fr F w (w.alloc o) :=
  ⟨rfl, rfl, rfl, by rw [size_alloc]; omega, fun i hi _ => by rw [heap_alloc, if_neg (by omega)]⟩
theorem Fr.drew (F : Nat → Prop) (w : World) : Fr F w w.drew := ⟨rfl, rfl, rfl, Nat.le_refl _, fun _ _ _ => rfl⟩
theorem Fr.setCell (w : World) (a : Addr) (v : Value) : Fr (fun k => k = a.block) w (w.setCell a v) :=
  ⟨rfl, rfl, rfl, by simp [World.setCell], fun i _ h => Below.heap_setCell _ _ _ _ h⟩

theorem Fr.cell {F : Nat → Prop} {w w' : World} {k o : Nat} {v : Value} (h : Fr F w w') (hc : w.cell? ⟨k, o, none⟩ = some v) (hF : ¬ F k) : w'.cell? ⟨k, o, none⟩ = some v :=
  (World.cell?_of_block (a := ⟨k, o, none⟩) (h.block k (World.block_lt_of_cell? w _ hc) hF)).trans hc
theorem Own.keep {w w' : World} {b : Nat} {v : Value} {l : List UInt8} (h : Own w b v l) (hk : ∀ g, v.ownBlock = some g → w'.heap[g]? = w.heap[g]?) : Own w' b v l := by
  refine ⟨h.1, ?_⟩
  rcases h.2 with h | ⟨g, cap, cur, h1, h2, h3, h4⟩
  · exact .inl h
  · exact .inr ⟨g, cap, cur, h1, h2, (hk g (by rw [h1]; rfl)).trans h3, h4⟩

theorem Own.lt {w : World} {b : Nat} {v : Value} {l : List UInt8} (h : Own w b v l) (g : Nat) (hg : v.ownBlock = some g) : b ≤ g ∧ g < w.heap.size := World.ownsRow.lt h g hg

/-- A list of bytes that may be read. -/
def Rd (w : World) (F : Nat → Prop) (v : Value) (l : List UInt8) : Prop :=
  (v = .slice none 0 0 ∧ l = []) ∨ ∃ g o cap, v = .slice (some ⟨g, o, none⟩) l.length cap ∧ Lies w g o l ∧ l.length ≤ cap ∧ cap ≤ maxLen ∧ ¬ F g ∧ g < w.heap.size

theorem Own.rd {w : World} {b : Nat} {v : Value} {l : List UInt8} {F : Nat → Prop} (h : Own w b v l) (hf : ∀ g, v.ownBlock = some g → ¬ F g) : Rd w F v l := by
  rcases h.2 with ⟨h1, h2⟩ | ⟨g, cap, cur, h1, h2, h3, h4, h5, h6, h7⟩
  · exact .inl ⟨h1, List.length_eq_zero_iff.1 h2⟩
  · refine .inr ⟨g, 0, cap, h1, ?_, h4, h5, hf g (by rw [h1]; rfl), (Array.getElem?_eq_some_iff.1 h3).1⟩
    intro j c hc
    rw [Nat.zero_add, cell_of_row w g j cur 5 (0, 0) h3]
    have : (cur.toList.take (l.length * 1))[j]? = some (B c) := by rw [h7]; simp [hc]
    rw [List.getElem?_take] at this
    split at this
    · simpa using this
    · cases this

theorem Own.len {w : World} {b : Nat} {v : Value} {l : List UInt8} (h : Own w b v l) : ∃ a cap, v = .slice a l.length cap ∧ l.length ≤ cap ∧ cap ≤ maxLen := by
  rcases h.2 with ⟨h1, h2⟩ | ⟨g, cap, cur, h1, h2, h3, h4, h5, h6, h7⟩
  · exact ⟨none, 0, by rw [h1, h2], by omega, by unfold maxLen; omega⟩
  · exact ⟨_, cap, h1, h4, h5⟩

def big : Nat := 70368744177664

/-- The cells of an order, as it is told. -/
def Ord.cells (o : Ord) : List Value := [.int .i64 o.ref, .int .i64 o.token, .int .u8 o.side.toNat, .int .i64 o.stock, .int .i64 o.price, .int .i64 o.shares]

def viewOf (st : St) : Value := .agg #[.int .i64 st.time, .int .i64 st.resting, .bool st.opn, .int .i64 st.part.length]

/-- The calls of the program do what the document says: 'At w b G st': in the world w the bourse at block b, with the blocks G, is as st says. -/
structure Api (At : World → Nat → (Nat → Prop) → St → Prop) : Prop where
  lt : ∀ {w b G st}, At w b G st → ∀ k, G k → k < w.heap.size
  keep : ∀ {w w' b G st}, At w b G st → (∀ k, G k → w'.heap[k]? = w.heap[k]?) → At w' b G st
  new : ∀ (s l p : Int) (w : World), 1 ≤ s → s ≤ 8 → 1 ≤ l → l ≤ 64 → 1 ≤ p → p ≤ 64 →
    Calls Try.prog 27 #[.int .i64 s, .int .i64 l, .int .i64 p] w fun e w' => ∃ b G,
      e = .returned (.tuple #[.pointer (some ⟨b, 0, none⟩), .int .i64 0]) ∧ At w' b G (opened s.toNat l.toNat p.toNat) ∧ (∀ k, G k → w.heap.size ≤ k) ∧ Below w.heap.size w w'
  feed : ∀ (b : Nat) (G : Nat → Prop) (st : St) (v : Value) (l : List UInt8) (w : World), At w b G st → Rd w G v l → (st.feed l).ans.length ≤ big → (st.feed l).tape.length ≤ big →
    Calls Try.prog 12 #[.pointer (some ⟨b, 0, none⟩), v] w fun e w' => ∃ G',
      e = .returned (.tuple #[]) ∧ At w' b G' (st.feed l) ∧ (∀ k, G' k → G k ∨ w.heap.size ≤ k) ∧ Fr G w w'
  tick : ∀ (b : Nat) (G : Nat → Prop) (st : St) (n : Int) (w : World), At w b G st → 0 ≤ n → n ≤ 1000000 →
    Calls Try.prog 34 #[.pointer (some ⟨b, 0, none⟩), .int .i64 n] w fun e w' =>
      e = .returned (.int .i64 0) ∧ At w' b G (st.tick n.toNat) ∧ Fr G w w'
  answers : ∀ (b : Nat) (G : Nat → Prop) (st : St) (w : World), At w b G st →
    Calls Try.prog 15 #[.pointer (some ⟨b, 0, none⟩)] w fun e w' => ∃ v G',
      e = .returned v ∧ Own w' 0 v st.ans ∧ At w' b G' st.told ∧ (∀ k, G' k → G k ∨ w.heap.size ≤ k) ∧ (∀ g, v.ownBlock = some g → (G g ∨ w.heap.size ≤ g) ∧ ¬ G' g) ∧ Fr G w w'
  tape : ∀ (b : Nat) (G : Nat → Prop) (st : St) (w : World), At w b G st →
    Calls Try.prog 20 #[.pointer (some ⟨b, 0, none⟩)] w fun e w' => ∃ v G',
      e = .returned v ∧ Own w' 0 v st.tape ∧ At w' b G' st.taped ∧ (∀ k, G' k → G k ∨ w.heap.size ≤ k) ∧ (∀ g, v.ownBlock = some g → (G g ∨ w.heap.size ≤ g) ∧ ¬ G' g) ∧ Fr G w w'
  look : ∀ (b : Nat) (G : Nat → Prop) (st : St) (w : World), At w b G st →
    Calls Try.prog 17 #[.pointer (some ⟨b, 0, none⟩)] w fun e w' => e = .returned (viewOf st) ∧ Below w.heap.size w w'
  book : ∀ (b : Nat) (G : Nat → Prop) (st : St) (s : Int) (w : World), At w b G st → 0 ≤ s → s < st.stocks →
    Calls Try.prog 33 #[.pointer (some ⟨b, 0, none⟩), .int .i64 s] w fun e w' => ∃ v,
      e = .returned (.tuple #[v, .int .i64 0]) ∧ w'.ownsRow w.heap.size 46 6 v (st.book s.toNat).length ((st.book s.toNat).flatMap Ord.cells) ∧ Below w.heap.size w w'

end Go.Proofs.Ytphkchjejbffeaa

/- The bourse that boursekeep opens, as the document has it. -/
namespace Go.Proofs.Ytphkchjejbffeaa

def sellMsg : List UInt8 := [69] ++ enc 1000 4 ++ [83, 0] ++ enc 5 2 ++ enc 100 2 ++ [68]
def buyMsg : List UInt8 := [69] ++ enc 1001 4 ++ [66, 0] ++ enc 6 2 ++ enc 100 2 ++ [73]
def st1 (p : Nat) : St := (opened 3 10 p).feed sellMsg
def st2 (p : Nat) : St := (st1 p).feed buyMsg
/-- Behind all that. -/
def openSt (p : Nat) : St := (st2 p).told.taped

def openOk (p : Nat) : Bool := (st1 p).resting == 1 && (st2 p).resting == 0 && (st2 p).opn && (st2 p).ans.length == 89 && (st2 p).tape.length == 34 && (st1 p).ans.length ≤ 89 && (st1 p).tape.length ≤ 34
theorem open_all : (List.range 64).all (fun p => openOk (1 + p)) = true := by decide +kernel
theorem open_ok (p : Nat) (h1 : 1 ≤ p) (h2 : p ≤ 64) : (st1 p).resting = 1 ∧ (st2 p).resting = 0 ∧ (st2 p).opn = true ∧ (st2 p).ans.length = 89 ∧ (st2 p).tape.length = 34 ∧ (st1 p).ans.length ≤ 89 ∧ (st1 p).tape.length ≤ 34 := by
  have h := List.all_eq_true.1 open_all (p - 1) (by simp; omega)
  rw [show 1 + (p - 1) = p by omega] at h
  simpa [openOk, and_assoc] using h

end Go.Proofs.Ytphkchjejbffeaa

/- The walk of boursekeep's open. -/
namespace Go.Proofs.Ytphkchjejbffeaa
open Go.RowKit

theorem Api.below {At : World → Nat → (Nat → Prop) → St → Prop} (api : Api At) {w w' : World} {b : Nat} {G : Nat → Prop} {st : St} (h : At w b G st) (hb : Below w.heap.size w w') : At w' b G st :=
  api.keep h (fun k hk => hb.block k (api.lt h k hk))
theorem Own.below {w w' : World} {b : Nat} {v : Value} {l : List UInt8} (h : Own w b v l) (hb : Below w.heap.size w w') : Own w' b v l :=
  h.keep (fun g hg => hb.block g (h.lt g hg).2)
theorem Own.fr {w w' : World} {b : Nat} {v : Value} {l : List UInt8} {F : Nat → Prop} (h : Own w b v l) (hb : Fr F w w') (hF : ∀ g, v.ownBlock = some g → ¬ F g) : Own w' b v l :=
  h.keep (fun g hg => hb.block g (h.lt g hg).2 (hF g hg))

theorem told_tape (st : St) : st.told.tape = st.tape := rfl
/-- A house: its block hb, the bourse's block b with the blocks G, all that went out. -/
structure House (At : World → Nat → (Nat → Prop) → St → Prop) (w : World) (hb b : Nat) (G : Nat → Prop) (vo vt : Value) (st : St) (out tape : List UInt8) : Prop where
  cell : w.heap[hb]? = some (.cells #[.pointer (some ⟨b, 0, none⟩), vo, vt] 30)
  at_ : At w b G st
  out : Own w 0 vo out
  tape : Own w 0 vt tape
  hG : ¬ G hb
  ho : ∀ g, vo.ownBlock = some g → ¬ G g ∧ g ≠ hb
  ht : ∀ g, vt.ownBlock = some g → ¬ G g ∧ g ≠ hb
  hot : ∀ g, vo.ownBlock = some g → vt.ownBlock ≠ some g

/-- The blocks of a house. -/
def HF (hb : Nat) (G : Nat → Prop) (vo vt : Value) (k : Nat) : Prop := k = hb ∨ G k ∨ vo.ownBlock = some k ∨ vt.ownBlock = some k

theorem House.step {At : World → Nat → (Nat → Prop) → St → Prop} {w w' : World} {hb b : Nat} {G G' : Nat → Prop} {vo vt : Value} {st st' : St} {out tape : List UInt8}
    (h : House At w hb b G vo vt st out tape) (hat : At w' b G' st') (hfr : Fr G w w') (hG : ∀ k, G' k → G k ∨ w.heap.size ≤ k) : House At w' hb b G' vo vt st' out tape := by
  have hlt : hb < w.heap.size := (Array.getElem?_eq_some_iff.1 h.cell).1
  refine ⟨(hfr.block hb hlt h.hG).trans h.cell, hat, h.out.fr hfr (fun g hg => (h.ho g hg).1), h.tape.fr hfr (fun g hg => (h.ht g hg).1), ?_, ?_, ?_, h.hot⟩
  · intro hk
    rcases hG _ hk with hk | hk
    · exact h.hG hk
    · omega
  · intro g hg
    refine ⟨fun hk => ?_, (h.ho g hg).2⟩
    rcases hG _ hk with hk | hk
    · exact (h.ho g hg).1 hk
    · have := (h.out.lt g hg).2; omega
  · intro g hg
    refine ⟨fun hk => ?_, (h.ht g hg).2⟩
    rcases hG _ hk with hk | hk
    · exact (h.ht g hg).1 hk
    · have := (h.tape.lt g hg).2; omega

theorem House.lt {At : World → Nat → (Nat → Prop) → St → Prop} (api : Api At) {w : World} {hb b : Nat} {G : Nat → Prop} {vo vt : Value} {st : St} {out tape : List UInt8}
    (h : House At w hb b G vo vt st out tape) (k : Nat) (hk : HF hb G vo vt k) : k < w.heap.size := by
  rcases hk with rfl | hk | hk | hk
  · exact (Array.getElem?_eq_some_iff.1 h.cell).1
  · exact api.lt h.at_ k hk
  · exact (h.out.lt k hk).2
  · exact (h.tape.lt k hk).2

theorem Fr.then {F : Nat → Prop} {a b c : World} (h : Fr F a b) (k : Fr F b c) : Fr F a c := h.trans k (fun _ _ h => h)

set_option maxHeartbeats 600000 in
theorem open_any {At : World → Nat → (Nat → Prop) → St → Prop} (api : Api At) (pool : Int) (w : World) (h1 : -9223372036854775808 ≤ pool) (h2 : pool ≤ 9223372036854775807) :
    Calls Try.prog 10 #[.int .i64 pool] w fun e w' => ∃ hb b G vo vt,
      e = .returned (.tuple #[.pointer (some ⟨hb, 0, none⟩), .bool true]) ∧ House At w' hb b G vo vt (openSt (1 + pick pool 64)) [] [] ∧ (∀ k, HF hb G vo vt k → w.heap.size ≤ k) ∧ Below w.heap.size w w' := by
  have hp := pick_lt pool 64 (by omega)
  obtain ⟨f1, f2, f3, f4, f5, f6, f7⟩ := open_ok (1 + pick pool 64) (by omega) (by omega)
  have F1 := Hid.mk f1
  have F2 := Hid.mk f2
  have F3 := Hid.mk f3
  have F4 := Hid.mk f4
  have F5 := Hid.mk f5
  clear f1 f2 f3 f4 f5
  go_enter Try.func10, Try.ntmps10
  go_wp2_with (go_at_call 11; refine (pick_any _ _ _ h1 h2 (by decide) (by decide)).mono ?_; rintro e w' ⟨rfl, hw⟩; replace hw := hw.symm; subst hw)
  refine (api.new 3 10 _ _ (by decide) (by decide) (by decide) (by decide) (by omega) (by omega)).mono ?_
  rintro e w1 ⟨b, G, rfl, hat, hG, hb1⟩
  rw [show (1 + ((pick pool 64 : Nat) : Int)).toNat = 1 + pick pool 64 from by omega, show (3 : Int).toNat = 3 from rfl, show (10 : Int).toNat = 10 from rfl] at hat
  generalize hpe : pick pool 64 = p at *
  have HP := Hid.mk hpe
  clear hpe
  go_wp2_with (go_at_call 14; refine (num_any _ _ _ (by decide) (by decide) (by decide) (by decide)).mono ?_; rintro e w' ⟨rfl, rfl⟩)
  refine (row_lit _ [⟨w1.heap.size, 0, 1, [69]⟩, ⟨w1.heap.size + 1, 0, 4, enc 1000 4⟩, ⟨w1.heap.size + 2, 0, 2, [83, 0]⟩, ⟨w1.heap.size + 3, 0, 2, enc 5 2⟩, ⟨w1.heap.size + 4, 0, 2, enc 100 2⟩, ⟨w1.heap.size + 5, 0, 1, [68]⟩] 28 _ 6 rfl ?_ ?_ (by decide) ?_).mono ?_
  · rw [heap_alloc, if_pos (by simp only [size_alloc])]
    simp [Piece.val, enc_length]
  · simp [heap_alloc, B, Nat.add_assoc]
  · simp [cat, enc_length]
  rintro e w2 ⟨vs, rfl, hos, hb2⟩
  replace hos := hos.cast (show _ = sellMsg from rfl)
  have hB2 : Below w1.heap.size w1 w2 := by
    refine Below.trans ?_ (hb2.mono (by simp only [size_alloc]; omega))
    repeat refine Below.alloc ?_ (by first | exact Nat.le_refl _ | (simp only [size_alloc]; omega)) _
    exact Below.refl _ _
  replace hos := hos.base (b' := w1.heap.size) (by simp only [size_alloc]; omega)
  clear hb2
  go_wp2_with (go_at_call 14; refine (num_any _ _ _ (by decide) (by decide) (by decide) (by decide)).mono ?_; rintro e w' ⟨rfl, rfl⟩)
  refine (row_lit _ [⟨w2.heap.size, 0, 1, [69]⟩, ⟨w2.heap.size + 1, 0, 4, enc 1001 4⟩, ⟨w2.heap.size + 2, 0, 2, [66, 0]⟩, ⟨w2.heap.size + 3, 0, 2, enc 6 2⟩, ⟨w2.heap.size + 4, 0, 2, enc 100 2⟩, ⟨w2.heap.size + 5, 0, 1, [73]⟩] 28 _ 6 rfl ?_ ?_ (by decide) ?_).mono ?_
  · rw [heap_alloc, if_pos (by simp only [size_alloc])]
    simp [Piece.val, enc_length]
  · simp [heap_alloc, B, Nat.add_assoc]
  · simp [cat, enc_length]
  rintro e w3 ⟨vb, rfl, hob, hb3⟩
  replace hob := hob.cast (show _ = buyMsg from rfl)
  have hB3 : Below w2.heap.size w2 w3 := by
    refine Below.trans ?_ (hb3.mono (by simp only [size_alloc]; omega))
    repeat refine Below.alloc ?_ (by first | exact Nat.le_refl _ | (simp only [size_alloc]; omega)) _
    exact Below.refl _ _
  replace hob := hob.base (b' := w2.heap.size) (by simp only [size_alloc]; omega)
  clear hb3
  have hat3 := api.below (api.below hat hB2) hB3
  have hG3 : ∀ k, G k → k < w1.heap.size := api.lt hat
  go_wp2_with fail
  refine (api.feed b G _ vs sellMsg w3 hat3 ((hos.below hB3).rd (fun g hg h => by have := hG3 g h; have := (hos.lt g hg).1; omega)) (Nat.le_trans f6 (by decide)) (Nat.le_trans f7 (by decide))).mono ?_
  rintro e w4 ⟨G4, rfl, (hat4 : At w4 b G4 (st1 (1 + p))), hG4, hfr4⟩
  have hob4 : Own w4 w2.heap.size vb buyMsg := hob.fr hfr4 (fun g hg h => by have := hG3 g h; have := (hob.lt g hg).1; have := hB2.size; omega)
  have hlt4 := api.lt hat4
  go_wp2_with fail
  refine (api.look b G4 (st1 (1 + p)) w4 hat4).mono ?_
  rintro e w5 ⟨rfl, hb5⟩
  rw [viewOf, F1.out]
  go_wp2_with fail
  generalize hXo : Obj.cells _ 37 = Xo
  have hBX : Below w4.heap.size w4 (w5.alloc Xo) := hb5.alloc hb5.size Xo
  have s5 := hb5.size
  have s4 := hfr4.size
  have s3 := hB3.size
  have s2 := hB2.size
  have s1 := hb1.size
  have hvb4 : ∀ g, vb.ownBlock = some g → ¬ G4 g := fun g hg h => by
    have := hob.lt g hg
    rcases hG4 g h with h | h
    · have := hG3 g h; omega
    · omega
  refine (api.feed b G4 (st1 (1 + p)) vb buyMsg _ (api.below hat4 hBX) ((hob4.below hBX).rd hvb4) (by rw [show (st1 (1 + p)).feed buyMsg = st2 (1 + p) from rfl, F4.out]; decide) (by rw [show (st1 (1 + p)).feed buyMsg = st2 (1 + p) from rfl, F5.out]; decide)).mono ?_
  rintro e w6 ⟨G6, rfl, (hat6 : At w6 b G6 (st2 (1 + p))), hG6, hfr6⟩
  have s6 := hfr6.size
  rw [size_alloc] at s6 hG6
  have k6 : w6.heap[w5.heap.size]? = some Xo := by
    rw [hfr6.block _ (by rw [size_alloc]; omega) (fun h => by have := hlt4 _ h; omega), heap_alloc, if_pos rfl]
  go_wp2_with fail
  refine (api.look b G6 (st2 (1 + p)) w6 hat6).mono ?_
  rintro e w7 ⟨rfl, hb7⟩
  rw [viewOf, F2.out, F3.out]
  go_wp2_with fail
  generalize hYo : Obj.cells _ 37 = Yo
  have hBY : Below w6.heap.size w6 (w7.alloc Yo) := hb7.alloc hb7.size Yo
  have s7 := hb7.size
  have hlt6 := api.lt hat6
  refine (api.answers b G6 (st2 (1 + p)) _ (api.below hat6 hBY)).mono ?_
  rintro e w8 ⟨va, G8, rfl, hoa, hat8, hG8, hva, hfr8⟩
  have s8 := hfr8.size
  rw [size_alloc] at s8 hG8
  have n6 : ¬ G6 w5.heap.size := fun h => by
    rcases hG6 _ h with h | h
    · have := hlt4 _ h; omega
    · omega
  have n6' : ¬ G6 w7.heap.size := fun h => by have := hlt6 _ h; omega
  have k8 : w8.heap[w5.heap.size]? = some Xo := by
    rw [hfr8.block _ (by rw [size_alloc]; omega) n6, hBY.block _ (by omega), k6]
  have j8 : w8.heap[w7.heap.size]? = some Yo := by
    rw [hfr8.block _ (by rw [size_alloc]; omega) n6', heap_alloc, if_pos rfl]
  go_wp2_with fail
  refine (api.tape b G8 _ w8 hat8).mono ?_
  rintro e w9 ⟨vt, G9, rfl, hot, hat9, hG9, hvt, hfr9⟩
  have s9 := hfr9.size
  have n8 : ¬ G8 w5.heap.size := fun h => by
    rcases hG8 _ h with h | h
    · exact n6 h
    · omega
  have n8' : ¬ G8 w7.heap.size := fun h => by
    rcases hG8 _ h with h | h
    · exact n6' h
    · omega
  have k9 : w9.heap[w5.heap.size]? = some Xo := by rw [hfr9.block _ (by omega) n8, k8]
  have j9 : w9.heap[w7.heap.size]? = some Yo := by rw [hfr9.block _ (by omega) n8', j8]
  have c1 : w9.cell? ⟨w5.heap.size, 1, none⟩ = some (.int .i64 1) := by
    subst hXo; rw [cell_of_row w9 _ 1 _ 37 (0, 0) k9]; rfl
  have c2 : w9.cell? ⟨w7.heap.size, 1, none⟩ = some (.int .i64 0) := by
    subst hYo; rw [cell_of_row w9 _ 1 _ 37 (0, 0) j9]; rfl
  have c3 : w9.cell? ⟨w7.heap.size, 2, none⟩ = some (.bool true) := by
    subst hYo; rw [cell_of_row w9 _ 2 _ 37 (0, 0) j9]; rfl
  have l1 : w5.heap.size < w9.heap.size := by omega
  have l2 : w7.heap.size < w9.heap.size := by omega
  have hBl : Below w.heap.size w w9 := by
    have a1 : Below w.heap.size w w3 := hb1.trans ((hB2.trans (hB3.mono s2)).mono s1)
    have a2 : Below w.heap.size w3 w4 := hfr4.below (by omega) hG
    have a3 : Below w.heap.size (w5.alloc Xo) w6 := hfr6.below (by rw [size_alloc]; omega) (fun k h => by rcases hG4 k h with h | h; exact hG k h; omega)
    have g6 : ∀ k, G6 k → w.heap.size ≤ k := fun k h => by
      rcases hG6 k h with h | h
      · rcases hG4 k h with h | h
        · exact hG k h
        · omega
      · omega
    have a4 : Below w.heap.size (w7.alloc Yo) w8 := hfr8.below (by rw [size_alloc]; omega) g6
    have a5 : Below w.heap.size w8 w9 := hfr9.below (by omega) (fun k h => by rcases hG8 k h with h | h; exact g6 k h; omega)
    exact ((((((a1.trans a2).trans (hBX.mono (by omega))).trans a3).trans (hBY.mono (by omega))).trans a4).trans a5)
  have g9 : ∀ k, G9 k → w.heap.size ≤ k := fun k h => by
    rcases hG9 k h with h | h
    · rcases hG8 k h with h | h
      · rcases hG6 k h with h | h
        · rcases hG4 k h with h | h
          · exact hG k h
          · omega
        · omega
      · omega
    · omega
  have hat10 : At w9 b G9 (openSt (1 + p)) := by rw [openSt]; exact hat9
  obtain ⟨ra, ca, rfl, _, _⟩ := hoa.len
  obtain ⟨rt, ct, rfl, _, _⟩ := hot.len
  have q1 : (st2 (1 + p)).ans.length = 89 := F4.out
  have q2 : (St.told (st2 (1 + p))).tape.length = 34 := by rw [told_tape]; exact F5.out
  simp only [q1, q2]
  have FIN := Hid.mk (And.intro hBl (And.intro hat10 (And.intro g9 (api.lt hat9))))
  clear q1 q2 hoa hot hva hvt k6 k8 j8 k9 j9 hXo hYo hBl hat10 g9 n8 n8' n6 n6' hat9 hG9 hfr9 hat8 hG8 hfr8 hlt6 hBY hb7 hat6 hG6 hfr6 hvb4 hBX hb5 hlt4 hob4 hat4 hG4 hfr4 hG3 hat3 hob hB3 hos hB2 hat hG hb1 s1 s2 s3 s4 s5 s6 s7 s8 s9 f6 f7 F1 F2 F3 F4 F5
  go_wp2_with fail
  go_ret2
  obtain ⟨hBl, hat10, g9, hlt9⟩ := FIN.out
  have hBa : Below w9.heap.size w9 (w9.alloc (.cells #[.pointer (some ⟨b, 0, none⟩), .slice none 0 0, .slice none 0 0] 30)) := (Below.refl _ _).alloc (Nat.le_refl _) _
  refine ⟨w9.heap.size, b, G9, .slice none 0 0, .slice none 0 0, rfl, ?_, ?_, ?_⟩
  · rw [HP.out]
    refine ⟨by rw [heap_alloc, if_pos rfl], api.below hat10 hBa, World.ownsRow_nil _ _ _ _, World.ownsRow_nil _ _ _ _, fun h => (by have := hlt9 _ h; omega), fun g hg => (by cases hg), fun g hg => (by cases hg), fun g hg => (by cases hg)⟩
  · intro k hk
    rcases hk with rfl | hk | hk | hk
    · exact hBl.size
    · exact g9 k hk
    · cases hk
    · cases hk
  · exact hBl.trans (hBa.mono hBl.size)
end Go.Proofs.Ytphkchjejbffeaa
