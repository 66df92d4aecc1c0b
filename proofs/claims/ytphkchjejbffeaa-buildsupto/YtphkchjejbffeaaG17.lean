/- What goes back is a true account of what rests: the document's semantics. -/
import Derived.Test.YtphkchjejbffeaaG16
namespace Go.Proofs.Ytphkchjejbffeaa

structure Led (st : St) (l : List Hl) : Prop where
  live : Live st.all l
  used : ∀ h ∈ l, h.token ∈ st.used

/-- What a step tells, and what it makes of the list. -/
def Tells (st st' : St) (ords : List Ord) (l : List Hl) : Prop := ∃ bs l', st'.ans = st.ans ++ bs ∧ Reads bs l l' ∧ Live ords l' ∧ l'.map (·.token) = l.map (·.token)

theorem t6 (st : St) : (enc st.time 6).length = 6 := enc_length _ _

theorem all_execute {st : St} (hi : Inv st) {o f : Ord} (h : st.meets o = some f) (n : Nat) :
    ∃ A B, st.all = A ++ f :: B ∧ (st.execute o f n).all = A ++ (liveO { f with shares := f.shares - n } ++ B) := by
  obtain ⟨t, ht, hv, -⟩ := meets_at hi h
  obtain ⟨A, B, e1, e2⟩ := all_upd (s := f.stock) (d := f.side) (p := f.price) (h := hv) (st := (((({ st with mats := (st.mats + 1) % 4294967296 } : St).say (({ st with mats := (st.mats + 1) % 4294967296 } : St).fill f.token n f.price ((st.mats + 1) % 4294967296))).say (({ st with mats := (st.mats + 1) % 4294967296 } : St).fill o.token n f.price ((st.mats + 1) % 4294967296))).put
      (st.head 101 ++ enc f.ref 4 ++ enc n 2 ++ enc ((st.mats + 1) % 4294967296) 4)))
  have e2 := e2 (redO f.token n)
  have ha : st.all = A ++ st.q f.stock f.side f.price ++ B := e1
  have hb : (st.execute o f n).all = A ++ redO f.token n (st.q f.stock f.side f.price) ++ B := e2
  refine ⟨A, t ++ B, by rw [ha, ht]; simp, ?_⟩
  rw [hb, ht]
  simp only [redO, if_pos, liveO]
  by_cases hs : f.shares ≤ n
  · rw [if_pos hs, if_pos (by omega)]; simp
  · rw [if_neg hs, if_neg (by omega)]; simp

theorem live_meet (k : Nat) : ∀ (st : St) (o : Ord) (l : List Hl), Inv st → (o.side = 66 ∨ o.side = 83) → o.token < 4294967296 → o.shares ≤ 9999 → Live (liveO o ++ st.all) l →
    Tells st (st.meet k o).1 (liveO (st.meet k o).2 ++ (st.meet k o).1.all) l := by
  induction k with
  | zero => intro st o l _ _ _ _ hl; exact ⟨[], l, by simp [St.meet], .nil l, hl, rfl⟩
  | succ k ih =>
    intro st o l hi hsd htk hsh hl
    by_cases h0 : o.shares = 0
    · have e : st.meet (k + 1) o = (st, o) := by unfold St.meet; rw [if_pos h0]
      rw [e]
      exact ⟨[], l, by simp, .nil l, hl, rfl⟩
    · cases hm : st.meets o with
      | none =>
        have e : st.meet (k + 1) o = (st, o) := by unfold St.meet; rw [if_neg h0, hm]
        rw [e]
        exact ⟨[], l, by simp, .nil l, hl, rfl⟩
      | some f =>
        obtain ⟨A, B, ea, eb⟩ := all_execute hi hm (min o.shares f.shares)
        obtain ⟨t, ht, hv, hf1, hf2, hf3, hf4⟩ := meets_at hi hm
        have hfo := hi.ord _ _ _ f (by rw [ht]; simp)
        have e : st.meet (k + 1) o = (st.execute o f (min o.shares f.shares)).meet k { o with shares := o.shares - min o.shares f.shares } := by
          show (if o.shares = 0 then (st, o) else _) = _
          rw [if_neg h0, hm]
        have hn1 : 1 ≤ min o.shares f.shares := by omega
        have hn2 : min o.shares f.shares ≤ o.shares := Nat.min_le_left _ _
        have hn3 : min o.shares f.shares ≤ f.shares := Nat.min_le_right _ _
        have hn4 : min o.shares f.shares < 65536 := by omega
        generalize min o.shares f.shares = n at *
        have p1 : (liveO o ++ st.all).Perm (f :: (o :: (A ++ B))) := by
          rw [ea, liveO, if_neg h0]
          refine (List.Perm.cons o ?_).trans (List.Perm.swap f o _)
          exact List.perm_middle
        have hl1 := hl.perm p1
        have hl2 := hl1.less n hn3
        have p2 : (liveO { f with shares := f.shares - n } ++ (o :: (A ++ B))).Perm (o :: (liveO { f with shares := f.shares - n } ++ (A ++ B))) := List.perm_middle
        have hl3 := (hl2.perm p2).less n hn2
        have p3 : (liveO { o with shares := o.shares - n } ++ (liveO { f with shares := f.shares - n } ++ (A ++ B))).Perm (liveO { o with shares := o.shares - n } ++ (st.execute o f n).all) := by
          rw [eb]
          refine List.Perm.append_left _ ?_
          rw [← List.append_assoc, ← List.append_assoc]
          exact List.Perm.append_right _ List.perm_append_comm
        have hl4 := hl3.perm p3
        obtain ⟨-, y, hy, hyf⟩ := hl1.have_ f (by simp)
        obtain ⟨-, z, hz, hzf⟩ := hl1.have_ o (by simp)
        have hne : f.token ≠ o.token := by
          have := hl1.ndo
          simp only [List.map_cons, List.nodup_cons, List.mem_cons, not_or] at this
          exact this.1.1
        have hside : f.side ≠ o.side := by
          rw [hf2]
          rcases hsd with h | h <;> rw [h] <;> decide
        have hstep : RdStep ((st.head 70 ++ enc f.token 4 ++ enc n 2 ++ enc f.price 2 ++ enc ((st.mats + 1) % 4294967296) 4) ++ (st.head 70 ++ enc o.token 4 ++ enc n 2 ++ enc f.price 2 ++ enc ((st.mats + 1) % 4294967296) 4)) l (lessAt o.token n (lessAt f.token n l)) :=
          .fil (enc st.time 6) f.token o.token n f.price ((st.mats + 1) % 4294967296) l y z (t6 st) hfo.token htk hn4 hn1 hy hyf.1 hz hzf.1 hne (by rw [hyf.2.2.1, hzf.2.2.1]; exact hside) (by rw [hyf.2.1]; exact hn3) (by rw [hzf.2.1]; exact hn2)
        obtain ⟨bs, l', r1, r2, r3, r4⟩ := ih (st.execute o f n) { o with shares := o.shares - n } _ (execute_ok hi hm n).1 hsd htk (by show o.shares - n ≤ 9999; omega) hl4
        rw [e]
        refine ⟨_, l', ?_, (Reads.one hstep).app r2, r3, by rw [r4, less_tokens, less_tokens]⟩
        rw [r1]
        have : (st.execute o f n).ans = st.ans ++ ((st.head 70 ++ enc f.token 4 ++ enc n 2 ++ enc f.price 2 ++ enc ((st.mats + 1) % 4294967296) 4) ++ (st.head 70 ++ enc o.token 4 ++ enc n 2 ++ enc f.price 2 ++ enc ((st.mats + 1) % 4294967296) 4)) := by
          show (st.ans ++ _) ++ _ = _
          rw [List.append_assoc]
          rfl
        rw [this, List.append_assoc]

theorem perm_rest {st : St} (o : Ord) (hv : Valid st o.stock o.side o.price) : (o :: st.all).Perm (st.rest o).all := by
  obtain ⟨A, B, e1, e2⟩ := all_upd st o.stock o.side o.price hv
  have e3 : (st.rest o).all = A ++ (st.q o.stock o.side o.price ++ [o]) ++ B := e2 (· ++ [o])
  rw [e1, e3]
  have : A ++ (st.q o.stock o.side o.price ++ [o]) ++ B = (A ++ st.q o.stock o.side o.price) ++ o :: B := by simp
  rw [this]
  exact List.perm_middle.symm

theorem meet_valid (k : Nat) : ∀ (st : St) (o : Ord), (st.meet k o).1.stocks = st.stocks ∧ (st.meet k o).1.levels = st.levels ∧ (st.meet k o).1.used = st.used ∧ (st.meet k o).2.stock = o.stock ∧ (st.meet k o).2.side = o.side ∧ (st.meet k o).2.price = o.price ∧ (st.meet k o).2.token = o.token ∧ (st.meet k o).2.shares ≤ o.shares := by
  induction k with
  | zero => intro st o; exact ⟨rfl, rfl, rfl, rfl, rfl, rfl, rfl, Nat.le_refl _⟩
  | succ k ih =>
    intro st o
    unfold St.meet
    split
    · exact ⟨rfl, rfl, rfl, rfl, rfl, rfl, rfl, Nat.le_refl _⟩
    · split
      · exact ⟨rfl, rfl, rfl, rfl, rfl, rfl, rfl, Nat.le_refl _⟩
      · rename_i f _
        obtain ⟨a, b, c, d, e, g, i, j⟩ := ih (st.execute o f (min o.shares f.shares)) { o with shares := o.shares - min o.shares f.shares }
        exact ⟨a, b, c, d, e, g, i, Nat.le_trans j (Nat.sub_le _ _)⟩

/-- A step from one true account to another. -/
def Steps (st st' : St) (l : List Hl) : Prop := ∃ bs l', st'.ans = st.ans ++ bs ∧ Reads bs l l' ∧ Led st' l'

theorem Led.same {st : St} {l : List Hl} (h : Led st l) : Steps st st l := ⟨[], l, by simp, .nil l, h⟩
theorem Led.reject {st : St} {l : List Hl} (h : Led st l) (t : Nat) (r : UInt8) (ht : t < 4294967296) : Steps st (st.reject t r) l :=
  ⟨_, l, rfl, .one (.rej (enc st.time 6) t r l (t6 st) ht), ⟨h.live, h.used⟩⟩

theorem whyE_none {st : St} {t : Nat} {side : UInt8} {stock price shares : Nat} {kind : UInt8} (h : st.why t side stock price shares kind = none) :
    t ∉ st.used ∧ (side = 66 ∨ side = 83) ∧ stock < st.stocks ∧ 1 ≤ price ∧ price ≤ st.levels ∧ 1 ≤ shares ∧ shares ≤ 9999 := by
  unfold St.why at h
  split at h
  · cases h
  · split at h
    · cases h
    · split at h
      · cases h
      · split at h
        · cases h
        · split at h
          · cases h
          · rename_i a b c d e
            refine ⟨a, ?_, by omega, by omega, by omega, by omega, by omega⟩
            by_cases h1 : side = 66
            · exact .inl h1
            · by_cases h2 : side = 83
              · exact .inr h2
              · exact absurd ⟨h1, h2⟩ b

theorem led_enter {st : St} {l : List Hl} (hi : Inv st) (h : Led st l) (t : Nat) (side : UInt8) (stock price shares : Nat) (kind : UInt8) (ht : t < 4294967296) (_hst : stock < 256) : Steps st (st.enter t side stock price shares kind) l := by
  unfold St.enter
  cases hw : st.why t side stock price shares kind with
  | some r => exact h.reject t r ht
  | none =>
    obtain ⟨w1, w2, w3, w4, w5, w6, w7⟩ := whyE_none hw
    simp only
    generalize ho : ({ ref := (st.refs + 1) % 4294967296, token := t, side, stock, price, shares } : Ord) = o
    have o1 : o.token = t := by rw [← ho]
    have o2 : o.side = side := by rw [← ho]
    have o3 : o.stock = stock := by rw [← ho]
    have o4 : o.price = price := by rw [← ho]
    have o5 : o.shares = shares := by rw [← ho]
    have o6 : o.ref < 4294967296 := by rw [← ho]; exact Nat.mod_lt _ (by decide)
    have hacc : Inv (st.accept o kind) := hi.of_q (st' := st.accept o kind) rfl rfl rfl rfl (fun t ht => List.mem_cons_of_mem _ ht) o6 hi.mats hi.time
    have hnew : ∀ y ∈ l, y.token ≠ o.token := fun y hy e => w1 (by have := h.used y hy; rw [e, o1] at this; exact this)
    have hl1 : Live (liveO o ++ (st.accept o kind).all) (l ++ [⟨o.token, o.shares, o.side, false⟩]) := by
      have := h.live.add hnew (by omega)
      rw [liveO, if_neg (by omega)]
      exact this
    have hs1 : RdStep (st.head 65 ++ enc o.token 4 ++ [o.side, UInt8.ofNat o.stock] ++ enc o.price 2 ++ enc o.shares 2 ++ [kind] ++ enc o.ref 4) l (l ++ [⟨o.token, o.shares, o.side, false⟩]) :=
      .acc (enc st.time 6) o.token o.side (UInt8.ofNat o.stock) o.price o.shares kind o.ref l (t6 st) (by omega) (by omega) hnew
    obtain ⟨bs, l', r1, r2, r3, r4⟩ := live_meet 65 (st.accept o kind) o _ hacc (by rw [o2]; exact w2) (by omega) (by omega) hl1
    obtain ⟨v1, v2, v3, v4, v5, v6, v7, v8⟩ := meet_valid 65 (st.accept o kind) o
    generalize (st.accept o kind).meet 65 o = x at *
    have hus : ∀ y ∈ l', y.token ∈ x.1.used := by
      intro y hy
      have : y.token ∈ l'.map (·.token) := List.mem_map.2 ⟨y, hy, rfl⟩
      rw [r4, List.map_append, List.mem_append] at this
      rw [v3]
      rcases this with h' | h'
      · obtain ⟨z, hz, e⟩ := List.mem_map.1 h'
        rw [← e]
        exact List.mem_cons_of_mem _ (h.used z hz)
      · simp at h'
        rw [h']
        exact List.mem_cons_self
    have ha : x.1.ans = st.ans ++ ((st.head 65 ++ enc o.token 4 ++ [o.side, UInt8.ofNat o.stock] ++ enc o.price 2 ++ enc o.shares 2 ++ [kind] ++ enc o.ref 4) ++ bs) := by
      rw [r1, ← List.append_assoc]
      rfl
    by_cases h0 : x.2.shares = 0
    · rw [if_pos h0]
      rw [liveO, if_pos h0, List.nil_append] at r3
      exact ⟨_, l', ha, (Reads.one hs1).app r2, ⟨r3, hus⟩⟩
    · rw [if_neg h0]
      rw [liveO, if_neg h0] at r3
      by_cases hk : kind = 68
      · rw [if_pos hk]
        have hv : Valid x.1 x.2.stock x.2.side x.2.price := by
          rw [v4, v5, v6, o2, o3, o4]
          unfold Valid
          rw [v1, v2]
          exact ⟨w3, w2, w4, w5⟩
        exact ⟨_, l', ha, (Reads.one hs1).app r2, ⟨r3.perm (perm_rest x.2 hv), hus⟩⟩
      · rw [if_neg hk]
        obtain ⟨-, y, hy, hyf⟩ := r3.have_ x.2 (by simp)
        have hx2 : x.2.token = t := by rw [v7, o1]
        have hs2 : RdStep (x.1.head 88 ++ enc t 4 ++ enc x.2.shares 2 ++ [73]) l' (lessAt t x.2.shares l') :=
          .can (enc x.1.time 6) t x.2.shares 73 l' y (t6 _) ht (by omega) hy (by rw [hyf.1, hx2]) (by rw [hyf.2.1]; exact Nat.le_refl _)
        have hl2 := Live.less (f := x.2) (R := x.1.all) r3 x.2.shares (Nat.le_refl _)
        rw [Nat.sub_self, liveO, if_pos rfl, List.nil_append, hx2] at hl2
        refine ⟨_, _, ?_, ((Reads.one hs1).app r2).app (Reads.one hs2), ⟨hl2, ?_⟩⟩
        · show x.1.ans ++ _ = _
          rw [ha, List.append_assoc]
        · intro z hz
          obtain ⟨a, ha', e⟩ := mem_less.1 hz
          have := hus a ha'
          rw [e]
          split <;> exact this

theorem red_at (t n : Nat) (l : List Ord) (h : ∃ x ∈ l, x.token = t) (hn : (l.map (·.token)).Nodup) : ∀ o ∈ l, o.token = t → ∃ l1 l2, l = l1 ++ o :: l2 ∧ redO t n l = l1 ++ (liveO { o with shares := o.shares - n } ++ l2) ∧ delO t l = l1 ++ l2 ∧ ∀ y, subO t y l = l1 ++ y :: l2 := by
  induction l with
  | nil => intro o ho; cases ho
  | cons x l ih =>
    intro o ho hot
    rw [List.map_cons, List.nodup_cons] at hn
    by_cases hx : x.token = t
    · have : o = x := by
        rcases List.mem_cons.1 ho with rfl | ho
        · rfl
        · exact absurd (List.mem_map.2 ⟨o, ho, by rw [hot, hx]⟩) hn.1
      subst this
      refine ⟨[], l, rfl, ?_, ?_, ?_⟩
      · simp only [redO, if_pos hx, liveO]
        by_cases hs : o.shares ≤ n
        · rw [if_pos hs, if_pos (by omega)]; rfl
        · rw [if_neg hs, if_neg (by omega)]; rfl
      · simp only [delO, if_pos hx]; rfl
      · intro y; simp only [subO, if_pos hx]; rfl
    · have ho' : o ∈ l := by
        rcases List.mem_cons.1 ho with rfl | ho
        · exact absurd hot hx
        · exact ho
      obtain ⟨l1, l2, e1, e2, e3, e4⟩ := ih ⟨o, ho', hot⟩ hn.2 o ho' hot
      refine ⟨x :: l1, l2, by rw [e1]; rfl, ?_, ?_, ?_⟩
      · simp only [redO, if_neg hx, e2]; rfl
      · simp only [delO, if_neg hx, e3]; rfl
      · intro y; simp only [subO, if_neg hx, e4]; rfl

theorem q_nodup {st : St} (hi : Inv st) {s : Nat} {d : UInt8} {p : Nat} (hv : Valid st s d p) : ((st.q s d p).map (·.token)).Nodup := by
  obtain ⟨A, B, e1, -⟩ := all_upd st s d p hv
  have := hi.nodup
  rw [e1] at this
  simp only [List.map_append] at this
  rw [List.nodup_append] at this
  have := this.1
  rw [List.nodup_append] at this
  exact this.2.1

theorem led_cancel {st : St} {l : List Hl} (hi : Inv st) (h : Led st l) (t n : Nat) : Steps st (st.cancel t n) l := by
  unfold St.cancel
  cases hf : st.find t with
  | none => exact h.same
  | some o =>
    simp only
    by_cases hs : o.shares ≤ n
    · rw [if_pos hs]; exact h.same
    · rw [if_neg hs]
      obtain ⟨f1, f2, f3, f4, f5⟩ := find_at hi hf
      obtain ⟨A, B, e1, e2⟩ := all_upd st o.stock o.side o.price f3
      obtain ⟨l1, l2, k1, k2, -, -⟩ := red_at t (o.shares - n) (st.q o.stock o.side o.price) ⟨o, f4, f2⟩ (q_nodup hi f3) o f4 f2
      have p1 : st.all.Perm (o :: (A ++ l1 ++ l2 ++ B)) := by
        rw [e1, k1]
        have : A ++ (l1 ++ o :: l2) ++ B = (A ++ l1) ++ o :: (l2 ++ B) := by simp
        rw [this]
        refine List.perm_middle.trans (List.Perm.cons o ?_)
        simp
      have hl1 := (h.live.perm p1).less (o.shares - n) (Nat.sub_le _ _)
      obtain ⟨-, y, hy, hyf⟩ := (h.live.perm p1).have_ o (by simp)
      have ht32 : t < 4294967296 := by rw [← f2]; exact f5.token
      have hsh := f5.most
      have hs1 : RdStep (st.head 88 ++ enc t 4 ++ enc (o.shares - n) 2 ++ [85]) l (lessAt t (o.shares - n) l) :=
        .can (enc st.time 6) t (o.shares - n) 85 l y (t6 st) ht32 (by omega) hy (by rw [hyf.1, f2]) (by rw [hyf.2.1]; omega)
      have hall : ∀ st' : St, st'.q = (st.upd o.stock o.side o.price (redO t (o.shares - n))).q → st'.stocks = st.stocks → st'.levels = st.levels → (liveO { o with shares := o.shares - (o.shares - n) } ++ (A ++ l1 ++ l2 ++ B)).Perm st'.all := by
        intro st' q1 q2 q3
        have e3 : st'.all = (st.upd o.stock o.side o.price (redO t (o.shares - n))).all := by
          unfold St.all
          rw [q2]
          show (List.range st.stocks).flatMap st'.book = (List.range st.stocks).flatMap (st.upd o.stock o.side o.price (redO t (o.shares - n))).book
          congr 1
          funext s
          simp only [St.book, St.bids, St.asks, q1, q3]
          rfl
        rw [e3, e2, k2]
        have : A ++ (l1 ++ (liveO { o with shares := o.shares - (o.shares - n) } ++ l2)) ++ B = (A ++ l1) ++ (liveO { o with shares := o.shares - (o.shares - n) } ++ (l2 ++ B)) := by simp
        rw [this, ← List.append_assoc (A ++ l1)]
        have : liveO { o with shares := o.shares - (o.shares - n) } ++ (A ++ l1 ++ l2 ++ B) = (liveO { o with shares := o.shares - (o.shares - n) } ++ (A ++ l1)) ++ (l2 ++ B) := by simp
        rw [this]
        exact List.Perm.append_right _ List.perm_append_comm
      have hl2 := fun st' q1 q2 q3 => hl1.perm (hall st' q1 q2 q3)
      rw [f2] at hl2
      have hus : ∀ z ∈ lessAt t (o.shares - n) l, z.token ∈ st.used := by
        intro z hz
        obtain ⟨a, ha', e⟩ := mem_less.1 hz
        have := h.used a ha'
        rw [e]
        split <;> exact this
      by_cases hn0 : n = 0
      · rw [if_pos hn0]
        exact ⟨_, _, rfl, .one hs1, ⟨hl2 _ rfl rfl rfl, hus⟩⟩
      · rw [if_neg hn0]
        exact ⟨_, _, rfl, .one hs1, ⟨hl2 _ rfl rfl rfl, hus⟩⟩

theorem whyE_noneR {st : St} {t price shares : Nat} (h : st.whyR t price shares = none) : t ∉ st.used ∧ 1 ≤ price ∧ price ≤ st.levels ∧ 1 ≤ shares ∧ shares ≤ 9999 := by
  unfold St.whyR at h
  split at h
  · cases h
  · split at h
    · cases h
    · split at h
      · cases h
      · rename_i a b c
        exact ⟨a, by omega, by omega, by omega, by omega⟩

theorem all_of_q {a b : St} (h1 : b.q = a.q) (h2 : b.stocks = a.stocks) (h3 : b.levels = a.levels) : b.all = a.all := by
  unfold St.all
  rw [h2]
  congr 1
  funext s
  simp only [St.book, St.bids, St.asks, h1, h3]

theorem led_replace {st : St} {l : List Hl} (hi : Inv st) (h : Led st l) (t n price shares : Nat) (hn32 : n < 4294967296) : Steps st (st.replace t n price shares) l := by
  unfold St.replace
  cases hf : st.find t with
  | none => exact h.same
  | some o =>
    simp only
    cases hw : st.whyR n price shares with
    | some r => exact h.reject n r hn32
    | none =>
      obtain ⟨w1, w4, w5, w6, w7⟩ := whyE_noneR hw
      simp only
      obtain ⟨f1, f2, f3, f4, f5⟩ := find_at hi hf
      obtain ⟨A, B, e1, e2⟩ := all_upd st o.stock o.side o.price f3
      obtain ⟨l1, l2, k1, -, k3, k4⟩ := red_at t 0 (st.q o.stock o.side o.price) ⟨o, f4, f2⟩ (q_nodup hi f3) o f4 f2
      have p1 : st.all.Perm (o :: (A ++ l1 ++ l2 ++ B)) := by
        rw [e1, k1]
        have : A ++ (l1 ++ o :: l2) ++ B = (A ++ l1) ++ o :: (l2 ++ B) := by simp
        rw [this]
        refine List.perm_middle.trans (List.Perm.cons o ?_)
        simp
      have hR : (st.refs + 1) % 4294967296 < 4294967296 := Nat.mod_lt _ (by decide)
      generalize (st.refs + 1) % 4294967296 = R at *
      generalize hy : ({ o with ref := R, token := n, price, shares } : Ord) = y
      have y1 : y.token = n := by rw [← hy]
      have y2 : y.side = o.side := by rw [← hy]
      have y3 : y.stock = o.stock := by rw [← hy]
      have y4 : y.price = price := by rw [← hy]
      have y5 : y.shares = shares := by rw [← hy]
      have y6 : R < 4294967296 := hR
      have ht32 : t < 4294967296 := by rw [← f2]; exact f5.token
      have hlv := h.live.perm p1
      obtain ⟨z1, z, hz, hzf⟩ := hlv.have_ o (by simp)
      have hnew : ∀ x ∈ l, x.token ≠ y.token := fun x hx e => w1 (by have := h.used x hx; rw [e, y1] at this; exact this)
      have hl1 := hlv.swap (new := y) hnew (by omega)
      rw [f2] at hl1
      have hs1 : RdStep (st.head 85 ++ enc n 4 ++ enc price 2 ++ enc shares 2 ++ enc R 4 ++ enc t 4) l (doneAt t l ++ [⟨n, shares, z.side, false⟩]) :=
        .rep (enc st.time 6) n t price shares R l z (t6 st) hn32 (by omega) (by rw [y1] at hnew; exact hnew) hz (by rw [hzf.1, f2]) (by rw [hzf.2.1]; exact z1) hzf.2.2.2 ht32
      have hse : (⟨y.token, y.shares, y.side, false⟩ : Hl) = ⟨n, shares, z.side, false⟩ := by rw [y1, y5, y2, hzf.2.2.1]
      rw [hse] at hl1
      have hus : ∀ x ∈ doneAt t l ++ [⟨n, shares, z.side, false⟩], x.token ∈ n :: st.used := by
        intro x hx
        rcases List.mem_append.1 hx with hx | hx
        · obtain ⟨a, ha', e⟩ := mem_done.1 hx
          have := h.used a ha'
          rw [e]
          split <;> exact List.mem_cons_of_mem _ this
        · simp at hx
          rw [hx]
          exact List.mem_cons_self
      generalize hst1 : (({ st with refs := R, used := n :: st.used } : St).say (st.head 85 ++ enc n 4 ++ enc price 2 ++ enc shares 2 ++ enc R 4 ++ enc t 4)) = st1
      have a1 : st1.ans = st.ans ++ (st.head 85 ++ enc n 4 ++ enc price 2 ++ enc shares 2 ++ enc R 4 ++ enc t 4) := by rw [← hst1]; rfl
      have a2 : st1.q = st.q := by rw [← hst1]; rfl
      have a3 : st1.stocks = st.stocks := by rw [← hst1]; rfl
      have a4 : st1.levels = st.levels := by rw [← hst1]; rfl
      have a5 : st1.used = n :: st.used := by rw [← hst1]; rfl
      have a6 : Inv st1 := by rw [← hst1]; exact (hi.of_q (st' := { st with refs := R, used := n :: st.used }) rfl rfl rfl rfl (fun t ht => List.mem_cons_of_mem _ ht) y6 hi.mats hi.time).say _
      clear hst1
      have hsub : ∀ (d : UInt8) (p : Nat) (st' : St), st'.q = (st1.upd o.stock o.side o.price (subO t y)).q → st'.stocks = st.stocks → st'.levels = st.levels → (y :: (A ++ l1 ++ l2 ++ B)).Perm st'.all := by
        intro _ _ st' q1 q2 q3
        rw [all_of_q (a := st.upd o.stock o.side o.price (subO t y)) (by rw [q1]; funext s d p; simp only [St.upd, a2]) q2 q3, e2, k4]
        have : A ++ (l1 ++ y :: l2) ++ B = (A ++ l1) ++ y :: (l2 ++ B) := by simp
        rw [this]
        refine List.Perm.trans ?_ List.perm_middle.symm
        simp
      have hdel : ∀ st' : St, st'.q = (st1.upd o.stock o.side o.price (delO t)).q → st'.stocks = st.stocks → st'.levels = st.levels → (A ++ l1 ++ l2 ++ B).Perm st'.all := by
        intro st' q1 q2 q3
        rw [all_of_q (a := st.upd o.stock o.side o.price (delO t)) (by rw [q1]; funext s d p; simp only [St.upd, a2]) q2 q3, e2, k3]
        simp
      cases hm : st1.meets y with
      | none =>
        by_cases hc : price = o.price ∧ shares ≤ o.shares
        · simp only [if_pos hc]
          exact ⟨_, _, a1, .one hs1, ⟨hl1.perm (hsub 0 0 _ rfl a3 a4), by intro x hx; show x.token ∈ st1.used; rw [a5]; exact hus x hx⟩⟩
        · simp only [if_neg hc]
          refine ⟨_, _, a1, .one hs1, ⟨hl1.perm ?_, by intro x hx; show x.token ∈ st1.used; rw [a5]; exact hus x hx⟩⟩
          have hv : Valid ((st1.put (st1.head 117 ++ enc o.ref 4 ++ enc R 4 ++ enc shares 2 ++ enc price 2)).upd o.stock o.side o.price (delO t)) y.stock y.side y.price := by
            unfold Valid
            rw [y3, y2, y4]
            refine ⟨?_, f3.2.1, w4, ?_⟩
            · show o.stock < st1.stocks; rw [a3]; exact f3.1
            · show price ≤ st1.levels; rw [a4]; exact w5
          have hr := perm_rest y hv
          have hd := hdel ((st1.put (st1.head 117 ++ enc o.ref 4 ++ enc R 4 ++ enc shares 2 ++ enc price 2)).upd o.stock o.side o.price (delO t)) rfl a3 a4
          refine (List.Perm.cons y hd).trans (hr.trans ?_)
          have e : ∀ S : St, (S.rest y).all = (S.upd y.stock y.side y.price (· ++ [y])).all := fun S => rfl
          rw [e, y3, y2, y4]
      | some f =>
        generalize hst2 : (st1.put (st1.head 100 ++ enc o.ref 4)).upd o.stock o.side o.price (delO t) = st2
        have b1 : st2.ans = st1.ans := by rw [← hst2]; rfl
        have b5 : st2.used = n :: st.used := by rw [← hst2]; exact a5
        have b3 : st2.stocks = st.stocks := by rw [← hst2]; exact a3
        have b4 : st2.levels = st.levels := by rw [← hst2]; exact a4
        have b6 : Inv st2 := by rw [← hst2]; exact (a6.put _).del _ _ _ _ (by unfold Valid; exact ⟨by show _ < st1.stocks; rw [a3]; exact f3.1, f3.2.1, f3.2.2.1, by show _ ≤ st1.levels; rw [a4]; exact f3.2.2.2⟩)
        have b7 : (A ++ l1 ++ l2 ++ B).Perm st2.all := hdel st2 (by rw [← hst2]; rfl) b3 b4
        clear hst2
        have hl2 : Live (liveO y ++ st2.all) (doneAt t l ++ [⟨n, shares, z.side, false⟩]) := by
          rw [liveO, if_neg (by omega)]
          exact hl1.perm (List.Perm.cons y b7)
        obtain ⟨bs, l', r1, r2, r3, r4⟩ := live_meet 65 st2 y _ b6 (by rw [y2]; exact f3.2.1) (by omega) (by omega) hl2
        obtain ⟨v1, v2, v3, v4, v5, v6, v7, v8⟩ := meet_valid 65 st2 y
        generalize st2.meet 65 y = x at *
        have hus2 : ∀ w ∈ l', w.token ∈ x.1.used := by
          intro w hw
          have : w.token ∈ l'.map (·.token) := List.mem_map.2 ⟨w, hw, rfl⟩
          rw [r4] at this
          obtain ⟨u, hu, e⟩ := List.mem_map.1 this
          rw [v3, b5, ← e]
          exact hus u hu
        have ha : x.1.ans = st.ans ++ ((st.head 85 ++ enc n 4 ++ enc price 2 ++ enc shares 2 ++ enc R 4 ++ enc t 4) ++ bs) := by
          rw [r1, b1, a1, List.append_assoc]
        by_cases h0 : x.2.shares = 0
        · rw [if_pos h0]
          rw [liveO, if_pos h0, List.nil_append] at r3
          exact ⟨_, l', ha, (Reads.one hs1).app r2, ⟨r3, hus2⟩⟩
        · rw [if_neg h0]
          rw [liveO, if_neg h0] at r3
          have hv : Valid x.1 x.2.stock x.2.side x.2.price := by
            rw [v4, v5, v6, y2, y3, y4]
            unfold Valid
            rw [v1, v2, b3, b4]
            exact ⟨f3.1, f3.2.1, w4, w5⟩
          exact ⟨_, l', ha, (Reads.one hs1).app r2, ⟨r3.perm (perm_rest x.2 hv), hus2⟩⟩

theorem led_does {st : St} {l : List Hl} (hi : Inv st) (h : Led st l) (a : Act) : Steps st (st.does a) l := by
  have p40 := pick_lt a.token 40 (by decide)
  have q40 := pick_lt a.other 40 (by decide)
  have s4 := pick_lt a.stock 4 (by decide)
  unfold St.does
  split
  · exact led_enter hi h _ _ _ _ _ _ (by omega) (by omega)
  · split
    · exact led_cancel hi h _ _
    · exact led_replace hi h _ _ _ _ (by omega)

theorem led_acts {p : Nat} (acts : List Act) : ∀ {n : Nat} {x : Run} {l : List Hl}, Good p n x → Reads x.out [] l → Led x.st l → ∃ l', Reads (x.acts acts).out [] l' ∧ Led (x.acts acts).st l' := by
  induction acts with
  | nil => intro n x l _ h1 h2; exact ⟨l, h1, h2⟩
  | cons a acts ih =>
    intro n x l hg h1 h2
    have key : ∃ l1, Reads (x.act a).out [] l1 ∧ Led (x.act a).st l1 := by
      unfold Run.act
      split
      · exact ⟨l, h1, ⟨h2.live, h2.used⟩⟩
      · rw [feed_message x.st a hg.opn hg.part]
        obtain ⟨bs, l', r1, r2, r3⟩ := led_does hg.inv h2 a
        rw [hg.ans, List.nil_append] at r1
        refine ⟨l', ?_, ⟨r3.live, r3.used⟩⟩
        show Reads (x.out ++ (x.st.does a).ans) [] l'
        rw [r1]
        exact h1.app r2
    obtain ⟨l1, k1, k2⟩ := key
    exact ih (hg.act a) k1 k2

theorem resting_open (p : Nat) (h1 : 1 ≤ p) (h2 : p ≤ 64) : (openSt p).all = [] := by
  have h : (st2 p).resting = 0 := (open_ok p h1 h2).2.1
  have e : ∀ st : St, st.told.taped.all = st.all := fun st => rfl
  unfold openSt
  rw [e]
  exact List.length_eq_zero_iff.1 h

theorem led_started (pool : Int) : Led (started pool).st [] := by
  have := pick_lt pool 64 (by decide)
  have ha : (started pool).st.all = [] := resting_open (1 + pick pool 64) (by omega) (by omega)
  refine ⟨?_, fun h hh => by cases hh⟩
  rw [ha]
  exact ⟨List.nodup_nil, List.nodup_nil, fun x hx => (by cases hx), fun x hx => (by cases hx)⟩

end Go.Proofs.Ytphkchjejbffeaa

/- What is on the tape does to the list what was done to the books: plain. -/
namespace Go.Proofs.Ytphkchjejbffeaa

def tok0 (o : Ord) : Ord := { o with token := 0 }
def alive (o : Ord) : Bool := o.shares != 0
/-- Alive, and of this place. -/
def inK (s : Nat) (d : UInt8) (p : Nat) (o : Ord) : Bool := o.shares != 0 && (o.stock == s && (o.side == d && o.price == p))
theorem inK_iff (s : Nat) (d : UInt8) (p : Nat) (o : Ord) : inK s d p o = true ↔ o.shares ≠ 0 ∧ o.stock = s ∧ o.side = d ∧ o.price = p := by simp [inK]
theorem tok0_alive (o : Ord) : alive (tok0 o) = alive o := rfl
theorem tok0_inK (s : Nat) (d : UInt8) (p : Nat) (o : Ord) : inK s d p (tok0 o) = inK s d p o := rfl

/-- The living ones of a list are those of the books. -/
structure Tq (q : Nat → UInt8 → Nat → List Ord) (R : Nat) (L : List Ord) : Prop where
  cls : ∀ s d p, L.filter (inK s d p) = (q s d p).map tok0
  uq : ((L.filter alive).map (·.ref)).Nodup
  low : ∀ o ∈ L, o.ref ≤ R

theorem Tq.le {q : Nat → UInt8 → Nat → List Ord} {R R' : Nat} {L : List Ord} (h : Tq q R L) (hR : R ≤ R') : Tq q R' L := ⟨h.cls, h.uq, fun o ho => Nat.le_trans (h.low o ho) hR⟩
theorem Tq.of_q {q q' : Nat → UInt8 → Nat → List Ord} {R : Nat} {L : List Ord} (h : Tq q R L) (e : q' = q) : Tq q' R L := e ▸ h

theorem split_one {α : Type} (o : α) : ∀ (A A' B B' : List α), A ++ o :: B = A' ++ o :: B' → o ∉ A → o ∉ A' → A = A' ∧ B = B' := by
  intro A
  induction A with
  | nil =>
    intro A' B B' h _ h2
    cases A' with
    | nil => simp at h; exact ⟨rfl, h⟩
    | cons x A' => simp at h; exact absurd (by rw [h.1]; simp) h2
  | cons x A ih =>
    intro A' B B' h h1 h2
    cases A' with
    | nil => simp at h; exact absurd (by rw [h.1]; simp) h1
    | cons y A' =>
      simp at h
      obtain ⟨rfl, h⟩ := h
      obtain ⟨e1, e2⟩ := ih A' B B' h (fun hh => h1 (by simp [hh])) (fun hh => h2 (by simp [hh]))
      exact ⟨by rw [e1], e2⟩

/-- Where an order of the books stands in the list. -/
theorem Tq.find {q : Nat → UInt8 → Nat → List Ord} {R : Nat} {L : List Ord} (h : Tq q R L) {s : Nat} {d : UInt8} {p : Nat} {l1 l2 : List Ord} {f : Ord} (hq : q s d p = l1 ++ f :: l2) :
    ∃ A B, L = A ++ tok0 f :: B ∧ A.filter (inK s d p) = l1.map tok0 ∧ B.filter (inK s d p) = l2.map tok0 ∧ (∀ x ∈ A, isR f.ref x = false) ∧ (∀ x ∈ B, isR f.ref x = false) ∧ inK s d p (tok0 f) = true := by
  have hc := h.cls s d p
  rw [hq, List.map_append, List.map_cons] at hc
  have hm : tok0 f ∈ L.filter (inK s d p) := by rw [hc]; simp
  obtain ⟨hmL, hK⟩ := List.mem_filter.1 hm
  obtain ⟨A, B, rfl⟩ := List.append_of_mem hmL
  have hal : alive (tok0 f) = true := by
    have := (inK_iff _ _ _ _).1 hK
    simp [alive, this.1]
  have hu := h.uq
  rw [List.filter_append, List.filter_cons_of_pos hal, List.map_append, List.map_cons, List.nodup_append] at hu
  obtain ⟨u1, u2, u3⟩ := hu
  rw [List.nodup_cons] at u2
  have hA : ∀ x ∈ A, isR f.ref x = false := by
    intro x hx
    cases hr : isR f.ref x with
    | false => rfl
    | true =>
      rw [isR_iff] at hr
      have m1 : x.ref ∈ (A.filter alive).map (·.ref) := List.mem_map.2 ⟨x, List.mem_filter.2 ⟨hx, by simp [alive, hr.2]⟩, rfl⟩
      have := u3 _ m1 (tok0 f).ref (by simp)
      exact absurd hr.1 this
  have hB : ∀ x ∈ B, isR f.ref x = false := by
    intro x hx
    cases hr : isR f.ref x with
    | false => rfl
    | true =>
      rw [isR_iff] at hr
      have m1 : x.ref ∈ (B.filter alive).map (·.ref) := List.mem_map.2 ⟨x, List.mem_filter.2 ⟨hx, by simp [alive, hr.2]⟩, rfl⟩
      rw [hr.1] at m1
      exact absurd m1 u2.1
  have hnA : ∀ C : List Ord, (∀ x ∈ C, isR f.ref x = false) → tok0 f ∉ C.filter (inK s d p) := by
    intro C hC hx
    have := hC _ (List.mem_filter.1 hx).1
    have h2 := (inK_iff _ _ _ _).1 hK
    have : isR f.ref (tok0 f) = true := (isR_iff _ _).2 ⟨rfl, h2.1⟩
    simp_all
  rw [List.filter_append, List.filter_cons_of_pos hK] at hc
  have hn1 : tok0 f ∉ l1.map tok0 := by
    intro hx
    have hnd : ((l1.map tok0 ++ tok0 f :: l2.map tok0).map (·.ref)).Nodup := by
      rw [← hc]
      have hsub : (A.filter (inK s d p) ++ tok0 f :: B.filter (inK s d p)).Sublist (A.filter alive ++ tok0 f :: B.filter alive) := by
        have e : ∀ C : List Ord, (C.filter (inK s d p)).Sublist (C.filter alive) := fun C => by
          have : C.filter (inK s d p) = (C.filter alive).filter (inK s d p) := by
            rw [List.filter_filter]
            congr 1
            funext x
            unfold inK alive
            cases x.shares != 0 <;> simp
          rw [this]
          exact List.filter_sublist
        exact (e A).append ((e B).cons_cons _)
      refine (hsub.map (·.ref)).nodup ?_
      have := h.uq
      rwa [List.filter_append, List.filter_cons_of_pos hal] at this
    rw [List.map_append, List.map_cons, List.nodup_append] at hnd
    have := hnd.2.2 (tok0 f).ref (List.mem_map.2 ⟨tok0 f, hx, rfl⟩) (tok0 f).ref (by simp)
    exact this rfl
  obtain ⟨e1, e2⟩ := split_one _ _ _ _ _ hc (hnA A hA) hn1
  exact ⟨A, B, rfl, e1, e2, hA, hB, hK⟩

theorem ch_at {A B : List Ord} {o : Ord} {t : Nat} (f : Ord → Ord) (hA : ∀ x ∈ A, isR t x = false) (hB : ∀ x ∈ B, isR t x = false) (ho : isR t o = true) : chL t f (A ++ o :: B) = A ++ f o :: B := by
  have e : ∀ C : List Ord, (∀ x ∈ C, isR t x = false) → C.map (fun o => if isR t o then f o else o) = C := fun C hC => by
    conv => rhs; rw [← List.map_id C]
    refine List.map_congr_left (fun x hx => ?_)
    rw [hC x hx]
    rfl
  unfold chL
  rw [List.map_append, List.map_cons, e A hA, e B hB, if_pos ho]
theorem liv_at {A B : List Ord} {o : Ord} {t : Nat} (hA : ∀ x ∈ A, isR t x = false) (ho : isR t o = true) : liv (A ++ o :: B) t = some o := by
  unfold liv
  rw [List.find?_append, List.find?_eq_none.2 (fun x hx => by simp [hA x hx])]
  simp [ho]

/-- The books with another line. -/
def updq (q : Nat → UInt8 → Nat → List Ord) (s : Nat) (d : UInt8) (p : Nat) (l : List Ord) : Nat → UInt8 → Nat → List Ord := fun s' d' p' => if s' = s ∧ d' = d ∧ p' = p then l else q s' d' p'

/-- An order of a line is another one of the same reference, or gone. -/
theorem Tq.turn {q : Nat → UInt8 → Nat → List Ord} {R : Nat} {L : List Ord} (h : Tq q R L) {s : Nat} {d : UInt8} {p : Nat} {l1 l2 : List Ord} {f y : Ord} (hq : q s d p = l1 ++ f :: l2) (h1 : y.stock = s) (h2 : y.side = d) (h3 : y.price = p) (h4 : y.shares = 0 ∨ y.ref = f.ref ∨ R < y.ref) (g : Ord → Ord) (hg : g (tok0 f) = tok0 y) :
    liv L f.ref = some (tok0 f) ∧ Tq (updq q s d p (l1 ++ (liveO y ++ l2))) (max R y.ref) (chL f.ref g L) := by
  obtain ⟨A, B, rfl, eA, eB, hA, hB, hK⟩ := h.find hq
  have hK2 := (inK_iff _ _ _ _).1 hK
  have hR : isR f.ref (tok0 f) = true := (isR_iff _ _).2 ⟨rfl, hK2.1⟩
  refine ⟨liv_at hA hR, ?_⟩
  rw [ch_at g hA hB hR, hg]
  have hal : alive (tok0 f) = true := by simp [alive, hK2.1]
  refine ⟨?_, ?_, ?_⟩
  · intro s' d' p'
    unfold updq
    by_cases hc : s' = s ∧ d' = d ∧ p' = p
    · obtain ⟨rfl, rfl, rfl⟩ := hc
      rw [if_pos ⟨rfl, rfl, rfl⟩, List.filter_append, List.map_append, eA, List.map_append]
      congr 1
      by_cases h0 : y.shares = 0
      · rw [List.filter_cons_of_neg (by rw [inK_iff]; exact fun hh => hh.1 h0), eB, liveO, if_pos h0]
        rfl
      · rw [List.filter_cons_of_pos (by rw [inK_iff]; exact ⟨h0, h1, h2, h3⟩), eB, liveO, if_neg h0]
        rfl
    · rw [if_neg hc, ← h.cls s' d' p', List.filter_append, List.filter_append, List.filter_cons_of_neg (by rw [inK_iff]; rintro ⟨_, e1, e2, e3⟩; exact hc ⟨e1.symm.trans h1, e2.symm.trans h2, e3.symm.trans h3⟩),
        List.filter_cons_of_neg (by rw [inK_iff]; rintro ⟨_, e1, e2, e3⟩; exact hc ⟨e1.symm.trans hK2.2.1, e2.symm.trans hK2.2.2.1, e3.symm.trans hK2.2.2.2⟩)]
  · have hu := h.uq
    rw [List.filter_append, List.filter_cons_of_pos hal, List.map_append, List.map_cons, List.nodup_append] at hu
    obtain ⟨u1, u2, u3⟩ := hu
    rw [List.nodup_cons] at u2
    rw [List.filter_append]
    by_cases h0 : y.shares = 0
    · rw [List.filter_cons_of_neg (by simp [alive, tok0, h0]), List.map_append, List.nodup_append]
      exact ⟨u1, u2.2, fun a ha b hb => u3 a ha b (by simp [hb])⟩
    · rw [List.filter_cons_of_pos (by simp [alive, tok0, h0]), List.map_append, List.map_cons, List.nodup_append, List.nodup_cons]
      have hlow : ∀ C : List Ord, (∀ x ∈ C, x.ref ≤ R) → R < y.ref → y.ref ∉ (C.filter alive).map (·.ref) := by
        intro C hC hlt hx
        obtain ⟨x, hx, e⟩ := List.mem_map.1 hx
        have := hC x (List.mem_filter.1 hx).1
        omega
      have lA : ∀ x ∈ A, x.ref ≤ R := fun x hx => h.low x (by simp [hx])
      have lB : ∀ x ∈ B, x.ref ≤ R := fun x hx => h.low x (by simp [hx])
      rcases h4 with h4 | h4 | h4
      · exact absurd h4 h0
      · have e : (tok0 y).ref = (tok0 f).ref := h4
        rw [e]
        exact ⟨u1, u2, u3⟩
      · refine ⟨u1, ⟨hlow B lB h4, u2.2⟩, ?_⟩
        intro a ha b hb
        rcases List.mem_cons.1 hb with rfl | hb
        · intro e
          rw [e] at ha
          exact hlow A lA h4 ha
        · exact u3 a ha b (by simp [hb])
  · intro o ho
    rcases List.mem_append.1 ho with ho | ho
    · exact Nat.le_trans (h.low o (by simp [ho])) (Nat.le_max_left _ _)
    · rcases List.mem_cons.1 ho with rfl | ho
      · exact Nat.le_max_right _ _
      · exact Nat.le_trans (h.low o (by simp [ho])) (Nat.le_max_left _ _)

theorem Tq.fresh {q : Nat → UInt8 → Nat → List Ord} {R : Nat} {L : List Ord} (h : Tq q R L) {t : Nat} (ht : R < t) : leftL L t = 0 := by
  have : liv L t = none := by
    unfold liv
    rw [List.find?_eq_none]
    intro x hx hr
    have := h.low x hx
    rw [isR_iff] at hr
    omega
  unfold leftL
  rw [this]

theorem Tq.add {q : Nat → UInt8 → Nat → List Ord} {R : Nat} {L : List Ord} (h : Tq q R L) {o : Ord} (ho : R < o.ref) (h0 : o.shares ≠ 0) : Tq (updq q o.stock o.side o.price (q o.stock o.side o.price ++ [o])) o.ref (L ++ [tok0 o]) := by
  refine ⟨?_, ?_, ?_⟩
  · intro s' d' p'
    unfold updq
    rw [List.filter_append, h.cls]
    by_cases hc : s' = o.stock ∧ d' = o.side ∧ p' = o.price
    · obtain ⟨rfl, rfl, rfl⟩ := hc
      rw [if_pos ⟨rfl, rfl, rfl⟩, List.filter_cons_of_pos (by rw [inK_iff]; exact ⟨h0, rfl, rfl, rfl⟩), List.map_append]
      rfl
    · rw [if_neg hc, List.filter_cons_of_neg (by rw [inK_iff]; rintro ⟨_, e1, e2, e3⟩; exact hc ⟨e1.symm, e2.symm, e3.symm⟩)]
      simp
  · rw [List.filter_append, List.filter_cons_of_pos (by simp [alive, tok0, h0]), List.map_append, List.nodup_append]
    refine ⟨h.uq, by simp, ?_⟩
    intro a ha b hb e
    subst e
    simp at hb
    obtain ⟨x, hx, e⟩ := List.mem_map.1 ha
    have := h.low x (List.mem_filter.1 hx).1
    have e2 : (tok0 o).ref = o.ref := rfl
    omega
  · intro x hx
    rcases List.mem_append.1 hx with hx | hx
    · have := h.low x hx; omega
    · simp at hx
      rw [hx]
      exact Nat.le_refl _

theorem upd_updq (st : St) (s : Nat) (d : UInt8) (p : Nat) (f : List Ord → List Ord) : (st.upd s d p f).q = updq st.q s d p (f (st.q s d p)) := rfl

end Go.Proofs.Ytphkchjejbffeaa
