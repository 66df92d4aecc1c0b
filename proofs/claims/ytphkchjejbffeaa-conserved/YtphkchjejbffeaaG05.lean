/- What goes back is a true account of what rests: the document's semantics. -/
import Derived.Test.YtphkchjejbffeaaG04
import Derived.Deep.MidRow
import Derived.Deep.CutBlock
import Derived.Deep.DeepCutAuto
namespace Go.Proofs.Ytphkchjejbffeaa

structure Led (st : St) (l : List Hl) : Prop where
  live : Live st.all l
  used : ∀ h ∈ l, h.token ∈ st.used

/-- What a step tells, and what it makes of the list. -/
def Tells (st st' : St) (ords : List Ord) (l : List Hl) : Prop := ∃ bs l', st'.ans = st.ans ++ bs ∧ Reads bs l l' ∧ Live ords l' ∧ l'.map (·.token) = l.map (·.token)

theorem t6 (st : St) : (enc st.time 6).length = 6 := enc_length _ _

theorem all_execute {st : St} (hi : Inv st) {o f : Ord} (h : st.meets o = some f) (n : Nat) :
    ∃ A B, st.all = A ++ f :: B ∧ (st.execute o f n).all = A ++ (liveO { f with shares := f.shares - n } ++ B) := by
  obtain ⟨t, ht, hv, -⟩ := meets_at hi h
  obtain ⟨A, B, e1, e2⟩ := all_upd (s := f.stock) (d := f.side) (p := f.price) (h := hv) (st := (((({ st with mats := (st.mats + 1) % 4294967296 } : St).say (({ st with mats := (st.mats + 1) % 4294967296 } : St).fill f.token n f.price ((st.mats + 1) % 4294967296))).say (({ st with mats := (st.mats + 1) % 4294967296 } : St).fill o.token n f.price ((st.mats + 1) % 4294967296))).put
      (st.head 101 ++ enc f.ref 4 ++ enc n 2 ++ enc ((st.mats + 1) % 4294967296) 4)))
  have e2 := e2 (redO f.token n)
  have ha : st.all = A ++ st.q f.stock f.side f.price ++ B := e1
  have hb : (st.execute o f n).all = A ++ redO f.token n (st.q f.stock f.side f.price) ++ B := e2
  refine ⟨A, t ++ B, by rw [ha, ht]; simp, ?_⟩
  rw [hb, ht]
  simp only [redO, if_pos, liveO]
  by_cases hs : f.shares ≤ n
  · rw [if_pos hs, if_pos (by omega)]; simp
  · rw [if_neg hs, if_neg (by omega)]; simp

theorem live_meet (k : Nat) : ∀ (st : St) (o : Ord) (l : List Hl), Inv st → (o.side = 66 ∨ o.side = 83) → o.token < 4294967296 → o.shares ≤ 9999 → Live (liveO o ++ st.all) l →
    Tells st (st.meet k o).1 (liveO (st.meet k o).2 ++ (st.meet k o).1.all) l := by
  induction k with
  | zero => intro st o l _ _ _ _ hl; exact ⟨[], l, by simp [St.meet], .nil l, hl, rfl⟩
  | succ k ih =>
    intro st o l hi hsd htk hsh hl
    by_cases h0 : o.shares = 0
    · have e : st.meet (k + 1) o = (st, o) := by unfold St.meet; rw [if_pos h0]
      rw [e]
      exact ⟨[], l, by simp, .nil l, hl, rfl⟩
    · cases hm : st.meets o with
      | none =>
        have e : st.meet (k + 1) o = (st, o) := by unfold St.meet; rw [if_neg h0, hm]
        rw [e]
        exact ⟨[], l, by simp, .nil l, hl, rfl⟩
      | some f =>
        obtain ⟨A, B, ea, eb⟩ := all_execute hi hm (min o.shares f.shares)
        obtain ⟨t, ht, hv, hf1, hf2, hf3, hf4⟩ := meets_at hi hm
        have hfo := hi.ord _ _ _ f (by rw [ht]; simp)
        have e : st.meet (k + 1) o = (st.execute o f (min o.shares f.shares)).meet k { o with shares := o.shares - min o.shares f.shares } := by
          show (if o.shares = 0 then (st, o) else _) = _
          rw [if_neg h0, hm]
        have hn1 : 1 ≤ min o.shares f.shares := by omega
        have hn2 : min o.shares f.shares ≤ o.shares := Nat.min_le_left _ _
        have hn3 : min o.shares f.shares ≤ f.shares := Nat.min_le_right _ _
        have hn4 : min o.shares f.shares < 65536 := by omega
        generalize min o.shares f.shares = n at *
        have p1 : (liveO o ++ st.all).Perm (f :: (o :: (A ++ B))) := by
          rw [ea, liveO, if_neg h0]
          refine (List.Perm.cons o ?_).trans (List.Perm.swap f o _)
          exact List.perm_middle
        have hl1 := hl.perm p1
        have hl2 := hl1.less n hn3
        have p2 : (liveO { f with shares := f.shares - n } ++ (o :: (A ++ B))).Perm (o :: (liveO { f with shares := f.shares - n } ++ (A ++ B))) := List.perm_middle
        have hl3 := (hl2.perm p2).less n hn2
        have p3 : (liveO { o with shares := o.shares - n } ++ (liveO { f with shares := f.shares - n } ++ (A ++ B))).Perm (liveO { o with shares := o.shares - n } ++ (st.execute o f n).all) := by
          rw [eb]
          refine List.Perm.append_left _ ?_
          rw [← List.append_assoc, ← List.append_assoc]
          exact List.Perm.append_right _ List.perm_append_comm
        have hl4 := hl3.perm p3
        obtain ⟨-, y, hy, hyf⟩ := hl1.have_ f (by simp)
        obtain ⟨-, z, hz, hzf⟩ := hl1.have_ o (by simp)
        have hne : f.token ≠ o.token := by
          have := hl1.ndo
          simp only [List.map_cons, List.nodup_cons, List.mem_cons, not_or] at this
          exact this.1.1
        have hside : f.side ≠ o.side := by
          rw [hf2]
          rcases hsd with h | h <;> rw [h] <;> decide
        have hstep : RdStep ((st.head 70 ++ enc f.token 4 ++ enc n 2 ++ enc f.price 2 ++ enc ((st.mats + 1) % 4294967296) 4) ++ (st.head 70 ++ enc o.token 4 ++ enc n 2 ++ enc f.price 2 ++ enc ((st.mats + 1) % 4294967296) 4)) l (lessAt o.token n (lessAt f.token n l)) :=
          .fil (enc st.time 6) f.token o.token n f.price ((st.mats + 1) % 4294967296) l y z (t6 st) hfo.token htk hn4 hn1 hy hyf.1 hz hzf.1 hne (by rw [hyf.2.2.1, hzf.2.2.1]; exact hside) (by rw [hyf.2.1]; exact hn3) (by rw [hzf.2.1]; exact hn2)
        obtain ⟨bs, l', r1, r2, r3, r4⟩ := ih (st.execute o f n) { o with shares := o.shares - n } _ (execute_ok hi hm n).1 hsd htk (by show o.shares - n ≤ 9999; omega) hl4
        rw [e]
        refine ⟨_, l', ?_, (Reads.one hstep).app r2, r3, by rw [r4, less_tokens, less_tokens]⟩
        rw [r1]
        have : (st.execute o f n).ans = st.ans ++ ((st.head 70 ++ enc f.token 4 ++ enc n 2 ++ enc f.price 2 ++ enc ((st.mats + 1) % 4294967296) 4) ++ (st.head 70 ++ enc o.token 4 ++ enc n 2 ++ enc f.price 2 ++ enc ((st.mats + 1) % 4294967296) 4)) := by
          show (st.ans ++ _) ++ _ = _
          rw [List.append_assoc]
          rfl
        rw [this, List.append_assoc]

theorem perm_rest {st : St} (o : Ord) (hv : Valid st o.stock o.side o.price) : (o :: st.all).Perm (st.rest o).all := by
  obtain ⟨A, B, e1, e2⟩ := all_upd st o.stock o.side o.price hv
  have e3 : (st.rest o).all = A ++ (st.q o.stock o.side o.price ++ [o]) ++ B := e2 (· ++ [o])
  rw [e1, e3]
  have : A ++ (st.q o.stock o.side o.price ++ [o]) ++ B = (A ++ st.q o.stock o.side o.price) ++ o :: B := by simp
  rw [this]
  exact List.perm_middle.symm

theorem meet_valid (k : Nat) : ∀ (st : St) (o : Ord), (st.meet k o).1.stocks = st.stocks ∧ (st.meet k o).1.levels = st.levels ∧ (st.meet k o).1.used = st.used ∧ (st.meet k o).2.stock = o.stock ∧ (st.meet k o).2.side = o.side ∧ (st.meet k o).2.price = o.price ∧ (st.meet k o).2.token = o.token ∧ (st.meet k o).2.shares ≤ o.shares := by
  induction k with
  | zero => intro st o; exact ⟨rfl, rfl, rfl, rfl, rfl, rfl, rfl, Nat.le_refl _⟩
  | succ k ih =>
    intro st o
    unfold St.meet
    split
    · exact ⟨rfl, rfl, rfl, rfl, rfl, rfl, rfl, Nat.le_refl _⟩
    · split
      · exact ⟨rfl, rfl, rfl, rfl, rfl, rfl, rfl, Nat.le_refl _⟩
      · rename_i f _
        obtain ⟨a, b, c, d, e, g, i, j⟩ := ih (st.execute o f (min o.shares f.shares)) { o with shares := o.shares - min o.shares f.shares }
        exact ⟨a, b, c, d, e, g, i, Nat.le_trans j (Nat.sub_le _ _)⟩

/-- A step from one true account to another. -/
def Steps (st st' : St) (l : List Hl) : Prop := ∃ bs l', st'.ans = st.ans ++ bs ∧ Reads bs l l' ∧ Led st' l'

theorem Led.same {st : St} {l : List Hl} (h : Led st l) : Steps st st l := ⟨[], l, by simp, .nil l, h⟩
theorem Led.reject {st : St} {l : List Hl} (h : Led st l) (t : Nat) (r : UInt8) (ht : t < 4294967296) : Steps st (st.reject t r) l :=
  ⟨_, l, rfl, .one (.rej (enc st.time 6) t r l (t6 st) ht), ⟨h.live, h.used⟩⟩

theorem whyE_none {st : St} {t : Nat} {side : UInt8} {stock price shares : Nat} {kind : UInt8} (h : st.why t side stock price shares kind = none) :
    t ∉ st.used ∧ (side = 66 ∨ side = 83) ∧ stock < st.stocks ∧ 1 ≤ price ∧ price ≤ st.levels ∧ 1 ≤ shares ∧ shares ≤ 9999 := by
  unfold St.why at h
  split at h
  · cases h
  · split at h
    · cases h
    · split at h
      · cases h
      · split at h
        · cases h
        · split at h
          · cases h
          · rename_i a b c d e
            refine ⟨a, ?_, by omega, by omega, by omega, by omega, by omega⟩
            by_cases h1 : side = 66
            · exact .inl h1
            · by_cases h2 : side = 83
              · exact .inr h2
              · exact absurd ⟨h1, h2⟩ b

theorem led_enter {st : St} {l : List Hl} (hi : Inv st) (h : Led st l) (t : Nat) (side : UInt8) (stock price shares : Nat) (kind : UInt8) (ht : t < 4294967296) (_hst : stock < 256) : Steps st (st.enter t side stock price shares kind) l := by
  unfold St.enter
  cases hw : st.why t side stock price shares kind with
  | some r => exact h.reject t r ht
  | none =>
    obtain ⟨w1, w2, w3, w4, w5, w6, w7⟩ := whyE_none hw
    simp only
    generalize ho : ({ ref := (st.refs + 1) % 4294967296, token := t, side, stock, price, shares } : Ord) = o
    have o1 : o.token = t := by rw [← ho]
    have o2 : o.side = side := by rw [← ho]
    have o3 : o.stock = stock := by rw [← ho]
    have o4 : o.price = price := by rw [← ho]
    have o5 : o.shares = shares := by rw [← ho]
    have o6 : o.ref < 4294967296 := by rw [← ho]; exact Nat.mod_lt _ (by decide)
    have hacc : Inv (st.accept o kind) := hi.of_q (st' := st.accept o kind) rfl rfl rfl rfl (fun t ht => List.mem_cons_of_mem _ ht) o6 hi.mats hi.time
    have hnew : ∀ y ∈ l, y.token ≠ o.token := fun y hy e => w1 (by have := h.used y hy; rw [e, o1] at this; exact this)
    have hl1 : Live (liveO o ++ (st.accept o kind).all) (l ++ [⟨o.token, o.shares, o.side, false⟩]) := by
      have := h.live.add hnew (by omega)
      rw [liveO, if_neg (by omega)]
      exact this
    have hs1 : RdStep (st.head 65 ++ enc o.token 4 ++ [o.side, UInt8.ofNat o.stock] ++ enc o.price 2 ++ enc o.shares 2 ++ [kind] ++ enc o.ref 4) l (l ++ [⟨o.token, o.shares, o.side, false⟩]) :=
      .acc (enc st.time 6) o.token o.side (UInt8.ofNat o.stock) o.price o.shares kind o.ref l (t6 st) (by omega) (by omega) hnew
    obtain ⟨bs, l', r1, r2, r3, r4⟩ := live_meet 65 (st.accept o kind) o _ hacc (by rw [o2]; exact w2) (by omega) (by omega) hl1
    obtain ⟨v1, v2, v3, v4, v5, v6, v7, v8⟩ := meet_valid 65 (st.accept o kind) o
    generalize (st.accept o kind).meet 65 o = x at *
    have hus : ∀ y ∈ l', y.token ∈ x.1.used := by
      intro y hy
      have : y.token ∈ l'.map (·.token) := List.mem_map.2 ⟨y, hy, rfl⟩
      rw [r4, List.map_append, List.mem_append] at this
      rw [v3]
      rcases this with h' | h'
      · obtain ⟨z, hz, e⟩ := List.mem_map.1 h'
        rw [← e]
        exact List.mem_cons_of_mem _ (h.used z hz)
      · simp at h'
        rw [h']
        exact List.mem_cons_self
    have ha : x.1.ans = st.ans ++ ((st.head 65 ++ enc o.token 4 ++ [o.side, UInt8.ofNat o.stock] ++ enc o.price 2 ++ enc o.shares 2 ++ [kind] ++ enc o.ref 4) ++ bs) := by
      rw [r1, ← List.append_assoc]
      rfl
    by_cases h0 : x.2.shares = 0
    · rw [if_pos h0]
      rw [liveO, if_pos h0, List.nil_append] at r3
      exact ⟨_, l', ha, (Reads.one hs1).app r2, ⟨r3, hus⟩⟩
    · rw [if_neg h0]
      rw [liveO, if_neg h0] at r3
      by_cases hk : kind = 68
      · rw [if_pos hk]
        have hv : Valid x.1 x.2.stock x.2.side x.2.price := by
          rw [v4, v5, v6, o2, o3, o4]
          unfold Valid
          rw [v1, v2]
          exact ⟨w3, w2, w4, w5⟩
        exact ⟨_, l', ha, (Reads.one hs1).app r2, ⟨r3.perm (perm_rest x.2 hv), hus⟩⟩
      · rw [if_neg hk]
        obtain ⟨-, y, hy, hyf⟩ := r3.have_ x.2 (by simp)
        have hx2 : x.2.token = t := by rw [v7, o1]
        have hs2 : RdStep (x.1.head 88 ++ enc t 4 ++ enc x.2.shares 2 ++ [73]) l' (lessAt t x.2.shares l') :=
          .can (enc x.1.time 6) t x.2.shares 73 l' y (t6 _) ht (by omega) hy (by rw [hyf.1, hx2]) (by rw [hyf.2.1]; exact Nat.le_refl _)
        have hl2 := Live.less (f := x.2) (R := x.1.all) r3 x.2.shares (Nat.le_refl _)
        rw [Nat.sub_self, liveO, if_pos rfl, List.nil_append, hx2] at hl2
        refine ⟨_, _, ?_, ((Reads.one hs1).app r2).app (Reads.one hs2), ⟨hl2, ?_⟩⟩
        · show x.1.ans ++ _ = _
          rw [ha, List.append_assoc]
        · intro z hz
          obtain ⟨a, ha', e⟩ := mem_less.1 hz
          have := hus a ha'
          rw [e]
          split <;> exact this

theorem red_at (t n : Nat) (l : List Ord) (h : ∃ x ∈ l, x.token = t) (hn : (l.map (·.token)).Nodup) : ∀ o ∈ l, o.token = t → ∃ l1 l2, l = l1 ++ o :: l2 ∧ redO t n l = l1 ++ (liveO { o with shares := o.shares - n } ++ l2) ∧ delO t l = l1 ++ l2 ∧ ∀ y, subO t y l = l1 ++ y :: l2 := by
  induction l with
  | nil => intro o ho; cases ho
  | cons x l ih =>
    intro o ho hot
    rw [List.map_cons, List.nodup_cons] at hn
    by_cases hx : x.token = t
    · have : o = x := by
        rcases List.mem_cons.1 ho with rfl | ho
        · rfl
        · exact absurd (List.mem_map.2 ⟨o, ho, by rw [hot, hx]⟩) hn.1
      subst this
      refine ⟨[], l, rfl, ?_, ?_, ?_⟩
      · simp only [redO, if_pos hx, liveO]
        by_cases hs : o.shares ≤ n
        · rw [if_pos hs, if_pos (by omega)]; rfl
        · rw [if_neg hs, if_neg (by omega)]; rfl
      · simp only [delO, if_pos hx]; rfl
      · intro y; simp only [subO, if_pos hx]; rfl
    · have ho' : o ∈ l := by
        rcases List.mem_cons.1 ho with rfl | ho
        · exact absurd hot hx
        · exact ho
      obtain ⟨l1, l2, e1, e2, e3, e4⟩ := ih ⟨o, ho', hot⟩ hn.2 o ho' hot
      refine ⟨x :: l1, l2, by rw [e1]; rfl, ?_, ?_, ?_⟩
      · simp only [redO, if_neg hx, e2]; rfl
      · simp only [delO, if_neg hx, e3]; rfl
      · intro y; simp only [subO, if_neg hx, e4]; rfl

theorem q_nodup {st : St} (hi : Inv st) {s : Nat} {d : UInt8} {p : Nat} (hv : Valid st s d p) : ((st.q s d p).map (·.token)).Nodup := by
  obtain ⟨A, B, e1, -⟩ := all_upd st s d p hv
  have := hi.nodup
  rw [e1] at this
  simp only [List.map_append] at this
  rw [List.nodup_append] at this
  have := this.1
  rw [List.nodup_append] at this
  exact this.2.1

theorem led_cancel {st : St} {l : List Hl} (hi : Inv st) (h : Led st l) (t n : Nat) : Steps st (st.cancel t n) l := by
  unfold St.cancel
  cases hf : st.find t with
  | none => exact h.same
  | some o =>
    simp only
    by_cases hs : o.shares ≤ n
    · rw [if_pos hs]; exact h.same
    · rw [if_neg hs]
      obtain ⟨f1, f2, f3, f4, f5⟩ := find_at hi hf
      obtain ⟨A, B, e1, e2⟩ := all_upd st o.stock o.side o.price f3
      obtain ⟨l1, l2, k1, k2, -, -⟩ := red_at t (o.shares - n) (st.q o.stock o.side o.price) ⟨o, f4, f2⟩ (q_nodup hi f3) o f4 f2
      have p1 : st.all.Perm (o :: (A ++ l1 ++ l2 ++ B)) := by
        rw [e1, k1]
        have : A ++ (l1 ++ o :: l2) ++ B = (A ++ l1) ++ o :: (l2 ++ B) := by simp
        rw [this]
        refine List.perm_middle.trans (List.Perm.cons o ?_)
        simp
      have hl1 := (h.live.perm p1).less (o.shares - n) (Nat.sub_le _ _)
      obtain ⟨-, y, hy, hyf⟩ := (h.live.perm p1).have_ o (by simp)
      have ht32 : t < 4294967296 := by rw [← f2]; exact f5.token
      have hsh := f5.most
      have hs1 : RdStep (st.head 88 ++ enc t 4 ++ enc (o.shares - n) 2 ++ [85]) l (lessAt t (o.shares - n) l) :=
        .can (enc st.time 6) t (o.shares - n) 85 l y (t6 st) ht32 (by omega) hy (by rw [hyf.1, f2]) (by rw [hyf.2.1]; omega)
      have hall : ∀ st' : St, st'.q = (st.upd o.stock o.side o.price (redO t (o.shares - n))).q → st'.stocks = st.stocks → st'.levels = st.levels → (liveO { o with shares := o.shares - (o.shares - n) } ++ (A ++ l1 ++ l2 ++ B)).Perm st'.all := by
        intro st' q1 q2 q3
        have e3 : st'.all = (st.upd o.stock o.side o.price (redO t (o.shares - n))).all := by
          unfold St.all
          rw [q2]
          show (List.range st.stocks).flatMap st'.book = (List.range st.stocks).flatMap (st.upd o.stock o.side o.price (redO t (o.shares - n))).book
          congr 1
          funext s
          simp only [St.book, St.bids, St.asks, q1, q3]
          rfl
        rw [e3, e2, k2]
        have : A ++ (l1 ++ (liveO { o with shares := o.shares - (o.shares - n) } ++ l2)) ++ B = (A ++ l1) ++ (liveO { o with shares := o.shares - (o.shares - n) } ++ (l2 ++ B)) := by simp
        rw [this, ← List.append_assoc (A ++ l1)]
        have : liveO { o with shares := o.shares - (o.shares - n) } ++ (A ++ l1 ++ l2 ++ B) = (liveO { o with shares := o.shares - (o.shares - n) } ++ (A ++ l1)) ++ (l2 ++ B) := by simp
        rw [this]
        exact List.Perm.append_right _ List.perm_append_comm
      have hl2 := fun st' q1 q2 q3 => hl1.perm (hall st' q1 q2 q3)
      rw [f2] at hl2
      have hus : ∀ z ∈ lessAt t (o.shares - n) l, z.token ∈ st.used := by
        intro z hz
        obtain ⟨a, ha', e⟩ := mem_less.1 hz
        have := h.used a ha'
        rw [e]
        split <;> exact this
      by_cases hn0 : n = 0
      · rw [if_pos hn0]
        exact ⟨_, _, rfl, .one hs1, ⟨hl2 _ rfl rfl rfl, hus⟩⟩
      · rw [if_neg hn0]
        exact ⟨_, _, rfl, .one hs1, ⟨hl2 _ rfl rfl rfl, hus⟩⟩

theorem whyE_noneR {st : St} {t price shares : Nat} (h : st.whyR t price shares = none) : t ∉ st.used ∧ 1 ≤ price ∧ price ≤ st.levels ∧ 1 ≤ shares ∧ shares ≤ 9999 := by
  unfold St.whyR at h
  split at h
  · cases h
  · split at h
    · cases h
    · split at h
      · cases h
      · rename_i a b c
        exact ⟨a, by omega, by omega, by omega, by omega⟩

theorem all_of_q {a b : St} (h1 : b.q = a.q) (h2 : b.stocks = a.stocks) (h3 : b.levels = a.levels) : b.all = a.all := by
  unfold St.all
  rw [h2]
  congr 1
  funext s
  simp only [St.book, St.bids, St.asks, h1, h3]

theorem led_replace {st : St} {l : List Hl} (hi : Inv st) (h : Led st l) (t n price shares : Nat) (hn32 : n < 4294967296) : Steps st (st.replace t n price shares) l := by
  unfold St.replace
  cases hf : st.find t with
  | none => exact h.same
  | some o =>
    simp only
    cases hw : st.whyR n price shares with
    | some r => exact h.reject n r hn32
    | none =>
      obtain ⟨w1, w4, w5, w6, w7⟩ := whyE_noneR hw
      simp only
      obtain ⟨f1, f2, f3, f4, f5⟩ := find_at hi hf
      obtain ⟨A, B, e1, e2⟩ := all_upd st o.stock o.side o.price f3
      obtain ⟨l1, l2, k1, -, k3, k4⟩ := red_at t 0 (st.q o.stock o.side o.price) ⟨o, f4, f2⟩ (q_nodup hi f3) o f4 f2
      have p1 : st.all.Perm (o :: (A ++ l1 ++ l2 ++ B)) := by
        rw [e1, k1]
        have : A ++ (l1 ++ o :: l2) ++ B = (A ++ l1) ++ o :: (l2 ++ B) := by simp
        rw [this]
        refine List.perm_middle.trans (List.Perm.cons o ?_)
        simp
      have hR : (st.refs + 1) % 4294967296 < 4294967296 := Nat.mod_lt _ (by decide)
      generalize (st.refs + 1) % 4294967296 = R at *
      generalize hy : ({ o with ref := R, token := n, price, shares } : Ord) = y
      have y1 : y.token = n := by rw [← hy]
      have y2 : y.side = o.side := by rw [← hy]
      have y3 : y.stock = o.stock := by rw [← hy]
      have y4 : y.price = price := by rw [← hy]
      have y5 : y.shares = shares := by rw [← hy]
      have y6 : R < 4294967296 := hR
      have ht32 : t < 4294967296 := by rw [← f2]; exact f5.token
      have hlv := h.live.perm p1
      obtain ⟨z1, z, hz, hzf⟩ := hlv.have_ o (by simp)
      have hnew : ∀ x ∈ l, x.token ≠ y.token := fun x hx e => w1 (by have := h.used x hx; rw [e, y1] at this; exact this)
      have hl1 := hlv.swap (new := y) hnew (by omega)
      rw [f2] at hl1
      have hs1 : RdStep (st.head 85 ++ enc n 4 ++ enc price 2 ++ enc shares 2 ++ enc R 4 ++ enc t 4) l (doneAt t l ++ [⟨n, shares, z.side, false⟩]) :=
        .rep (enc st.time 6) n t price shares R l z (t6 st) hn32 (by omega) (by rw [y1] at hnew; exact hnew) hz (by rw [hzf.1, f2]) (by rw [hzf.2.1]; exact z1) hzf.2.2.2 ht32
      have hse : (⟨y.token, y.shares, y.side, false⟩ : Hl) = ⟨n, shares, z.side, false⟩ := by rw [y1, y5, y2, hzf.2.2.1]
      rw [hse] at hl1
      have hus : ∀ x ∈ doneAt t l ++ [⟨n, shares, z.side, false⟩], x.token ∈ n :: st.used := by
        intro x hx
        rcases List.mem_append.1 hx with hx | hx
        · obtain ⟨a, ha', e⟩ := mem_done.1 hx
          have := h.used a ha'
          rw [e]
          split <;> exact List.mem_cons_of_mem _ this
        · simp at hx
          rw [hx]
          exact List.mem_cons_self
      generalize hst1 : (({ st with refs := R, used := n :: st.used } : St).say (st.head 85 ++ enc n 4 ++ enc price 2 ++ enc shares 2 ++ enc R 4 ++ enc t 4)) = st1
      have a1 : st1.ans = st.ans ++ (st.head 85 ++ enc n 4 ++ enc price 2 ++ enc shares 2 ++ enc R 4 ++ enc t 4) := by rw [← hst1]; rfl
      have a2 : st1.q = st.q := by rw [← hst1]; rfl
      have a3 : st1.stocks = st.stocks := by rw [← hst1]; rfl
      have a4 : st1.levels = st.levels := by rw [← hst1]; rfl
      have a5 : st1.used = n :: st.used := by rw [← hst1]; rfl
      have a6 : Inv st1 := by rw [← hst1]; exact (hi.of_q (st' := { st with refs := R, used := n :: st.used }) rfl rfl rfl rfl (fun t ht => List.mem_cons_of_mem _ ht) y6 hi.mats hi.time).say _
      clear hst1
      have hsub : ∀ (d : UInt8) (p : Nat) (st' : St), st'.q = (st1.upd o.stock o.side o.price (subO t y)).q → st'.stocks = st.stocks → st'.levels = st.levels → (y :: (A ++ l1 ++ l2 ++ B)).Perm st'.all := by
        intro _ _ st' q1 q2 q3
        rw [all_of_q (a := st.upd o.stock o.side o.price (subO t y)) (by rw [q1]; funext s d p; simp only [St.upd, a2]) q2 q3, e2, k4]
        have : A ++ (l1 ++ y :: l2) ++ B = (A ++ l1) ++ y :: (l2 ++ B) := by simp
        rw [this]
        refine List.Perm.trans ?_ List.perm_middle.symm
        simp
      have hdel : ∀ st' : St, st'.q = (st1.upd o.stock o.side o.price (delO t)).q → st'.stocks = st.stocks → st'.levels = st.levels → (A ++ l1 ++ l2 ++ B).Perm st'.all := by
        intro st' q1 q2 q3
        rw [all_of_q (a := st.upd o.stock o.side o.price (delO t)) (by rw [q1]; funext s d p; simp only [St.upd, a2]) q2 q3, e2, k3]
        simp
      cases hm : st1.meets y with
      | none =>
        by_cases hc : price = o.price ∧ shares ≤ o.shares
        · simp only [if_pos hc]
          exact ⟨_, _, a1, .one hs1, ⟨hl1.perm (hsub 0 0 _ rfl a3 a4), by intro x hx; show x.token ∈ st1.used; rw [a5]; exact hus x hx⟩⟩
        · simp only [if_neg hc]
          refine ⟨_, _, a1, .one hs1, ⟨hl1.perm ?_, by intro x hx; show x.token ∈ st1.used; rw [a5]; exact hus x hx⟩⟩
          have hv : Valid ((st1.put (st1.head 117 ++ enc o.ref 4 ++ enc R 4 ++ enc shares 2 ++ enc price 2)).upd o.stock o.side o.price (delO t)) y.stock y.side y.price := by
            unfold Valid
            rw [y3, y2, y4]
            refine ⟨?_, f3.2.1, w4, ?_⟩
            · show o.stock < st1.stocks; rw [a3]; exact f3.1
            · show price ≤ st1.levels; rw [a4]; exact w5
          have hr := perm_rest y hv
          have hd := hdel ((st1.put (st1.head 117 ++ enc o.ref 4 ++ enc R 4 ++ enc shares 2 ++ enc price 2)).upd o.stock o.side o.price (delO t)) rfl a3 a4
          refine (List.Perm.cons y hd).trans (hr.trans ?_)
          have e : ∀ S : St, (S.rest y).all = (S.upd y.stock y.side y.price (· ++ [y])).all := fun S => rfl
          rw [e, y3, y2, y4]
      | some f =>
        generalize hst2 : (st1.put (st1.head 100 ++ enc o.ref 4)).upd o.stock o.side o.price (delO t) = st2
        have b1 : st2.ans = st1.ans := by rw [← hst2]; rfl
        have b5 : st2.used = n :: st.used := by rw [← hst2]; exact a5
        have b3 : st2.stocks = st.stocks := by rw [← hst2]; exact a3
        have b4 : st2.levels = st.levels := by rw [← hst2]; exact a4
        have b6 : Inv st2 := by rw [← hst2]; exact (a6.put _).del _ _ _ _ (by unfold Valid; exact ⟨by show _ < st1.stocks; rw [a3]; exact f3.1, f3.2.1, f3.2.2.1, by show _ ≤ st1.levels; rw [a4]; exact f3.2.2.2⟩)
        have b7 : (A ++ l1 ++ l2 ++ B).Perm st2.all := hdel st2 (by rw [← hst2]; rfl) b3 b4
        clear hst2
        have hl2 : Live (liveO y ++ st2.all) (doneAt t l ++ [⟨n, shares, z.side, false⟩]) := by
          rw [liveO, if_neg (by omega)]
          exact hl1.perm (List.Perm.cons y b7)
        obtain ⟨bs, l', r1, r2, r3, r4⟩ := live_meet 65 st2 y _ b6 (by rw [y2]; exact f3.2.1) (by omega) (by omega) hl2
        obtain ⟨v1, v2, v3, v4, v5, v6, v7, v8⟩ := meet_valid 65 st2 y
        generalize st2.meet 65 y = x at *
        have hus2 : ∀ w ∈ l', w.token ∈ x.1.used := by
          intro w hw
          have : w.token ∈ l'.map (·.token) := List.mem_map.2 ⟨w, hw, rfl⟩
          rw [r4] at this
          obtain ⟨u, hu, e⟩ := List.mem_map.1 this
          rw [v3, b5, ← e]
          exact hus u hu
        have ha : x.1.ans = st.ans ++ ((st.head 85 ++ enc n 4 ++ enc price 2 ++ enc shares 2 ++ enc R 4 ++ enc t 4) ++ bs) := by
          rw [r1, b1, a1, List.append_assoc]
        by_cases h0 : x.2.shares = 0
        · rw [if_pos h0]
          rw [liveO, if_pos h0, List.nil_append] at r3
          exact ⟨_, l', ha, (Reads.one hs1).app r2, ⟨r3, hus2⟩⟩
        · rw [if_neg h0]
          rw [liveO, if_neg h0] at r3
          have hv : Valid x.1 x.2.stock x.2.side x.2.price := by
            rw [v4, v5, v6, y2, y3, y4]
            unfold Valid
            rw [v1, v2, b3, b4]
            exact ⟨f3.1, f3.2.1, w4, w5⟩
          exact ⟨_, l', ha, (Reads.one hs1).app r2, ⟨r3.perm (perm_rest x.2 hv), hus2⟩⟩

theorem led_does {st : St} {l : List Hl} (hi : Inv st) (h : Led st l) (a : Act) : Steps st (st.does a) l := by
  have p40 := pick_lt a.token 40 (by decide)
  have q40 := pick_lt a.other 40 (by decide)
  have s4 := pick_lt a.stock 4 (by decide)
  unfold St.does
  split
  · exact led_enter hi h _ _ _ _ _ _ (by omega) (by omega)
  · split
    · exact led_cancel hi h _ _
    · exact led_replace hi h _ _ _ _ (by omega)

theorem led_acts {p : Nat} (acts : List Act) : ∀ {n : Nat} {x : Run} {l : List Hl}, Good p n x → Reads x.out [] l → Led x.st l → ∃ l', Reads (x.acts acts).out [] l' ∧ Led (x.acts acts).st l' := by
  induction acts with
  | nil => intro n x l _ h1 h2; exact ⟨l, h1, h2⟩
  | cons a acts ih =>
    intro n x l hg h1 h2
    have key : ∃ l1, Reads (x.act a).out [] l1 ∧ Led (x.act a).st l1 := by
      unfold Run.act
      split
      · exact ⟨l, h1, ⟨h2.live, h2.used⟩⟩
      · rw [feed_message x.st a hg.opn hg.part]
        obtain ⟨bs, l', r1, r2, r3⟩ := led_does hg.inv h2 a
        rw [hg.ans, List.nil_append] at r1
        refine ⟨l', ?_, ⟨r3.live, r3.used⟩⟩
        show Reads (x.out ++ (x.st.does a).ans) [] l'
        rw [r1]
        exact h1.app r2
    obtain ⟨l1, k1, k2⟩ := key
    exact ih (hg.act a) k1 k2

theorem resting_open (p : Nat) (h1 : 1 ≤ p) (h2 : p ≤ 64) : (openSt p).all = [] := by
  have h : (st2 p).resting = 0 := (open_ok p h1 h2).2.1
  have e : ∀ st : St, st.told.taped.all = st.all := fun st => rfl
  unfold openSt
  rw [e]
  exact List.length_eq_zero_iff.1 h

theorem led_started (pool : Int) : Led (started pool).st [] := by
  have := pick_lt pool 64 (by decide)
  have ha : (started pool).st.all = [] := resting_open (1 + pick pool 64) (by omega) (by omega)
  refine ⟨?_, fun h hh => by cases hh⟩
  rw [ha]
  exact ⟨List.nodup_nil, List.nodup_nil, fun x hx => (by cases hx), fun x hx => (by cases hx)⟩

end Go.Proofs.Ytphkchjejbffeaa

/- The walks of boursekeep's held and both. -/
namespace Go.Proofs.Ytphkchjejbffeaa
open Go.RowKit
attribute [local go_sem ↓] Go.wp_at_zero Go.wp_at_succ

/-- An entry's cells. -/
def Hl.cells (h : Hl) : List Value := [.int .i64 h.token, .int .i64 h.left, .int .u8 h.side.toNat, .bool h.over]
theorem Hl.cells_len (h : Hl) : h.cells.length = 4 := rfl

theorem hl_get (l : List Hl) (i j : Nat) (x : Hl) (u : Value) (hi : l[i]? = some x) (hj : j < 4) (hu : x.cells[j]? = some u) : (l.flatMap Hl.cells)[i * 4 + j]? = some u := by
  induction l generalizing i with
  | nil => simp at hi
  | cons y l ih =>
    rw [List.flatMap_cons]
    cases i with
    | zero =>
      simp at hi
      subst hi
      rw [Nat.zero_mul, Nat.zero_add, List.getElem?_append_left (by rw [Hl.cells_len]; omega)]
      exact hu
    | succ i =>
      simp at hi
      have := ih i hi
      rw [List.getElem?_append_right (by rw [Hl.cells_len]; omega)]
      rw [← this]
      congr 1
      rw [Hl.cells_len]
      omega
theorem hl_len (l : List Hl) : (l.flatMap Hl.cells).length = l.length * 4 := by
  induction l with
  | nil => rfl
  | cons x l ih => rw [List.flatMap_cons, List.length_append, ih, Hl.cells_len, List.length_cons]; omega
theorem hl_one (l : List Hl) : ∀ u ∈ l.flatMap Hl.cells, u.oneCell' = true := by
  intro u hu
  simp only [List.mem_flatMap] at hu
  obtain ⟨x, _, hx⟩ := hu
  simp [Hl.cells] at hx
  rcases hx with rfl | rfl | rfl | rfl <;> rfl

/-- Entries in memory, of the call's own. -/
def HsAt (w : World) (base : Nat) (v : Value) (l : List Hl) : Prop := w.ownsRow base 57 4 v l.length (l.flatMap Hl.cells)

/-- Where the row lies, and its cells. -/
theorem HsAt.form {w : World} {base : Nat} {v : Value} {l : List Hl} (h : HsAt w base v l) : ∃ ra cap, v = .slice ra l.length cap ∧ l.length ≤ cap ∧ cap ≤ maxLen ∧
    ∀ (i : Nat) (x : Hl), l[i]? = some x → ∃ g, ra = some ⟨g, 0, none⟩ ∧ base ≤ g ∧ g < w.heap.size ∧ w.cell? ⟨g, i * 4, none⟩ = some (.int .i64 x.token) ∧ w.cell? ⟨g, i * 4 + 1, none⟩ = some (.int .i64 x.left) ∧ w.cell? ⟨g, i * 4 + 2, none⟩ = some (.int .u8 x.side.toNat) ∧ w.cell? ⟨g, i * 4 + 3, none⟩ = some (.bool x.over) := by
  rcases h.2 with ⟨h1, h2⟩ | ⟨g, cap, cur, h1, h2, h3, h4, h5, h6, h7⟩
  · refine ⟨none, 0, by rw [h1, h2], by omega, by unfold maxLen; omega, ?_⟩
    intro i x hx
    rw [List.length_eq_zero_iff.1 h2] at hx
    simp at hx
  · refine ⟨_, cap, h1, h4, h5, ?_⟩
    intro i x hx
    have hc : ∀ j u, (l.flatMap Hl.cells)[j]? = some u → w.cell? ⟨g, j, none⟩ = some u := by
      intro j u hu
      have := h.cells (g := g) (by rw [h1]; rfl) j u hu
      rwa [Addr.add_lit, Nat.zero_add] at this
    exact ⟨g, rfl, h2, (Array.getElem?_eq_some_iff.1 h3).1, hc _ _ (hl_get l i 0 x _ hx (by omega) rfl), hc _ _ (hl_get l i 1 x _ hx (by omega) rfl), hc _ _ (hl_get l i 2 x _ hx (by omega) rfl), hc _ _ (hl_get l i 3 x _ hx (by omega) rfl)⟩

/-- Where the entry of a token stands; -1. -/
def heldAt (l : List Hl) (t : Nat) : Int := match l.findIdx? (fun h => h.token == t) with | some i => (i : Int) | none => -1
theorem heldAt_none {l : List Hl} {t : Nat} (h : ∀ x ∈ l, x.token ≠ t) : heldAt l t = -1 := by
  unfold heldAt
  rw [List.findIdx?_eq_none_iff.2 (fun x hx => by simpa using h x hx)]
theorem heldAt_some {l : List Hl} {x : Hl} (hx : x ∈ l) (hn : (l.map (·.token)).Nodup) : ∃ i : Nat, l[i]? = some x ∧ heldAt l x.token = (i : Int) := by
  unfold heldAt
  cases h : l.findIdx? (fun h => h.token == x.token) with
  | none =>
    have := List.findIdx?_eq_none_iff.1 h x hx
    simp at this
  | some i =>
    obtain ⟨hi, hp, -⟩ := List.findIdx?_eq_some_iff_getElem.1 h
    refine ⟨i, ?_, rfl⟩
    have : l[i] = x := nd_eq hn (List.getElem_mem hi) hx (by simpa using hp)
    rw [← this]
    exact List.getElem?_eq_getElem hi
theorem heldAt_first {l : List Hl} {t i : Nat} (hi : i < l.length) (h1 : ∀ j, j < i → ∀ x, l[j]? = some x → x.token ≠ t) (h2 : ∀ x, l[i]? = some x → x.token = t) : heldAt l t = (i : Int) := by
  unfold heldAt
  have : l.findIdx? (fun h => h.token == t) = some i := by
    rw [List.findIdx?_eq_some_iff_getElem]
    refine ⟨hi, by simpa using h2 _ (List.getElem?_eq_getElem hi), ?_⟩
    intro j hj
    simpa using h1 j hj _ (List.getElem?_eq_getElem (by omega))
  rw [this]

set_option maxHeartbeats 1000000 in
theorem held_any (w : World) (base : Nat) (v : Value) (l : List Hl) (t : Nat) (h : HsAt w base v l) :
    Calls Try.prog 35 #[v, .int .i64 t] w fun e w' => e = .returned (.int .i64 (heldAt l t)) ∧ w' = w := by
  obtain ⟨ra, cap, rfl, h1, h2, hc⟩ := h.form
  have HC := Hid.mk hc
  clear h hc
  have hl1 : (l.length : Int) ≤ 9223372036854775807 := by unfold maxLen at h2; omega
  go_enter Try.func35, Try.ntmps35
  go_wp2_with fail
  go_loopw [5] (fun i wr => ∃ k : Nat, k ≤ l.length ∧ i = .int .i64 k ∧ Hid (wr = w ∧ ∀ j, j < k → ∀ x, l[j]? = some x → x.token ≠ t)) (fun i _ => l.length - (intOf i).toNat)
  case atStart => exact ⟨0, Nat.zero_le _, rfl, rfl, fun j hj => by omega⟩
  case round =>
    obtain ⟨k, hk, rfl, HR⟩ := hrel
    by_cases hlt : k < l.length
    · obtain ⟨x, hx⟩ : ∃ x, l[k]? = some x := ⟨_, List.getElem?_eq_getElem hlt⟩
      obtain ⟨g, rfl, -, -, c0, -⟩ := HC.out k x hx
      rw [← HR.out.1] at c0
      have i1 : (0 : Int) ≤ (k : Int) := by omega
      have i2 : (k : Int) < (l.length : Int) := by omega
      by_cases ht : x.token = t
      · have ht1 : (x.token : Int) = (t : Int) := by omega
        have HE : Hid (heldAt l t = (k : Int)) := heldAt_first hlt HR.out.2 (fun y hy => by rw [hx] at hy; cases hy; exact ht)
        clear ht hx
        go_wp2_with fail
        go_ret
        exact ⟨by rw [HE.out]; rfl, HR.out.1⟩
      · have ht1 : ((x.token : Int) == (t : Int)) = false := by rw [beq_eq_false_iff_ne]; omega
        have HE : Hid (∀ j, j < k + 1 → ∀ x, l[j]? = some x → x.token ≠ t) := by
          intro j hj y hy
          by_cases hjk : j = k
          · subst hjk; rw [hx] at hy; cases hy; exact ht
          · exact HR.out.2 j (by omega) y hy
        clear ht hx
        go_wp2_with fail
        exact ⟨⟨k + 1, by omega, by go_num, HR.out.1, HE.out⟩, by simp [intOf]; omega⟩
    · have HE : Hid (heldAt l t = -1) := heldAt_none (fun x hx => by
        obtain ⟨j, hj, e⟩ := List.getElem_of_mem hx
        exact HR.out.2 j (by omega) x (by rw [List.getElem?_eq_getElem hj, e]))
      go_wp2_with fail
      go_ret
      exact ⟨by rw [HE.out]; rfl, HR.out.1⟩

theorem hl_set (l : List Hl) (i j : Nat) (x y : Hl) (u : Value) (hi : l[i]? = some x) (hj : j < 4) (hy : y.cells = x.cells.set j u) : (l.flatMap Hl.cells).set (i * 4 + j) u = (l.set i y).flatMap Hl.cells := by
  induction l generalizing i with
  | nil => simp at hi
  | cons z l ih =>
    cases i with
    | zero =>
      simp at hi
      subst hi
      rw [List.flatMap_cons, Nat.zero_mul, Nat.zero_add, List.set_append_left _ _ (by rw [Hl.cells_len]; omega), ← hy]
      rfl
    | succ i =>
      simp at hi
      rw [List.flatMap_cons, List.set_append_right _ _ (by rw [Hl.cells_len]; omega), show (i + 1) * 4 + j - z.cells.length = i * 4 + j by rw [Hl.cells_len]; omega, ih i hi]
      rfl

theorem map_set_at {l : List Hl} {i : Nat} {x : Hl} {f : Hl → Hl} (hn : (l.map (·.token)).Nodup) (hi : l[i]? = some x) : (l.map fun h => if h.token = x.token then f h else h) = l.set i (f x) := by
  refine List.ext_getElem? fun j => ?_
  rw [List.getElem?_map, List.getElem?_set]
  have hil := (List.getElem?_eq_some_iff.1 hi).1
  by_cases hij : i = j
  · subst hij
    rw [if_pos rfl, if_pos hil, hi]
    simp
  · rw [if_neg hij]
    cases hj : l[j]? with
    | none => rfl
    | some y =>
      simp only [Option.map_some, Option.some.injEq]
      rw [if_neg]
      intro e
      have hjl := (List.getElem?_eq_some_iff.1 hj).1
      have e1 : (l.map (·.token))[i]? = some x.token := by rw [List.getElem?_map, hi]; rfl
      have e2 : (l.map (·.token))[j]? = some x.token := by rw [List.getElem?_map, hj]; simp [e]
      exact hij ((List.getElem?_inj (by simpa using hil) hn).1 (e1.trans e2.symm))

theorem HsAt.put {w : World} {base g len cap : Nat} {l : List Hl} (h : HsAt w base (.slice (some ⟨g, 0, none⟩) len cap) l) (i j : Nat) (x y : Hl) (u : Value) (hi : l[i]? = some x) (hj : j < 4) (hy : y.cells = x.cells.set j u) :
    HsAt (w.setCell ⟨g, i * 4 + j, none⟩ u) base (.slice (some ⟨g, 0, none⟩) len cap) (l.set i y) := by
  have hil := (List.getElem?_eq_some_iff.1 hi).1
  refine ⟨by rw [hl_len], ?_⟩
  rcases h.2 with ⟨h1, -⟩ | ⟨g', cap', cur, h1, h2, h3, h4, h5, h6, h7⟩
  · simp at h1
  · simp only [Value.slice.injEq, Option.some.injEq, Addr.mk.injEq] at h1
    obtain ⟨⟨rfl, -, -⟩, h1, rfl⟩ := h1
    refine .inr ⟨g, cap, cur.setIfInBounds (i * 4 + j) u, by rw [List.length_set, h1], h2, heap_setCell_same w g (i * 4 + j) _ _ u h3, by rw [List.length_set]; exact h4, h5, by rw [Array.size_setIfInBounds]; exact h6, ?_⟩
    rw [← hl_set l i j x y u hi hj hy, List.length_set, ← h7, Array.toList_setIfInBounds, List.take_set]

theorem HsAt.keep {w w' : World} {base : Nat} {v : Value} {l : List Hl} (h : HsAt w base v l) (hk : ∀ g, v.ownBlock = some g → w'.heap[g]? = w.heap[g]?) : HsAt w' base v l := ownsRow_keep h hk

end Go.Proofs.Ytphkchjejbffeaa

/- The walk of boursekeep's both. -/
namespace Go.Proofs.Ytphkchjejbffeaa
open Go.RowKit
attribute [local go_sem ↓] Go.wp_at_zero Go.wp_at_succ

/-- The two answers of an execution. -/
def filMsg (t6 : List UInt8) (a b n p m : Nat) : List UInt8 := 70 :: t6 ++ enc a 4 ++ enc n 2 ++ enc p 2 ++ enc m 4 ++ (70 :: t6 ++ enc b 4 ++ enc n 2 ++ enc p 2 ++ enc m 4)

theorem lies_app {w : World} {g o : Nat} {a b : List UInt8} (h : Lies w g o (a ++ b)) : Lies w g o a ∧ Lies w g (o + a.length) b := by
  refine ⟨?_, ?_⟩
  · have := h.take a.length
    rwa [List.take_left] at this
  · have := h.drop a.length
    rwa [List.drop_left] at this

theorem fil_read {w : World} {g o : Nat} {t6 : List UInt8} {a b n p m : Nat} (h6 : t6.length = 6) (h : Lies w g o (filMsg t6 a b n p m)) :
    w.cell? ⟨g, o, none⟩ = some (.int .u8 70) ∧ w.cell? ⟨g, o + 19, none⟩ = some (.int .u8 70) ∧ Lies w g (o + 7) (enc a 4) ∧ Lies w g (o + 26) (enc b 4) ∧ Lies w g (o + 11) (enc n 2) ∧
    Lies w g (o + 11) (enc n 2 ++ enc p 2 ++ enc m 4) ∧ Lies w g (o + 30) (enc n 2 ++ enc p 2 ++ enc m 4) := by
  unfold filMsg at h
  have e : 70 :: t6 ++ enc a 4 ++ enc n 2 ++ enc p 2 ++ enc m 4 ++ (70 :: t6 ++ enc b 4 ++ enc n 2 ++ enc p 2 ++ enc m 4) = (70 :: t6) ++ (enc a 4 ++ ((enc n 2 ++ enc p 2 ++ enc m 4) ++ ((70 :: t6) ++ (enc b 4 ++ (enc n 2 ++ enc p 2 ++ enc m 4))))) := by simp
  rw [e] at h
  obtain ⟨h1, h2⟩ := lies_app h
  obtain ⟨h3, h4⟩ := lies_app h2
  obtain ⟨h5, h7⟩ := lies_app h4
  obtain ⟨h8, h9⟩ := lies_app h7
  obtain ⟨h10, h11⟩ := lies_app h9
  have l1 : (70 :: t6).length = 7 := by simp [h6]
  have l2 : (enc n 2 ++ enc p 2 ++ enc m 4).length = 8 := by simp [enc_length]
  rw [l1] at h3 h5 h8 h10 h11
  rw [enc_length] at h5 h8 h10 h11
  rw [l2] at h8 h10 h11
  refine ⟨h1 0 70 rfl, ?_, h3, ?_, ?_, ?_, ?_⟩
  · have := h8 0 70 rfl
    rw [show o + 7 + 4 + 8 + 0 = o + 19 by omega] at this
    exact this
  · rw [show o + 7 + 4 + 8 + 7 = o + 26 by omega] at h10; exact h10
  · have := (lies_app (a := enc n 2) (b := enc p 2 ++ enc m 4) (by rw [← List.append_assoc]; exact h5)).1
    rw [show o + 7 + 4 = o + 11 by omega] at this
    exact this
  · rw [show o + 7 + 4 = o + 11 by omega] at h5; exact h5
  · rw [enc_length, show o + 7 + 4 + 8 + 7 + 4 = o + 30 by omega] at h11; exact h11

set_option maxRecDepth 100000 in
set_option maxHeartbeats 2000000 in
theorem both_any (w : World) (base : Nat) (v : Value) (l : List Hl) (gm om cm : Nat) (t6 : List UInt8) (a b n p m : Nat) (x y : Hl) (h : HsAt w base v l) (hn : (l.map (·.token)).Nodup) (h6 : t6.length = 6)
    (hm : Lies w gm om (filMsg t6 a b n p m)) (_hb : gm < base) (hc : 38 ≤ cm) (hcm : cm ≤ 9223372036854775807) (h1 : a < 4294967296) (h2 : b < 4294967296) (h3 : n < 65536) (h0 : 1 ≤ n) (hx : x ∈ l) (hxa : x.token = a) (hy : y ∈ l) (hyb : y.token = b) (hne : a ≠ b) (hs : x.side ≠ y.side)
    (hxl : n ≤ x.left) (hyl : n ≤ y.left) (hx32 : x.left ≤ 65535) (hy32 : y.left ≤ 65535) :
    Calls Try.prog 36 #[v, .slice (some ⟨gm, om, none⟩) 38 cm] w fun e w' => e = .returned (.bool true) ∧ HsAt w' base v (lessAt b n (lessAt a n l)) ∧ Fr (fun k => v.ownBlock = some k) w w' := by
  obtain ⟨i, hi, hia⟩ := heldAt_some hx hn
  obtain ⟨k, hk, hka⟩ := heldAt_some hy hn
  rw [hxa] at hia
  rw [hyb] at hka
  obtain ⟨ra, cap, rfl, hlc, hcap, hcs⟩ := h.form
  obtain ⟨g, rfl, hgb, hgl, c0, c1, c2, c3⟩ := hcs i x hi
  obtain ⟨g', hg', -, -, d0, d1, d2, d3⟩ := hcs k y hk
  simp only [Option.some.injEq, Addr.mk.injEq, and_true] at hg'
  subst hg'
  obtain ⟨m0, m19, mA, mB, mN, mX, mY⟩ := fil_read h6 hm
  have hil := (List.getElem?_eq_some_iff.1 hi).1
  have hkl := (List.getElem?_eq_some_iff.1 hk).1
  have hik : i ≠ k := fun e => by subst e; rw [hi] at hk; cases hk; exact hne (hxa.symm.trans hyb)
  have t1 : ∀ N, (convert 28 9 (.slice (some ⟨gm, om + 11, none⟩) 8 (cm - 11))).run Try.prog (w.drewN N) = .ok (.string ⟨(enc n 2 ++ enc p 2 ++ enc m 4).toArray⟩) (w.drewN N) := fun N => run_str (F := fun _ => False) (.inr ⟨gm, om + 11, cm - 11, by simp [enc_length], mX, by simp [enc_length]; omega, by unfold maxLen; omega, fun h => h, World.block_lt_of_cell? w _ m0⟩)
  have t2 : ∀ N, (convert 28 9 (.slice (some ⟨gm, om + 30, none⟩) 8 (cm - 30))).run Try.prog (w.drewN N) = .ok (.string ⟨(enc n 2 ++ enc p 2 ++ enc m 4).toArray⟩) (w.drewN N) := fun N => run_str (F := fun _ => False) (.inr ⟨gm, om + 30, cm - 30, by simp [enc_length], mY, by simp [enc_length]; omega, by unfold maxLen; omega, fun h => h, World.block_lt_of_cell? w _ m0⟩)
  have kd : decide ((k : Int) < 0) = false := by rw [decide_eq_false_iff_not]; omega
  have nd : decide ((n : Int) < 1) = false := by rw [decide_eq_false_iff_not]; omega
  have HM := Hid.mk (And.intro mA (And.intro mB mN))
  have HH := Hid.mk (And.intro h (And.intro hi (And.intro hk (And.intro hia hka))))
  have HEq := Hid.mk (And.intro hxa hyb)
  have hsd : ((x.side.toNat : Int) == (y.side.toNat : Int)) = false := by
    rw [beq_eq_false_iff_ne]
    intro e
    exact hs (UInt8.toNat_inj.1 (by omega))
  have i1 : (0 : Int) ≤ (i : Int) := by omega
  have i2 : (i : Int) < (l.length : Int) := by omega
  have i3 : (0 : Int) ≤ (k : Int) := by omega
  have i4 : (k : Int) < (l.length : Int) := by omega
  have i5 : ((i : Int) == (k : Int)) = false := by rw [beq_eq_false_iff_ne]; omega
  have i6 : (38 : Int) ≤ (cm : Int) := by omega
  have i7 : (cm : Int) ≤ 9223372036854775807 := by omega
  have i8 : (1 : Int) ≤ (n : Int) := by omega
  have i9 : (n : Int) ≤ (x.left : Int) := by omega
  have j1 : (n : Int) ≤ (y.left : Int) := by omega
  have j2 : (x.left : Int) ≤ 65535 := by omega
  have j3 : (y.left : Int) ≤ 65535 := by omega
  have fz : ∀ j, w.frozen? ⟨g, j, none⟩ = false := by
    rcases h.2 with ⟨h1, -⟩ | ⟨g', cap', cur, h1, h2, h3, -⟩
    · simp at h1
    · simp only [Value.slice.injEq, Option.some.injEq, Addr.mk.injEq] at h1
      obtain ⟨⟨rfl, -, -⟩, -⟩ := h1
      intro j
      simp [World.frozen?, h3]
  have z1 := fz (i * 4 + 1)
  have z2 := fz (k * 4 + 1)
  clear h hi hk hia hka hcs hx hy hs mA mB mN mX mY hm fz hcm hc hxa hyb c3 d3 c0 d0
  go_enter Try.func36, Try.ntmps36
  go_wp2_with fail
  have hv := val_any gm (om + 7) (cm - 7) (enc a 4) w (by rw [enc_length]; omega) HM.out.1
  rw [enc_length, show num (enc a 4) 0 = a from by rw [num_enc]; exact Nat.mod_eq_of_lt (by omega)] at hv
  refine hv.mono ?_
  rintro e w' ⟨rfl, hw⟩
  replace hw := hw.symm
  subst hw
  clear hv
  go_wp2_with fail
  have hv := held_any w base _ l a HH.out.1
  rw [HH.out.2.2.2.1] at hv
  refine hv.mono ?_
  rintro e w' ⟨rfl, hw⟩
  replace hw := hw.symm
  subst hw
  clear hv
  go_wp2_with fail
  have hv := val_any gm (om + 26) (cm - 26) (enc b 4) w (by rw [enc_length]; omega) HM.out.2.1
  rw [enc_length, show num (enc b 4) 0 = b from by rw [num_enc]; exact Nat.mod_eq_of_lt (by omega)] at hv
  refine hv.mono ?_
  rintro e w' ⟨rfl, hw⟩
  replace hw := hw.symm
  subst hw
  clear hv
  go_wp2_with fail
  have hv := held_any w base _ l b HH.out.1
  rw [HH.out.2.2.2.2] at hv
  refine hv.mono ?_
  rintro e w' ⟨rfl, hw⟩
  replace hw := hw.symm
  subst hw
  clear hv
  go_wp2_with fail
  have hv := val_any gm (om + 11) (cm - 11) (enc n 2) w (by rw [enc_length]; omega) HM.out.2.2
  rw [enc_length, show num (enc n 2) 0 = n from by rw [num_enc]; exact Nat.mod_eq_of_lt (by omega)] at hv
  refine hv.mono ?_
  rintro e w' ⟨rfl, hw⟩
  replace hw := hw.symm
  subst hw
  clear hv
  go_wp2_with fail
  go_quiet (fail)
  go_wp2_with fail
  go_ret
  obtain ⟨hh, hi, hk, -, -⟩ := HH.out
  obtain ⟨hxa, hyb⟩ := HEq.out
  have e1 : lessAt a n l = l.set i (x.less n) := by
    have := map_set_at (f := fun h => h.less n) hn hi
    rw [hxa] at this
    exact this
  have hk2 : (l.set i (x.less n))[k]? = some y := by rw [List.getElem?_set_ne hik]; exact hk
  have e2 : lessAt b n (l.set i (x.less n)) = (l.set i (x.less n)).set k (y.less n) := by
    have := map_set_at (f := fun h => h.less n) (l := l.set i (x.less n)) (by rw [← e1, less_tokens]; exact hn) hk2
    rw [hyb] at this
    exact this
  rw [e1, e2]
  refine ⟨rfl, ?_, ?_⟩
  · refine HsAt.put (HsAt.put (HsAt.keep hh (fun _ _ => rfl)) i 1 x (x.less n) _ hi (by omega) ?_) k 1 y (y.less n) _ hk2 (by omega) ?_
    · simp [Hl.cells, Hl.less, Int.ofNat_sub hxl]
    · simp [Hl.cells, Hl.less, Int.ofNat_sub hyl]
  · refine Fr.trans (Fr.trans ?_ (Fr.setCell _ ⟨g, i * 4 + 1, none⟩ _) ?_) (Fr.setCell _ ⟨g, k * 4 + 1, none⟩ _) ?_
    · exact ⟨rfl, rfl, rfl, Nat.le_refl _, fun _ _ _ => rfl⟩
    · intro j _ e; rw [show j = g from e]; rfl
    · intro j _ e; rw [show j = g from e]; rfl

end Go.Proofs.Ytphkchjejbffeaa
