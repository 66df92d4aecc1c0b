/- Plain: where orders rest, and how a change at one place changes all of them. -/
import Derived.Test.YtphkchjejbffeaaG05
namespace Go.Proofs.Ytphkchjejbffeaa

abbrev Co := Nat × UInt8 × Nat
def St.get (st : St) (c : Co) : List Ord := st.q c.1 c.2.1 c.2.2
def bidCo (n s : Nat) : List Co := (List.range n).map fun r => (s, 66, n - r)
def askCo (n s : Nat) : List Co := (List.range n).map fun r => (s, 83, r + 1)
def bookCo (n s : Nat) : List Co := bidCo n s ++ askCo n s
def allCo (m n : Nat) : List Co := (List.range m).flatMap (bookCo n)

theorem bids_eq (st : St) (s : Nat) : st.bids s = (bidCo st.levels s).flatMap st.get := by
  simp [St.bids, bidCo, List.flatMap_map, St.get]
theorem asks_eq (st : St) (s : Nat) : st.asks s = (askCo st.levels s).flatMap st.get := by
  simp [St.asks, askCo, List.flatMap_map, St.get]
theorem book_eq (st : St) (s : Nat) : st.book s = (bookCo st.levels s).flatMap st.get := by
  simp [St.book, bids_eq, asks_eq, bookCo]
theorem all_eq (st : St) : st.all = (allCo st.stocks st.levels).flatMap st.get := by
  rw [allCo, List.flatMap_assoc]
  unfold St.all
  congr 1
  funext s
  exact book_eq st s

theorem mem_bookCo (n s : Nat) (c : Co) : c ∈ bookCo n s ↔ c.1 = s ∧ (c.2.1 = 66 ∨ c.2.1 = 83) ∧ 1 ≤ c.2.2 ∧ c.2.2 ≤ n := by
  obtain ⟨a, d, p⟩ := c
  simp only [bookCo, bidCo, askCo, List.mem_append, List.mem_map, List.mem_range, Prod.mk.injEq]
  constructor
  · rintro (⟨r, h, rfl, rfl, rfl⟩ | ⟨r, h, rfl, rfl, rfl⟩)
    · exact ⟨rfl, .inl rfl, by omega, by omega⟩
    · exact ⟨rfl, .inr rfl, by omega, by omega⟩
  · rintro ⟨rfl, rfl | rfl, h1, h2⟩
    · exact .inl ⟨n - p, by omega, rfl, rfl, by omega⟩
    · exact .inr ⟨p - 1, by omega, rfl, rfl, by omega⟩
theorem mem_allCo (m n : Nat) (c : Co) : c ∈ allCo m n ↔ c.1 < m ∧ (c.2.1 = 66 ∨ c.2.1 = 83) ∧ 1 ≤ c.2.2 ∧ c.2.2 ≤ n := by
  simp only [allCo, List.mem_flatMap, List.mem_range, mem_bookCo]
  constructor
  · rintro ⟨s, h1, h2, h3⟩
    exact ⟨h2 ▸ h1, h3⟩
  · rintro ⟨h1, h2⟩
    exact ⟨c.1, h1, rfl, h2⟩

theorem nodup_map_inj {α β : Type} (f : α → β) (l : List α) (hl : l.Nodup) (hf : ∀ a ∈ l, ∀ b ∈ l, f a = f b → a = b) : (l.map f).Nodup := by
  induction l with
  | nil => simp
  | cons x l ih =>
    rw [List.nodup_cons] at hl
    rw [List.map_cons, List.nodup_cons]
    refine ⟨?_, ih hl.2 (fun a ha b hb => hf a (by simp [ha]) b (by simp [hb]))⟩
    intro h
    obtain ⟨y, hy, e⟩ := List.mem_map.1 h
    have := hf y (by simp [hy]) x (by simp) e
    exact hl.1 (this ▸ hy)

theorem nodup_bookCo (n s : Nat) : (bookCo n s).Nodup := by
  unfold bookCo
  rw [List.nodup_append]
  refine ⟨?_, ?_, ?_⟩
  · exact nodup_map_inj _ _ List.nodup_range (fun a ha b hb h => by simp at ha hb h; omega)
  · exact nodup_map_inj _ _ List.nodup_range (fun a ha b hb h => by simp at h; omega)
  · intro a ha b hb h
    simp only [bidCo, askCo, List.mem_map] at ha hb
    obtain ⟨r, _, rfl⟩ := ha
    obtain ⟨t, _, rfl⟩ := hb
    have := congrArg (fun c : Co => c.2.1) h
    revert this
    show (66 : UInt8) = 83 → False
    decide
theorem nodup_allCo (m n : Nat) : (allCo m n).Nodup := by
  induction m with
  | zero => simp [allCo]
  | succ m ih =>
    have : allCo (m + 1) n = allCo m n ++ bookCo n m := by simp [allCo, List.range_succ]
    rw [this, List.nodup_append]
    refine ⟨ih, nodup_bookCo n m, ?_⟩
    intro a ha b hb h
    subst h
    have h1 := (mem_allCo m n a).1 ha
    have h2 := (mem_bookCo n m a).1 hb
    omega

theorem split_mem {α : Type} (l : List α) (c : α) (hn : l.Nodup) (h : c ∈ l) : ∃ l1 l2, l = l1 ++ c :: l2 ∧ c ∉ l1 ∧ c ∉ l2 := by
  obtain ⟨l1, l2, rfl⟩ := List.append_of_mem h
  rw [List.nodup_append] at hn
  obtain ⟨_, h2, h3⟩ := hn
  rw [List.nodup_cons] at h2
  exact ⟨l1, l2, rfl, fun hc => h3 c hc c (by simp) rfl, h2.1⟩

theorem flatMap_congr_mem {α β : Type} (l : List α) (f g : α → List β) (h : ∀ a ∈ l, f a = g a) : l.flatMap f = l.flatMap g := by
  induction l with
  | nil => rfl
  | cons x l ih =>
    rw [List.flatMap_cons, List.flatMap_cons, h x (by simp), ih (fun a ha => h a (by simp [ha]))]

theorem upd_get (st : St) (s : Nat) (d : UInt8) (p : Nat) (f : List Ord → List Ord) (c : Co) : (st.upd s d p f).get c = if c = (s, d, p) then f (st.q s d p) else st.get c := by
  obtain ⟨a, e, r⟩ := c
  simp [St.get, St.upd]

/-- A change at one place of a list of places. -/
theorem flat_upd (st : St) (l : List Co) (hl : l.Nodup) (s : Nat) (d : UInt8) (p : Nat) (h : (s, d, p) ∈ l) :
    ∃ A B, l.flatMap st.get = A ++ st.q s d p ++ B ∧ ∀ f : List Ord → List Ord, l.flatMap (st.upd s d p f).get = A ++ f (st.q s d p) ++ B := by
  obtain ⟨l1, l2, rfl, h1, h2⟩ := split_mem l (s, d, p) hl h
  refine ⟨l1.flatMap st.get, l2.flatMap st.get, ?_, ?_⟩
  · rw [List.flatMap_append, List.flatMap_cons, ← List.append_assoc]
    rfl
  · intro f
    rw [List.flatMap_append, List.flatMap_cons, ← List.append_assoc]
    rw [flatMap_congr_mem l1 (st.upd s d p f).get st.get (fun a ha => by rw [upd_get, if_neg (by rintro rfl; exact h1 ha)])]
    rw [flatMap_congr_mem l2 (st.upd s d p f).get st.get (fun a ha => by rw [upd_get, if_neg (by rintro rfl; exact h2 ha)])]
    rw [upd_get, if_pos rfl]

theorem all_upd (st : St) (s : Nat) (d : UInt8) (p : Nat) (h : s < st.stocks ∧ (d = 66 ∨ d = 83) ∧ 1 ≤ p ∧ p ≤ st.levels) :
    ∃ A B, st.all = A ++ st.q s d p ++ B ∧ ∀ f : List Ord → List Ord, (st.upd s d p f).all = A ++ f (st.q s d p) ++ B := by
  obtain ⟨A, B, h1, h2⟩ := flat_upd st (allCo st.stocks st.levels) (nodup_allCo _ _) s d p ((mem_allCo _ _ _).2 h)
  refine ⟨A, B, by rw [all_eq, h1], fun f => ?_⟩
  rw [all_eq]
  exact h2 f

theorem mem_all (st : St) (x : Ord) : x ∈ st.all ↔ ∃ s d p, s < st.stocks ∧ (d = 66 ∨ d = 83) ∧ 1 ≤ p ∧ p ≤ st.levels ∧ x ∈ st.q s d p := by
  rw [all_eq, List.mem_flatMap]
  constructor
  · rintro ⟨⟨s, d, p⟩, h1, h2⟩
    obtain ⟨a, b, c, e⟩ := (mem_allCo _ _ _).1 h1
    exact ⟨s, d, p, a, b, c, e, h2⟩
  · rintro ⟨s, d, p, a, b, c, e, h2⟩
    exact ⟨(s, d, p), (mem_allCo _ _ _).2 ⟨a, b, c, e⟩, h2⟩

end Go.Proofs.Ytphkchjejbffeaa

/- Plain: what holds of every bourse, and that each step keeps it. -/
namespace Go.Proofs.Ytphkchjejbffeaa

def Valid (st : St) (s : Nat) (d : UInt8) (p : Nat) : Prop := s < st.stocks ∧ (d = 66 ∨ d = 83) ∧ 1 ≤ p ∧ p ≤ st.levels
/-- Of an order that rests at a place. -/
structure Fits (s : Nat) (d : UInt8) (p : Nat) (x : Ord) : Prop where
  stock : x.stock = s
  side : x.side = d
  price : x.price = p
  least : 1 ≤ x.shares
  most : x.shares ≤ 9999
  ref : x.ref < 4294967296
  token : x.token < 4294967296

structure Inv (st : St) : Prop where
  stocks : 1 ≤ st.stocks ∧ st.stocks ≤ 8
  levels : 1 ≤ st.levels ∧ st.levels ≤ 64
  pool : 1 ≤ st.pool ∧ st.pool ≤ 64
  ord : ∀ s d p x, x ∈ st.q s d p → Fits s d p x
  ok : ∀ s d p, st.q s d p ≠ [] → Valid st s d p
  nodup : (st.all.map (·.token)).Nodup
  used : ∀ x ∈ st.all, x.token ∈ st.used
  room : st.resting ≤ st.pool
  unc : ∀ s pb pa, st.q s 66 pb ≠ [] → st.q s 83 pa ≠ [] → pb < pa
  refs : st.refs < 4294967296
  mats : st.mats < 4294967296
  time : st.time < 281474976710656

theorem Inv.of_q {st st' : St} (h : Inv st) (hq : st'.q = st.q) (h1 : st'.stocks = st.stocks) (h2 : st'.levels = st.levels) (h3 : st'.pool = st.pool) (h4 : ∀ t, t ∈ st.used → t ∈ st'.used)
    (h5 : st'.refs < 4294967296) (h6 : st'.mats < 4294967296) (h7 : st'.time < 281474976710656) : Inv st' := by
  have ha : st'.all = st.all := by
    unfold St.all
    rw [h1]
    congr 1
    funext s
    simp only [St.book, St.bids, St.asks, hq, h2]
  refine ⟨h1 ▸ h.stocks, h2 ▸ h.levels, h3 ▸ h.pool, ?_, ?_, ?_, ?_, ?_, ?_, h5, h6, h7⟩
  · rw [hq]; exact h.ord
  · intro s d p hne
    rw [hq] at hne
    have := h.ok s d p hne
    unfold Valid at *
    rw [h1, h2]; exact this
  · rw [ha]; exact h.nodup
  · rw [ha]; exact fun x hx => h4 _ (h.used x hx)
  · unfold St.resting at *; rw [ha, h3]; exact h.room
  · rw [hq]; exact h.unc

theorem Inv.say {st : St} (h : Inv st) (l : List UInt8) : Inv (st.say l) := h.of_q rfl rfl rfl rfl (fun _ h => h) h.refs h.mats h.time
theorem Inv.put {st : St} (h : Inv st) (l : List UInt8) : Inv (st.put l) := h.of_q rfl rfl rfl rfl (fun _ h => h) h.refs h.mats h.time

/-- A place at which only less than before is. -/
theorem Inv.shrink {st : St} (h : Inv st) (s : Nat) (d : UInt8) (p : Nat) (f : List Ord → List Ord) (hv : Valid st s d p)
    (hm : ∀ y ∈ f (st.q s d p), ∃ x ∈ st.q s d p, y.token = x.token ∧ y.ref = x.ref ∧ y.stock = x.stock ∧ y.side = x.side ∧ y.price = x.price ∧ 1 ≤ y.shares ∧ y.shares ≤ x.shares)
    (hs : ((f (st.q s d p)).map (·.token)).Sublist ((st.q s d p).map (·.token))) : Inv (st.upd s d p f) := by
  obtain ⟨A, B, h1, h2⟩ := all_upd st s d p hv
  have h2 := h2 f
  have hsub : ((st.upd s d p f).all.map (·.token)).Sublist (st.all.map (·.token)) := by
    rw [h1, h2]
    simp only [List.map_append]
    exact (List.Sublist.refl _).append hs |>.append (List.Sublist.refl _)
  have hq : ∀ s' d' p', (st.upd s d p f).q s' d' p' = if s' = s ∧ d' = d ∧ p' = p then f (st.q s d p) else st.q s' d' p' := fun _ _ _ => rfl
  have hne : ∀ s' d' p', (st.upd s d p f).q s' d' p' ≠ [] → st.q s' d' p' ≠ [] := by
    intro s' d' p' hn
    rw [hq] at hn
    split at hn
    · rename_i hc
      obtain ⟨rfl, rfl, rfl⟩ := hc
      obtain ⟨y, hy⟩ := List.exists_mem_of_ne_nil _ hn
      obtain ⟨x, hx, _⟩ := hm y hy
      exact List.ne_nil_of_mem hx
    · exact hn
  refine ⟨h.stocks, h.levels, h.pool, ?_, ?_, hsub.nodup h.nodup, ?_, ?_, ?_, h.refs, h.mats, h.time⟩
  · intro s' d' p' y hy
    rw [hq] at hy
    split at hy
    · rename_i hc
      obtain ⟨rfl, rfl, rfl⟩ := hc
      obtain ⟨x, hx, e1, e2, e3, e4, e5, e6, e7⟩ := hm y hy
      have := h.ord _ _ _ x hx
      exact ⟨e3.trans this.stock, e4.trans this.side, e5.trans this.price, e6, Nat.le_trans e7 this.most, e2 ▸ this.ref, e1 ▸ this.token⟩
    · exact h.ord _ _ _ y hy
  · intro s' d' p' hn
    exact h.ok _ _ _ (hne _ _ _ hn)
  · intro y hy
    have : y.token ∈ st.all.map (·.token) := hsub.subset (List.mem_map.2 ⟨y, hy, rfl⟩)
    obtain ⟨x, hx, e⟩ := List.mem_map.1 this
    have e : x.token = y.token := e
    exact e ▸ h.used x hx
  · have := hsub.length_le
    simp only [List.length_map] at this
    exact Nat.le_trans this h.room
  · intro s' pb pa hb ha
    exact h.unc s' pb pa (hne _ _ _ hb) (hne _ _ _ ha)

theorem red_mem (t n : Nat) (l : List Ord) (hl : ∀ x ∈ l, 1 ≤ x.shares) (y : Ord) (hy : y ∈ redO t n l) :
    ∃ x ∈ l, y.token = x.token ∧ y.ref = x.ref ∧ y.stock = x.stock ∧ y.side = x.side ∧ y.price = x.price ∧ 1 ≤ y.shares ∧ y.shares ≤ x.shares := by
  induction l with
  | nil => simp [redO] at hy
  | cons x l ih =>
    simp only [redO] at hy
    split at hy
    · split at hy
      · exact ⟨y, by simp [hy], rfl, rfl, rfl, rfl, rfl, hl y (by simp [hy]), Nat.le_refl _⟩
      · rcases List.mem_cons.1 hy with rfl | hy
        · exact ⟨x, by simp, rfl, rfl, rfl, rfl, rfl, by show 1 ≤ x.shares - n; omega, by show x.shares - n ≤ x.shares; omega⟩
        · exact ⟨y, by simp [hy], rfl, rfl, rfl, rfl, rfl, hl y (by simp [hy]), Nat.le_refl _⟩
    · rcases List.mem_cons.1 hy with rfl | hy
      · exact ⟨y, by simp, rfl, rfl, rfl, rfl, rfl, hl y (by simp), Nat.le_refl _⟩
      · obtain ⟨z, hz, e⟩ := ih (fun x hx => hl x (by simp [hx])) hy
        exact ⟨z, by simp [hz], e⟩
theorem red_sub (t n : Nat) (l : List Ord) : ((redO t n l).map (·.token)).Sublist (l.map (·.token)) := by
  induction l with
  | nil => simp [redO]
  | cons x l ih =>
    simp only [redO]
    split
    · split
      · simp
      · simp
    · simpa using ih
theorem del_mem (t : Nat) (l : List Ord) : (delO t l).Sublist l := by
  induction l with
  | nil => simp [delO]
  | cons x l ih =>
    simp only [delO]
    split
    · simp
    · simpa using ih

theorem Inv.red {st : St} (h : Inv st) (s : Nat) (d : UInt8) (p : Nat) (t n : Nat) (hv : Valid st s d p) : Inv (st.upd s d p (redO t n)) :=
  h.shrink s d p _ hv (fun y hy => red_mem t n _ (fun x hx => (h.ord s d p x hx).least) y hy) (red_sub t n _)
theorem Inv.del {st : St} (h : Inv st) (s : Nat) (d : UInt8) (p : Nat) (t : Nat) (hv : Valid st s d p) : Inv (st.upd s d p (delO t)) :=
  h.shrink s d p _ hv (fun y hy => ⟨y, (del_mem t _).subset hy, rfl, rfl, rfl, rfl, rfl, (h.ord s d p y ((del_mem t _).subset hy)).least, Nat.le_refl _⟩) ((del_mem t _).map _)

/-- One order more. -/
theorem Inv.push {st : St} (h : Inv st) (o : Ord) (hv : Valid st o.stock o.side o.price) (h1 : 1 ≤ o.shares) (h2 : o.shares ≤ 9999) (h3 : o.ref < 4294967296) (h4 : o.token < 4294967296)
    (hu : o.token ∈ st.used) (hn : ∀ x ∈ st.all, x.token ≠ o.token) (hr : st.resting < st.pool) (hx : ∀ p, st.q o.stock (other o.side) p ≠ [] → reaches o p = false) :
    Inv (st.upd o.stock o.side o.price (· ++ [o])) := by
  obtain ⟨A, B, e1, e2⟩ := all_upd st o.stock o.side o.price hv
  have e2 := e2 (· ++ [o])
  have hperm : (st.upd o.stock o.side o.price (· ++ [o])).all.Perm (o :: st.all) := by
    rw [e1, e2]
    simp only [List.append_assoc, List.singleton_append]
    rw [← List.append_assoc, ← List.append_assoc]
    exact List.perm_middle
  have hq : ∀ s' d' p', (st.upd o.stock o.side o.price (· ++ [o])).q s' d' p' = if s' = o.stock ∧ d' = o.side ∧ p' = o.price then st.q o.stock o.side o.price ++ [o] else st.q s' d' p' := fun _ _ _ => rfl
  refine ⟨h.stocks, h.levels, h.pool, ?_, ?_, ?_, ?_, ?_, ?_, h.refs, h.mats, h.time⟩
  · intro s d p y hy
    rw [hq] at hy
    split at hy
    · rename_i hc
      obtain ⟨rfl, rfl, rfl⟩ := hc
      rcases List.mem_append.1 hy with hy | hy
      · exact h.ord _ _ _ y hy
      · simp at hy; subst hy
        exact ⟨rfl, rfl, rfl, h1, h2, h3, h4⟩
    · exact h.ord _ _ _ y hy
  · intro s d p hne
    rw [hq] at hne
    split at hne
    · rename_i hc
      obtain ⟨rfl, rfl, rfl⟩ := hc
      exact hv
    · exact h.ok _ _ _ hne
  · rw [(hperm.map (·.token)).nodup_iff, List.map_cons, List.nodup_cons]
    refine ⟨fun hm => ?_, h.nodup⟩
    obtain ⟨x, hx', e⟩ := List.mem_map.1 hm
    exact hn x hx' e
  · intro x hx'
    rcases List.mem_cons.1 (hperm.subset hx') with rfl | hx'
    · exact hu
    · exact h.used x hx'
  · have := hperm.length_eq
    simp only [List.length_cons] at this
    show (st.upd o.stock o.side o.price (· ++ [o])).all.length ≤ st.pool
    have hr' : st.all.length < st.pool := hr
    omega
  · intro s pb pa hb ha
    rw [hq] at hb ha
    split at hb
    · rename_i hc
      obtain ⟨rfl, hd, rfl⟩ := hc
      rw [if_neg (by rw [← hd]; intro hc; exact absurd hc.2.1 (by decide))] at ha
      have := hx pa (by rw [← hd]; exact ha)
      simp only [reaches, ← hd, if_pos] at this
      simpa using this
    · split at ha
      · rename_i hc
        obtain ⟨rfl, hd, rfl⟩ := hc
        have := hx pb (by rw [← hd]; exact hb)
        simp only [reaches, ← hd] at this
        simpa using this
      · exact h.unc _ _ _ hb ha

theorem meets_some {st : St} {o f : Ord} (h : st.meets o = some f) : ∃ r, r < st.levels ∧ reaches o (st.ranked (other o.side) r) = true ∧ (st.q o.stock (other o.side) (st.ranked (other o.side) r)).head? = some f ∧
    ∀ r', r' < r → reaches o (st.ranked (other o.side) r') = true → st.q o.stock (other o.side) (st.ranked (other o.side) r') = [] := by
  unfold St.meets at h
  obtain ⟨l1, r, l2, e, h1, h2⟩ := List.findSome?_eq_some_iff.1 h
  have hr : (List.range st.levels)[l1.length]? = some r := by rw [e]; simp
  rw [List.getElem?_range] at hr
  · cases hr
    split at h1
    · rename_i hrc
      refine ⟨l1.length, ?_, hrc, h1, ?_⟩
      · have := congrArg List.length e
        simp at this; omega
      · intro r' hr' hre
        have hm : r' ∈ l1 := by
          have : (List.range st.levels)[r']? = l1[r']? := by rw [e, List.getElem?_append_left hr']
          have hlt : r' < st.levels := by have := congrArg List.length e; simp at this; omega
          rw [List.getElem?_range hlt] at this
          exact List.mem_of_getElem? this.symm
        have := h2 r' hm
        rw [if_pos hre] at this
        simpa using this
    · cases h1
  · have := congrArg List.length e
    simp at this; omega
theorem meets_none {st : St} {o : Ord} (h : st.meets o = none) (r : Nat) (hr : r < st.levels) (hc : reaches o (st.ranked (other o.side) r) = true) : st.q o.stock (other o.side) (st.ranked (other o.side) r) = [] := by
  unfold St.meets at h
  have := List.findSome?_eq_none_iff.1 h r (by simp [hr])
  rw [if_pos hc] at this
  simpa using this
theorem ranked_of (st : St) (d : UInt8) (p : Nat) (h1 : 1 ≤ p) (h2 : p ≤ st.levels) : ∃ r, r < st.levels ∧ st.ranked d r = p := by
  unfold St.ranked
  by_cases hd : d = 66
  · exact ⟨st.levels - p, by omega, by rw [if_pos hd]; omega⟩
  · exact ⟨p - 1, by omega, by rw [if_neg hd]; omega⟩
theorem ranked_le (st : St) (d : UInt8) (r : Nat) (h : r < st.levels) : 1 ≤ st.ranked d r ∧ st.ranked d r ≤ st.levels := by
  unfold St.ranked
  split <;> omega
theorem other_ok (d : UInt8) : other d = 66 ∨ other d = 83 := by
  unfold other
  split
  · exact .inr rfl
  · exact .inl rfl

end Go.Proofs.Ytphkchjejbffeaa

/- Plain: each message keeps what holds of every bourse. -/
namespace Go.Proofs.Ytphkchjejbffeaa

/-- b is a with less that rests. -/
structure Shr (a b : St) : Prop where
  stocks : b.stocks = a.stocks
  levels : b.levels = a.levels
  pool : b.pool = a.pool
  time : b.time = a.time
  opn : b.opn = a.opn
  part : b.part = a.part
  refs : b.refs = a.refs
  used : b.used = a.used
  sub : (b.all.map (·.token)).Sublist (a.all.map (·.token))

theorem Shr.refl (a : St) : Shr a a := ⟨rfl, rfl, rfl, rfl, rfl, rfl, rfl, rfl, List.Sublist.refl _⟩
theorem Shr.trans {a b c : St} (h : Shr a b) (k : Shr b c) : Shr a c :=
  ⟨k.stocks.trans h.stocks, k.levels.trans h.levels, k.pool.trans h.pool, k.time.trans h.time, k.opn.trans h.opn, k.part.trans h.part, k.refs.trans h.refs, k.used.trans h.used, k.sub.trans h.sub⟩
theorem Shr.le {a b : St} (h : Shr a b) : b.resting ≤ a.resting := by
  have := h.sub.length_le
  simpa [St.resting] using this
theorem Shr.mem {a b : St} (h : Shr a b) {y : Ord} (hy : y ∈ b.all) : ∃ x ∈ a.all, x.token = y.token := by
  have : y.token ∈ a.all.map (·.token) := h.sub.subset (List.mem_map.2 ⟨y, hy, rfl⟩)
  obtain ⟨x, hx, e⟩ := List.mem_map.1 this
  exact ⟨x, hx, e⟩

theorem meets_at {st : St} (hi : Inv st) {o f : Ord} (h : st.meets o = some f) :
    ∃ t, st.q f.stock f.side f.price = f :: t ∧ Valid st f.stock f.side f.price ∧ f.stock = o.stock ∧ f.side = other o.side ∧ reaches o f.price = true ∧ 1 ≤ f.shares := by
  obtain ⟨r, hr, hc, hh, _⟩ := meets_some h
  obtain ⟨t, ht⟩ := List.head?_eq_some_iff.1 hh
  have hf := hi.ord _ _ _ f (by rw [ht]; simp)
  obtain ⟨e1, e2, e3, e4, -, -, -⟩ := hf
  rw [e1, e2, e3]
  exact ⟨t, ht, hi.ok _ _ _ (by rw [ht]; simp), rfl, rfl, hc, e4⟩

theorem execute_ok {st : St} (hi : Inv st) {o f : Ord} (h : st.meets o = some f) (n : Nat) :
    Inv (st.execute o f n) ∧ Shr st (st.execute o f n) ∧ (f.shares ≤ n → (st.execute o f n).resting + 1 = st.resting) := by
  obtain ⟨t, ht, hv, -⟩ := meets_at hi h
  have hx : st.execute o f n = (((({ st with mats := (st.mats + 1) % 4294967296 } : St).say (({ st with mats := (st.mats + 1) % 4294967296 } : St).fill f.token n f.price ((st.mats + 1) % 4294967296))).say (({ st with mats := (st.mats + 1) % 4294967296 } : St).fill o.token n f.price ((st.mats + 1) % 4294967296))).put
      (st.head 101 ++ enc f.ref 4 ++ enc n 2 ++ enc ((st.mats + 1) % 4294967296) 4)).upd f.stock f.side f.price (redO f.token n) := rfl
  have h0 : Inv ({ st with mats := (st.mats + 1) % 4294967296 } : St) := hi.of_q rfl rfl rfl rfl (fun _ h => h) hi.refs (Nat.mod_lt _ (by decide)) hi.time
  have h1 := ((h0.say (({ st with mats := (st.mats + 1) % 4294967296 } : St).fill f.token n f.price ((st.mats + 1) % 4294967296))).say (({ st with mats := (st.mats + 1) % 4294967296 } : St).fill o.token n f.price ((st.mats + 1) % 4294967296))).put
      (st.head 101 ++ enc f.ref 4 ++ enc n 2 ++ enc ((st.mats + 1) % 4294967296) 4)
  obtain ⟨A, B, e1, e2⟩ := all_upd (s := f.stock) (d := f.side) (p := f.price) (h := hv) (st := (((({ st with mats := (st.mats + 1) % 4294967296 } : St).say (({ st with mats := (st.mats + 1) % 4294967296 } : St).fill f.token n f.price ((st.mats + 1) % 4294967296))).say (({ st with mats := (st.mats + 1) % 4294967296 } : St).fill o.token n f.price ((st.mats + 1) % 4294967296))).put
      (st.head 101 ++ enc f.ref 4 ++ enc n 2 ++ enc ((st.mats + 1) % 4294967296) 4)))
  have e2 := e2 (redO f.token n)
  have ha : st.all = A ++ st.q f.stock f.side f.price ++ B := e1
  have hb : (st.execute o f n).all = A ++ redO f.token n (st.q f.stock f.side f.price) ++ B := e2
  refine ⟨hx ▸ h1.red f.stock f.side f.price f.token n hv, ⟨rfl, rfl, rfl, rfl, rfl, rfl, rfl, rfl, ?_⟩, ?_⟩
  · rw [ha, hb]
    simp only [List.map_append]
    exact ((List.Sublist.refl _).append (red_sub _ _ _)).append (List.Sublist.refl _)
  · intro hn
    unfold St.resting
    rw [ha, hb, ht]
    simp only [redO, if_pos, if_pos hn, List.length_append, List.length_cons]
    omega

theorem meet_ok (k : Nat) : ∀ (st : St) (o : Ord), Inv st →
    Inv (st.meet k o).1 ∧ Shr st (st.meet k o).1 ∧ (st.meet k o).2 = { o with shares := (st.meet k o).2.shares } ∧ (st.meet k o).2.shares ≤ o.shares ∧
    (st.resting < k → (st.meet k o).2.shares = 0 ∨ (st.meet k o).1.meets (st.meet k o).2 = none) := by
  induction k with
  | zero => intro st o h; exact ⟨h, Shr.refl _, rfl, Nat.le_refl _, fun h => by omega⟩
  | succ k ih =>
    intro st o h
    simp only [St.meet]
    by_cases h0 : o.shares = 0
    · rw [if_pos h0]
      exact ⟨h, Shr.refl _, rfl, Nat.le_refl _, fun _ => .inl h0⟩
    · rw [if_neg h0]
      cases hm : st.meets o with
      | none => exact ⟨h, Shr.refl _, rfl, Nat.le_refl _, fun _ => .inr hm⟩
      | some f =>
        simp only
        obtain ⟨i1, i2, i3⟩ := execute_ok h hm (min o.shares f.shares)
        obtain ⟨j1, j2, j3, j4, j5⟩ := ih (st.execute o f (min o.shares f.shares)) { o with shares := o.shares - min o.shares f.shares } i1
        refine ⟨j1, i2.trans j2, j3, Nat.le_trans j4 (Nat.sub_le _ _), ?_⟩
        intro hk
        by_cases hle : f.shares ≤ o.shares
        · have := i3 (by omega)
          exact j5 (by omega)
        · left
          have : o.shares - min o.shares f.shares = 0 := by omega
          have j4' := j4
          simp only [this] at j4' ⊢
          omega

theorem Inv.rest {st : St} (h : Inv st) (o : Ord) (hv : Valid st o.stock o.side o.price) (h1 : 1 ≤ o.shares) (h2 : o.shares ≤ 9999) (h3 : o.ref < 4294967296) (h4 : o.token < 4294967296)
    (hu : o.token ∈ st.used) (hn : ∀ x ∈ st.all, x.token ≠ o.token) (hr : st.resting < st.pool) (hx : st.meets o = none) : Inv (st.rest o) := by
  have hp : Inv (st.upd o.stock o.side o.price (· ++ [o])) := by
    refine h.push o hv h1 h2 h3 h4 hu hn hr ?_
    intro p hne
    have hvp := h.ok _ _ _ hne
    obtain ⟨r, hr1, hr2⟩ := ranked_of st (other o.side) p hvp.2.2.1 hvp.2.2.2
    by_cases hc : reaches o p = true
    · rw [← hr2] at hc hne
      exact absurd (meets_none hx r hr1 hc) hne
    · simpa using hc
  exact hp.put _

theorem Inv.enter {st : St} (h : Inv st) (t : Nat) (side : UInt8) (stock price shares : Nat) (kind : UInt8) (ht : t < 4294967296) : Inv (st.enter t side stock price shares kind) := by
  unfold St.enter
  split
  · exact h.say _
  · rename_i hw
    unfold St.why at hw
    split at hw <;> try (cases hw; done)
    rename_i c1
    split at hw <;> try (cases hw; done)
    rename_i c2
    split at hw <;> try (cases hw; done)
    rename_i c3
    split at hw <;> try (cases hw; done)
    rename_i c4
    split at hw <;> try (cases hw; done)
    rename_i c5
    split at hw <;> try (cases hw; done)
    rename_i c6
    split at hw <;> try (cases hw; done)
    rename_i c7
    clear hw
    dsimp only
    have hside : side = 66 ∨ side = 83 := by
      by_cases h1 : side = 66
      · exact .inl h1
      · by_cases h2 : side = 83
        · exact .inr h2
        · exact absurd ⟨h1, h2⟩ c2
    have hacc : Inv (st.accept { ref := (st.refs + 1) % 4294967296, token := t, side := side, stock := stock, price := price, shares := shares } kind) :=
      h.of_q rfl rfl rfl rfl (fun _ h => List.mem_cons_of_mem _ h) (Nat.mod_lt _ (by decide)) h.mats h.time
    obtain ⟨j1, j2, j3, j4, j5⟩ := meet_ok 65 _ { ref := (st.refs + 1) % 4294967296, token := t, side := side, stock := stock, price := price, shares := shares } hacc
    have hres : (st.accept { ref := (st.refs + 1) % 4294967296, token := t, side := side, stock := stock, price := price, shares := shares } kind).resting = st.resting := rfl
    have hused : (st.accept { ref := (st.refs + 1) % 4294967296, token := t, side := side, stock := stock, price := price, shares := shares } kind).used = t :: st.used := rfl
    have hall : (st.accept { ref := (st.refs + 1) % 4294967296, token := t, side := side, stock := stock, price := price, shares := shares } kind).all = st.all := rfl
    have hpool : (st.accept { ref := (st.refs + 1) % 4294967296, token := t, side := side, stock := stock, price := price, shares := shares } kind).pool = st.pool := rfl
    have hval : Valid (st.accept { ref := (st.refs + 1) % 4294967296, token := t, side := side, stock := stock, price := price, shares := shares } kind) stock side price := ⟨by show stock < st.stocks; omega, hside, by omega, by show price ≤ st.levels; omega⟩
    generalize hX : (st.accept { ref := (st.refs + 1) % 4294967296, token := t, side := side, stock := stock, price := price, shares := shares } kind) = a at *
    generalize hY : a.meet 65 { ref := (st.refs + 1) % 4294967296, token := t, side := side, stock := stock, price := price, shares := shares } = x at *
    obtain ⟨b, y⟩ := x
    simp only at j1 j2 j3 j4 j5 ⊢
    by_cases h0 : y.shares = 0
    · rw [if_pos h0]; exact j1
    · rw [if_neg h0]
      by_cases hk : kind = 68
      · rw [if_pos hk]
        have hroom := h.room
        have hp := h.pool
        have c7' : ¬ st.pool ≤ st.resting := fun hc => c7 ⟨hk, hc⟩
        have hm := (j5 (by omega)).resolve_left h0
        rw [j3]
        rw [j3] at hm
        refine j1.rest _ ?_ (by show 1 ≤ y.shares; omega) (by show y.shares ≤ 9999; omega) (Nat.mod_lt _ (by decide)) ht ?_ ?_ ?_ hm
        · unfold Valid at *
          rw [j2.stocks, j2.levels]; exact hval
        · show t ∈ b.used
          rw [j2.used, hused]; simp
        · intro z hz e
          obtain ⟨z', hz', e'⟩ := j2.mem hz
          rw [hall] at hz'
          have := h.used z' hz'
          rw [e', e] at this
          exact c1 this
        · have := j2.le
          rw [j2.pool, hpool]; omega
      · rw [if_neg hk]; exact j1.say _

end Go.Proofs.Ytphkchjejbffeaa

/- Plain: each message keeps what holds of every bourse (cancel, replace, and all together). -/
namespace Go.Proofs.Ytphkchjejbffeaa

theorem cut_token (t : Nat) (y : Ord) (l : List Ord) (h : ∃ x ∈ l, x.token = t) : ∃ l1 x l2, l = l1 ++ x :: l2 ∧ x.token = t ∧ (∀ z ∈ l1, z.token ≠ t) ∧ subO t y l = l1 ++ y :: l2 ∧ delO t l = l1 ++ l2 := by
  induction l with
  | nil => obtain ⟨x, hx, _⟩ := h; simp at hx
  | cons z l ih =>
    by_cases hz : z.token = t
    · exact ⟨[], z, l, rfl, hz, by simp, by simp [subO, hz], by simp [delO, hz]⟩
    · obtain ⟨x, hx, e⟩ := h
      have hx' : x ∈ l := by
        rcases List.mem_cons.1 hx with rfl | hx
        · exact absurd e hz
        · exact hx
      obtain ⟨l1, x', l2, e1, e2, e3, e4, e5⟩ := ih ⟨x, hx', e⟩
      refine ⟨z :: l1, x', l2, by rw [e1]; rfl, e2, ?_, by simp [subO, hz, e4], by simp [delO, hz, e5]⟩
      intro w hw
      rcases List.mem_cons.1 hw with rfl | hw
      · exact hz
      · exact e3 w hw

theorem find_at {st : St} (h : Inv st) {t : Nat} {o : Ord} (hf : st.find t = some o) : o ∈ st.all ∧ o.token = t ∧ Valid st o.stock o.side o.price ∧ o ∈ st.q o.stock o.side o.price ∧ Fits o.stock o.side o.price o := by
  have hm := List.mem_of_find?_eq_some hf
  have ht := List.find?_some hf
  obtain ⟨s, d, p, h1, h2, h3, h4, h5⟩ := (mem_all st o).1 hm
  have hfit := h.ord _ _ _ o h5
  obtain ⟨rfl, rfl, rfl, -, -, -, -⟩ := id hfit
  exact ⟨hm, by simpa using ht, ⟨h1, h2, h3, h4⟩, h5, hfit⟩

theorem Inv.cancel {st : St} (h : Inv st) (t n : Nat) : Inv (st.cancel t n) := by
  unfold St.cancel
  split
  · exact h
  · rename_i o ho
    obtain ⟨-, -, hv, -, -⟩ := find_at h ho
    split
    · exact h
    · dsimp only
      split
      · exact ((h.say _).put _).red _ _ _ _ _ hv
      · exact ((h.say _).put _).red _ _ _ _ _ hv

/-- An order in another's place. -/
theorem Inv.sub {st : St} (h : Inv st) (t : Nat) (y : Ord) (hv : Valid st y.stock y.side y.price) (hx : ∃ x ∈ st.q y.stock y.side y.price, x.token = t) (h1 : 1 ≤ y.shares) (h2 : y.shares ≤ 9999) (h3 : y.ref < 4294967296) (h4 : y.token < 4294967296)
    (hu : y.token ∈ st.used) (hn : ∀ x ∈ st.all, x.token ≠ y.token) : Inv (st.upd y.stock y.side y.price (subO t y)) := by
  obtain ⟨A, B, e1, e2⟩ := all_upd st y.stock y.side y.price hv
  have e2 := e2 (subO t y)
  obtain ⟨l1, x, l2, c1, c2, -, c3, -⟩ := cut_token t y _ hx
  have hp1 : st.all.Perm (x :: (A ++ l1 ++ l2 ++ B)) := by
    rw [e1, c1]
    simp only [List.append_assoc, List.cons_append]
    rw [← List.append_assoc A l1, ← List.append_assoc A l1]
    exact List.perm_middle
  have hp2 : (st.upd y.stock y.side y.price (subO t y)).all.Perm (y :: (A ++ l1 ++ l2 ++ B)) := by
    rw [e2, c3]
    simp only [List.append_assoc, List.cons_append]
    rw [← List.append_assoc A l1, ← List.append_assoc A l1]
    exact List.perm_middle
  have hq : ∀ s' d' p', (st.upd y.stock y.side y.price (subO t y)).q s' d' p' = if s' = y.stock ∧ d' = y.side ∧ p' = y.price then subO t y (st.q y.stock y.side y.price) else st.q s' d' p' := fun _ _ _ => rfl
  have hne : ∀ s' d' p', (st.upd y.stock y.side y.price (subO t y)).q s' d' p' ≠ [] → st.q s' d' p' ≠ [] := by
    intro s' d' p' hn
    rw [hq] at hn
    split at hn
    · rename_i hc
      obtain ⟨rfl, rfl, rfl⟩ := hc
      rw [c1]; simp
    · exact hn
  refine ⟨h.stocks, h.levels, h.pool, ?_, ?_, ?_, ?_, ?_, ?_, h.refs, h.mats, h.time⟩
  · intro s d p z hz
    rw [hq] at hz
    split at hz
    · rename_i hc
      obtain ⟨rfl, rfl, rfl⟩ := hc
      rw [c3] at hz
      rcases List.mem_append.1 hz with hz | hz
      · exact h.ord _ _ _ z (by rw [c1]; simp [hz])
      · rcases List.mem_cons.1 hz with rfl | hz
        · exact ⟨rfl, rfl, rfl, h1, h2, h3, h4⟩
        · exact h.ord _ _ _ z (by rw [c1]; simp [hz])
    · exact h.ord _ _ _ z hz
  · intro s d p hn
    exact h.ok _ _ _ (hne _ _ _ hn)
  · have hn1 := h.nodup
    rw [(hp1.map (·.token)).nodup_iff, List.map_cons, List.nodup_cons] at hn1
    rw [(hp2.map (·.token)).nodup_iff, List.map_cons, List.nodup_cons]
    refine ⟨fun hm => ?_, hn1.2⟩
    obtain ⟨z, hz, e⟩ := List.mem_map.1 hm
    exact hn z (hp1.symm.subset (List.mem_cons_of_mem _ hz)) e
  · intro z hz
    rcases List.mem_cons.1 (hp2.subset hz) with rfl | hz
    · exact hu
    · exact h.used z (hp1.symm.subset (List.mem_cons_of_mem _ hz))
  · have a1 := hp1.length_eq
    have a2 := hp2.length_eq
    have := h.room
    unfold St.resting at *
    simp only [List.length_cons] at a1 a2
    show (st.upd y.stock y.side y.price (subO t y)).all.length ≤ st.pool
    omega
  · intro s pb pa hb ha
    exact h.unc s pb pa (hne _ _ _ hb) (hne _ _ _ ha)

theorem del_all {st : St} (s : Nat) (d : UInt8) (p t : Nat) (hv : Valid st s d p) (hx : ∃ x ∈ st.q s d p, x.token = t) : (st.upd s d p (delO t)).resting + 1 = st.resting ∧ ((st.upd s d p (delO t)).all).Sublist st.all := by
  obtain ⟨A, B, e1, e2⟩ := all_upd st s d p hv
  have e2 := e2 (delO t)
  have hs : ((st.upd s d p (delO t)).all).Sublist st.all := by
    rw [e1, e2]
    exact ((List.Sublist.refl _).append (del_mem _ _)).append (List.Sublist.refl _)
  refine ⟨?_, hs⟩
  obtain ⟨l1, x, l2, c1, -, -, -, c4⟩ := cut_token t { ref := 0, token := 0, side := 0, stock := 0, price := 0, shares := 0 } _ hx
  unfold St.resting
  rw [e1, e2, c4, c1]
  simp only [List.length_append, List.length_cons]
  omega

theorem Inv.replace {st : St} (h : Inv st) (t n price shares : Nat) (hn32 : n < 4294967296) : Inv (st.replace t n price shares) := by
  unfold St.replace
  split
  · exact h
  · rename_i o ho
    split
    · exact h.say _
    · rename_i hw
      unfold St.whyR at hw
      split at hw <;> try (cases hw; done)
      rename_i c1
      split at hw <;> try (cases hw; done)
      rename_i c2
      split at hw <;> try (cases hw; done)
      rename_i c3
      clear hw
      obtain ⟨hoa, hot, hv, hoq, hfit⟩ := find_at h ho
      dsimp only
      have hB : Inv (({ st with refs := (st.refs + 1) % 4294967296, used := n :: st.used } : St).say (st.head 85 ++ enc n 4 ++ enc price 2 ++ enc shares 2 ++ enc ((st.refs + 1) % 4294967296) 4 ++ enc t 4)) :=
        h.of_q rfl rfl rfl rfl (fun _ h => List.mem_cons_of_mem _ h) (Nat.mod_lt _ (by decide)) h.mats h.time
      have hq : (({ st with refs := (st.refs + 1) % 4294967296, used := n :: st.used } : St).say (st.head 85 ++ enc n 4 ++ enc price 2 ++ enc shares 2 ++ enc ((st.refs + 1) % 4294967296) 4 ++ enc t 4)).q = st.q := rfl
      have hall : (({ st with refs := (st.refs + 1) % 4294967296, used := n :: st.used } : St).say (st.head 85 ++ enc n 4 ++ enc price 2 ++ enc shares 2 ++ enc ((st.refs + 1) % 4294967296) 4 ++ enc t 4)).all = st.all := rfl
      have hused : (({ st with refs := (st.refs + 1) % 4294967296, used := n :: st.used } : St).say (st.head 85 ++ enc n 4 ++ enc price 2 ++ enc shares 2 ++ enc ((st.refs + 1) % 4294967296) 4 ++ enc t 4)).used = n :: st.used := rfl
      have hsl : (({ st with refs := (st.refs + 1) % 4294967296, used := n :: st.used } : St).say (st.head 85 ++ enc n 4 ++ enc price 2 ++ enc shares 2 ++ enc ((st.refs + 1) % 4294967296) 4 ++ enc t 4)).levels = st.levels ∧ (({ st with refs := (st.refs + 1) % 4294967296, used := n :: st.used } : St).say (st.head 85 ++ enc n 4 ++ enc price 2 ++ enc shares 2 ++ enc ((st.refs + 1) % 4294967296) 4 ++ enc t 4)).stocks = st.stocks ∧ (({ st with refs := (st.refs + 1) % 4294967296, used := n :: st.used } : St).say (st.head 85 ++ enc n 4 ++ enc price 2 ++ enc shares 2 ++ enc ((st.refs + 1) % 4294967296) 4 ++ enc t 4)).pool = st.pool := ⟨rfl, rfl, rfl⟩
      generalize (({ st with refs := (st.refs + 1) % 4294967296, used := n :: st.used } : St).say (st.head 85 ++ enc n 4 ++ enc price 2 ++ enc shares 2 ++ enc ((st.refs + 1) % 4294967296) 4 ++ enc t 4)) = b at *
      have hnn : ∀ x ∈ b.all, x.token ≠ n := by
        intro x hx e
        rw [hall] at hx
        exact c1 (e ▸ h.used x hx)
      have hvb : Valid b o.stock o.side o.price := by unfold Valid at *; rw [hsl.1, hsl.2.1]; exact hv
      have hvn : Valid b o.stock o.side price := by unfold Valid at *; rw [hsl.1, hsl.2.1]; exact ⟨hv.1, hv.2.1, by omega, by omega⟩
      have hxq : ∃ x ∈ b.q o.stock o.side o.price, x.token = t := ⟨o, by rw [hq]; exact hoq, hot⟩
      have hroom := h.room
      have hpool := h.pool
      split
      · rename_i hm
        split
        · rename_i hc
          obtain ⟨rfl, hle⟩ := hc
          exact (hB.put _).sub t { ref := (st.refs + 1) % 4294967296, token := n, side := o.side, stock := o.stock, price := o.price, shares := shares } hvb hxq (by show 1 ≤ shares; omega) (by show shares ≤ 9999; omega) (Nat.mod_lt _ (by decide)) hn32 (by show n ∈ b.used; rw [hused]; simp) hnn
        · have hd := (hB.put (b.head 117 ++ enc o.ref 4 ++ enc ((st.refs + 1) % 4294967296) 4 ++ enc shares 2 ++ enc price 2)).del o.stock o.side o.price t hvb
          obtain ⟨r1, r2⟩ := del_all (st := b.put (b.head 117 ++ enc o.ref 4 ++ enc ((st.refs + 1) % 4294967296) 4 ++ enc shares 2 ++ enc price 2)) o.stock o.side o.price t hvb hxq
          have r3 : (b.put (b.head 117 ++ enc o.ref 4 ++ enc ((st.refs + 1) % 4294967296) 4 ++ enc shares 2 ++ enc price 2)).resting = st.resting := by
            show b.all.length = st.all.length; rw [hall]
          refine hd.push { ref := (st.refs + 1) % 4294967296, token := n, side := o.side, stock := o.stock, price := price, shares := shares } hvn (by show 1 ≤ shares; omega) (by show shares ≤ 9999; omega) (Nat.mod_lt _ (by decide)) hn32 (by show n ∈ b.used; rw [hused]; simp) (fun x hx => hnn x (r2.subset hx)) ?_ ?_
          · show _ < b.pool
            rw [hsl.2.2]; omega
          · intro p hne
            have hne' : b.q o.stock (other o.side) p ≠ [] := by
              intro e
              apply hne
              show (if _ then _ else _) = []
              rw [if_neg]
              · exact e
              · rintro ⟨-, hd, -⟩
                have hd : other o.side = o.side := hd
                rcases hv.2.1 with hs | hs <;> rw [hs] at hd <;> revert hd <;> decide
            have hvp := hB.ok _ _ _ hne'
            obtain ⟨r, hr1, hr2⟩ := ranked_of b (other o.side) p hvp.2.2.1 hvp.2.2.2
            by_cases hc : reaches { ref := (st.refs + 1) % 4294967296, token := n, side := o.side, stock := o.stock, price := price, shares := shares } p = true
            · rw [← hr2] at hc hne'
              exact absurd (meets_none hm r hr1 hc) hne'
            · simpa using hc
      · have hd := (hB.put (b.head 100 ++ enc o.ref 4)).del o.stock o.side o.price t hvb
        obtain ⟨r1, r2⟩ := del_all (st := b.put (b.head 100 ++ enc o.ref 4)) o.stock o.side o.price t hvb hxq
        have r3 : (b.put (b.head 100 ++ enc o.ref 4)).resting = st.resting := by
          show b.all.length = st.all.length; rw [hall]
        have r4 : ((b.put (b.head 100 ++ enc o.ref 4)).upd o.stock o.side o.price (delO t)).used = n :: st.used := hused
        have r5 : ((b.put (b.head 100 ++ enc o.ref 4)).upd o.stock o.side o.price (delO t)).pool = st.pool := hsl.2.2
        have r6 : Valid ((b.put (b.head 100 ++ enc o.ref 4)).upd o.stock o.side o.price (delO t)) o.stock o.side price := hvn
        have r7 : ∀ x ∈ ((b.put (b.head 100 ++ enc o.ref 4)).upd o.stock o.side o.price (delO t)).all, x.token ≠ n := fun x hx => hnn x (r2.subset hx)
        generalize ((b.put (b.head 100 ++ enc o.ref 4)).upd o.stock o.side o.price (delO t)) = c at *
        obtain ⟨j1, j2, j3, j4, j5⟩ := meet_ok 65 c { ref := (st.refs + 1) % 4294967296, token := n, side := o.side, stock := o.stock, price := price, shares := shares } hd
        generalize hY : c.meet 65 { ref := (st.refs + 1) % 4294967296, token := n, side := o.side, stock := o.stock, price := price, shares := shares } = x at *
        obtain ⟨e, y⟩ := x
        simp only at j1 j2 j3 j4 j5 ⊢
        by_cases h0 : y.shares = 0
        · rw [if_pos h0]; exact j1
        · rw [if_neg h0]
          have hm := (j5 (by omega)).resolve_left h0
          rw [j3]
          rw [j3] at hm
          refine j1.rest _ ?_ (by show 1 ≤ y.shares; omega) (by show y.shares ≤ 9999; omega) (Nat.mod_lt _ (by decide)) hn32 ?_ ?_ ?_ hm
          · unfold Valid at *
            rw [j2.stocks, j2.levels]; exact r6
          · show n ∈ e.used
            rw [j2.used, r4]; simp
          · intro z hz e'
            obtain ⟨z', hz', e''⟩ := j2.mem hz
            exact r7 z' hz' (e''.trans e')
          · have := j2.le
            rw [j2.pool, r5]; omega

theorem at_lt (m : List UInt8) (i : Nat) : at_ m i 4 < 4294967296 := by
  unfold at_
  have h := num_lt ((m.drop i).take 4) 0
  have hl : ((m.drop i).take 4).length ≤ 4 := by simp; omega
  have : 256 ^ ((m.drop i).take 4).length ≤ 256 ^ 4 := Nat.pow_le_pow_right (by omega) hl
  omega

theorem Inv.act {st : St} (h : Inv st) (m : List UInt8) : Inv (st.act m) := by
  unfold St.act
  split
  · exact h.enter _ _ _ _ _ _ (at_lt m 1)
  · split
    · exact h.replace _ _ _ _ (at_lt m 5)
    · split
      · exact h.cancel _ _
      · exact h.of_q rfl rfl rfl rfl (fun _ h => h) h.refs h.mats h.time

theorem Inv.step {st : St} (h : Inv st) (c : UInt8) : Inv (st.step c) := by
  unfold St.step
  split
  · split
    · exact (h.of_q (st' := { st with part := [] }) rfl rfl rfl rfl (fun _ h => h) h.refs h.mats h.time).act _
    · exact h.of_q rfl rfl rfl rfl (fun _ h => h) h.refs h.mats h.time
  · exact h

theorem Inv.feed {st : St} (h : Inv st) (l : List UInt8) : Inv (st.feed l) := by
  induction l generalizing st with
  | nil => exact h
  | cons c l ih => exact ih (h.step c)

theorem Inv.tick {st : St} (h : Inv st) (n : Nat) : Inv (st.tick n) := h.of_q rfl rfl rfl rfl (fun _ h => h) h.refs h.mats (Nat.mod_lt _ (by decide))
theorem Inv.told {st : St} (h : Inv st) : Inv st.told := h.of_q rfl rfl rfl rfl (fun _ h => h) h.refs h.mats h.time
theorem Inv.taped {st : St} (h : Inv st) : Inv st.taped := h.of_q rfl rfl rfl rfl (fun _ h => h) h.refs h.mats h.time

theorem Inv.opened (s l p : Nat) (h1 : 1 ≤ s ∧ s ≤ 8) (h2 : 1 ≤ l ∧ l ≤ 64) (h3 : 1 ≤ p ∧ p ≤ 64) : Inv (opened s l p) := by
  have ha : (Go.Proofs.Ytphkchjejbffeaa.opened s l p).all = [] := by
    rw [all_eq]
    exact List.flatMap_eq_nil_iff.2 (fun c _ => rfl)
  refine ⟨h1, h2, h3, ?_, ?_, ?_, ?_, ?_, ?_, by show 0 < _; decide, by show 0 < _; decide, by show 0 < _; decide⟩
  · intro s d p x hx; cases hx
  · intro s d p hne; exact absurd rfl hne
  · rw [ha]; simp
  · rw [ha]; simp
  · unfold St.resting; rw [ha]; simp
  · intro s pb pa hb; exact absurd rfl hb

end Go.Proofs.Ytphkchjejbffeaa

/- Books by places against books by the document: plain facts. -/
namespace Go.Proofs.Ytphkchjejbffeaa

theorem redO_app (t n : Nat) (a : List Ord) (o : Ord) (b : List Ord) (ha : ∀ z ∈ a, z.token ≠ t) (ho : o.token = t) : redO t n (a ++ o :: b) = a ++ (if o.shares ≤ n then b else { o with shares := o.shares - n } :: b) := by
  induction a with
  | nil => simp [redO, ho]
  | cons z a ih =>
    have h1 : z.token ≠ t := ha z (by simp)
    show redO t n (z :: (a ++ o :: b)) = _
    rw [redO, if_neg h1, ih (fun y hy => ha y (by simp [hy]))]
    rfl
theorem delO_app (t : Nat) (a : List Ord) (o : Ord) (b : List Ord) (ha : ∀ z ∈ a, z.token ≠ t) (ho : o.token = t) : delO t (a ++ o :: b) = a ++ b := by
  induction a with
  | nil => simp [delO, ho]
  | cons z a ih =>
    have h1 : z.token ≠ t := ha z (by simp)
    show delO t (z :: (a ++ o :: b)) = _
    rw [delO, if_neg h1, ih (fun y hy => ha y (by simp [hy]))]
    rfl
theorem subO_app (t : Nat) (y : Ord) (a : List Ord) (o : Ord) (b : List Ord) (ha : ∀ z ∈ a, z.token ≠ t) (ho : o.token = t) : subO t y (a ++ o :: b) = a ++ y :: b := by
  induction a with
  | nil => simp [subO, ho]
  | cons z a ih =>
    have h1 : z.token ≠ t := ha z (by simp)
    show subO t y (z :: (a ++ o :: b)) = _
    rw [subO, if_neg h1, ih (fun y hy => ha y (by simp [hy]))]
    rfl

theorem find_nodup (l : List Ord) (hn : (l.map (·.token)).Nodup) (o : Ord) (ho : o ∈ l) : l.find? (·.token == o.token) = some o := by
  induction l with
  | nil => cases ho
  | cons z l ih =>
    rw [List.map_cons, List.nodup_cons] at hn
    rcases List.mem_cons.1 ho with rfl | ho
    · simp
    · have : z.token ≠ o.token := by
        intro e
        exact hn.1 (by rw [e]; exact List.mem_map.2 ⟨o, ho, rfl⟩)
      rw [List.find?_cons_of_neg (by simpa using this)]
      exact ih hn.2 ho

theorem map_updN (od : Nat → Ord) (x : Nat) (o : Ord) (l : List Nat) (h : x ∉ l) : l.map (updN od x o) = l.map od := by
  apply List.map_congr_left
  intro y hy
  exact updN_ne _ _ _ _ (fun e => h (e ▸ hy))

def updM (M : Nat → Option Nat) (t : Nat) (v : Option Nat) : Nat → Option Nat := fun i => if i = t then v else M i
theorem updM_same (M : Nat → Option Nat) (t : Nat) (v : Option Nat) : updM M t v t = v := if_pos rfl
theorem updM_ne (M : Nat → Option Nat) (t : Nat) (v : Option Nat) (i : Nat) (h : i ≠ t) : updM M t v i = M i := if_neg h

/-- The places, what lies there, and the places of tokens, are those of a state. -/
structure Fi (S L n : Nat) (od : Nat → Ord) (ps : Nat → UInt8 → Nat → List Nat) (fl : List Nat) (M : Nat → Option Nat) (st : St) : Prop where
  hS : S = st.stocks
  hL : L = st.levels
  hn : n = st.pool + 1
  q : ∀ s d p, VV S L s d p → st.q s d p = (ps s d p).map od
  cnt : fl.length + st.resting = st.pool
  used : ∀ t, (M t).isSome = true ↔ t ∈ st.used
  mat : ∀ s d p, VV S L s d p → ∀ x ∈ ps s d p, M (od x).token = some x
  mto : ∀ t x, M t = some x → x ≠ 0 → ∃ s d p, VV S L s d p ∧ x ∈ ps s d p ∧ (od x).token = t
  inv : Inv st
  unod : st.used.Nodup
  ult : ∀ t ∈ st.used, t < 4294967296

section
variable {S L n : Nat} {od : Nat → Ord} {ps : Nat → UInt8 → Nat → List Nat} {fl : List Nat} {M : Nat → Option Nat} {st : St}

theorem Fi.valid (h : Fi S L n od ps fl M st) {s : Nat} {d : UInt8} {p : Nat} (hv : VV S L s d p) : Valid st s d p := by
  unfold VV at hv; rw [h.hS, h.hL] at hv; exact hv
theorem Fi.vv (h : Fi S L n od ps fl M st) {s : Nat} {d : UInt8} {p : Nat} (hv : Valid st s d p) : VV S L s d p := by
  unfold VV; rw [h.hS, h.hL]; exact hv

theorem Fi.fits (h : Fi S L n od ps fl M st) {s : Nat} {d : UInt8} {p : Nat} (hv : VV S L s d p) {x : Nat} (hx : x ∈ ps s d p) : Fits s d p (od x) :=
  h.inv.ord s d p (od x) (by rw [h.q s d p hv]; exact List.mem_map.2 ⟨x, hx, rfl⟩)

theorem Fi.mem_all (h : Fi S L n od ps fl M st) {o : Ord} (ho : o ∈ st.all) : ∃ s d p x, VV S L s d p ∧ x ∈ ps s d p ∧ od x = o := by
  obtain ⟨s, d, p, h1, h2, h3, h4, h5⟩ := (Go.Proofs.Ytphkchjejbffeaa.mem_all st o).1 ho
  have hv : VV S L s d p := h.vv ⟨h1, h2, h3, h4⟩
  rw [h.q s d p hv] at h5
  obtain ⟨x, hx, e⟩ := List.mem_map.1 h5
  exact ⟨s, d, p, x, hv, hx, e⟩

theorem Fi.in_all (h : Fi S L n od ps fl M st) {s : Nat} {d : UInt8} {p : Nat} (hv : VV S L s d p) {x : Nat} (hx : x ∈ ps s d p) : od x ∈ st.all := by
  obtain ⟨h1, h2, h3, h4⟩ := h.valid hv
  exact (Go.Proofs.Ytphkchjejbffeaa.mem_all st _).2 ⟨s, d, p, h1, h2, h3, h4, by rw [h.q s d p hv]; exact List.mem_map.2 ⟨x, hx, rfl⟩⟩

theorem Fi.find (h : Fi S L n od ps fl M st) {t x : Nat} (hm : M t = some x) (hx : x ≠ 0) : st.find t = some (od x) := by
  obtain ⟨s, d, p, hv, hp, ht⟩ := h.mto t x hm hx
  have := find_nodup st.all h.inv.nodup (od x) (h.in_all hv hp)
  rw [ht] at this
  exact this

theorem Fi.find_none (h : Fi S L n od ps fl M st) {t : Nat} (hne : ∀ s d p, VV S L s d p → ∀ x ∈ ps s d p, x ≠ 0) (hm : M t = none ∨ M t = some 0) : st.find t = none := by
  by_cases e : st.find t = none
  · exact e
  · obtain ⟨o, ho⟩ := Option.ne_none_iff_exists'.1 e
    obtain ⟨h1, h2, -⟩ := find_at h.inv ho
    obtain ⟨s, d, p, x, hv, hx, rfl⟩ := h.mem_all h1
    have := h.mat s d p hv x hx
    rw [h2] at this
    rcases hm with hm | hm
    · rw [hm] at this; cases this
    · rw [hm] at this
      cases this
      exact absurd rfl (hne s d p hv 0 hx)

/-- Of two places in lines the tokens differ. -/
theorem Fi.apart (h : Fi S L n od ps fl M st) {s s' : Nat} {d d' : UInt8} {p p' : Nat} (hv : VV S L s d p) (hv' : VV S L s' d' p') {x y : Nat} (hx : x ∈ ps s d p) (hy : y ∈ ps s' d' p') (hne : y ≠ x) : (od y).token ≠ (od x).token := by
  intro e
  have h1 := h.mat s d p hv x hx
  have h2 := h.mat s' d' p' hv' y hy
  rw [e, h1] at h2
  cases h2
  exact hne rfl

theorem Fi.cut (h : Fi S L n od ps fl M st) {s : Nat} {d : UInt8} {p : Nat} (hv : VV S L s d p) {x : Nat} {a b : List Nat} (hab : ps s d p = a ++ x :: b) (hnd : (ps s d p).Nodup) : (∀ z ∈ a.map od, z.token ≠ (od x).token) ∧ x ∉ a ∧ x ∉ b := by
  rw [hab, List.nodup_append] at hnd
  have hxa : x ∉ a := fun e => hnd.2.2 x e x (by simp) rfl
  have hxb : x ∉ b := (List.nodup_cons.1 hnd.2.1).1
  refine ⟨?_, hxa, hxb⟩
  intro z hz
  obtain ⟨y, hy, rfl⟩ := List.mem_map.1 hz
  exact h.apart hv hv (by rw [hab]; simp) (by rw [hab]; simp [hy]) (fun e => hxa (e ▸ hy))

theorem rest_upd (st : St) (s : Nat) (d : UInt8) (p : Nat) (hv : Valid st s d p) (f : List Ord → List Ord) : (st.upd s d p f).resting + (st.q s d p).length = st.resting + (f (st.q s d p)).length := by
  obtain ⟨A, B, e1, e2⟩ := all_upd st s d p hv
  unfold St.resting
  rw [e1, e2 f]
  simp only [List.length_append]
  omega

theorem upd_q (st : St) (s : Nat) (d : UInt8) (p : Nat) (f : List Ord → List Ord) (s' : Nat) (d' : UInt8) (p' : Nat) : (st.upd s d p f).q s' d' p' = if s' = s ∧ d' = d ∧ p' = p then f (st.q s d p) else st.q s' d' p' := rfl

/-- What a line holds after a change that touches one place alone. -/
theorem Fi.q_upd (h : Fi S L n od ps fl M st) {s : Nat} {d : UInt8} {p : Nat} (f : List Ord → List Ord) (l : List Nat) (od' : Nat → Ord)
    (h1 : f (st.q s d p) = l.map od') (h2 : ∀ s' d' p', VV S L s' d' p' → ¬ (s' = s ∧ d' = d ∧ p' = p) → (ps s' d' p').map od' = (ps s' d' p').map od) :
    ∀ s' d' p', VV S L s' d' p' → (st.upd s d p f).q s' d' p' = (updQ ps s d p l s' d' p').map od' := by
  intro s' d' p' hv'
  rw [upd_q]
  by_cases e : s' = s ∧ d' = d ∧ p' = p
  · rw [if_pos e]
    obtain ⟨rfl, rfl, rfl⟩ := e
    rw [updQ_same, h1]
  · rw [if_neg e, updQ_ne _ _ _ _ _ e, h2 _ _ _ hv' e, h.q _ _ _ hv']
end

end Go.Proofs.Ytphkchjejbffeaa
