/- Plain: each message keeps what holds of every bourse. -/
import Derived.Test.YtphkchjejbffeaaG01
import Derived.Test.YtphkchjejbffeaaProg
namespace Go.Proofs.Ytphkchjejbffeaa

/-- b is a with less that rests. -/
structure Shr (a b : St) : Prop where
  stocks : b.stocks = a.stocks
  levels : b.levels = a.levels
  pool : b.pool = a.pool
  time : b.time = a.time
  opn : b.opn = a.opn
  part : b.part = a.part
  refs : b.refs = a.refs
  used : b.used = a.used
  sub : (b.all.map (·.token)).Sublist (a.all.map (·.token))

theorem Shr.refl (a : St) : Shr a a := ⟨rfl, rfl, rfl, rfl, rfl, rfl, rfl, rfl, List.Sublist.refl _⟩
theorem Shr.trans {a b c : St} (h : Shr a b) (k : Shr b c) : Shr a c :=
  ⟨k.stocks.trans h.stocks, k.levels.trans h.levels, k.pool.trans h.pool, k.time.trans h.time, k.opn.trans h.opn, k.part.trans h.part, k.refs.trans h.refs, k.used.trans h.used, k.sub.trans h.sub⟩
theorem Shr.le {a b : St} (h : Shr a b) : b.resting ≤ a.resting := by
  have := h.sub.length_le
  simpa [St.resting] using this
theorem Shr.mem {a b : St} (h : Shr a b) {y : Ord} (hy : y ∈ b.all) : ∃ x ∈ a.all, x.token = y.token := by
  have : y.token ∈ a.all.map (·.token) := h.sub.subset (List.mem_map.2 ⟨y, hy, rfl⟩)
  obtain ⟨x, hx, e⟩ := List.mem_map.1 this
  exact ⟨x, hx, e⟩

theorem meets_at {st : St} (hi : Inv st) {o f : Ord} (h : st.meets o = some f) :
    ∃ t, st.q f.stock f.side f.price = f :: t ∧ Valid st f.stock f.side f.price ∧ f.stock = o.stock ∧ f.side = other o.side ∧ reaches o f.price = true ∧ 1 ≤ f.shares := by
  obtain ⟨r, hr, hc, hh, _⟩ := meets_some h
  obtain ⟨t, ht⟩ := List.head?_eq_some_iff.1 hh
  have hf := hi.ord _ _ _ f (by rw [ht]; simp)
  obtain ⟨e1, e2, e3, e4, -, -, -⟩ := hf
  rw [e1, e2, e3]
  exact ⟨t, ht, hi.ok _ _ _ (by rw [ht]; simp), rfl, rfl, hc, e4⟩

theorem execute_ok {st : St} (hi : Inv st) {o f : Ord} (h : st.meets o = some f) (n : Nat) :
    Inv (st.execute o f n) ∧ Shr st (st.execute o f n) ∧ (f.shares ≤ n → (st.execute o f n).resting + 1 = st.resting) := by
  obtain ⟨t, ht, hv, -⟩ := meets_at hi h
  have hx : st.execute o f n = (((({ st with mats := (st.mats + 1) % 4294967296 } : St).say (({ st with mats := (st.mats + 1) % 4294967296 } : St).fill f.token n f.price ((st.mats + 1) % 4294967296))).say (({ st with mats := (st.mats + 1) % 4294967296 } : St).fill o.token n f.price ((st.mats + 1) % 4294967296))).put
      (st.head 101 ++ enc f.ref 4 ++ enc n 2 ++ enc ((st.mats + 1) % 4294967296) 4)).upd f.stock f.side f.price (redO f.token n) := rfl
  have h0 : Inv ({ st with mats := (st.mats + 1) % 4294967296 } : St) := hi.of_q rfl rfl rfl rfl (fun _ h => h) hi.refs (Nat.mod_lt _ (by decide)) hi.time
  have h1 := ((h0.say (({ st with mats := (st.mats + 1) % 4294967296 } : St).fill f.token n f.price ((st.mats + 1) % 4294967296))).say (({ st with mats := (st.mats + 1) % 4294967296 } : St).fill o.token n f.price ((st.mats + 1) % 4294967296))).put
      (st.head 101 ++ enc f.ref 4 ++ enc n 2 ++ enc ((st.mats + 1) % 4294967296) 4)
  obtain ⟨A, B, e1, e2⟩ := all_upd (s := f.stock) (d := f.side) (p := f.price) (h := hv) (st := (((({ st with mats := (st.mats + 1) % 4294967296 } : St).say (({ st with mats := (st.mats + 1) % 4294967296 } : St).fill f.token n f.price ((st.mats + 1) % 4294967296))).say (({ st with mats := (st.mats + 1) % 4294967296 } : St).fill o.token n f.price ((st.mats + 1) % 4294967296))).put
      (st.head 101 ++ enc f.ref 4 ++ enc n 2 ++ enc ((st.mats + 1) % 4294967296) 4)))
  have e2 := e2 (redO f.token n)
  have ha : st.all = A ++ st.q f.stock f.side f.price ++ B := e1
  have hb : (st.execute o f n).all = A ++ redO f.token n (st.q f.stock f.side f.price) ++ B := e2
  refine ⟨hx ▸ h1.red f.stock f.side f.price f.token n hv, ⟨rfl, rfl, rfl, rfl, rfl, rfl, rfl, rfl, ?_⟩, ?_⟩
  · rw [ha, hb]
    simp only [List.map_append]
    exact ((List.Sublist.refl _).append (red_sub _ _ _)).append (List.Sublist.refl _)
  · intro hn
    unfold St.resting
    rw [ha, hb, ht]
    simp only [redO, if_pos, if_pos hn, List.length_append, List.length_cons]
    omega

theorem meet_ok (k : Nat) : ∀ (st : St) (o : Ord), Inv st →
    Inv (st.meet k o).1 ∧ Shr st (st.meet k o).1 ∧ (st.meet k o).2 = { o with shares := (st.meet k o).2.shares } ∧ (st.meet k o).2.shares ≤ o.shares ∧
    (st.resting < k → (st.meet k o).2.shares = 0 ∨ (st.meet k o).1.meets (st.meet k o).2 = none) := by
  induction k with
  | zero => intro st o h; exact ⟨h, Shr.refl _, rfl, Nat.le_refl _, fun h => by omega⟩
  | succ k ih =>
    intro st o h
    simp only [St.meet]
    by_cases h0 : o.shares = 0
    · rw [if_pos h0]
      exact ⟨h, Shr.refl _, rfl, Nat.le_refl _, fun _ => .inl h0⟩
    · rw [if_neg h0]
      cases hm : st.meets o with
      | none => exact ⟨h, Shr.refl _, rfl, Nat.le_refl _, fun _ => .inr hm⟩
      | some f =>
        simp only
        obtain ⟨i1, i2, i3⟩ := execute_ok h hm (min o.shares f.shares)
        obtain ⟨j1, j2, j3, j4, j5⟩ := ih (st.execute o f (min o.shares f.shares)) { o with shares := o.shares - min o.shares f.shares } i1
        refine ⟨j1, i2.trans j2, j3, Nat.le_trans j4 (Nat.sub_le _ _), ?_⟩
        intro hk
        by_cases hle : f.shares ≤ o.shares
        · have := i3 (by omega)
          exact j5 (by omega)
        · left
          have : o.shares - min o.shares f.shares = 0 := by omega
          have j4' := j4
          simp only [this] at j4' ⊢
          omega

theorem Inv.rest {st : St} (h : Inv st) (o : Ord) (hv : Valid st o.stock o.side o.price) (h1 : 1 ≤ o.shares) (h2 : o.shares ≤ 9999) (h3 : o.ref < 4294967296) (h4 : o.token < 4294967296)
    (hu : o.token ∈ st.used) (hn : ∀ x ∈ st.all, x.token ≠ o.token) (hr : st.resting < st.pool) (hx : st.meets o = none) : Inv (st.rest o) := by
  have hp : Inv (st.upd o.stock o.side o.price (· ++ [o])) := by
    refine h.push o hv h1 h2 h3 h4 hu hn hr ?_
    intro p hne
    have hvp := h.ok _ _ _ hne
    obtain ⟨r, hr1, hr2⟩ := ranked_of st (other o.side) p hvp.2.2.1 hvp.2.2.2
    by_cases hc : reaches o p = true
    · rw [← hr2] at hc hne
      exact absurd (meets_none hx r hr1 hc) hne
    · simpa using hc
  exact hp.put _

theorem Inv.enter {st : St} (h : Inv st) (t : Nat) (side : UInt8) (stock price shares : Nat) (kind : UInt8) (ht : t < 4294967296) : Inv (st.enter t side stock price shares kind) := by
  unfold St.enter
  split
  · exact h.say _
  · rename_i hw
    unfold St.why at hw
    split at hw <;> try (cases hw; done)
    rename_i c1
    split at hw <;> try (cases hw; done)
    rename_i c2
    split at hw <;> try (cases hw; done)
    rename_i c3
    split at hw <;> try (cases hw; done)
    rename_i c4
    split at hw <;> try (cases hw; done)
    rename_i c5
    split at hw <;> try (cases hw; done)
    rename_i c6
    split at hw <;> try (cases hw; done)
    rename_i c7
    clear hw
    dsimp only
    have hside : side = 66 ∨ side = 83 := by
      by_cases h1 : side = 66
      · exact .inl h1
      · by_cases h2 : side = 83
        · exact .inr h2
        · exact absurd ⟨h1, h2⟩ c2
    have hacc : Inv (st.accept { ref := (st.refs + 1) % 4294967296, token := t, side := side, stock := stock, price := price, shares := shares } kind) :=
      h.of_q rfl rfl rfl rfl (fun _ h => List.mem_cons_of_mem _ h) (Nat.mod_lt _ (by decide)) h.mats h.time
    obtain ⟨j1, j2, j3, j4, j5⟩ := meet_ok 65 _ { ref := (st.refs + 1) % 4294967296, token := t, side := side, stock := stock, price := price, shares := shares } hacc
    have hres : (st.accept { ref := (st.refs + 1) % 4294967296, token := t, side := side, stock := stock, price := price, shares := shares } kind).resting = st.resting := rfl
    have hused : (st.accept { ref := (st.refs + 1) % 4294967296, token := t, side := side, stock := stock, price := price, shares := shares } kind).used = t :: st.used := rfl
    have hall : (st.accept { ref := (st.refs + 1) % 4294967296, token := t, side := side, stock := stock, price := price, shares := shares } kind).all = st.all := rfl
    have hpool : (st.accept { ref := (st.refs + 1) % 4294967296, token := t, side := side, stock := stock, price := price, shares := shares } kind).pool = st.pool := rfl
    have hval : Valid (st.accept { ref := (st.refs + 1) % 4294967296, token := t, side := side, stock := stock, price := price, shares := shares } kind) stock side price := ⟨by show stock < st.stocks; omega, hside, by omega, by show price ≤ st.levels; omega⟩
    generalize hX : (st.accept { ref := (st.refs + 1) % 4294967296, token := t, side := side, stock := stock, price := price, shares := shares } kind) = a at *
    generalize hY : a.meet 65 { ref := (st.refs + 1) % 4294967296, token := t, side := side, stock := stock, price := price, shares := shares } = x at *
    obtain ⟨b, y⟩ := x
    simp only at j1 j2 j3 j4 j5 ⊢
    by_cases h0 : y.shares = 0
    · rw [if_pos h0]; exact j1
    · rw [if_neg h0]
      by_cases hk : kind = 68
      · rw [if_pos hk]
        have hroom := h.room
        have hp := h.pool
        have c7' : ¬ st.pool ≤ st.resting := fun hc => c7 ⟨hk, hc⟩
        have hm := (j5 (by omega)).resolve_left h0
        rw [j3]
        rw [j3] at hm
        refine j1.rest _ ?_ (by show 1 ≤ y.shares; omega) (by show y.shares ≤ 9999; omega) (Nat.mod_lt _ (by decide)) ht ?_ ?_ ?_ hm
        · unfold Valid at *
          rw [j2.stocks, j2.levels]; exact hval
        · show t ∈ b.used
          rw [j2.used, hused]; simp
        · intro z hz e
          obtain ⟨z', hz', e'⟩ := j2.mem hz
          rw [hall] at hz'
          have := h.used z' hz'
          rw [e', e] at this
          exact c1 this
        · have := j2.le
          rw [j2.pool, hpool]; omega
      · rw [if_neg hk]; exact j1.say _

end Go.Proofs.Ytphkchjejbffeaa

/- Plain: each message keeps what holds of every bourse (cancel, replace, and all together). -/
namespace Go.Proofs.Ytphkchjejbffeaa

theorem cut_token (t : Nat) (y : Ord) (l : List Ord) (h : ∃ x ∈ l, x.token = t) : ∃ l1 x l2, l = l1 ++ x :: l2 ∧ x.token = t ∧ (∀ z ∈ l1, z.token ≠ t) ∧ subO t y l = l1 ++ y :: l2 ∧ delO t l = l1 ++ l2 := by
  induction l with
  | nil => obtain ⟨x, hx, _⟩ := h; simp at hx
  | cons z l ih =>
    by_cases hz : z.token = t
    · exact ⟨[], z, l, rfl, hz, by simp, by simp [subO, hz], by simp [delO, hz]⟩
    · obtain ⟨x, hx, e⟩ := h
      have hx' : x ∈ l := by
        rcases List.mem_cons.1 hx with rfl | hx
        · exact absurd e hz
        · exact hx
      obtain ⟨l1, x', l2, e1, e2, e3, e4, e5⟩ := ih ⟨x, hx', e⟩
      refine ⟨z :: l1, x', l2, by rw [e1]; rfl, e2, ?_, by simp [subO, hz, e4], by simp [delO, hz, e5]⟩
      intro w hw
      rcases List.mem_cons.1 hw with rfl | hw
      · exact hz
      · exact e3 w hw

theorem find_at {st : St} (h : Inv st) {t : Nat} {o : Ord} (hf : st.find t = some o) : o ∈ st.all ∧ o.token = t ∧ Valid st o.stock o.side o.price ∧ o ∈ st.q o.stock o.side o.price ∧ Fits o.stock o.side o.price o := by
  have hm := List.mem_of_find?_eq_some hf
  have ht := List.find?_some hf
  obtain ⟨s, d, p, h1, h2, h3, h4, h5⟩ := (mem_all st o).1 hm
  have hfit := h.ord _ _ _ o h5
  obtain ⟨rfl, rfl, rfl, -, -, -, -⟩ := id hfit
  exact ⟨hm, by simpa using ht, ⟨h1, h2, h3, h4⟩, h5, hfit⟩

theorem Inv.cancel {st : St} (h : Inv st) (t n : Nat) : Inv (st.cancel t n) := by
  unfold St.cancel
  split
  · exact h
  · rename_i o ho
    obtain ⟨-, -, hv, -, -⟩ := find_at h ho
    split
    · exact h
    · dsimp only
      split
      · exact ((h.say _).put _).red _ _ _ _ _ hv
      · exact ((h.say _).put _).red _ _ _ _ _ hv

/-- An order in another's place. -/
theorem Inv.sub {st : St} (h : Inv st) (t : Nat) (y : Ord) (hv : Valid st y.stock y.side y.price) (hx : ∃ x ∈ st.q y.stock y.side y.price, x.token = t) (h1 : 1 ≤ y.shares) (h2 : y.shares ≤ 9999) (h3 : y.ref < 4294967296) (h4 : y.token < 4294967296)
    (hu : y.token ∈ st.used) (hn : ∀ x ∈ st.all, x.token ≠ y.token) : Inv (st.upd y.stock y.side y.price (subO t y)) := by
  obtain ⟨A, B, e1, e2⟩ := all_upd st y.stock y.side y.price hv
  have e2 := e2 (subO t y)
  obtain ⟨l1, x, l2, c1, c2, -, c3, -⟩ := cut_token t y _ hx
  have hp1 : st.all.Perm (x :: (A ++ l1 ++ l2 ++ B)) := by
    rw [e1, c1]
    simp only [List.append_assoc, List.cons_append]
    rw [← List.append_assoc A l1, ← List.append_assoc A l1]
    exact List.perm_middle
  have hp2 : (st.upd y.stock y.side y.price (subO t y)).all.Perm (y :: (A ++ l1 ++ l2 ++ B)) := by
    rw [e2, c3]
    simp only [List.append_assoc, List.cons_append]
    rw [← List.append_assoc A l1, ← List.append_assoc A l1]
    exact List.perm_middle
  have hq : ∀ s' d' p', (st.upd y.stock y.side y.price (subO t y)).q s' d' p' = if s' = y.stock ∧ d' = y.side ∧ p' = y.price then subO t y (st.q y.stock y.side y.price) else st.q s' d' p' := fun _ _ _ => rfl
  have hne : ∀ s' d' p', (st.upd y.stock y.side y.price (subO t y)).q s' d' p' ≠ [] → st.q s' d' p' ≠ [] := by
    intro s' d' p' hn
    rw [hq] at hn
    split at hn
    · rename_i hc
      obtain ⟨rfl, rfl, rfl⟩ := hc
      rw [c1]; simp
    · exact hn
  refine ⟨h.stocks, h.levels, h.pool, ?_, ?_, ?_, ?_, ?_, ?_, h.refs, h.mats, h.time⟩
  · intro s d p z hz
    rw [hq] at hz
    split at hz
    · rename_i hc
      obtain ⟨rfl, rfl, rfl⟩ := hc
      rw [c3] at hz
      rcases List.mem_append.1 hz with hz | hz
      · exact h.ord _ _ _ z (by rw [c1]; simp [hz])
      · rcases List.mem_cons.1 hz with rfl | hz
        · exact ⟨rfl, rfl, rfl, h1, h2, h3, h4⟩
        · exact h.ord _ _ _ z (by rw [c1]; simp [hz])
    · exact h.ord _ _ _ z hz
  · intro s d p hn
    exact h.ok _ _ _ (hne _ _ _ hn)
  · have hn1 := h.nodup
    rw [(hp1.map (·.token)).nodup_iff, List.map_cons, List.nodup_cons] at hn1
    rw [(hp2.map (·.token)).nodup_iff, List.map_cons, List.nodup_cons]
    refine ⟨fun hm => ?_, hn1.2⟩
    obtain ⟨z, hz, e⟩ := List.mem_map.1 hm
    exact hn z (hp1.symm.subset (List.mem_cons_of_mem _ hz)) e
  · intro z hz
    rcases List.mem_cons.1 (hp2.subset hz) with rfl | hz
    · exact hu
    · exact h.used z (hp1.symm.subset (List.mem_cons_of_mem _ hz))
  · have a1 := hp1.length_eq
    have a2 := hp2.length_eq
    have := h.room
    unfold St.resting at *
    simp only [List.length_cons] at a1 a2
    show (st.upd y.stock y.side y.price (subO t y)).all.length ≤ st.pool
    omega
  · intro s pb pa hb ha
    exact h.unc s pb pa (hne _ _ _ hb) (hne _ _ _ ha)

theorem del_all {st : St} (s : Nat) (d : UInt8) (p t : Nat) (hv : Valid st s d p) (hx : ∃ x ∈ st.q s d p, x.token = t) : (st.upd s d p (delO t)).resting + 1 = st.resting ∧ ((st.upd s d p (delO t)).all).Sublist st.all := by
  obtain ⟨A, B, e1, e2⟩ := all_upd st s d p hv
  have e2 := e2 (delO t)
  have hs : ((st.upd s d p (delO t)).all).Sublist st.all := by
    rw [e1, e2]
    exact ((List.Sublist.refl _).append (del_mem _ _)).append (List.Sublist.refl _)
  refine ⟨?_, hs⟩
  obtain ⟨l1, x, l2, c1, -, -, -, c4⟩ := cut_token t { ref := 0, token := 0, side := 0, stock := 0, price := 0, shares := 0 } _ hx
  unfold St.resting
  rw [e1, e2, c4, c1]
  simp only [List.length_append, List.length_cons]
  omega

theorem Inv.replace {st : St} (h : Inv st) (t n price shares : Nat) (hn32 : n < 4294967296) : Inv (st.replace t n price shares) := by
  unfold St.replace
  split
  · exact h
  · rename_i o ho
    split
    · exact h.say _
    · rename_i hw
      unfold St.whyR at hw
      split at hw <;> try (cases hw; done)
      rename_i c1
      split at hw <;> try (cases hw; done)
      rename_i c2
      split at hw <;> try (cases hw; done)
      rename_i c3
      clear hw
      obtain ⟨hoa, hot, hv, hoq, hfit⟩ := find_at h ho
      dsimp only
      have hB : Inv (({ st with refs := (st.refs + 1) % 4294967296, used := n :: st.used } : St).say (st.head 85 ++ enc n 4 ++ enc price 2 ++ enc shares 2 ++ enc ((st.refs + 1) % 4294967296) 4 ++ enc t 4)) :=
        h.of_q rfl rfl rfl rfl (fun _ h => List.mem_cons_of_mem _ h) (Nat.mod_lt _ (by decide)) h.mats h.time
      have hq : (({ st with refs := (st.refs + 1) % 4294967296, used := n :: st.used } : St).say (st.head 85 ++ enc n 4 ++ enc price 2 ++ enc shares 2 ++ enc ((st.refs + 1) % 4294967296) 4 ++ enc t 4)).q = st.q := rfl
      have hall : (({ st with refs := (st.refs + 1) % 4294967296, used := n :: st.used } : St).say (st.head 85 ++ enc n 4 ++ enc price 2 ++ enc shares 2 ++ enc ((st.refs + 1) % 4294967296) 4 ++ enc t 4)).all = st.all := rfl
      have hused : (({ st with refs := (st.refs + 1) % 4294967296, used := n :: st.used } : St).say (st.head 85 ++ enc n 4 ++ enc price 2 ++ enc shares 2 ++ enc ((st.refs + 1) % 4294967296) 4 ++ enc t 4)).used = n :: st.used := rfl
      have hsl : (({ st with refs := (st.refs + 1) % 4294967296, used := n :: st.used } : St).say (st.head 85 ++ enc n 4 ++ enc price 2 ++ enc shares 2 ++ enc ((st.refs + 1) % 4294967296) 4 ++ enc t 4)).levels = st.levels ∧ (({ st with refs := (st.refs + 1) % 4294967296, used := n :: st.used } : St).say (st.head 85 ++ enc n 4 ++ enc price 2 ++ enc shares 2 ++ enc ((st.refs + 1) % 4294967296) 4 ++ enc t 4)).stocks = st.stocks ∧ (({ st with refs := (st.refs + 1) % 4294967296, used := n :: st.used } : St).say (st.head 85 ++ enc n 4 ++ enc price 2 ++ enc shares 2 ++ enc ((st.refs + 1) % 4294967296) 4 ++ enc t 4)).pool = st.pool := ⟨rfl, rfl, rfl⟩
      generalize (({ st with refs := (st.refs + 1) % 4294967296, used := n :: st.used } : St).say (st.head 85 ++ enc n 4 ++ enc price 2 ++ enc shares 2 ++ enc ((st.refs + 1) % 4294967296) 4 ++ enc t 4)) = b at *
      have hnn : ∀ x ∈ b.all, x.token ≠ n := by
        intro x hx e
        rw [hall] at hx
        exact c1 (e ▸ h.used x hx)
      have hvb : Valid b o.stock o.side o.price := by unfold Valid at *; rw [hsl.1, hsl.2.1]; exact hv
      have hvn : Valid b o.stock o.side price := by unfold Valid at *; rw [hsl.1, hsl.2.1]; exact ⟨hv.1, hv.2.1, by omega, by omega⟩
      have hxq : ∃ x ∈ b.q o.stock o.side o.price, x.token = t := ⟨o, by rw [hq]; exact hoq, hot⟩
      have hroom := h.room
      have hpool := h.pool
      split
      · rename_i hm
        split
        · rename_i hc
          obtain ⟨rfl, hle⟩ := hc
          exact (hB.put _).sub t { ref := (st.refs + 1) % 4294967296, token := n, side := o.side, stock := o.stock, price := o.price, shares := shares } hvb hxq (by show 1 ≤ shares; omega) (by show shares ≤ 9999; omega) (Nat.mod_lt _ (by decide)) hn32 (by show n ∈ b.used; rw [hused]; simp) hnn
        · have hd := (hB.put (b.head 117 ++ enc o.ref 4 ++ enc ((st.refs + 1) % 4294967296) 4 ++ enc shares 2 ++ enc price 2)).del o.stock o.side o.price t hvb
          obtain ⟨r1, r2⟩ := del_all (st := b.put (b.head 117 ++ enc o.ref 4 ++ enc ((st.refs + 1) % 4294967296) 4 ++ enc shares 2 ++ enc price 2)) o.stock o.side o.price t hvb hxq
          have r3 : (b.put (b.head 117 ++ enc o.ref 4 ++ enc ((st.refs + 1) % 4294967296) 4 ++ enc shares 2 ++ enc price 2)).resting = st.resting := by
            show b.all.length = st.all.length; rw [hall]
          refine hd.push { ref := (st.refs + 1) % 4294967296, token := n, side := o.side, stock := o.stock, price := price, shares := shares } hvn (by show 1 ≤ shares; omega) (by show shares ≤ 9999; omega) (Nat.mod_lt _ (by decide)) hn32 (by show n ∈ b.used; rw [hused]; simp) (fun x hx => hnn x (r2.subset hx)) ?_ ?_
          · show _ < b.pool
            rw [hsl.2.2]; omega
          · intro p hne
            have hne' : b.q o.stock (other o.side) p ≠ [] := by
              intro e
              apply hne
              show (if _ then _ else _) = []
              rw [if_neg]
              · exact e
              · rintro ⟨-, hd, -⟩
                have hd : other o.side = o.side := hd
                rcases hv.2.1 with hs | hs <;> rw [hs] at hd <;> revert hd <;> decide
            have hvp := hB.ok _ _ _ hne'
            obtain ⟨r, hr1, hr2⟩ := ranked_of b (other o.side) p hvp.2.2.1 hvp.2.2.2
            by_cases hc : reaches { ref := (st.refs + 1) % 4294967296, token := n, side := o.side, stock := o.stock, price := price, shares := shares } p = true
            · rw [← hr2] at hc hne'
              exact absurd (meets_none hm r hr1 hc) hne'
            · simpa using hc
      · have hd := (hB.put (b.head 100 ++ enc o.ref 4)).del o.stock o.side o.price t hvb
        obtain ⟨r1, r2⟩ := del_all (st := b.put (b.head 100 ++ enc o.ref 4)) o.stock o.side o.price t hvb hxq
        have r3 : (b.put (b.head 100 ++ enc o.ref 4)).resting = st.resting := by
          show b.all.length = st.all.length; rw [hall]
        have r4 : ((b.put (b.head 100 ++ enc o.ref 4)).upd o.stock o.side o.price (delO t)).used = n :: st.used := hused
        have r5 : ((b.put (b.head 100 ++ enc o.ref 4)).upd o.stock o.side o.price (delO t)).pool = st.pool := hsl.2.2
        have r6 : Valid ((b.put (b.head 100 ++ enc o.ref 4)).upd o.stock o.side o.price (delO t)) o.stock o.side price := hvn
        have r7 : ∀ x ∈ ((b.put (b.head 100 ++ enc o.ref 4)).upd o.stock o.side o.price (delO t)).all, x.token ≠ n := fun x hx => hnn x (r2.subset hx)
        generalize ((b.put (b.head 100 ++ enc o.ref 4)).upd o.stock o.side o.price (delO t)) = c at *
        obtain ⟨j1, j2, j3, j4, j5⟩ := meet_ok 65 c { ref := (st.refs + 1) % 4294967296, token := n, side := o.side, stock := o.stock, price := price, shares := shares } hd
        generalize hY : c.meet 65 { ref := (st.refs + 1) % 4294967296, token := n, side := o.side, stock := o.stock, price := price, shares := shares } = x at *
        obtain ⟨e, y⟩ := x
        simp only at j1 j2 j3 j4 j5 ⊢
        by_cases h0 : y.shares = 0
        · rw [if_pos h0]; exact j1
        · rw [if_neg h0]
          have hm := (j5 (by omega)).resolve_left h0
          rw [j3]
          rw [j3] at hm
          refine j1.rest _ ?_ (by show 1 ≤ y.shares; omega) (by show y.shares ≤ 9999; omega) (Nat.mod_lt _ (by decide)) hn32 ?_ ?_ ?_ hm
          · unfold Valid at *
            rw [j2.stocks, j2.levels]; exact r6
          · show n ∈ e.used
            rw [j2.used, r4]; simp
          · intro z hz e'
            obtain ⟨z', hz', e''⟩ := j2.mem hz
            exact r7 z' hz' (e''.trans e')
          · have := j2.le
            rw [j2.pool, r5]; omega

theorem at_lt (m : List UInt8) (i : Nat) : at_ m i 4 < 4294967296 := by
  unfold at_
  have h := num_lt ((m.drop i).take 4) 0
  have hl : ((m.drop i).take 4).length ≤ 4 := by simp; omega
  have : 256 ^ ((m.drop i).take 4).length ≤ 256 ^ 4 := Nat.pow_le_pow_right (by omega) hl
  omega

theorem Inv.act {st : St} (h : Inv st) (m : List UInt8) : Inv (st.act m) := by
  unfold St.act
  split
  · exact h.enter _ _ _ _ _ _ (at_lt m 1)
  · split
    · exact h.replace _ _ _ _ (at_lt m 5)
    · split
      · exact h.cancel _ _
      · exact h.of_q rfl rfl rfl rfl (fun _ h => h) h.refs h.mats h.time

theorem Inv.step {st : St} (h : Inv st) (c : UInt8) : Inv (st.step c) := by
  unfold St.step
  split
  · split
    · exact (h.of_q (st' := { st with part := [] }) rfl rfl rfl rfl (fun _ h => h) h.refs h.mats h.time).act _
    · exact h.of_q rfl rfl rfl rfl (fun _ h => h) h.refs h.mats h.time
  · exact h

theorem Inv.feed {st : St} (h : Inv st) (l : List UInt8) : Inv (st.feed l) := by
  induction l generalizing st with
  | nil => exact h
  | cons c l ih => exact ih (h.step c)

theorem Inv.tick {st : St} (h : Inv st) (n : Nat) : Inv (st.tick n) := h.of_q rfl rfl rfl rfl (fun _ h => h) h.refs h.mats (Nat.mod_lt _ (by decide))
theorem Inv.told {st : St} (h : Inv st) : Inv st.told := h.of_q rfl rfl rfl rfl (fun _ h => h) h.refs h.mats h.time
theorem Inv.taped {st : St} (h : Inv st) : Inv st.taped := h.of_q rfl rfl rfl rfl (fun _ h => h) h.refs h.mats h.time

theorem Inv.opened (s l p : Nat) (h1 : 1 ≤ s ∧ s ≤ 8) (h2 : 1 ≤ l ∧ l ≤ 64) (h3 : 1 ≤ p ∧ p ≤ 64) : Inv (opened s l p) := by
  have ha : (Go.Proofs.Ytphkchjejbffeaa.opened s l p).all = [] := by
    rw [all_eq]
    exact List.flatMap_eq_nil_iff.2 (fun c _ => rfl)
  refine ⟨h1, h2, h3, ?_, ?_, ?_, ?_, ?_, ?_, by show 0 < _; decide, by show 0 < _; decide, by show 0 < _; decide⟩
  · intro s d p x hx; cases hx
  · intro s d p hne; exact absurd rfl hne
  · rw [ha]; simp
  · rw [ha]; simp
  · unfold St.resting; rw [ha]; simp
  · intro s pb pa hb; exact absurd rfl hb

end Go.Proofs.Ytphkchjejbffeaa

/- Books by places against books by the document: plain facts. -/
namespace Go.Proofs.Ytphkchjejbffeaa

theorem redO_app (t n : Nat) (a : List Ord) (o : Ord) (b : List Ord) (ha : ∀ z ∈ a, z.token ≠ t) (ho : o.token = t) : redO t n (a ++ o :: b) = a ++ (if o.shares ≤ n then b else { o with shares := o.shares - n } :: b) := by
  induction a with
  | nil => simp [redO, ho]
  | cons z a ih =>
    have h1 : z.token ≠ t := ha z (by simp)
    show redO t n (z :: (a ++ o :: b)) = _
    rw [redO, if_neg h1, ih (fun y hy => ha y (by simp [hy]))]
    rfl
theorem delO_app (t : Nat) (a : List Ord) (o : Ord) (b : List Ord) (ha : ∀ z ∈ a, z.token ≠ t) (ho : o.token = t) : delO t (a ++ o :: b) = a ++ b := by
  induction a with
  | nil => simp [delO, ho]
  | cons z a ih =>
    have h1 : z.token ≠ t := ha z (by simp)
    show delO t (z :: (a ++ o :: b)) = _
    rw [delO, if_neg h1, ih (fun y hy => ha y (by simp [hy]))]
    rfl
theorem subO_app (t : Nat) (y : Ord) (a : List Ord) (o : Ord) (b : List Ord) (ha : ∀ z ∈ a, z.token ≠ t) (ho : o.token = t) : subO t y (a ++ o :: b) = a ++ y :: b := by
  induction a with
  | nil => simp [subO, ho]
  | cons z a ih =>
    have h1 : z.token ≠ t := ha z (by simp)
    show subO t y (z :: (a ++ o :: b)) = _
    rw [subO, if_neg h1, ih (fun y hy => ha y (by simp [hy]))]
    rfl

theorem find_nodup (l : List Ord) (hn : (l.map (·.token)).Nodup) (o : Ord) (ho : o ∈ l) : l.find? (·.token == o.token) = some o := by
  induction l with
  | nil => cases ho
  | cons z l ih =>
    rw [List.map_cons, List.nodup_cons] at hn
    rcases List.mem_cons.1 ho with rfl | ho
    · simp
    · have : z.token ≠ o.token := by
        intro e
        exact hn.1 (by rw [e]; exact List.mem_map.2 ⟨o, ho, rfl⟩)
      rw [List.find?_cons_of_neg (by simpa using this)]
      exact ih hn.2 ho

theorem map_updN (od : Nat → Ord) (x : Nat) (o : Ord) (l : List Nat) (h : x ∉ l) : l.map (updN od x o) = l.map od := by
  apply List.map_congr_left
  intro y hy
  exact updN_ne _ _ _ _ (fun e => h (e ▸ hy))

def updM (M : Nat → Option Nat) (t : Nat) (v : Option Nat) : Nat → Option Nat := fun i => if i = t then v else M i
theorem updM_same (M : Nat → Option Nat) (t : Nat) (v : Option Nat) : updM M t v t = v := if_pos rfl
theorem updM_ne (M : Nat → Option Nat) (t : Nat) (v : Option Nat) (i : Nat) (h : i ≠ t) : updM M t v i = M i := if_neg h

/-- The places, what lies there, and the places of tokens, are those of a state. -/
structure Fi (S L n : Nat) (od : Nat → Ord) (ps : Nat → UInt8 → Nat → List Nat) (fl : List Nat) (M : Nat → Option Nat) (st : St) : Prop where
  hS : S = st.stocks
  hL : L = st.levels
  hn : n = st.pool + 1
  q : ∀ s d p, VV S L s d p → st.q s d p = (ps s d p).map od
  cnt : fl.length + st.resting = st.pool
  used : ∀ t, (M t).isSome = true ↔ t ∈ st.used
  mat : ∀ s d p, VV S L s d p → ∀ x ∈ ps s d p, M (od x).token = some x
  mto : ∀ t x, M t = some x → x ≠ 0 → ∃ s d p, VV S L s d p ∧ x ∈ ps s d p ∧ (od x).token = t
  inv : Inv st
  unod : st.used.Nodup
  ult : ∀ t ∈ st.used, t < 4294967296

section
variable {S L n : Nat} {od : Nat → Ord} {ps : Nat → UInt8 → Nat → List Nat} {fl : List Nat} {M : Nat → Option Nat} {st : St}

theorem Fi.valid (h : Fi S L n od ps fl M st) {s : Nat} {d : UInt8} {p : Nat} (hv : VV S L s d p) : Valid st s d p := by
  unfold VV at hv; rw [h.hS, h.hL] at hv; exact hv
theorem Fi.vv (h : Fi S L n od ps fl M st) {s : Nat} {d : UInt8} {p : Nat} (hv : Valid st s d p) : VV S L s d p := by
  unfold VV; rw [h.hS, h.hL]; exact hv

theorem Fi.fits (h : Fi S L n od ps fl M st) {s : Nat} {d : UInt8} {p : Nat} (hv : VV S L s d p) {x : Nat} (hx : x ∈ ps s d p) : Fits s d p (od x) :=
  h.inv.ord s d p (od x) (by rw [h.q s d p hv]; exact List.mem_map.2 ⟨x, hx, rfl⟩)

theorem Fi.mem_all (h : Fi S L n od ps fl M st) {o : Ord} (ho : o ∈ st.all) : ∃ s d p x, VV S L s d p ∧ x ∈ ps s d p ∧ od x = o := by
  obtain ⟨s, d, p, h1, h2, h3, h4, h5⟩ := (Go.Proofs.Ytphkchjejbffeaa.mem_all st o).1 ho
  have hv : VV S L s d p := h.vv ⟨h1, h2, h3, h4⟩
  rw [h.q s d p hv] at h5
  obtain ⟨x, hx, e⟩ := List.mem_map.1 h5
  exact ⟨s, d, p, x, hv, hx, e⟩

theorem Fi.in_all (h : Fi S L n od ps fl M st) {s : Nat} {d : UInt8} {p : Nat} (hv : VV S L s d p) {x : Nat} (hx : x ∈ ps s d p) : od x ∈ st.all := by
  obtain ⟨h1, h2, h3, h4⟩ := h.valid hv
  exact (Go.Proofs.Ytphkchjejbffeaa.mem_all st _).2 ⟨s, d, p, h1, h2, h3, h4, by rw [h.q s d p hv]; exact List.mem_map.2 ⟨x, hx, rfl⟩⟩

theorem Fi.find (h : Fi S L n od ps fl M st) {t x : Nat} (hm : M t = some x) (hx : x ≠ 0) : st.find t = some (od x) := by
  obtain ⟨s, d, p, hv, hp, ht⟩ := h.mto t x hm hx
  have := find_nodup st.all h.inv.nodup (od x) (h.in_all hv hp)
  rw [ht] at this
  exact this

theorem Fi.find_none (h : Fi S L n od ps fl M st) {t : Nat} (hne : ∀ s d p, VV S L s d p → ∀ x ∈ ps s d p, x ≠ 0) (hm : M t = none ∨ M t = some 0) : st.find t = none := by
  by_cases e : st.find t = none
  · exact e
  · obtain ⟨o, ho⟩ := Option.ne_none_iff_exists'.1 e
    obtain ⟨h1, h2, -⟩ := find_at h.inv ho
    obtain ⟨s, d, p, x, hv, hx, rfl⟩ := h.mem_all h1
    have := h.mat s d p hv x hx
    rw [h2] at this
    rcases hm with hm | hm
    · rw [hm] at this; cases this
    · rw [hm] at this
      cases this
      exact absurd rfl (hne s d p hv 0 hx)

/-- Of two places in lines the tokens differ. -/
theorem Fi.apart (h : Fi S L n od ps fl M st) {s s' : Nat} {d d' : UInt8} {p p' : Nat} (hv : VV S L s d p) (hv' : VV S L s' d' p') {x y : Nat} (hx : x ∈ ps s d p) (hy : y ∈ ps s' d' p') (hne : y ≠ x) : (od y).token ≠ (od x).token := by
  intro e
  have h1 := h.mat s d p hv x hx
  have h2 := h.mat s' d' p' hv' y hy
  rw [e, h1] at h2
  cases h2
  exact hne rfl

theorem Fi.cut (h : Fi S L n od ps fl M st) {s : Nat} {d : UInt8} {p : Nat} (hv : VV S L s d p) {x : Nat} {a b : List Nat} (hab : ps s d p = a ++ x :: b) (hnd : (ps s d p).Nodup) : (∀ z ∈ a.map od, z.token ≠ (od x).token) ∧ x ∉ a ∧ x ∉ b := by
  rw [hab, List.nodup_append] at hnd
  have hxa : x ∉ a := fun e => hnd.2.2 x e x (by simp) rfl
  have hxb : x ∉ b := (List.nodup_cons.1 hnd.2.1).1
  refine ⟨?_, hxa, hxb⟩
  intro z hz
  obtain ⟨y, hy, rfl⟩ := List.mem_map.1 hz
  exact h.apart hv hv (by rw [hab]; simp) (by rw [hab]; simp [hy]) (fun e => hxa (e ▸ hy))

theorem rest_upd (st : St) (s : Nat) (d : UInt8) (p : Nat) (hv : Valid st s d p) (f : List Ord → List Ord) : (st.upd s d p f).resting + (st.q s d p).length = st.resting + (f (st.q s d p)).length := by
  obtain ⟨A, B, e1, e2⟩ := all_upd st s d p hv
  unfold St.resting
  rw [e1, e2 f]
  simp only [List.length_append]
  omega

theorem upd_q (st : St) (s : Nat) (d : UInt8) (p : Nat) (f : List Ord → List Ord) (s' : Nat) (d' : UInt8) (p' : Nat) : (st.upd s d p f).q s' d' p' = if s' = s ∧ d' = d ∧ p' = p then f (st.q s d p) else st.q s' d' p' := rfl

/-- What a line holds after a change that touches one place alone. -/
theorem Fi.q_upd (h : Fi S L n od ps fl M st) {s : Nat} {d : UInt8} {p : Nat} (f : List Ord → List Ord) (l : List Nat) (od' : Nat → Ord)
    (h1 : f (st.q s d p) = l.map od') (h2 : ∀ s' d' p', VV S L s' d' p' → ¬ (s' = s ∧ d' = d ∧ p' = p) → (ps s' d' p').map od' = (ps s' d' p').map od) :
    ∀ s' d' p', VV S L s' d' p' → (st.upd s d p f).q s' d' p' = (updQ ps s d p l s' d' p').map od' := by
  intro s' d' p' hv'
  rw [upd_q]
  by_cases e : s' = s ∧ d' = d ∧ p' = p
  · rw [if_pos e]
    obtain ⟨rfl, rfl, rfl⟩ := e
    rw [updQ_same, h1]
  · rw [if_neg e, updQ_ne _ _ _ _ _ e, h2 _ _ _ hv' e, h.q _ _ _ hv']
end

end Go.Proofs.Ytphkchjejbffeaa

/- Plain: books are sorted and not crossed; what no message changes. -/
namespace Go.Proofs.Ytphkchjejbffeaa

/-- What no call changes, and what no message but a closing one does. -/
structure Same (a b : St) : Prop where
  stocks : b.stocks = a.stocks
  levels : b.levels = a.levels
  pool : b.pool = a.pool
theorem Same.refl (a : St) : Same a a := ⟨rfl, rfl, rfl⟩
theorem Same.trans {a b c : St} (h : Same a b) (k : Same b c) : Same a c := ⟨k.stocks.trans h.stocks, k.levels.trans h.levels, k.pool.trans h.pool⟩

structure Keeps (a b : St) : Prop where
  same : Same a b
  opn : b.opn = a.opn
  part : b.part = a.part
  time : b.time = a.time
theorem Keeps.refl (a : St) : Keeps a a := ⟨Same.refl a, rfl, rfl, rfl⟩
theorem Keeps.trans {a b c : St} (h : Keeps a b) (k : Keeps b c) : Keeps a c := ⟨h.same.trans k.same, k.opn.trans h.opn, k.part.trans h.part, k.time.trans h.time⟩

theorem keeps_execute (st : St) (o f : Ord) (n : Nat) : Keeps st (st.execute o f n) := ⟨⟨rfl, rfl, rfl⟩, rfl, rfl, rfl⟩
theorem keeps_meet (k : Nat) : ∀ (st : St) (o : Ord), Keeps st (st.meet k o).1 := by
  induction k with
  | zero => intro st o; exact Keeps.refl _
  | succ k ih =>
    intro st o
    simp only [St.meet]
    split
    · exact Keeps.refl _
    · split
      · exact Keeps.refl _
      · exact (keeps_execute _ _ _ _).trans (ih _ _)
theorem keeps_rest (st : St) (o : Ord) : Keeps st (st.rest o) := ⟨⟨rfl, rfl, rfl⟩, rfl, rfl, rfl⟩
theorem keeps_say (st : St) (l : List UInt8) : Keeps st (st.say l) := ⟨⟨rfl, rfl, rfl⟩, rfl, rfl, rfl⟩
theorem keeps_enter (st : St) (t : Nat) (side : UInt8) (stock price shares : Nat) (kind : UInt8) : Keeps st (st.enter t side stock price shares kind) := by
  unfold St.enter
  split
  · exact keeps_say _ _
  · dsimp only
    have h1 : Keeps st (st.accept { ref := (st.refs + 1) % 4294967296, token := t, side := side, stock := stock, price := price, shares := shares } kind) := ⟨⟨rfl, rfl, rfl⟩, rfl, rfl, rfl⟩
    have h2 := h1.trans (keeps_meet 65 _ { ref := (st.refs + 1) % 4294967296, token := t, side := side, stock := stock, price := price, shares := shares })
    split
    · exact h2
    · split
      · exact h2.trans (keeps_rest _ _)
      · exact h2.trans (keeps_say _ _)
theorem keeps_cancel (st : St) (t n : Nat) : Keeps st (st.cancel t n) := by
  unfold St.cancel
  split
  · exact Keeps.refl _
  · split
    · exact Keeps.refl _
    · dsimp only
      split <;> exact ⟨⟨rfl, rfl, rfl⟩, rfl, rfl, rfl⟩
theorem keeps_replace (st : St) (t n price shares : Nat) : Keeps st (st.replace t n price shares) := by
  unfold St.replace
  split
  · exact Keeps.refl _
  · split
    · exact keeps_say _ _
    · dsimp only
      split
      · split <;> exact ⟨⟨rfl, rfl, rfl⟩, rfl, rfl, rfl⟩
      · split
        · refine Keeps.trans ?_ (keeps_meet 65 _ _)
          exact ⟨⟨rfl, rfl, rfl⟩, rfl, rfl, rfl⟩
        · refine Keeps.trans ?_ (keeps_rest _ _)
          refine Keeps.trans ?_ (keeps_meet 65 _ _)
          exact ⟨⟨rfl, rfl, rfl⟩, rfl, rfl, rfl⟩

theorem same_act (st : St) (m : List UInt8) : Same st (st.act m) := by
  unfold St.act
  split
  · exact (keeps_enter _ _ _ _ _ _ _).same
  · split
    · exact (keeps_replace _ _ _ _ _).same
    · split
      · exact (keeps_cancel _ _ _).same
      · exact ⟨rfl, rfl, rfl⟩
theorem same_step (st : St) (c : UInt8) : Same st (st.step c) := by
  unfold St.step
  split
  · split
    · exact Same.trans (b := { st with part := [] }) ⟨rfl, rfl, rfl⟩ (same_act _ _)
    · exact ⟨rfl, rfl, rfl⟩
  · exact Same.refl _
theorem same_feed (l : List UInt8) : ∀ st : St, Same st (st.feed l) := by
  induction l with
  | nil => intro st; exact Same.refl _
  | cons c l ih => intro st; exact (same_step st c).trans (ih _)

/-- One order ahead of another in a book. -/
def Ahead (p x : Ord) : Prop := (p.side = 66 ∧ x.side = 66 ∧ x.price ≤ p.price) ∨ (p.side = 83 ∧ x.side = 83 ∧ p.price ≤ x.price) ∨ (p.side = 66 ∧ x.side = 83 ∧ p.price < x.price)

theorem pair_map_range {α : Type} (R : α → α → Prop) (f : Nat → α) (n : Nat) (h : ∀ i j, i < j → j < n → R (f i) (f j)) : List.Pairwise R ((List.range n).map f) := by
  rw [List.pairwise_map]
  have := @List.pairwise_lt_range n
  refine List.Pairwise.imp_of_mem ?_ this
  intro a b ha hb hab
  exact h a b hab (by simpa using hb)

theorem ahead_book {st : St} (h : Inv st) (s : Nat) : List.Pairwise Ahead (st.book s) := by
  rw [book_eq, List.pairwise_flatMap]
  have hfit : ∀ (c : Co) (x : Ord), x ∈ st.get c → Fits c.1 c.2.1 c.2.2 x := fun c x hx => h.ord _ _ _ x hx
  constructor
  · rintro ⟨s', d, p⟩ hc
    obtain ⟨-, hd, -, -⟩ := (mem_bookCo _ _ _).1 hc
    refine List.Pairwise.imp_of_mem (R := fun _ _ => True) ?_ ?_
    · intro a b ha hb _
      have fa := hfit _ a ha
      have fb := hfit _ b hb
      have ha1 := fa.side
      have hb1 := fb.side
      have ha2 := fa.price
      have hb2 := fb.price
      simp only at ha1 hb1 ha2 hb2 hd
      rcases hd with rfl | rfl
      · exact .inl ⟨ha1, hb1, by omega⟩
      · exact .inr (.inl ⟨ha1, hb1, by omega⟩)
    · exact List.pairwise_of_forall (fun _ _ => trivial)
  · unfold bookCo
    rw [List.pairwise_append]
    refine ⟨?_, ?_, ?_⟩
    · refine pair_map_range _ _ _ ?_
      intro i j hij hj x hx y hy
      have fx := hfit _ x hx
      have fy := hfit _ y hy
      exact .inl ⟨fx.side, fy.side, by rw [fx.price, fy.price]; show st.levels - j ≤ st.levels - i; omega⟩
    · refine pair_map_range _ _ _ ?_
      intro i j hij hj x hx y hy
      have fx := hfit _ x hx
      have fy := hfit _ y hy
      exact .inr (.inl ⟨fx.side, fy.side, by rw [fx.price, fy.price]; show i + 1 ≤ j + 1; omega⟩)
    · intro a ha b hb x hx y hy
      simp only [bidCo, askCo, List.mem_map] at ha hb
      obtain ⟨i, _, rfl⟩ := ha
      obtain ⟨j, _, rfl⟩ := hb
      have fx := hfit _ x hx
      have fy := hfit _ y hy
      refine .inr (.inr ⟨fx.side, fy.side, ?_⟩)
      rw [fx.price, fy.price]
      exact h.unc s _ _ (List.ne_nil_of_mem hx) (List.ne_nil_of_mem hy)

theorem book_each {st : St} (h : Inv st) (s : Nat) (x : Ord) (hx : x ∈ st.book s) : x.stock = s ∧ 1 ≤ x.price ∧ x.price ≤ st.levels ∧ 1 ≤ x.shares ∧ x.shares ≤ 9999 ∧ (x.side = 66 ∨ x.side = 83) ∧ x.ref < 4294967296 ∧ x.token < 4294967296 := by
  rw [book_eq, List.mem_flatMap] at hx
  obtain ⟨⟨s', d, p⟩, hc, hx⟩ := hx
  obtain ⟨e, hd, h1, h2⟩ := (mem_bookCo _ _ _).1 hc
  have f := h.ord _ _ _ x hx
  simp only at e hd h1 h2
  subst e
  exact ⟨f.stock, by rw [f.price]; exact h1, by rw [f.price]; exact h2, f.least, f.most, by rw [f.side]; exact hd, f.ref, f.token⟩

theorem book_pair {st : St} (h : Inv st) (s i : Nat) (f p x : Ord) (hf : (st.book s)[0]? = some f) (hp : (st.book s)[i]? = some p) (hx : (st.book s)[i + 1]? = some x) :
    (p.side = 66 ∧ x.side = 66 ∧ x.price ≤ p.price) ∨ (p.side = 83 ∧ x.side = 83 ∧ p.price ≤ x.price) ∨ (p.side = 66 ∧ x.side = 83 ∧ f.price < x.price) := by
  have hpw := ahead_book h s
  rw [List.pairwise_iff_getElem] at hpw
  have get : ∀ (k : Nat) (z : Ord), (st.book s)[k]? = some z → ∃ hk : k < (st.book s).length, (st.book s)[k] = z := fun k z hz => List.getElem?_eq_some_iff.1 hz
  obtain ⟨k0, e0⟩ := get 0 f hf
  obtain ⟨k1, e1⟩ := get i p hp
  obtain ⟨k2, e2⟩ := get (i + 1) x hx
  have a1 := hpw i (i + 1) k1 k2 (by omega)
  rw [e1, e2] at a1
  rcases a1 with a1 | a1 | ⟨a1, a2, a3⟩
  · exact .inl a1
  · exact .inr (.inl a1)
  · refine .inr (.inr ⟨a1, a2, ?_⟩)
    have b1 := hpw 0 (i + 1) k0 k2 (by omega)
    rw [e0, e2] at b1
    rcases b1 with ⟨_, b2, _⟩ | ⟨b1, _, _⟩ | ⟨_, _, b3⟩
    · rw [a2] at b2; exact absurd b2 (by decide)
    · by_cases hi : i = 0
      · subst hi
        rw [hf] at hp
        cases hp
        rw [a1] at b1; exact absurd b1 (by decide)
      · have c1 := hpw 0 i k0 k1 (by omega)
        rw [e0, e1] at c1
        rcases c1 with ⟨c1, _, _⟩ | ⟨_, c2, _⟩ | ⟨c1, _, _⟩
        · rw [b1] at c1; exact absurd c1 (by decide)
        · rw [a1] at c2; exact absurd c2 (by decide)
        · rw [b1] at c1; exact absurd c1 (by decide)
    · exact b3

end Go.Proofs.Ytphkchjejbffeaa

/- Plain: a whole message that comes is done; how much goes out; which tokens are used. -/
namespace Go.Proofs.Ytphkchjejbffeaa

theorem part_nil (st : St) (hp : st.part = []) : ({ st with part := [] } : St) = st := by
  cases st
  simp only at hp
  subst hp
  rfl

theorem feed_part (m : List UInt8) (st : St) (ho : st.opn = true) (hp : st.part = []) (hm : m.length = sizeOf (byteAt m 0)) : ∀ j, j < m.length → st.feed (m.take j) = { st with part := m.take j } := by
  intro j
  induction j with
  | zero => intro _; exact (part_nil st hp).symm
  | succ j ih =>
    intro hj
    have h := ih (by omega)
    rw [List.take_succ_eq_append_getElem (by omega : j < m.length), feed_append, h]
    show St.step _ _ = _
    have hlen : (m.take j ++ [m[j]]).length ≠ sizeOf (byteAt (m.take j ++ [m[j]]) 0) := by
      have e : byteAt (m.take j ++ [m[j]]) 0 = byteAt m 0 := by
        rw [← List.take_succ_eq_append_getElem (by omega : j < m.length)]
        unfold byteAt
        simp
      rw [e, ← hm]
      simp
      omega
    unfold St.step
    dsimp only
    rw [if_pos ho, if_neg hlen]

theorem feed_whole (m : List UInt8) (st : St) (ho : st.opn = true) (hp : st.part = []) (hm : m.length = sizeOf (byteAt m 0)) (h0 : 0 < m.length) : st.feed m = st.act m := by
  have h := feed_part m st ho hp hm (m.length - 1) (by omega)
  have e : m = m.take (m.length - 1) ++ [m[m.length - 1]] := by
    rw [← List.take_succ_eq_append_getElem (by omega : m.length - 1 < m.length), List.take_of_length_le (by omega)]
  have h2 : st.feed m = (st.feed (m.take (m.length - 1))).step m[m.length - 1] := by
    conv => lhs; rw [e]
    rw [feed_append]; rfl
  rw [h2, h]
  unfold St.step
  dsimp only
  rw [if_pos ho, ← e, if_pos hm]
  exact congrArg (fun x : St => x.act m) (part_nil st hp)

theorem head_len (st : St) (c : UInt8) : (st.head c).length = 7 := by simp [St.head, enc_length]

/-- How much more went out, and how many tokens more are used. -/
structure Grew (a b : St) (x y u : Nat) : Prop where
  ans : b.ans.length ≤ a.ans.length + x
  tape : b.tape.length ≤ a.tape.length + y
  used : b.used.length = a.used.length + u
theorem Grew.trans {a b c : St} {x y u x' y' u' : Nat} (h : Grew a b x y u) (k : Grew b c x' y' u') : Grew a c (x + x') (y + y') (u + u') :=
  ⟨by have := h.ans; have := k.ans; omega, by have := h.tape; have := k.tape; omega, by rw [k.used, h.used]; omega⟩
theorem Grew.mono {a b : St} {x y u x' y' : Nat} (h : Grew a b x y u) (hx : x ≤ x') (hy : y ≤ y') : Grew a b x' y' u := ⟨by have := h.ans; omega, by have := h.tape; omega, h.used⟩
theorem Grew.refl (a : St) : Grew a a 0 0 0 := ⟨Nat.le_refl _, Nat.le_refl _, rfl⟩

theorem grew_execute (st : St) (o f : Ord) (n : Nat) : Grew st (st.execute o f n) 38 17 0 := by
  refine ⟨?_, ?_, rfl⟩
  · simp [St.execute, St.upd, St.put, St.say, St.fill, head_len, enc_length]
  · simp [St.execute, St.upd, St.put, St.say, St.fill, head_len, enc_length]
theorem grew_meet (k : Nat) : ∀ (st : St) (o : Ord), Grew st (st.meet k o).1 (38 * k) (17 * k) 0 := by
  induction k with
  | zero => intro st o; exact Grew.refl _
  | succ k ih =>
    intro st o
    simp only [St.meet]
    split
    · exact (Grew.refl _).mono (by omega) (by omega)
    · split
      · exact (Grew.refl _).mono (by omega) (by omega)
      · exact ((grew_execute _ _ _ _).trans (ih _ _)).mono (by omega) (by omega)
theorem grew_rest (st : St) (o : Ord) : Grew st (st.rest o) 0 17 0 := by
  refine ⟨?_, ?_, rfl⟩
  · simp [St.rest, St.upd, St.put]
  · simp [St.rest, St.upd, St.put, head_len, enc_length]

theorem grew_cancelled (st : St) (t n : Nat) (r : UInt8) : Grew st (st.cancelled t n r) 14 0 0 := by
  refine ⟨?_, ?_, rfl⟩
  · simp [St.cancelled, St.say, head_len, enc_length]
  · simp [St.cancelled, St.say]

theorem grew_enter (st : St) (t : Nat) (side : UInt8) (stock price shares : Nat) (kind : UInt8) :
    (Grew st (st.enter t side stock price shares kind) 14 14 0 ∧ (st.enter t side stock price shares kind).used = st.used) ∨ (Grew st (st.enter t side stock price shares kind) 4000 4000 1 ∧ t ∉ st.used ∧ (st.enter t side stock price shares kind).used = t :: st.used) := by
  unfold St.enter
  split
  · left
    refine ⟨⟨?_, ?_, rfl⟩, rfl⟩
    · simp [St.reject, St.say, head_len, enc_length]
    · simp [St.reject, St.say]
  · rename_i hw
    right
    have hu : t ∉ st.used := by
      intro hc
      unfold St.why at hw
      rw [if_pos hc] at hw
      cases hw
    dsimp only
    have h1 : Grew st (st.accept { ref := (st.refs + 1) % 4294967296, token := t, side := side, stock := stock, price := price, shares := shares } kind) 22 0 1 := by
      refine ⟨?_, ?_, ?_⟩
      · simp [St.accept, St.say, head_len, enc_length]
      · simp [St.accept, St.say]
      · simp [St.accept, St.say]
    have h2 := h1.trans (grew_meet 65 _ { ref := (st.refs + 1) % 4294967296, token := t, side := side, stock := stock, price := price, shares := shares })
    have h3 : ((st.accept { ref := (st.refs + 1) % 4294967296, token := t, side := side, stock := stock, price := price, shares := shares } kind).meet 65 { ref := (st.refs + 1) % 4294967296, token := t, side := side, stock := stock, price := price, shares := shares }).1.used = t :: st.used := used_meet 65 _ _
    refine ⟨?_, hu, ?_⟩
    · split
      · exact h2.mono (by omega) (by omega)
      · split
        · exact (h2.trans (grew_rest _ _)).mono (by omega) (by omega)
        · exact (h2.trans (grew_cancelled _ _ _ _)).mono (by omega) (by omega)
    · split
      · exact h3
      · split
        · exact h3
        · exact h3
where
  used_meet (k : Nat) : ∀ (st : St) (o : Ord), (st.meet k o).1.used = st.used := by
    induction k with
    | zero => intro st o; rfl
    | succ k ih =>
      intro st o
      simp only [St.meet]
      split
      · rfl
      · split
        · rfl
        · rw [ih]; rfl

theorem grew_cancel (st : St) (t n : Nat) : Grew st (st.cancel t n) 14 14 0 := by
  unfold St.cancel
  split
  · exact (Grew.refl _).mono (by omega) (by omega)
  · split
    · exact (Grew.refl _).mono (by omega) (by omega)
    · dsimp only
      split
      · refine ⟨?_, ?_, rfl⟩
        · simp [St.upd, St.put, St.cancelled, St.say, head_len, enc_length]
        · simp [St.upd, St.put, St.cancelled, St.say, head_len, enc_length]
      · refine ⟨?_, ?_, rfl⟩
        · simp [St.upd, St.put, St.cancelled, St.say, head_len, enc_length]
        · simp [St.upd, St.put, St.cancelled, St.say, head_len, enc_length]

theorem used_meet (k : Nat) : ∀ (st : St) (o : Ord), (st.meet k o).1.used = st.used := by
  induction k with
  | zero => intro st o; rfl
  | succ k ih =>
    intro st o
    simp only [St.meet]
    split
    · rfl
    · split
      · rfl
      · rw [ih]; rfl

theorem grew_replace (st : St) (t n price shares : Nat) :
    (Grew st (st.replace t n price shares) 14 14 0 ∧ (st.replace t n price shares).used = st.used) ∨ (Grew st (st.replace t n price shares) 4000 4000 1 ∧ n ∉ st.used ∧ (st.replace t n price shares).used = n :: st.used) := by
  unfold St.replace
  split
  · exact .inl ⟨(Grew.refl _).mono (by omega) (by omega), rfl⟩
  · split
    · left
      refine ⟨⟨?_, ?_, rfl⟩, rfl⟩
      · simp [St.reject, St.say, head_len, enc_length]
      · simp [St.reject, St.say]
    · rename_i o ho _ hw
      right
      have hu : n ∉ st.used := by
        intro hc
        unfold St.whyR at hw
        rw [if_pos hc] at hw
        cases hw
      dsimp only
      have h1 : Grew st (({ st with refs := (st.refs + 1) % 4294967296, used := n :: st.used } : St).say (st.head 85 ++ enc n 4 ++ enc price 2 ++ enc shares 2 ++ enc ((st.refs + 1) % 4294967296) 4 ++ enc t 4)) 23 0 1 := by
        refine ⟨?_, ?_, ?_⟩
        · simp [St.say, head_len, enc_length]
        · simp [St.say]
        · simp [St.say]
      have hused : (({ st with refs := (st.refs + 1) % 4294967296, used := n :: st.used } : St).say (st.head 85 ++ enc n 4 ++ enc price 2 ++ enc shares 2 ++ enc ((st.refs + 1) % 4294967296) 4 ++ enc t 4)).used = n :: st.used := rfl
      generalize (({ st with refs := (st.refs + 1) % 4294967296, used := n :: st.used } : St).say (st.head 85 ++ enc n 4 ++ enc price 2 ++ enc shares 2 ++ enc ((st.refs + 1) % 4294967296) 4 ++ enc t 4)) = b at *
      split
      · have h2 : ∀ f g s d p, Grew b ((b.put (b.head 117 ++ enc o.ref 4 ++ enc ((st.refs + 1) % 4294967296) 4 ++ enc shares 2 ++ enc price 2)).upd s d p f) 0 21 0 ∧ Grew b (((b.put (b.head 117 ++ enc o.ref 4 ++ enc ((st.refs + 1) % 4294967296) 4 ++ enc shares 2 ++ enc price 2)).upd s d p f).upd s d price g) 0 21 0 := by
          intro f g s d p
          constructor
          · refine ⟨?_, ?_, rfl⟩
            · simp [St.upd, St.put]
            · simp [St.upd, St.put, head_len, enc_length]
          · refine ⟨?_, ?_, rfl⟩
            · simp [St.upd, St.put]
            · simp [St.upd, St.put, head_len, enc_length]
        split
        · exact ⟨(h1.trans (h2 _ (fun l => l) _ _ _).1).mono (by omega) (by omega), hu, hused⟩
        · exact ⟨(h1.trans (h2 _ _ _ _ _).2).mono (by omega) (by omega), hu, hused⟩
      · have h2 : ∀ f s d p, Grew b ((b.put (b.head 100 ++ enc o.ref 4)).upd s d p f) 0 11 0 := by
          intro f s d p
          refine ⟨?_, ?_, rfl⟩
          · simp [St.upd, St.put]
          · simp [St.upd, St.put, head_len, enc_length]
        have h3 := (h1.trans (h2 (delO t) o.stock o.side o.price)).trans (grew_meet 65 _ { ref := (st.refs + 1) % 4294967296, token := n, side := o.side, stock := o.stock, price := price, shares := shares })
        have h4 := used_meet 65 ((b.put (b.head 100 ++ enc o.ref 4)).upd o.stock o.side o.price (delO t)) { ref := (st.refs + 1) % 4294967296, token := n, side := o.side, stock := o.stock, price := price, shares := shares }
        refine ⟨?_, hu, ?_⟩
        · split
          · exact h3.mono (by omega) (by omega)
          · exact (h3.trans (grew_rest _ _)).mono (by omega) (by omega)
        · split
          · exact h4.trans hused
          · exact h4.trans hused

end Go.Proofs.Ytphkchjejbffeaa

/- The walks of boursekeep's small helpers: pick, num, val. -/
namespace Go.Proofs.Ytphkchjejbffeaa
open Go.RowKit

theorem ret_int {k : IntKind} {a b : Int} (h : a = b) : Ending.returned (.int k a) = .returned (.int k b) := by rw [h]

set_option maxHeartbeats 400000 in
theorem pick_any (c n : Int) (w : World) (hc1 : -9223372036854775808 ≤ c) (hc2 : c ≤ 9223372036854775807) (hn1 : 0 < n) (hn2 : n ≤ 9223372036854775807) :
    Calls Try.prog 11 #[.int .i64 c, .int .i64 n] w fun e w' => e = .returned (.int .i64 (pick c n.toNat : Nat)) ∧ w' = w := by
  have hp : ((pick c n.toNat : Nat) : Int) = (if c < 0 then -(c + 1) else c) % n := by
    unfold pick
    rw [Int.natCast_emod, Int.toNat_of_nonneg (by split <;> omega), Int.toNat_of_nonneg (by omega)]
  by_cases hc : c < 0
  · rw [if_pos hc] at hp
    have H : Hid (((pick c n.toNat : Nat) : Int) = (-(c + 1)) % n) := hp
    clear hp
    go_enter Try.func11, Try.ntmps11
    go_wp2
    go_ret
    exact ⟨ret_int (by rw [H.out, ← Int.neg_tmod, Int.tmod_eq_emod_of_nonneg (by omega)]), rfl⟩
  · rw [if_neg hc] at hp
    have H : Hid (((pick c n.toNat : Nat) : Int) = c % n) := hp
    clear hp
    go_enter Try.func11, Try.ntmps11
    go_wp2
    go_ret
    exact ⟨ret_int (by rw [H.out]), rfl⟩

theorem Try.info5 : (Try.prog.info? 5).map (fun i => (i.zero, i.size, i.bytes)) = some (some (.int .u8 0), 1, 1) := by kernel_rfl

theorem made_bytes (n : Nat) : madeCells (Value.int .u8 0).cells (n * 1) = half 0 n 0 := by
  rw [half_zero]
  apply Array.ext_getElem?
  intro i
  simp [madeCells, Value.cells, Array.getElem?_range, B]
  split <;> simp_all [Nat.mod_one]

set_option maxHeartbeats 400000 in
theorem num_nat (v n : Nat) (w : World) (hv : v ≤ 9223372036854775807) (hn : n ≤ 8) :
    Calls Try.prog 14 #[.int .i64 v, .int .i64 n] w fun e w' => e = .returned (.slice (some ⟨w.heap.size, 0, none⟩) n n) ∧ w' = w.alloc (.cells ((enc v n).map B).toArray 5) := by
  have hm : (Instr.makeSlice 28 (.int .i64 n) (.int .i64 n)).run Try.prog w = .ok (.slice (some ⟨w.heap.size, 0, none⟩) n n) (w.alloc (.cells (half v n 0) 5)) := by
    obtain ⟨i0, hi, hz0, hz1, hz2⟩ := info_parts Try.info5
    have := run_make (P := Try.prog) w 28 5 i0 (.int .u8 0) Try.underlying28 hi hz0 .i64 .i64 n n (by omega) (by omega) (by rw [hz2]; omega) (by omega)
    rw [this, hz1, Int.toNat_natCast, made_bytes, half_zero, half_zero]
  go_enter Try.func14, Try.ntmps14
  go_wp2
  clear hm
  go_loopw [0, 6] (fun x i wr => ∃ j : Nat, j ≤ n ∧ i = .int .i64 ((n : Int) - 1 - j) ∧ x = .int .i64 (v / 256 ^ j : Nat) ∧ wr = w.alloc (.cells (half v n j) 5)) (fun _ i _ => (intOf i + 1).toNat)
  case atStart => exact ⟨0, by omega, by simp, by simp, rfl⟩
  case round =>
    obtain ⟨j, hj, rfl, rfl, rfl⟩ := hrel
    by_cases hlt : j < n
    · have hsz := half_size v n j hj
      have h1 : (0 : Int) ≤ (n : Int) - 1 - j := by omega
      have h2 : (n : Int) - 1 - j < n := by omega
      have hq : v / 256 ^ j ≤ 9223372036854775807 := Nat.le_trans (Nat.div_le_self _ _) hv
      have HS : Hid (v / 256 ^ (j + 1) = v / 256 ^ j / 256) := by show _ = _; rw [Nat.pow_succ, Nat.div_div_eq_div_mul]
      have hT := half_set v n j hlt
      rw [B_ofNat] at hT
      have HT : Hid ((half v n j).setIfInBounds (n - 1 - j) (.int .u8 (((v / 256 ^ j : Nat) : Int) % 256)) = half v n (j + 1)) := hT
      clear hT
      have hg := half_get v n j hlt
      generalize v / 256 ^ j = q at *
      go_wp2
      go_roundw
      case rel => exact ⟨j + 1, by omega, by go_num, by rw [HS.out]; simp, by rw [HT.out]⟩
      case measure => simp [intOf]; omega
    · go_wp2
      go_ret
      have : j = n := by omega
      subst this
      exact ⟨rfl, by rw [half_full]⟩

theorem num_any (v n : Int) (w : World) (h0 : 0 ≤ v) (hv : v ≤ 9223372036854775807) (hn0 : 0 ≤ n) (hn : n ≤ 8) :
    Calls Try.prog 14 #[.int .i64 v, .int .i64 n] w fun e w' => e = .returned (.slice (some ⟨w.heap.size, 0, none⟩) n.toNat n.toNat) ∧ w' = w.alloc (.cells ((enc v.toNat n.toNat).map B).toArray 5) := by
  have := num_nat v.toNat n.toNat w (by omega) (by omega)
  rwa [Int.toNat_of_nonneg h0, Int.toNat_of_nonneg hn0] at this

end Go.Proofs.Ytphkchjejbffeaa
