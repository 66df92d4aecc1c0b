/- Each step puts on the tape what it does: plain. -/
import Derived.Test.YtphkchjejbffeaaG17
import Derived.BigQuiet
import Derived.Deep.QuietTactic
import Derived.Shelf.SlSortCmp.KitK
import Derived.Sort.WalkB2
import Derived.Sort.WalkB12
import Derived.Deep.LoopGhost
namespace Go.Proofs.Ytphkchjejbffeaa

theorem at_app (x r : List UInt8) (i j n : Nat) (h : i = x.length + j) : at_ (x ++ r) i n = at_ r j n := by
  unfold at_
  rw [h, List.drop_append]
  rw [List.drop_of_length_le (by omega), List.nil_append]
  congr 3
  omega
theorem at_enc (v n : Nat) (r : List UInt8) (h : v < 256 ^ n) : at_ (enc v n ++ r) 0 n = v := by
  unfold at_
  rw [List.drop_zero, List.take_append_of_le_length (by rw [enc_length]; exact Nat.le_refl _), List.take_of_length_le (by rw [enc_length]; exact Nat.le_refl _), num_enc, Nat.mod_eq_of_lt h]
theorem at_enc0 (v n : Nat) (h : v < 256 ^ n) : at_ (enc v n) 0 n = v := by
  have := at_enc v n [] h
  rwa [List.append_nil] at this
theorem byte_app (x r : List UInt8) (i j : Nat) (h : i = x.length + j) : byteAt (x ++ r) i = byteAt r j := by
  unfold byteAt
  rw [h, List.getD_eq_getElem?_getD, List.getD_eq_getElem?_getD, List.getElem?_append_right (by omega), Nat.add_sub_cancel_left]

theorem Tq.mem_low {q : Nat → UInt8 → Nat → List Ord} {R : Nat} {L : List Ord} (h : Tq q R L) {s : Nat} {d : UInt8} {p : Nat} {f : Ord} (hf : f ∈ q s d p) : f.ref ≤ R := by
  have : tok0 f ∈ L.filter (inK s d p) := by rw [h.cls]; exact List.mem_map.2 ⟨f, hf, rfl⟩
  exact h.low (tok0 f) (List.mem_filter.1 this).1

/-- Shares go away from an order of the books. -/
theorem Tq.less {q : Nat → UInt8 → Nat → List Ord} {R : Nat} {L : List Ord} (h : Tq q R L) {s : Nat} {d : UInt8} {p : Nat} {l1 l2 : List Ord} {f : Ord} (hq : q s d p = l1 ++ f :: l2) (hf : Fits s d p f) (n : Nat) :
    leftL L f.ref = f.shares ∧ Tq (updq q s d p (l1 ++ (liveO { f with shares := f.shares - n } ++ l2))) R (lessL f.ref n L) := by
  obtain ⟨h1, h2⟩ := h.turn hq (y := { f with shares := f.shares - n }) hf.stock hf.side hf.price (.inr (.inl rfl)) (fun o => { o with shares := o.shares - n }) rfl
  have := h.mem_low (s := s) (d := d) (p := p) (f := f) (by rw [hq]; simp)
  exact ⟨(liv_left h1).trans rfl, h2.le (by show max R f.ref ≤ R; omega)⟩

theorem msg_exec {L : List Ord} (tm : List UInt8) (ht : tm.length = 6) (r n m : Nat) (hr : r < 4294967296) (hn : n < 65536) (h1 : 1 ≤ n) (h2 : n ≤ leftL L r) : Bld (101 :: tm ++ enc r 4 ++ enc n 2 ++ enc m 4) L (lessL r n L) := by
  have e : 101 :: tm ++ enc r 4 ++ enc n 2 ++ enc m 4 = 101 :: (tm ++ (enc r 4 ++ (enc n 2 ++ enc m 4))) := by simp
  rw [e]
  refine Bld.one 101 tm _ ht (by simp [ht, enc_length, tSize]) ?_
  have e1 : at_ (enc r 4 ++ (enc n 2 ++ enc m 4)) 0 4 = r := at_enc _ _ _ (by omega)
  have e2 : at_ (enc r 4 ++ (enc n 2 ++ enc m 4)) 4 2 = n := by
    rw [at_app _ _ 4 0 2 (by rw [enc_length])]
    exact at_enc _ _ _ (by omega)
  show fExec L _ = _
  unfold fExec
  rw [e1, e2, if_neg (by omega)]
theorem msg_less {L : List Ord} (tm : List UInt8) (ht : tm.length = 6) (r n : Nat) (hr : r < 4294967296) (hn : n < 65536) (h1 : 1 ≤ n) (h2 : n < leftL L r) : Bld (120 :: tm ++ enc r 4 ++ enc n 2) L (lessL r n L) := by
  have e : 120 :: tm ++ enc r 4 ++ enc n 2 = 120 :: (tm ++ (enc r 4 ++ enc n 2)) := by simp
  rw [e]
  refine Bld.one 120 tm _ ht (by simp [ht, enc_length, tSize]) ?_
  have e1 : at_ (enc r 4 ++ enc n 2) 0 4 = r := at_enc _ _ _ (by omega)
  have e2 : at_ (enc r 4 ++ enc n 2) 4 2 = n := by
    rw [at_app _ _ 4 0 2 (by rw [enc_length])]
    exact at_enc0 _ _ (by omega)
  show fLess L _ = _
  unfold fLess
  rw [e1, e2, if_neg (by omega)]
theorem msg_gone {L : List Ord} (tm : List UInt8) (ht : tm.length = 6) (r n : Nat) (hr : r < 4294967296) (h1 : 1 ≤ n) (h2 : leftL L r = n) : Bld (100 :: tm ++ enc r 4) L (lessL r n L) := by
  refine Bld.one 100 tm _ ht (by simp [ht, enc_length, tSize]) ?_
  have e1 : at_ (enc r 4) 0 4 = r := at_enc0 _ _ (by omega)
  show fGone L _ = _
  unfold fGone
  rw [e1, h2, if_neg (by omega)]
theorem msg_rest {L : List Ord} (tm : List UInt8) (ht : tm.length = 6) (o : Ord) (h1 : o.ref < 4294967296) (h2 : o.side = 66 ∨ o.side = 83) (h3 : o.stock < 256) (h4 : o.price < 65536) (h5 : o.shares < 65536) (h6 : o.shares ≠ 0) (h7 : leftL L o.ref = 0) :
    Bld (97 :: tm ++ enc o.ref 4 ++ [o.side, UInt8.ofNat o.stock] ++ enc o.shares 2 ++ enc o.price 2) L (L ++ [tok0 o]) := by
  have e : 97 :: tm ++ enc o.ref 4 ++ [o.side, UInt8.ofNat o.stock] ++ enc o.shares 2 ++ enc o.price 2 = 97 :: (tm ++ (enc o.ref 4 ++ ([o.side, UInt8.ofNat o.stock] ++ (enc o.shares 2 ++ enc o.price 2)))) := by simp
  rw [e]
  refine Bld.one 97 tm _ ht (by simp [ht, enc_length, tSize]) ?_
  generalize hf : enc o.ref 4 ++ ([o.side, UInt8.ofNat o.stock] ++ (enc o.shares 2 ++ enc o.price 2)) = f
  have e1 : at_ f 0 4 = o.ref := by rw [← hf]; exact at_enc _ _ _ (by omega)
  have e2 : byteAt f 4 = o.side := by rw [← hf, byte_app _ _ 4 0 (by rw [enc_length])]; rfl
  have e3 : (byteAt f 5).toNat = o.stock := by rw [← hf, byte_app _ _ 5 1 (by rw [enc_length])]; show (UInt8.ofNat o.stock).toNat = _; simp; omega
  have e4 : at_ f 6 2 = o.shares := by rw [← hf, at_app _ _ 6 2 2 (by rw [enc_length]), at_app _ _ 2 0 2 rfl]; exact at_enc _ _ _ (by omega)
  have e5 : at_ f 8 2 = o.price := by rw [← hf, at_app _ _ 8 4 2 (by rw [enc_length]), at_app _ _ 4 2 2 rfl, at_app _ _ 2 0 2 (by rw [enc_length])]; exact at_enc0 _ _ (by omega)
  show fRests L f = _
  unfold fRests fOrd
  rw [e1, e2, e3, e4, e5, h7, if_neg (by intro hh; rcases hh with hh | hh | hh; exact hh rfl; exact hh h2; exact h6 hh)]
  rfl
theorem msg_swap {L : List Ord} (tm : List UInt8) (ht : tm.length = 6) (o y : Ord) (h1 : o.ref < 4294967296) (h2 : y.ref < 4294967296) (h4 : y.price < 65536) (h5 : y.shares < 65536) (h6 : y.shares ≠ 0) (h7 : leftL L y.ref = 0) (h8 : liv L o.ref = some (tok0 o)) (h9 : y.side = o.side) (h10 : y.stock = o.stock) :
    Bld (117 :: tm ++ enc o.ref 4 ++ enc y.ref 4 ++ enc y.shares 2 ++ enc y.price 2) L (if y.price = o.price ∧ y.shares ≤ o.shares then chL o.ref (fun _ => tok0 y) L else lessL o.ref o.shares L ++ [tok0 y]) := by
  have e : 117 :: tm ++ enc o.ref 4 ++ enc y.ref 4 ++ enc y.shares 2 ++ enc y.price 2 = 117 :: (tm ++ (enc o.ref 4 ++ (enc y.ref 4 ++ (enc y.shares 2 ++ enc y.price 2)))) := by simp
  rw [e]
  refine Bld.one 117 tm _ ht (by simp [ht, enc_length, tSize]) ?_
  generalize hf : enc o.ref 4 ++ (enc y.ref 4 ++ (enc y.shares 2 ++ enc y.price 2)) = f
  have e1 : at_ f 0 4 = o.ref := by rw [← hf]; exact at_enc _ _ _ (by omega)
  have e2 : at_ f 4 4 = y.ref := by rw [← hf, at_app _ _ 4 0 4 (by rw [enc_length])]; exact at_enc _ _ _ (by omega)
  have e4 : at_ f 8 2 = y.shares := by rw [← hf, at_app _ _ 8 4 2 (by rw [enc_length]), at_app _ _ 4 0 2 (by rw [enc_length])]; exact at_enc _ _ _ (by omega)
  have e5 : at_ f 10 2 = y.price := by rw [← hf, at_app _ _ 10 6 2 (by rw [enc_length]), at_app _ _ 6 2 2 (by rw [enc_length]), at_app _ _ 2 0 2 (by rw [enc_length])]; exact at_enc0 _ _ (by omega)
  have en : fNew (tok0 o) f = tok0 y := by
    unfold fNew tok0
    rw [e2, e4, e5, h9, h10]
  show fSwap L f = _
  unfold fSwap
  rw [e1, h8]
  simp only
  rw [e2, e4, e5, h7, en, if_neg (by intro hh; rcases hh with hh | hh; exact hh.2 rfl; exact h6 hh)]
  have ep : (tok0 o).price = o.price := rfl
  have es : (tok0 o).shares = o.shares := rfl
  rw [ep, es]
  split <;> rfl

theorem tape_meet (k : Nat) : ∀ (st : St) (o : Ord) (L : List Ord) (R : Nat), Inv st → Tq st.q R L →
    ∃ bs L', (st.meet k o).1.tape = st.tape ++ bs ∧ Bld bs L L' ∧ Tq (st.meet k o).1.q R L' := by
  induction k with
  | zero => intro st o L R _ h; exact ⟨[], L, by simp [St.meet], .nil L, h⟩
  | succ k ih =>
    intro st o L R hi h
    by_cases h0 : o.shares = 0
    · have e : st.meet (k + 1) o = (st, o) := by unfold St.meet; rw [if_pos h0]
      rw [e]
      exact ⟨[], L, by simp, .nil L, h⟩
    · cases hm : st.meets o with
      | none =>
        have e : st.meet (k + 1) o = (st, o) := by unfold St.meet; rw [if_neg h0, hm]
        rw [e]
        exact ⟨[], L, by simp, .nil L, h⟩
      | some f =>
        obtain ⟨t, ht, hv, hf1, hf2, hf3, hf4⟩ := meets_at hi hm
        have hfo := hi.ord _ _ _ f (by rw [ht]; simp)
        have e : st.meet (k + 1) o = (st.execute o f (min o.shares f.shares)).meet k { o with shares := o.shares - min o.shares f.shares } := by
          show (if o.shares = 0 then (st, o) else _) = _
          rw [if_neg h0, hm]
        have hn1 : 1 ≤ min o.shares f.shares := by omega
        have hn3 : min o.shares f.shares ≤ f.shares := Nat.min_le_right _ _
        have hn4 := hfo.most
        generalize min o.shares f.shares = n at *
        obtain ⟨t1, t2⟩ := h.less (l1 := []) ht hfo n
        have hq : (st.execute o f n).q = updq st.q f.stock f.side f.price ([] ++ (liveO { f with shares := f.shares - n } ++ t)) := by
          have : (st.execute o f n).q = updq st.q f.stock f.side f.price (redO f.token n (st.q f.stock f.side f.price)) := rfl
          rw [this, ht]
          congr 1
          simp only [redO, if_pos, liveO, List.nil_append]
          by_cases hs : f.shares ≤ n
          · rw [if_pos hs, if_pos (by omega)]; simp
          · rw [if_neg hs, if_neg (by omega)]; simp
        obtain ⟨bs, L', r1, r2, r3⟩ := ih (st.execute o f n) { o with shares := o.shares - n } _ R (execute_ok hi hm n).1 (t2.of_q hq)
        rw [e]
        refine ⟨_, L', ?_, (msg_exec (enc st.time 6) (t6 st) f.ref n ((st.mats + 1) % 4294967296) hfo.ref (by omega) hn1 (by omega)).app r2, r3⟩
        rw [r1, ← List.append_assoc]
        rfl

theorem meet_ref (k : Nat) : ∀ (st : St) (o : Ord), (st.meet k o).2.ref = o.ref ∧ (st.meet k o).1.refs = st.refs := by
  induction k with
  | zero => intro st o; exact ⟨rfl, rfl⟩
  | succ k ih =>
    intro st o
    unfold St.meet
    split
    · exact ⟨rfl, rfl⟩
    · split
      · exact ⟨rfl, rfl⟩
      · rename_i f _
        exact ih (st.execute o f (min o.shares f.shares)) { o with shares := o.shares - min o.shares f.shares }

structure Td (st : St) (L : List Ord) : Prop where
  tq : Tq st.q st.refs L
  cnt : st.refs ≤ st.used.length
def TStep (st st' : St) (L : List Ord) : Prop := ∃ bs L', st'.tape = st.tape ++ bs ∧ Bld bs L L' ∧ Td st' L'

theorem Td.same {st st' : St} {L : List Ord} (h : Td st L) (h1 : st'.tape = st.tape) (h2 : st'.q = st.q) (h3 : st'.refs = st.refs) (h4 : st'.used = st.used) : TStep st st' L :=
  ⟨[], L, by simp [h1], .nil L, ⟨by rw [h2, h3]; exact h.tq, by rw [h3, h4]; exact h.cnt⟩⟩

/-- What is left of an order goes to rest. -/
theorem tape_rest {st : St} {L : List Ord} {R : Nat} (h : Tq st.q R L) (o : Ord) (hr : R < o.ref) (h1 : o.ref < 4294967296) (h2 : o.side = 66 ∨ o.side = 83) (h3 : o.stock < 256) (h4 : o.price < 65536) (h5 : o.shares < 65536) (h6 : o.shares ≠ 0) :
    ∃ bs L', (st.rest o).tape = st.tape ++ bs ∧ Bld bs L L' ∧ Tq (st.rest o).q o.ref L' :=
  ⟨_, _, rfl, msg_rest (enc st.time 6) (t6 st) o h1 h2 h3 h4 h5 h6 (h.fresh hr), h.add hr h6⟩

theorem td_enter {st : St} {L : List Ord} (hi : Inv st) (h : Td st L) (t : Nat) (side : UInt8) (stock price shares : Nat) (kind : UInt8) (hR : st.refs + 1 < 4294967296) : TStep st (st.enter t side stock price shares kind) L := by
  unfold St.enter
  cases hw : st.why t side stock price shares kind with
  | some r => exact h.same rfl rfl rfl rfl
  | none =>
    obtain ⟨w1, w2, w3, w4, w5, w6, w7⟩ := whyE_none hw
    simp only
    have hrr : (st.refs + 1) % 4294967296 = st.refs + 1 := Nat.mod_eq_of_lt hR
    rw [hrr]
    generalize ho : ({ ref := st.refs + 1, token := t, side, stock, price, shares } : Ord) = o
    have o2 : o.side = side := by rw [← ho]
    have o3 : o.stock = stock := by rw [← ho]
    have o4 : o.price = price := by rw [← ho]
    have o5 : o.shares = shares := by rw [← ho]
    have o6 : o.ref = st.refs + 1 := by rw [← ho]
    have hacc : Inv (st.accept o kind) := hi.of_q (st' := st.accept o kind) rfl rfl rfl rfl (fun t ht => List.mem_cons_of_mem _ ht) (by show o.ref < _; omega) hi.mats hi.time
    obtain ⟨bs, L', r1, r2, r3⟩ := tape_meet 65 (st.accept o kind) o L st.refs hacc h.tq
    obtain ⟨v1, v2, v3, v4, v5, v6, v7, v8⟩ := meet_valid 65 (st.accept o kind) o
    obtain ⟨m1, m2⟩ := meet_ref 65 (st.accept o kind) o
    generalize (st.accept o kind).meet 65 o = x at *
    have hc : x.1.refs ≤ x.1.used.length := by
      rw [m2, v3]
      show o.ref ≤ (o.token :: st.used).length
      have := h.cnt
      simp only [List.length_cons]
      omega
    have hx : x.1.refs = o.ref := m2
    have hta : x.1.tape = st.tape ++ bs := r1
    by_cases h0 : x.2.shares = 0
    · rw [if_pos h0]
      exact ⟨bs, L', hta, r2, ⟨r3.le (by omega), hc⟩⟩
    · rw [if_neg h0]
      by_cases hk : kind = 68
      · rw [if_pos hk]
        have hst := hi.stocks
        have hle := hi.levels
        obtain ⟨b2, L2, s1, s2, s3⟩ := tape_rest r3 x.2 (by omega) (by omega) (by rw [v5, o2]; exact w2) (by omega) (by omega) (by omega) h0
        refine ⟨bs ++ b2, L2, by rw [s1, hta, List.append_assoc], r2.app s2, ⟨?_, hc⟩⟩
        show Tq (x.1.rest x.2).q x.1.refs L2
        rw [hx, ← m1]
        exact s3
      · rw [if_neg hk]
        exact ⟨bs, L', hta, r2, ⟨r3.le (by show st.refs ≤ x.1.refs; omega), hc⟩⟩

theorem td_cancel {st : St} {L : List Ord} (hi : Inv st) (h : Td st L) (t n : Nat) : TStep st (st.cancel t n) L := by
  unfold St.cancel
  cases hf : st.find t with
  | none => exact h.same rfl rfl rfl rfl
  | some o =>
    simp only
    by_cases hs : o.shares ≤ n
    · rw [if_pos hs]; exact h.same rfl rfl rfl rfl
    · rw [if_neg hs]
      obtain ⟨f1, f2, f3, f4, f5⟩ := find_at hi hf
      obtain ⟨l1, l2, k1, k2, -, -⟩ := red_at t (o.shares - n) (st.q o.stock o.side o.price) ⟨o, f4, f2⟩ (q_nodup hi f3) o f4 f2
      obtain ⟨t1, t2⟩ := h.tq.less k1 f5 (o.shares - n)
      have hq : updq st.q o.stock o.side o.price (redO t (o.shares - n) (st.q o.stock o.side o.price)) = updq st.q o.stock o.side o.price (l1 ++ (liveO { o with shares := o.shares - (o.shares - n) } ++ l2)) := by rw [k2]
      have hm := f5.most
      by_cases hn0 : n = 0
      · rw [if_pos hn0]
        exact ⟨_, _, rfl, msg_gone (enc st.time 6) (t6 st) o.ref (o.shares - n) f5.ref (by omega) (by omega), ⟨t2.of_q hq, h.cnt⟩⟩
      · rw [if_neg hn0]
        exact ⟨_, _, rfl, msg_less (enc st.time 6) (t6 st) o.ref (o.shares - n) f5.ref (by omega) (by omega) (by omega), ⟨t2.of_q hq, h.cnt⟩⟩

theorem td_replace {st : St} {L : List Ord} (hi : Inv st) (h : Td st L) (t n price shares : Nat) (hR : st.refs + 1 < 4294967296) : TStep st (st.replace t n price shares) L := by
  unfold St.replace
  cases hf : st.find t with
  | none => exact h.same rfl rfl rfl rfl
  | some o =>
    simp only
    cases hw : st.whyR n price shares with
    | some r => exact h.same rfl rfl rfl rfl
    | none =>
      obtain ⟨w1, w4, w5, w6, w7⟩ := whyE_noneR hw
      simp only
      obtain ⟨f1, f2, f3, f4, f5⟩ := find_at hi hf
      obtain ⟨l1, l2, k1, -, k3, k4⟩ := red_at t 0 (st.q o.stock o.side o.price) ⟨o, f4, f2⟩ (q_nodup hi f3) o f4 f2
      have hrr : (st.refs + 1) % 4294967296 = st.refs + 1 := Nat.mod_eq_of_lt hR
      rw [hrr]
      obtain ⟨R, hRe⟩ : ∃ R, st.refs + 1 = R := ⟨_, rfl⟩
      rw [hRe]
      generalize hy : ({ o with ref := R, token := n, price, shares } : Ord) = y
      have y0 : y.ref = R := by rw [← hy]
      have y2 : y.side = o.side := by rw [← hy]
      have y3 : y.stock = o.stock := by rw [← hy]
      have y4 : y.price = price := by rw [← hy]
      have y5 : y.shares = shares := by rw [← hy]
      have hle := hi.levels
      have hsk := hi.stocks
      generalize hst1 : (({ st with refs := R, used := n :: st.used } : St).say (st.head 85 ++ enc n 4 ++ enc price 2 ++ enc shares 2 ++ enc R 4 ++ enc t 4)) = st1
      have a1 : st1.tape = st.tape := by rw [← hst1]; rfl
      have a2 : st1.q = st.q := by rw [← hst1]; rfl
      have a3 : st1.stocks = st.stocks := by rw [← hst1]; rfl
      have a4 : st1.levels = st.levels := by rw [← hst1]; rfl
      have a5 : st1.used = n :: st.used := by rw [← hst1]; rfl
      have a7 : st1.refs = R := by rw [← hst1]; rfl
      have a8 : st1.time = st.time := by rw [← hst1]; rfl
      have a6 : Inv st1 := by rw [← hst1]; exact (hi.of_q (st' := { st with refs := R, used := n :: st.used }) rfl rfl rfl rfl (fun t ht => List.mem_cons_of_mem _ ht) (by show R < _; omega) hi.mats hi.time).say _
      clear hst1
      have hc : st1.refs ≤ st1.used.length := by
        have := h.cnt
        rw [a7, a5, List.length_cons]
        omega
      obtain ⟨t1, t2⟩ := h.tq.less k1 f5 o.shares
      have hz : liveO ({ o with shares := o.shares - o.shares } : Ord) = [] := by unfold liveO; rw [if_pos (Nat.sub_self _)]
      rw [hz, List.nil_append] at t2
      have hlv := (h.tq.turn (y := o) k1 rfl rfl rfl (.inr (.inl rfl)) id rfl).1
      cases hm : st1.meets y with
      | none =>
        have hms := msg_swap (L := L) (enc st1.time 6) (t6 st1) o y f5.ref (by omega) (by omega) (by omega) (by omega) (h.tq.fresh (by omega)) hlv y2 y3
        rw [y0, y4, y5] at hms
        by_cases hc2 : price = o.price ∧ shares ≤ o.shares
        · simp only [if_pos hc2]
          rw [if_pos hc2] at hms
          refine ⟨_, _, ?_, hms, ⟨?_, hc⟩⟩
          · show st1.tape ++ _ = _
            rw [a1]
            rfl
          · have := (h.tq.turn (y := y) k1 y3 y2 (by rw [y4]; exact hc2.1) (.inr (.inr (by omega))) (fun _ => tok0 y) rfl).2
            have hl : liveO y = [y] := by unfold liveO; rw [if_neg (by omega)]
            rw [hl] at this
            refine (this.le (R' := st1.refs) (by rw [a7, y0]; omega)).of_q ?_
            show updq st1.q o.stock o.side o.price (subO t y (st1.q o.stock o.side o.price)) = _
            rw [a2, k4]
            rfl
        · simp only [if_neg hc2]
          rw [if_neg hc2] at hms
          refine ⟨_, _, ?_, hms, ⟨?_, hc⟩⟩
          · show st1.tape ++ _ = _
            rw [a1]
            rfl
          · have := t2.add (o := y) (by omega) (by omega)
            refine (this.le (R' := st1.refs) (by omega)).of_q ?_
            show updq (updq st1.q o.stock o.side o.price (delO t (st1.q o.stock o.side o.price))) o.stock o.side price ((updq st1.q o.stock o.side o.price (delO t (st1.q o.stock o.side o.price))) o.stock o.side price ++ [y]) = _
            rw [a2, k3, y3, y2, y4]
      | some f =>
        generalize hst2 : (st1.put (st1.head 100 ++ enc o.ref 4)).upd o.stock o.side o.price (delO t) = st2
        have b1 : st2.tape = st.tape ++ (st1.head 100 ++ enc o.ref 4) := by rw [← hst2, ← a1]; rfl
        have b5 : st2.used = n :: st.used := by rw [← hst2]; exact a5
        have b3 : st2.stocks = st.stocks := by rw [← hst2]; exact a3
        have b4 : st2.levels = st.levels := by rw [← hst2]; exact a4
        have b7 : st2.refs = R := by rw [← hst2]; exact a7
        have b8 : st2.q = updq st.q o.stock o.side o.price (l1 ++ l2) := by
          rw [← hst2, upd_updq]
          show updq st1.q o.stock o.side o.price (delO t (st1.q o.stock o.side o.price)) = _
          rw [a2, k3]
        have b6 : Inv st2 := by rw [← hst2]; exact (a6.put _).del _ _ _ _ (by unfold Valid; exact ⟨by show _ < st1.stocks; rw [a3]; exact f3.1, f3.2.1, f3.2.2.1, by show _ ≤ st1.levels; rw [a4]; exact f3.2.2.2⟩)
        clear hst2
        have hg := msg_gone (L := L) (enc st1.time 6) (t6 st1) o.ref o.shares f5.ref f5.least t1
        obtain ⟨bs, L', r1, r2, r3⟩ := tape_meet 65 st2 y _ st.refs b6 (t2.of_q b8)
        obtain ⟨v1, v2, v3, v4, v5, v6, v7, v8⟩ := meet_valid 65 st2 y
        obtain ⟨m1, m2⟩ := meet_ref 65 st2 y
        generalize st2.meet 65 y = x at *
        have hc3 : x.1.refs ≤ x.1.used.length := by rw [m2, v3, b7, b5, ← a5, ← a7]; exact hc
        have hta : x.1.tape = st.tape ++ ((st1.head 100 ++ enc o.ref 4) ++ bs) := by rw [r1, b1, List.append_assoc]
        by_cases h0 : x.2.shares = 0
        · rw [if_pos h0]
          exact ⟨_, L', hta, hg.app r2, ⟨r3.le (by show st.refs ≤ x.1.refs; omega), hc3⟩⟩
        · rw [if_neg h0]
          have hv := f3.2.1
          obtain ⟨bb, L2, s1, s2, s3⟩ := tape_rest r3 x.2 (by omega) (by omega) (by rw [v5, y2]; exact hv) (by have := f3.1; omega) (by omega) (by omega) h0
          refine ⟨_, L2, by rw [s1, hta, List.append_assoc]; rfl, (hg.app r2).app s2, ⟨?_, hc3⟩⟩
          show Tq (x.1.rest x.2).q x.1.refs L2
          rw [m2, b7, ← y0, ← m1]
          exact s3

theorem td_does {st : St} {L : List Ord} (hi : Inv st) (h : Td st L) (a : Act) (hR : st.refs + 1 < 4294967296) : TStep st (st.does a) L := by
  unfold St.does
  split
  · exact td_enter hi h _ _ _ _ _ _ hR
  · split
    · exact td_cancel hi h _ _
    · exact td_replace hi h _ _ _ _ hR

theorem td_acts {p : Nat} (acts : List Act) : ∀ {n : Nat} {x : Run} {L : List Ord}, Good p n x → Bld x.tape [] L → Td x.st L → ∃ L', Bld (x.acts acts).tape [] L' ∧ Td (x.acts acts).st L' := by
  induction acts with
  | nil => intro n x L _ h1 h2; exact ⟨L, h1, h2⟩
  | cons a acts ih =>
    intro n x L hg h1 h2
    have key : ∃ l1, Bld (x.act a).tape [] l1 ∧ Td (x.act a).st l1 := by
      unfold Run.act
      split
      · exact ⟨L, h1, ⟨h2.tq, h2.cnt⟩⟩
      · rw [feed_message x.st a hg.opn hg.part]
        have h42 := tok_len _ hg.nodup hg.tok
        obtain ⟨bs, l', r1, r2, r3⟩ := td_does hg.inv h2 a (by have := h2.cnt; omega)
        rw [hg.tape, List.nil_append] at r1
        refine ⟨l', ?_, ⟨r3.tq, r3.cnt⟩⟩
        show Bld (x.tape ++ (x.st.does a).tape) [] l'
        rw [r1]
        exact h1.app r2
    obtain ⟨l1, k1, k2⟩ := key
    exact ih (hg.act a) k1 k2

theorem open_refs_all : (List.range 64).all (fun p => (openSt (1 + p)).refs == 2) = true := by decide +kernel
theorem open_refs (p : Nat) (h1 : 1 ≤ p) (h2 : p ≤ 64) : (openSt p).refs = 2 := by
  have h := List.all_eq_true.1 open_refs_all (p - 1) (by simp; omega)
  rw [show 1 + (p - 1) = p by omega] at h
  simpa using h

theorem td_started (pool : Int) : Td (started pool).st [] := by
  have hp := pick_lt pool 64 (by decide)
  have ha : (started pool).st.all = [] := resting_open (1 + pick pool 64) (by omega) (by omega)
  have hi := (good_started pool).inv
  refine ⟨⟨fun s d p => ?_, List.nodup_nil, fun o ho => by cases ho⟩, ?_⟩
  · have : (started pool).st.q s d p = [] := by
      cases hq : (started pool).st.q s d p with
      | nil => rfl
      | cons x l =>
        have hv := hi.ok s d p (by rw [hq]; simp)
        obtain ⟨A, B, e1, -⟩ := all_upd _ s d p hv
        rw [ha, hq] at e1
        simp at e1
    rw [this]
    rfl
  · show (openSt (1 + pick pool 64)).refs ≤ (openSt (1 + pick pool 64)).used.length
    rw [open_refs _ (by omega) (by omega), (open_used _ (by omega) (by omega)).1]
    decide

end Go.Proofs.Ytphkchjejbffeaa

/- A stable order of a list: plain facts. -/
namespace Go.Proofs.Ytphkchjejbffeaa

/-- A strict weak order. -/
structure Swo (lt : Ord → Ord → Bool) : Prop where
  irr : ∀ x, lt x x = false
  tr : ∀ x y z, lt x y = true → lt y z = true → lt x z = true
  ntr : ∀ x y z, lt x z = true → lt x y = true ∨ lt y z = true

theorem Swo.asym {lt : Ord → Ord → Bool} (h : Swo lt) {x y : Ord} (hxy : lt x y = true) : lt y x = false := by
  cases hb : lt y x with
  | false => rfl
  | true => have := h.tr x y x hxy hb; rw [h.irr] at this; cases this
theorem Swo.le_trans {lt : Ord → Ord → Bool} (h : Swo lt) {x y z : Ord} (h1 : lt y x = false) (h2 : lt z y = false) : lt z x = false := by
  cases hb : lt z x with
  | false => rfl
  | true =>
    rcases h.ntr z y x hb with h' | h'
    · rw [h'] at h2; cases h2
    · rw [h'] at h1; cases h1
theorem Swo.lt_le {lt : Ord → Ord → Bool} (h : Swo lt) {x y z : Ord} (h1 : lt x y = true) (h2 : lt z y = false) : lt x z = true := by
  rcases h.ntr x z y h1 with h' | h'
  · exact h'
  · rw [h'] at h2; cases h2
theorem Swo.le_lt {lt : Ord → Ord → Bool} (h : Swo lt) {x y z : Ord} (h1 : lt y x = false) (h2 : lt y z = true) : lt x z = true := by
  rcases h.ntr y x z h2 with h' | h'
  · rw [h'] at h1; cases h1
  · exact h'

def Srt (lt : Ord → Ord → Bool) (L : List Ord) : Prop := L.Pairwise fun x y => lt y x = false
def eqv (lt : Ord → Ord → Bool) (c x : Ord) : Bool := !lt c x && !lt x c
/-- Those that are alike stand in the same order. -/
def Cls (lt : Ord → Ord → Bool) (L R : List Ord) : Prop := ∀ c, L.filter (eqv lt c) = R.filter (eqv lt c)

theorem Cls.refl (lt : Ord → Ord → Bool) (L : List Ord) : Cls lt L L := fun _ => rfl
theorem Cls.symm {lt : Ord → Ord → Bool} {L R : List Ord} (h : Cls lt L R) : Cls lt R L := fun c => (h c).symm
theorem Cls.trans {lt : Ord → Ord → Bool} {L R S : List Ord} (h : Cls lt L R) (k : Cls lt R S) : Cls lt L S := fun c => (h c).trans (k c)
theorem Cls.app {lt : Ord → Ord → Bool} {A A' B B' : List Ord} (h : Cls lt A A') (k : Cls lt B B') : Cls lt (A ++ B) (A' ++ B') := fun c => by
  rw [List.filter_append, List.filter_append, h c, k c]
theorem Cls.swap {lt : Ord → Ord → Bool} (hw : Swo lt) {A B : List Ord} (h : ∀ x ∈ A, ∀ y ∈ B, lt y x = true) : Cls lt (A ++ B) (B ++ A) := by
  intro c
  rw [List.filter_append, List.filter_append]
  by_cases ha : A.filter (eqv lt c) = []
  · rw [ha, List.nil_append, List.append_nil]
  · have hb : B.filter (eqv lt c) = [] := by
      rw [List.filter_eq_nil_iff]
      intro y hy hcy
      obtain ⟨x, hx⟩ := List.exists_mem_of_ne_nil _ ha
      rw [List.mem_filter] at hx
      have h1 := h x hx.1 y hy
      have hx2 := hx.2
      simp only [eqv, Bool.and_eq_true, Bool.not_eq_true'] at hcy hx2
      have := hw.le_lt hcy.2 h1
      rw [hx2.1] at this
      cases this
    rw [hb, List.nil_append, List.append_nil]
theorem Cls.mem {lt : Ord → Ord → Bool} (hw : Swo lt) {L R : List Ord} (h : Cls lt L R) (x : Ord) : x ∈ L ↔ x ∈ R := by
  have := h x
  have e : ∀ L : List Ord, x ∈ L ↔ x ∈ L.filter (eqv lt x) := fun L => by
    rw [List.mem_filter]
    simp [eqv, hw.irr]
  rw [e L, e R, this]
theorem eqv_self {lt : Ord → Ord → Bool} (hw : Swo lt) (x : Ord) : eqv lt x x = true := by simp [eqv, hw.irr]

/-- There is one order alone. -/
theorem cls_unique {lt : Ord → Ord → Bool} (hw : Swo lt) : ∀ (L R : List Ord), Srt lt L → Srt lt R → Cls lt L R → L = R := by
  intro L
  induction L with
  | nil =>
    intro R _ _ h
    cases R with
    | nil => rfl
    | cons y R => have := (h.mem hw y).2 (by simp); cases this
  | cons x L ih =>
    intro R hL hR h
    cases R with
    | nil => have := (h.mem hw x).1 (by simp); cases this
    | cons y R =>
      have hl := List.pairwise_cons.1 hL
      have hr := List.pairwise_cons.1 hR
      have hxy : lt y x = false := by
        rcases List.mem_cons.1 ((h.mem hw y).2 (by simp)) with rfl | hy
        · exact hw.irr _
        · exact hl.1 y hy
      have hyx : lt x y = false := by
        rcases List.mem_cons.1 ((h.mem hw x).1 (by simp)) with rfl | hx
        · exact hw.irr _
        · exact hr.1 x hx
      have he := h x
      rw [List.filter_cons_of_pos (eqv_self hw x), List.filter_cons_of_pos (by simp [eqv, hxy, hyx])] at he
      have hxe : x = y := (List.cons.inj he).1
      subst hxe
      rw [ih R hl.2 hr.2 (fun c => ?_)]
      have hc := h c
      by_cases hcx : eqv lt c x = true
      · rw [List.filter_cons_of_pos hcx, List.filter_cons_of_pos hcx] at hc
        exact (List.cons.inj hc).2
      · rw [List.filter_cons_of_neg hcx, List.filter_cons_of_neg hcx] at hc
        exact hc

theorem srt_append {lt : Ord → Ord → Bool} {A B : List Ord} : Srt lt (A ++ B) ↔ Srt lt A ∧ Srt lt B ∧ ∀ x ∈ A, ∀ y ∈ B, lt y x = false := by
  unfold Srt
  rw [List.pairwise_append]
theorem Srt.get {lt : Ord → Ord → Bool} (hw : Swo lt) {L : List Ord} (h : Srt lt L) {i j : Nat} {x y : Ord} (hij : i ≤ j) (hx : L[i]? = some x) (hy : L[j]? = some y) : lt y x = false := by
  rcases Nat.lt_or_ge i j with h' | h'
  · obtain ⟨hi, rfl⟩ := List.getElem?_eq_some_iff.1 hx
    obtain ⟨hj, rfl⟩ := List.getElem?_eq_some_iff.1 hy
    exact List.pairwise_iff_getElem.1 h i j hi hj h'
  · have : i = j := by omega
    subst this
    rw [hx] at hy
    cases hy
    exact hw.irr _

/-- The heart of a merge in place: two sorted lists, cut so that what is changed about is strictly ordered. -/
theorem merge_cut {lt : Ord → Ord → Bool} (hw : Swo lt) {A1 A2 B1 B2 : List Ord} (hA : Srt lt (A1 ++ A2)) (hB : Srt lt (B1 ++ B2)) (h1 : ∀ x ∈ A2, ∀ y ∈ B1, lt y x = true) (h2 : ∀ x ∈ A1, ∀ y ∈ B2, lt y x = false)
    {P Q : List Ord} (hP : Srt lt P) (hQ : Srt lt Q) (cP : Cls lt (A1 ++ B1) P) (cQ : Cls lt (A2 ++ B2) Q) : Srt lt (P ++ Q) ∧ Cls lt (A1 ++ A2 ++ (B1 ++ B2)) (P ++ Q) := by
  obtain ⟨a1, a2, a3⟩ := srt_append.1 hA
  obtain ⟨b1, b2, b3⟩ := srt_append.1 hB
  refine ⟨srt_append.2 ⟨hP, hQ, ?_⟩, ?_⟩
  · intro x hx y hy
    have hx' := (cP.mem hw x).2 hx
    have hy' := (cQ.mem hw y).2 hy
    rcases List.mem_append.1 hx' with hx1 | hx1
    · rcases List.mem_append.1 hy' with hy1 | hy1
      · exact a3 x hx1 y hy1
      · exact h2 x hx1 y hy1
    · rcases List.mem_append.1 hy' with hy1 | hy1
      · exact hw.asym (h1 y hy1 x hx1)
      · exact b3 x hx1 y hy1
  · have e1 : A1 ++ A2 ++ (B1 ++ B2) = A1 ++ ((A2 ++ B1) ++ B2) := by simp
    have e2 : Cls lt (A1 ++ ((A2 ++ B1) ++ B2)) (A1 ++ ((B1 ++ A2) ++ B2)) := (Cls.refl lt A1).app ((Cls.swap hw h1).app (Cls.refl lt B2))
    have e3 : A1 ++ ((B1 ++ A2) ++ B2) = (A1 ++ B1) ++ (A2 ++ B2) := by simp
    rw [e1]
    exact e2.trans (by rw [e3]; exact cP.app cQ)

end Go.Proofs.Ytphkchjejbffeaa

/- The walk of boursekeep's House.rests, where the books are as they must be. -/
namespace Go.Proofs.Ytphkchjejbffeaa
open Go.RowKit

def OrdOk (s : Nat) (x : Ord) : Prop := x.stock = s ∧ 1 ≤ x.price ∧ x.price ≤ 10 ∧ 1 ≤ x.shares ∧ x.shares ≤ 9999 ∧ (x.side = 66 ∨ x.side = 83) ∧ x.ref < 4294967296 ∧ x.token < 4294967296
/-- Two orders of a book, one right behind the other; f: the first one's price. -/
def PairOk (f : Nat) (p x : Ord) : Prop :=
  (p.side = 66 ∧ x.side = 66 ∧ x.price ≤ p.price) ∨ (p.side = 83 ∧ x.side = 83 ∧ p.price ≤ x.price) ∨ (p.side = 66 ∧ x.side = 83 ∧ f < x.price)
structure BookOk (s : Nat) (l : List Ord) : Prop where
  each : ∀ (i : Nat) (x : Ord), l[i]? = some x → OrdOk s x
  pair : ∀ (i : Nat) (f p x : Ord), l[0]? = some f → l[i]? = some p → l[i + 1]? = some x → PairOk f.price p x

theorem Try.info46 : (Try.prog.info? 46).map (fun i => (i.zero, i.size, i.bytes)) = some (some (.agg #[.int .i64 0, .int .i64 0, .int .u8 0, .int .i64 0, .int .i64 0, .int .i64 0]), 6, 48) := by kernel_rfl

theorem flat_get (l : List Ord) (i j : Nat) (x : Ord) (u : Value) (hi : l[i]? = some x) (hj : j < 6) (hu : x.cells[j]? = some u) : (l.flatMap Ord.cells)[i * 6 + j]? = some u := by
  induction l generalizing i with
  | nil => simp at hi
  | cons y l ih =>
    rw [List.flatMap_cons]
    cases i with
    | zero =>
      simp at hi
      subst hi
      rw [Nat.zero_mul, Nat.zero_add, List.getElem?_append_left (by simp [Ord.cells]; omega)]
      exact hu
    | succ i =>
      simp at hi
      have := ih i hi
      rw [List.getElem?_append_right (by simp [Ord.cells]; omega)]
      rw [← this]
      congr 1
      simp [Ord.cells]
      omega

theorem flat_one (l : List Ord) : ∀ u ∈ l.flatMap Ord.cells, u.oneCell' = true := by
  intro u hu
  simp only [List.mem_flatMap] at hu
  obtain ⟨x, _, hx⟩ := hu
  simp [Ord.cells] at hx
  rcases hx with rfl | rfl | rfl | rfl | rfl | rfl <;> rfl

theorem flat_len (l : List Ord) : (l.flatMap Ord.cells).length = l.length * 6 := by
  induction l with
  | nil => rfl
  | cons x l ih => rw [List.flatMap_cons, List.length_append, ih]; simp [Ord.cells]; omega

/-- The books of the stocks below k, one behind the other. -/
def upTo (st : St) (k : Nat) : List Ord := (List.range k).flatMap st.book
theorem upTo_succ (st : St) (k : Nat) : upTo st (k + 1) = upTo st k ++ st.book k := by simp [upTo, List.range_succ]

theorem upTo_le (st : St) (k : Nat) (h : ∀ s, s < k → (st.book s).length ≤ 1000) : (upTo st k).length ≤ 1000 * k := by
  induction k with
  | zero => simp [upTo]
  | succ k ih =>
    rw [upTo_succ, List.length_append]
    have := ih (fun s hs => h s (by omega))
    have := h k (by omega)
    omega

theorem row_orders {w : World} {b : Nat} {ra : Option Addr} {cap : Nat} {L : List Ord} (h : w.ownsRow b 46 6 (.slice ra L.length cap) L.length (L.flatMap Ord.cells)) (hL : 0 < L.length) :
    ∃ g, ra = some ⟨g, 0, none⟩ ∧ g < w.heap.size ∧ ∀ i x, L[i]? = some x → ∀ t u, t < 6 → x.cells[t]? = some u → w.cell? ⟨g, i * 6 + t, none⟩ = some u := by
  rcases h.2 with ⟨h1, h2⟩ | ⟨g, cap', cur, h1, h2, h3, h4⟩
  · omega
  · cases h1
    refine ⟨g, rfl, (Array.getElem?_eq_some_iff.1 h3).1, fun i x hi t u ht hu => ?_⟩
    have := h.cells (g := g) rfl (i * 6 + t) u (flat_get L i t x u hi ht hu)
    rwa [Addr.add_lit, Nat.zero_add] at this

theorem ord_cells (x : Ord) {w w' : World} {g o B : Nat} (hB : Below B w w') (hg : g < B) (h : ∀ (t : Nat) (u : Value), t < 6 → x.cells[t]? = some u → w.cell? ⟨g, o + t, none⟩ = some u) :
    w'.cell? ⟨g, o, none⟩ = some (.int .i64 x.ref) ∧ w'.cell? ⟨g, o + 1, none⟩ = some (.int .i64 x.token) ∧ w'.cell? ⟨g, o + 2, none⟩ = some (.int .u8 x.side.toNat) ∧ w'.cell? ⟨g, o + 3, none⟩ = some (.int .i64 x.stock) ∧
    w'.cell? ⟨g, o + 4, none⟩ = some (.int .i64 x.price) ∧ w'.cell? ⟨g, o + 5, none⟩ = some (.int .i64 x.shares) :=
  ⟨(hB.cell (p := ⟨g, o, none⟩) hg).trans (h 0 _ (by omega) rfl), (hB.cell (p := ⟨g, o + 1, none⟩) hg).trans (h 1 _ (by omega) rfl), (hB.cell (p := ⟨g, o + 2, none⟩) hg).trans (h 2 _ (by omega) rfl),
   (hB.cell (p := ⟨g, o + 3, none⟩) hg).trans (h 3 _ (by omega) rfl), (hB.cell (p := ⟨g, o + 4, none⟩) hg).trans (h 4 _ (by omega) rfl), (hB.cell (p := ⟨g, o + 5, none⟩) hg).trans (h 5 _ (by omega) rfl)⟩

set_option maxRecDepth 100000 in
set_option maxHeartbeats 4000000 in
theorem rests_any {At : World → Nat → (Nat → Prop) → St → Prop} (api : Api At) (hb b : Nat) (G : Nat → Prop) (vo vt : Value) (st : St) (w : World)
    (hc : w.heap[hb]? = some (.cells #[.pointer (some ⟨b, 0, none⟩), vo, vt] 30)) (hat : At w b G st) (hst : st.stocks = 3)
    (hok : ∀ s, s < 3 → BookOk s (st.book s)) (hlen : ∀ s, s < 3 → (st.book s).length ≤ 1000) :
    Calls Try.prog 19 #[.pointer (some ⟨hb, 0, none⟩)] w fun e w' => ∃ v, e = .returned (.tuple #[v, .bool true]) ∧
      w'.ownsRow w.heap.size 46 6 v st.all.length (st.all.flatMap Ord.cells) ∧ Below w.heap.size w w' := by
  obtain ⟨i0, hi, hz0, hz1, hz2⟩ := info_parts Try.info46
  have hall : st.all = upTo st 3 := by unfold St.all upTo; rw [hst]
  rw [hall]
  have hlt : hb < w.heap.size := (Array.getElem?_eq_some_iff.1 hc).1
  obtain ⟨c0, -⟩ := cells3 hc
  have HOk := Hid.mk (And.intro hok (And.intro hlen (And.intro hat (And.intro hst hc))))
  clear hok hlen hat hst hc hall
  go_enter Try.func19, Try.ntmps19
  go_wp2_with fail
  go_loopw [4, 5] (fun v i wr => ∃ k : Nat, k ≤ 3 ∧ i = .int .i64 k ∧ wr.ownsRow w.heap.size 46 6 v (upTo st k).length ((upTo st k).flatMap Ord.cells) ∧ Below w.heap.size w wr) (fun _ i _ => 3 - (intOf i).toNat)
  case atStart => exact ⟨0, by omega, rfl, World.ownsRow_nil _ _ _ _, Below.refl _ _⟩
  case round =>
    obtain ⟨k, hk, rfl, hown, hB⟩ := hrel
    obtain ⟨wo, hwo⟩ : ∃ wo, wo = wr := ⟨_, rfl⟩
    subst hwo
    by_cases hlt3 : k < 3
    · have hc0 : wo.cell? ⟨hb, 0, none⟩ = some (.pointer (some ⟨b, 0, none⟩)) := (hB.cell (p := ⟨hb, 0, none⟩) hlt).trans c0
      have HO := Hid.mk (And.intro hown hB)
      clear hown hB
      go_wp2_with fail
      obtain ⟨hown, hB⟩ := HO.out
      obtain ⟨hok, hlen, hat, hst, hc⟩ := HOk.out
      have hat1 : At wo b G st := api.below hat hB
      refine (api.book b G st k wo hat1 (by omega) (by rw [hst]; omega)).mono ?_
      rintro e w1 ⟨v, rfl, hbk, hB1⟩
      rw [Int.toNat_natCast] at hbk
      have hL := hlen k hlt3
      have HU := Hid.mk (upTo_le st k (fun s hs => hlen s (by omega)))
      have HK := Hid.mk (upTo_succ st k)
      have HL := Hid.mk (And.intro (hok k hlt3) (And.intro hbk hB1))
      obtain ⟨ra, cap, rfl, hcap, hcap2⟩ := ownsRow_len hbk
      clear hown hB hok hlen hat hst hc hat1 hbk hB1 hc0 c0
      generalize st.book k = L at *
      go_wp2_with fail
      go_loopw [8] (fun i w2 => ∃ j : Nat, j ≤ L.length ∧ i = .int .i64 j ∧ Below w1.heap.size w1 w2) (fun i _ => L.length - (intOf i).toNat)
      case atStart => exact ⟨0, Nat.zero_le _, rfl, Below.refl _ _⟩
      case round =>
        obtain ⟨j, hj, rfl, hB2⟩ := hrel
        by_cases hjl : j < L.length
        · obtain ⟨hbook, hbk, hB1⟩ := HL.out
          obtain ⟨g, rfl, hg, hcs⟩ := row_orders hbk (by omega)
          obtain ⟨x, hx⟩ : ∃ x, L[j]? = some x := ⟨_, List.getElem?_eq_getElem hjl⟩
          obtain ⟨d0, d1, d2, d3, d4, d5⟩ := ord_cells x hB2 hg (hcs j x hx)
          obtain ⟨o1, o2, o3, o4, o5, o6, o7, o8⟩ := hbook.each j x hx
          have i1 : (0 : Int) ≤ (j : Int) := by omega
          have i2 : (j : Int) < (L.length : Int) := by omega
          cases j with
          | zero =>
            clear hbk hB1 hbook hcs
            obtain ⟨ref, token, side, stock, price, shares⟩ := x
            simp only at o1 o2 o3 o4 o5 o6 o7 o8 d0 d1 d2 d3 d4 d5
            subst o1
            have HB2 := Hid.mk hB2
            clear hB2 hx HO HL HOk
            rcases o6 with rfl | rfl
            all_goals
              go_wp2_with fail
              exact ⟨⟨1, by omega, rfl, HB2.out.alloc HB2.out.size _⟩, by simp [intOf]; omega⟩
          | succ j =>
            obtain ⟨p, hp⟩ : ∃ p, L[j]? = some p := ⟨_, List.getElem?_eq_getElem (by omega)⟩
            obtain ⟨f, hf⟩ : ∃ f, L[0]? = some f := ⟨_, List.getElem?_eq_getElem (by omega)⟩
            obtain ⟨e0, e1, e2, e3, e4, e5⟩ := ord_cells p hB2 hg (hcs j p hp)
            obtain ⟨-, -, -, -, f4, -⟩ := ord_cells f hB2 hg (hcs 0 f hf)
            obtain ⟨q1, q2, q3, q4, q5, q6, q7, q8⟩ := hbook.each j p hp
            obtain ⟨-, r2, r3, -⟩ := hbook.each 0 f hf
            have hpair := hbook.pair j f p x hf hp hx
            have i3 : (j : Int) < (L.length : Int) := by omega
            have i4 : (0 : Int) < (L.length : Int) := by omega
            have hgr : g < wr.heap.size := Nat.lt_of_lt_of_le hg hB2.size
            clear hbk hB1 hbook hcs
            obtain ⟨ref, token, side, stock, price, shares⟩ := x
            obtain ⟨ref', token', side', stock', price', shares'⟩ := p
            obtain ⟨reff, tokenf, sidef, stockf, pricef, sharesf⟩ := f
            simp only [PairOk] at o1 o2 o3 o4 o5 o6 o7 o8 d0 d1 d2 d3 d4 d5 e0 e1 e2 e3 e4 e5 f4 q1 q2 q3 q4 q5 q6 q7 q8 r2 r3 hpair
            subst o1
            have HB2 := Hid.mk hB2
            clear hB2 hx hp hf HO HL HOk o6 q6
            rcases hpair with ⟨rfl, rfl, hle⟩ | ⟨rfl, rfl, hle⟩ | ⟨rfl, rfl, hle⟩
            all_goals
              go_wp2_with fail
              go_quiet (fail)
              go_wp2_with fail
              exact ⟨⟨j + 2, by omega, by go_num, below_drewN (Below.alloc (HB2.out.alloc HB2.out.size _) (by rw [size_alloc]; have := HB2.out.size; omega) _) _⟩, by simp [intOf]; omega⟩
        · obtain ⟨hbook, hbk, hB1⟩ := HL.out
          obtain ⟨hown, hB⟩ := HO.out
          have hB12 : Below wo.heap.size wo wr := hB1.trans (hB2.mono hB1.size)
          have hownr := ownsRow_keep hown (fun g hg => hB12.block g (hown.lt g hg).2)
          have hrdr := ownsRow_rd (ownsRow_keep hbk (fun g hg => hB2.block g (hbk.lt g hg).2))
          have hU : (upTo st k).length ≤ 1000 * k := HU.out
          have hsz : w.heap.size ≤ wr.heap.size := Nat.le_trans hB.size hB12.size
          have hBw : Below w.heap.size w wr := hB.trans (hB12.mono hB.size)
          clear hbook hbk hB1 hown hB hB12 HL HO hB2
          go_wp2_with (at_builtin; refine wpList_append_row rfl _ _ 42 rfl w.heap.size 46 i0 _ 6 48 Try.underlying42 hi hz0 hz1 hz2 rfl (by decide) _ (upTo st k).length ((upTo st k).flatMap Ord.cells) rfl hownr _ L.length (L.flatMap Ord.cells) rfl hrdr (flat_one L) (by unfold maxLen; omega) (by omega) hsz ?_; intro rb capb w3 hown3 hg3 hv3)
          exact ⟨⟨k + 1, by omega, by go_num, by rw [HK.out, List.length_append, List.flatMap_append]; exact hown3, hBw.grown hg3 hsz (fun g hg => (hownr.lt g hg).1)⟩, by simp [intOf]; omega⟩
    · have HO := Hid.mk (And.intro hown hB)
      clear hown hB
      go_wp2_with fail
      go_ret2
      have : k = 3 := by omega
      subst this
      exact ⟨_, rfl, HO.out.1, HO.out.2⟩

end Go.Proofs.Ytphkchjejbffeaa

/- The walks of Go's stable sort over orders: what is changed about. -/
namespace Go.Proofs.Ytphkchjejbffeaa
open Go.Shelf Go.RowKit Go.Lib Go.Sort
attribute [local go_sem ↓] Go.wp_at_zero Go.wp_at_succ

instance : Inhabited Ord := ⟨⟨0, 0, 0, 0, 0, 0⟩⟩

theorem ordK_len (x : Ord) : x.cells.length = 6 := rfl
theorem ordK_one (x : Ord) : ∀ v ∈ x.cells, v.oneCell' = true := by
  intro u hu
  simp [Ord.cells] at hu
  rcases hu with rfl | rfl | rfl | rfl | rfl | rfl <;> rfl

/-- What swapRange does. -/
def swapR (d : Array Ord) (a b : Nat) : Nat → Array Ord
  | 0 => d
  | n + 1 => swp (swapR d a b n) (a + n) (b + n)
theorem swapR_size (d : Array Ord) (a b n : Nat) : (swapR d a b n).size = d.size := by
  induction n with
  | zero => rfl
  | succ n ih => rw [swapR, size_swp, ih]

theorem aggOrd : ∀ w, (isAgg 46).run Try.prog w = .ok true w := fun w => by kernel_rfl

theorem holds6 {W : World} {g : Nat} {d : Array Ord} (H : HoldsK Ord.cells 6 W g 0 d) {i : Nat} (hi : i < d.size) :
    W.cell? ⟨g, i * 6, none⟩ = some (.int .i64 d[i]!.ref) ∧ W.cell? ⟨g, i * 6 + 1, none⟩ = some (.int .i64 d[i]!.token) ∧ W.cell? ⟨g, i * 6 + 2, none⟩ = some (.int .u8 d[i]!.side.toNat) ∧ W.cell? ⟨g, i * 6 + 3, none⟩ = some (.int .i64 d[i]!.stock) ∧
    W.cell? ⟨g, i * 6 + 4, none⟩ = some (.int .i64 d[i]!.price) ∧ W.cell? ⟨g, i * 6 + 5, none⟩ = some (.int .i64 d[i]!.shares) := by
  have h := HoldsK.cells H ordK_len hi
  have e : ∀ c v, (Ord.cells d[i]!)[c]? = some v → W.cell? ⟨g, i * 6 + c, none⟩ = some v := fun c v hv => by
    have := h c v hv
    rwa [Addr.add_lit, Nat.zero_add] at this
  exact ⟨e 0 _ rfl, e 1 _ rfl, e 2 _ rfl, e 3 _ rfl, e 4 _ rfl, e 5 _ rfl⟩
theorem frozen6 {W : World} {g : Nat} {d : Array Ord} (H : HoldsK Ord.cells 6 W g 0 d) {i : Nat} (hi : i < d.size) (c : Nat) (hc : c < 6) : W.frozen? ⟨g, i * 6 + c, none⟩ = false := by
  have := (H.cell hi hc).2
  rwa [Nat.zero_add] at this

theorem sizeOrd : ∀ w, (Go.sizeOf 46).run Try.prog w = .ok 6 w := fun w => by kernel_rfl

/-- What a program must say of the types of the sort's bodies; k: how many cells an order has. -/
structure SrtT (P : Program) (k : Nat) : Prop where
  mixed : P.follows .mixedOrders = true
  t0 : P.underlying 0 = some (TypeDesc.tuple #[])
  a0 : ∀ w, (isAgg 0).run P w = .ok false w
  z0 : ∀ w, (Go.sizeOf 0).run P w = .ok 1 w
  v0 : ∀ w, (zeroValue 0).run P w = .ok (Value.tuple #[]) w
  t3 : P.underlying 3 = some (TypeDesc.int IntKind.i64)
  a3 : ∀ w, (isAgg 3).run P w = .ok false w
  z3 : ∀ w, (Go.sizeOf 3).run P w = .ok 1 w
  v3 : ∀ w, (zeroValue 3).run P w = .ok (Value.int IntKind.i64 0) w
  t4 : P.underlying 4 = some (TypeDesc.bool)
  a4 : ∀ w, (isAgg 4).run P w = .ok false w
  z4 : ∀ w, (Go.sizeOf 4).run P w = .ok 1 w
  v4 : ∀ w, (zeroValue 4).run P w = .ok (Value.bool false) w
  t22 : P.underlying 42 = some (TypeDesc.slice 46)
  a22 : ∀ w, (isAgg 42).run P w = .ok false w
  z22 : ∀ w, (Go.sizeOf 42).run P w = .ok 1 w
  v22 : ∀ w, (zeroValue 42).run P w = .ok (Value.slice none 0 0) w
  t25 : P.underlying 134 = some (TypeDesc.func #[46, 46] #[3] false)
  a25 : ∀ w, (isAgg 134).run P w = .ok false w
  z25 : ∀ w, (Go.sizeOf 134).run P w = .ok 1 w
  v25 : ∀ w, (zeroValue 134).run P w = .ok (Value.nilFunc) w
  tu : P.underlying 188 = some (TypeDesc.int IntKind.u64)
  au : ∀ w, (isAgg 188).run P w = .ok false w
  zu : ∀ w, (Go.sizeOf 188).run P w = .ok 1 w
  vu : ∀ w, (zeroValue 188).run P w = .ok (Value.int IntKind.u64 0) w
  aE : ∀ w, (isAgg 46).run P w = .ok true w
  zE : ∀ w, (Go.sizeOf 46).run P w = .ok k w

theorem srtT : SrtT Try.prog 6 := ⟨by kernel_rfl, by kernel_rfl, fun w => by kernel_rfl, fun w => by kernel_rfl, fun w => by kernel_rfl, by kernel_rfl, fun w => by kernel_rfl, fun w => by kernel_rfl, fun w => by kernel_rfl, by kernel_rfl, fun w => by kernel_rfl, fun w => by kernel_rfl, fun w => by kernel_rfl,
  by kernel_rfl, fun w => by kernel_rfl, fun w => by kernel_rfl, fun w => by kernel_rfl, by kernel_rfl, fun w => by kernel_rfl, fun w => by kernel_rfl, fun w => by kernel_rfl, by kernel_rfl, fun w => by kernel_rfl, fun w => by kernel_rfl, fun w => by kernel_rfl, fun w => by kernel_rfl, fun w => by kernel_rfl⟩

set_option maxRecDepth 100000 in
set_option maxHeartbeats 4000000 in
theorem swapRange_gen {P : Program} {k : Nat} (T : SrtT P k) (FG : P.funcs[151]? = some Try.f151) (enc : Ord → List Value) (w0 w : World) (g cap a b n : Nat) (d0 d : Array Ord) (fv : Value) (R : RowK enc k w0 g 0 d0) (hs : d0.size = d.size) (S : SWK enc k w0 g 0 d w) (ha : a + n ≤ b) (hb : b + n ≤ d.size) (hsz : d.size < 4611686018427387904) :
    Calls P 151 #[.slice (some ⟨g, 0, none⟩) d.size cap, .int .i64 a, .int .i64 b, .int .i64 n, fv] w fun e w' => e = .returned (.tuple #[]) ∧ SWK enc k w0 g 0 (swapR d a b n) w' := by
  have mixed := T.mixed; have t0 := T.t0; have a0 := T.a0; have z0 := T.z0; have v0 := T.v0; have t3 := T.t3; have a3 := T.a3; have z3 := T.z3; have v3 := T.v3; have t4 := T.t4; have a4 := T.a4; have z4 := T.z4; have v4 := T.v4; have t22 := T.t22; have a22 := T.a22; have z22 := T.z22; have v22 := T.v22; have t25 := T.t25; have a25 := T.a25; have z25 := T.z25; have v25 := T.v25; have aE := T.aE; have zE := T.zE
  have u22 := run_underlying T.t22
  have S0 : Aside (SWK enc k w0 g 0 d w) := S
  clear S T
  go_enter FG, Try.ntmps151
  go_wp2
  go_loopg [10] n (fun kx s wr => ∃ i : Nat, s = .int .i64 i ∧ i ≤ n ∧ n - i ≤ kx ∧ Aside (SWK enc k w0 g 0 (swapR d a b i) wr))
  case atStart => exact ⟨0, rfl, Nat.zero_le _, Nat.le_refl _, S0⟩
  case round =>
    clear S0
    obtain ⟨i, rfl, hin, hkx, S1⟩ := hrel
    by_cases hlt : i < n
    · have p0 : (i : Int) < (n : Int) := by omega
      have p1 : (0 : Int) ≤ (a : Int) + (i : Int) := by omega
      have p2 : (a : Int) + (i : Int) < (d.size : Int) := by omega
      have p3 : (0 : Int) ≤ (b : Int) + (i : Int) := by omega
      have p4 : (b : Int) + (i : Int) < (d.size : Int) := by omega
      have e1 : ((a : Int) + (i : Int)).toNat = a + i := by omega
      have e2 : ((b : Int) + (i : Int)).toNat = b + i := by omega
      have r1 : IntKind.i64.wrap ((a : Int) + (i : Int)) = (a : Int) + (i : Int) := by rw [IntKind.wrap_i64]; omega
      have r2 : IntKind.i64.wrap ((b : Int) + (i : Int)) = (b : Int) + (i : Int) := by rw [IntKind.wrap_i64]; omega
      have hdz : (swapR d a b i).size = d.size := swapR_size d a b i
      have S2 : Aside (SWK enc k w0 g 0 (swapR d a b (i + 1)) ((wr.drew.setCells g (0 + (a + i) * k) (enc (swapR d a b i)[b + i]!)).setCells g (0 + (b + i) * k) (enc (swapR d a b i)[a + i]!))) := S1.out.swapped R (a + i) (b + i) (by omega) (by omega)
      have l1 := S1.out.ld1 R (by omega) P (a + i) (by omega)
      have l2 := S1.out.ld1 R (by omega) P (b + i) (by omega)
      have s1 := S1.out.st1 R (by omega) P (a + i) (by omega) (swapR d a b i)[b + i]!
      have s2 := S1.out.st2 R (by omega) P (a + i) (b + i) (by omega) (by omega) (swapR d a b i)[b + i]! (swapR d a b i)[a + i]!
      have n1 : (enc (swapR d a b i)[a + i]!).length = k := R.hk _
      have n2 : (enc (swapR d a b i)[b + i]!).length = k := R.hk _
      generalize enc (swapR d a b i)[a + i]! = cI at S2 l1 s2 n1
      generalize enc (swapR d a b i)[b + i]! = cJ at S2 l2 s1 s2 n2
      simp only [Nat.zero_add] at S2 l1 l2 s1 s2
      clear S1
      go_wp2_with fail
      go_big_region_o
      clear l1 l2 s1 s2
      generalize (wr.drew.setCells g ((a + i) * k) cJ).setCells g ((b + i) * k) cI = w2 at S2 ⊢
      go_wp2
      go_roundg (n - (i + 1))
      case measure => omega
      case rel => exact ⟨i + 1, by go_num, by omega, Nat.le_refl _, S2⟩
    · have hnot : ¬ (i : Int) < (n : Int) := by omega
      go_wp2
      go_end0
      have : i = n := by omega
      subst this
      exact ⟨rfl, S1.out⟩

end Go.Proofs.Ytphkchjejbffeaa

/- What is changed about in a row, as lists. -/
namespace Go.Proofs.Ytphkchjejbffeaa
open Go.Shelf Go.RowKit Go.Lib Go.Sort

theorem get_at (P R : List Ord) (x : Ord) (i : Nat) (h : i = P.length) : ((P ++ x :: R).toArray : Array Ord)[i]! = x := by
  subst h
  simp

theorem swp_at (P Q R : List Ord) (x y : Ord) (p q : Nat) (hp : p = P.length) (hq : q = P.length + 1 + Q.length) : swp (P ++ x :: (Q ++ y :: R)).toArray p q = (P ++ y :: (Q ++ x :: R)).toArray := by
  have g1 : ((P ++ x :: (Q ++ y :: R)).toArray : Array Ord)[p]! = x := get_at P _ x p hp
  have g2 : ((P ++ x :: (Q ++ y :: R)).toArray : Array Ord)[q]! = y := by
    have := get_at (P ++ x :: Q) R y q (by simp; omega)
    simpa using this
  unfold swp
  rw [g1, g2, List.setIfInBounds_toArray, List.setIfInBounds_toArray]
  congr 1
  subst hp
  rw [List.set_append_right _ _ (Nat.le_refl _), Nat.sub_self, List.set_cons_zero, List.set_append_right _ _ (by omega), show q - P.length = Q.length + 1 by omega, List.set_cons_succ, List.set_append_right _ _ (Nat.le_refl _), Nat.sub_self, List.set_cons_zero]

theorem swp_rev (P Q R : List Ord) (x y : Ord) (p q : Nat) (hp : p = P.length) (hq : q = P.length + 1 + Q.length) : swp (P ++ x :: (Q ++ y :: R)).toArray q p = (P ++ y :: (Q ++ x :: R)).toArray := by
  have g1 : ((P ++ x :: (Q ++ y :: R)).toArray : Array Ord)[p]! = x := get_at P _ x p hp
  have g2 : ((P ++ x :: (Q ++ y :: R)).toArray : Array Ord)[q]! = y := by
    have := get_at (P ++ x :: Q) R y q (by simp; omega)
    simpa using this
  unfold swp
  rw [g1, g2, List.setIfInBounds_toArray, List.setIfInBounds_toArray]
  congr 1
  subst hp
  rw [List.set_append_right _ _ (by omega), show q - P.length = Q.length + 1 by omega, List.set_cons_succ, List.set_append_right _ _ (Nat.le_refl _), Nat.sub_self, List.set_cons_zero, List.set_append_right _ _ (Nat.le_refl _), Nat.sub_self, List.set_cons_zero]

theorem swapR_list (X M Y : List Ord) : ∀ (i : Nat) (A1 A2 B1 B2 : List Ord), A1.length = i → B1.length = i → A2.length = B2.length →
    swapR (X ++ (A1 ++ A2) ++ M ++ (B1 ++ B2) ++ Y).toArray X.length (X.length + (A1.length + A2.length) + M.length) i = (X ++ (B1 ++ A2) ++ M ++ (A1 ++ B2) ++ Y).toArray := by
  intro i
  induction i with
  | zero =>
    intro A1 A2 B1 B2 h1 h2 _
    rw [List.length_eq_zero_iff] at h1 h2
    subst h1 h2
    rfl
  | succ i ih =>
    intro A1 A2 B1 B2 h1 h2 h3
    obtain ⟨A1', x, rfl⟩ : ∃ A1' x, A1 = A1' ++ [x] := ⟨A1.dropLast, A1.getLast (by intro e; rw [e] at h1; simp at h1), (List.dropLast_concat_getLast _).symm⟩
    obtain ⟨B1', y, rfl⟩ : ∃ B1' y, B1 = B1' ++ [y] := ⟨B1.dropLast, B1.getLast (by intro e; rw [e] at h2; simp at h2), (List.dropLast_concat_getLast _).symm⟩
    simp only [List.length_append, List.length_cons, List.length_nil] at h1 h2
    have h := ih A1' (x :: A2) B1' (y :: B2) (by omega) (by omega) (by simp [h3])
    have e1 : X ++ (A1' ++ [x] ++ A2) ++ M ++ (B1' ++ [y] ++ B2) ++ Y = X ++ (A1' ++ x :: A2) ++ M ++ (B1' ++ y :: B2) ++ Y := by simp
    have e2 : X.length + ((A1' ++ [x]).length + A2.length) + M.length = X.length + (A1'.length + (x :: A2).length) + M.length := by simp; omega
    rw [e1, e2, swapR, h]
    have e3 : X ++ (B1' ++ x :: A2) ++ M ++ (A1' ++ y :: B2) ++ Y = (X ++ B1') ++ x :: ((A2 ++ M ++ A1') ++ y :: (B2 ++ Y)) := by simp
    rw [e3, swp_at (X ++ B1') (A2 ++ M ++ A1') (B2 ++ Y) x y _ _ (by simp; omega) (by simp; omega)]
    congr 1
    simp

theorem swapR_whole (X A M B Y : List Ord) (n a b : Nat) (h1 : A.length = n) (h2 : B.length = n) (ha : a = X.length) (hb : b = X.length + n + M.length) :
    swapR (X ++ A ++ M ++ B ++ Y).toArray a b n = (X ++ B ++ M ++ A ++ Y).toArray := by
  have := swapR_list X M Y n A [] B [] h1 h2 rfl
  simp only [List.append_nil, List.length_nil, Nat.add_zero] at this
  rw [h1] at this
  rw [ha, hb, this]

/-- A world of the sort's, the row as a list. -/
def SWL (enc : Ord → List Value) (k : Nat) (w0 : World) (g : Nat) (L : List Ord) (w : World) : Prop := SWK enc k w0 g 0 L.toArray w

theorem swapRange_list {P : Program} {k : Nat} (T : SrtT P k) (FG : P.funcs[151]? = some Try.f151) (enc : Ord → List Value) (w0 w : World) (g cap len a b n : Nat) (d0 : Array Ord) (fv : Value) (X A M B Y : List Ord)
    (R : RowK enc k w0 g 0 d0) (hlen : (X ++ A ++ M ++ B ++ Y).length = len) (hs : d0.size = len) (S : SWL enc k w0 g (X ++ A ++ M ++ B ++ Y) w) (h1 : A.length = n) (h2 : B.length = n) (ha : a = X.length) (hb : b = X.length + n + M.length) (hsz : len < 4611686018427387904) :
    Calls P 151 #[.slice (some ⟨g, 0, none⟩) len cap, .int .i64 a, .int .i64 b, .int .i64 n, fv] w fun e w' => e = .returned (.tuple #[]) ∧ SWL enc k w0 g (X ++ B ++ M ++ A ++ Y) w' := by
  have hsize : (X ++ A ++ M ++ B ++ Y).toArray.size = len := by simpa using hlen
  have hl2 : X.length + n + M.length + n + Y.length = len := by
    simp only [List.length_append] at hlen
    omega
  have := swapRange_gen T FG enc w0 w g cap a b n d0 (X ++ A ++ M ++ B ++ Y).toArray fv R (by rw [hsize]; exact hs) S (by omega) (by rw [hsize]; omega) (by rw [hsize]; exact hsz)
  rw [hsize, swapR_whole X A M B Y n a b h1 h2 ha hb] at this
  exact this

end Go.Proofs.Ytphkchjejbffeaa
