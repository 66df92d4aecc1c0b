/- Plain: a whole message that comes is done; how much goes out; which tokens are used. -/
import Derived.Test.YtphkchjejbffeaaG09
import Derived.Deep.RegionWith
namespace Go.Proofs.Ytphkchjejbffeaa

theorem part_nil (st : St) (hp : st.part = []) : ({ st with part := [] } : St) = st := by
  cases st
  simp only at hp
  subst hp
  rfl

theorem feed_part (m : List UInt8) (st : St) (ho : st.opn = true) (hp : st.part = []) (hm : m.length = sizeOf (byteAt m 0)) : ∀ j, j < m.length → st.feed (m.take j) = { st with part := m.take j } := by
  intro j
  induction j with
  | zero => intro _; exact (part_nil st hp).symm
  | succ j ih =>
    intro hj
    have h := ih (by omega)
    rw [List.take_succ_eq_append_getElem (by omega : j < m.length), feed_append, h]
    show St.step _ _ = _
    have hlen : (m.take j ++ [m[j]]).length ≠ sizeOf (byteAt (m.take j ++ [m[j]]) 0) := by
      have e : byteAt (m.take j ++ [m[j]]) 0 = byteAt m 0 := by
        rw [← List.take_succ_eq_append_getElem (by omega : j < m.length)]
        unfold byteAt
        simp
      rw [e, ← hm]
      simp
      omega
    unfold St.step
    dsimp only
    rw [if_pos ho, if_neg hlen]

theorem feed_whole (m : List UInt8) (st : St) (ho : st.opn = true) (hp : st.part = []) (hm : m.length = sizeOf (byteAt m 0)) (h0 : 0 < m.length) : st.feed m = st.act m := by
  have h := feed_part m st ho hp hm (m.length - 1) (by omega)
  have e : m = m.take (m.length - 1) ++ [m[m.length - 1]] := by
    rw [← List.take_succ_eq_append_getElem (by omega : m.length - 1 < m.length), List.take_of_length_le (by omega)]
  have h2 : st.feed m = (st.feed (m.take (m.length - 1))).step m[m.length - 1] := by
    conv => lhs; rw [e]
    rw [feed_append]; rfl
  rw [h2, h]
  unfold St.step
  dsimp only
  rw [if_pos ho, ← e, if_pos hm]
  exact congrArg (fun x : St => x.act m) (part_nil st hp)

theorem head_len (st : St) (c : UInt8) : (st.head c).length = 7 := by simp [St.head, enc_length]

/-- How much more went out, and how many tokens more are used. -/
structure Grew (a b : St) (x y u : Nat) : Prop where
  ans : b.ans.length ≤ a.ans.length + x
  tape : b.tape.length ≤ a.tape.length + y
  used : b.used.length = a.used.length + u
theorem Grew.trans {a b c : St} {x y u x' y' u' : Nat} (h : Grew a b x y u) (k : Grew b c x' y' u') : Grew a c (x + x') (y + y') (u + u') :=
  ⟨by have := h.ans; have := k.ans; omega, by have := h.tape; have := k.tape; omega, by rw [k.used, h.used]; omega⟩
theorem Grew.mono {a b : St} {x y u x' y' : Nat} (h : Grew a b x y u) (hx : x ≤ x') (hy : y ≤ y') : Grew a b x' y' u := ⟨by have := h.ans; omega, by have := h.tape; omega, h.used⟩
theorem Grew.refl (a : St) : Grew a a 0 0 0 := ⟨Nat.le_refl _, Nat.le_refl _, rfl⟩

theorem grew_execute (st : St) (o f : Ord) (n : Nat) : Grew st (st.execute o f n) 38 17 0 := by
  refine ⟨?_, ?_, rfl⟩
  · simp [St.execute, St.upd, St.put, St.say, St.fill, head_len, enc_length]
  · simp [St.execute, St.upd, St.put, St.say, St.fill, head_len, enc_length]
theorem grew_meet (k : Nat) : ∀ (st : St) (o : Ord), Grew st (st.meet k o).1 (38 * k) (17 * k) 0 := by
  induction k with
  | zero => intro st o; exact Grew.refl _
  | succ k ih =>
    intro st o
    simp only [St.meet]
    split
    · exact (Grew.refl _).mono (by omega) (by omega)
    · split
      · exact (Grew.refl _).mono (by omega) (by omega)
      · exact ((grew_execute _ _ _ _).trans (ih _ _)).mono (by omega) (by omega)
theorem grew_rest (st : St) (o : Ord) : Grew st (st.rest o) 0 17 0 := by
  refine ⟨?_, ?_, rfl⟩
  · simp [St.rest, St.upd, St.put]
  · simp [St.rest, St.upd, St.put, head_len, enc_length]

theorem grew_cancelled (st : St) (t n : Nat) (r : UInt8) : Grew st (st.cancelled t n r) 14 0 0 := by
  refine ⟨?_, ?_, rfl⟩
  · simp [St.cancelled, St.say, head_len, enc_length]
  · simp [St.cancelled, St.say]

theorem grew_enter (st : St) (t : Nat) (side : UInt8) (stock price shares : Nat) (kind : UInt8) :
    (Grew st (st.enter t side stock price shares kind) 14 14 0 ∧ (st.enter t side stock price shares kind).used = st.used) ∨ (Grew st (st.enter t side stock price shares kind) 4000 4000 1 ∧ t ∉ st.used ∧ (st.enter t side stock price shares kind).used = t :: st.used) := by
  unfold St.enter
  split
  · left
    refine ⟨⟨?_, ?_, rfl⟩, rfl⟩
    · simp [St.reject, St.say, head_len, enc_length]
    · simp [St.reject, St.say]
  · rename_i hw
    right
    have hu : t ∉ st.used := by
      intro hc
      unfold St.why at hw
      rw [if_pos hc] at hw
      cases hw
    dsimp only
    have h1 : Grew st (st.accept { ref := (st.refs + 1) % 4294967296, token := t, side := side, stock := stock, price := price, shares := shares } kind) 22 0 1 := by
      refine ⟨?_, ?_, ?_⟩
      · simp [St.accept, St.say, head_len, enc_length]
      · simp [St.accept, St.say]
      · simp [St.accept, St.say]
    have h2 := h1.trans (grew_meet 65 _ { ref := (st.refs + 1) % 4294967296, token := t, side := side, stock := stock, price := price, shares := shares })
    have h3 : ((st.accept { ref := (st.refs + 1) % 4294967296, token := t, side := side, stock := stock, price := price, shares := shares } kind).meet 65 { ref := (st.refs + 1) % 4294967296, token := t, side := side, stock := stock, price := price, shares := shares }).1.used = t :: st.used := used_meet 65 _ _
    refine ⟨?_, hu, ?_⟩
    · split
      · exact h2.mono (by omega) (by omega)
      · split
        · exact (h2.trans (grew_rest _ _)).mono (by omega) (by omega)
        · exact (h2.trans (grew_cancelled _ _ _ _)).mono (by omega) (by omega)
    · split
      · exact h3
      · split
        · exact h3
        · exact h3
where
  used_meet (k : Nat) : ∀ (st : St) (o : Ord), (st.meet k o).1.used = st.used := by
    induction k with
    | zero => intro st o; rfl
    | succ k ih =>
      intro st o
      simp only [St.meet]
      split
      · rfl
      · split
        · rfl
        · rw [ih]; rfl

theorem grew_cancel (st : St) (t n : Nat) : Grew st (st.cancel t n) 14 14 0 := by
  unfold St.cancel
  split
  · exact (Grew.refl _).mono (by omega) (by omega)
  · split
    · exact (Grew.refl _).mono (by omega) (by omega)
    · dsimp only
      split
      · refine ⟨?_, ?_, rfl⟩
        · simp [St.upd, St.put, St.cancelled, St.say, head_len, enc_length]
        · simp [St.upd, St.put, St.cancelled, St.say, head_len, enc_length]
      · refine ⟨?_, ?_, rfl⟩
        · simp [St.upd, St.put, St.cancelled, St.say, head_len, enc_length]
        · simp [St.upd, St.put, St.cancelled, St.say, head_len, enc_length]

theorem used_meet (k : Nat) : ∀ (st : St) (o : Ord), (st.meet k o).1.used = st.used := by
  induction k with
  | zero => intro st o; rfl
  | succ k ih =>
    intro st o
    simp only [St.meet]
    split
    · rfl
    · split
      · rfl
      · rw [ih]; rfl

theorem grew_replace (st : St) (t n price shares : Nat) :
    (Grew st (st.replace t n price shares) 14 14 0 ∧ (st.replace t n price shares).used = st.used) ∨ (Grew st (st.replace t n price shares) 4000 4000 1 ∧ n ∉ st.used ∧ (st.replace t n price shares).used = n :: st.used) := by
  unfold St.replace
  split
  · exact .inl ⟨(Grew.refl _).mono (by omega) (by omega), rfl⟩
  · split
    · left
      refine ⟨⟨?_, ?_, rfl⟩, rfl⟩
      · simp [St.reject, St.say, head_len, enc_length]
      · simp [St.reject, St.say]
    · rename_i o ho _ hw
      right
      have hu : n ∉ st.used := by
        intro hc
        unfold St.whyR at hw
        rw [if_pos hc] at hw
        cases hw
      dsimp only
      have h1 : Grew st (({ st with refs := (st.refs + 1) % 4294967296, used := n :: st.used } : St).say (st.head 85 ++ enc n 4 ++ enc price 2 ++ enc shares 2 ++ enc ((st.refs + 1) % 4294967296) 4 ++ enc t 4)) 23 0 1 := by
        refine ⟨?_, ?_, ?_⟩
        · simp [St.say, head_len, enc_length]
        · simp [St.say]
        · simp [St.say]
      have hused : (({ st with refs := (st.refs + 1) % 4294967296, used := n :: st.used } : St).say (st.head 85 ++ enc n 4 ++ enc price 2 ++ enc shares 2 ++ enc ((st.refs + 1) % 4294967296) 4 ++ enc t 4)).used = n :: st.used := rfl
      generalize (({ st with refs := (st.refs + 1) % 4294967296, used := n :: st.used } : St).say (st.head 85 ++ enc n 4 ++ enc price 2 ++ enc shares 2 ++ enc ((st.refs + 1) % 4294967296) 4 ++ enc t 4)) = b at *
      split
      · have h2 : ∀ f g s d p, Grew b ((b.put (b.head 117 ++ enc o.ref 4 ++ enc ((st.refs + 1) % 4294967296) 4 ++ enc shares 2 ++ enc price 2)).upd s d p f) 0 21 0 ∧ Grew b (((b.put (b.head 117 ++ enc o.ref 4 ++ enc ((st.refs + 1) % 4294967296) 4 ++ enc shares 2 ++ enc price 2)).upd s d p f).upd s d price g) 0 21 0 := by
          intro f g s d p
          constructor
          · refine ⟨?_, ?_, rfl⟩
            · simp [St.upd, St.put]
            · simp [St.upd, St.put, head_len, enc_length]
          · refine ⟨?_, ?_, rfl⟩
            · simp [St.upd, St.put]
            · simp [St.upd, St.put, head_len, enc_length]
        split
        · exact ⟨(h1.trans (h2 _ (fun l => l) _ _ _).1).mono (by omega) (by omega), hu, hused⟩
        · exact ⟨(h1.trans (h2 _ _ _ _ _).2).mono (by omega) (by omega), hu, hused⟩
      · have h2 : ∀ f s d p, Grew b ((b.put (b.head 100 ++ enc o.ref 4)).upd s d p f) 0 11 0 := by
          intro f s d p
          refine ⟨?_, ?_, rfl⟩
          · simp [St.upd, St.put]
          · simp [St.upd, St.put, head_len, enc_length]
        have h3 := (h1.trans (h2 (delO t) o.stock o.side o.price)).trans (grew_meet 65 _ { ref := (st.refs + 1) % 4294967296, token := n, side := o.side, stock := o.stock, price := price, shares := shares })
        have h4 := used_meet 65 ((b.put (b.head 100 ++ enc o.ref 4)).upd o.stock o.side o.price (delO t)) { ref := (st.refs + 1) % 4294967296, token := n, side := o.side, stock := o.stock, price := price, shares := shares }
        refine ⟨?_, hu, ?_⟩
        · split
          · exact h3.mono (by omega) (by omega)
          · exact (h3.trans (grew_rest _ _)).mono (by omega) (by omega)
        · split
          · exact h4.trans hused
          · exact h4.trans hused

end Go.Proofs.Ytphkchjejbffeaa

/- An order meets others, as long as it can. -/
namespace Go.Proofs.Ytphkchjejbffeaa
open Go.RowKit
attribute [local go_sem ↓] Go.wp_at_zero Go.wp_at_succ

theorem findSome_spec {β : Type} (n : Nat) (f : Nat → Option β) (b : β) (h : (List.range n).findSome? f = some b) : ∃ r, r < n ∧ f r = some b := by
  obtain ⟨a, ha, hb⟩ := List.exists_of_findSome?_eq_some h
  exact ⟨a, by simpa using ha, hb⟩

theorem Fi.met {S L n : Nat} {od : Nat → Ord} {ps : Nat → UInt8 → Nat → List Nat} {fl : List Nat} {M : Nat → Option Nat} {st : St} (h : Fi S L n od ps fl M st) (o : Ord) (hs : o.stock < S) (x : Nat) (hx : meetsP L ps o = some x) :
    st.meets o = some (od x) ∧ VV S L (od x).stock (od x).side (od x).price ∧ x ∈ ps (od x).stock (od x).side (od x).price := by
  refine ⟨by rw [h.meets o hs, hx]; rfl, ?_⟩
  obtain ⟨r, hr, h2⟩ := findSome_spec _ _ _ hx
  generalize hz : (if other o.side = 66 then L - r else r + 1) = z at h2
  have hz1 : 1 ≤ z ∧ z ≤ L := by rw [← hz]; split <;> omega
  have hv : VV S L o.stock (other o.side) z := ⟨hs, other_ok _, hz1.1, hz1.2⟩
  split at h2
  · have hm : x ∈ ps o.stock (other o.side) z := List.mem_of_mem_head? h2
    obtain ⟨f1, f2, f3, -⟩ := h.fits hv hm
    rw [f1, f2, f3]
    exact ⟨hv, hm⟩
  · cases h2

theorem meet_zero (n : Nat) (st : St) (o : Ord) (h : o.shares = 0 ∨ st.meets o = none) : st.meet n o = (st, o) := by
  cases n with
  | zero => rfl
  | succ n =>
    rw [St.meet]
    rcases h with h | h
    · rw [if_pos h]
    · split
      · rfl
      · rw [h]
theorem meet_succ (n : Nat) (st : St) (o f : Ord) (h0 : o.shares ≠ 0) (h : st.meets o = some f) : st.meet (n + 1) o = (st.execute o f (min o.shares f.shares)).meet n { o with shares := o.shares - min o.shares f.shares } := by
  rw [St.meet, if_neg h0, h]

theorem exec_rest {S L n : Nat} {od : Nat → Ord} {ps : Nat → UInt8 → Nat → List Nat} {fl : List Nat} {M : Nat → Option Nat} {st : St} (h : Fi S L n od ps fl M st) (o f : Ord) (x m : Nat) (hv : VV S L f.stock f.side f.price) (hx : x ∈ ps f.stock f.side f.price) (hnd : (ps f.stock f.side f.price).Nodup) (hf : od x = f) (hm : f.shares ≤ m) : (st.execute o f m).resting + 1 = st.resting := by
  obtain ⟨a, b, hab⟩ := List.append_of_mem hx
  have hcut := h.cut hv hab hnd
  rw [hf] at hcut
  have hq : st.q f.stock f.side f.price = a.map od ++ f :: b.map od := by rw [h.q _ _ _ hv, hab, List.map_append, List.map_cons, hf]
  have a1 := rest_upd st f.stock f.side f.price (h.valid hv) (redO f.token m)
  rw [hq, redO_app f.token m (a.map od) f (b.map od) hcut.1 rfl, if_pos hm] at a1
  simp only [List.length_map, List.length_append, List.length_cons] at a1
  have e : (st.execute o f m).resting = (st.upd f.stock f.side f.price (redO f.token m)).resting := rfl
  omega

def shCell (w : World) (g : Nat) : Nat := match w.cell? ⟨g, 7, none⟩ with
  | some (.int _ n) => n.toNat
  | _ => 0

set_option maxRecDepth 100000 in
set_option maxHeartbeats 1000000 in
theorem meet_step (b a z : Nat) (c : BC) (k : SK) (st : St) (o o' : Ord) (st' : St) (w : World) (h : Rel w b c k st) (hm : st.meet 65 o = (st', o')) (ho : o.token < 4294967296) (hos : o.shares ≤ 9999) (hst : o.stock < k.S) (hsd : o.side = 66 ∨ o.side = 83) (hpr : o.price ≤ 1000) (hra : st.ans.length ≤ 70368744290000) (hrt : st.tape.length ≤ 70368744290000) :
    Calls Try.prog 73 #[.pointer (some ⟨b, 0, none⟩), ordV a z o] w fun e w' => e = .returned (ordV a z o') ∧ Does w b c k w' st' := by
  have hgb : ∀ j, GB b c k j → j < w.heap.size := h.lt
  have HR := Hid.mk h
  have HM := Hid.mk hm
  have hblt := h.B.lt
  clear h hm
  unfold ordV ordL
  go_enter Try.func73, Try.ntmps73
  go_wp2_with fail
  obtain ⟨g, hg⟩ : ∃ g, g = w.heap.size := ⟨_, rfl⟩
  obtain ⟨gr, hgr⟩ : ∃ gr, gr = w.heap.size + 1 := ⟨_, rfl⟩
  rw [← hgr, ← hg]
  generalize hW : (World.alloc _ (Obj.cells #[Value.int .i64 0, Value.int .i64 0, Value.int .u32 0, Value.int .u32 0, Value.int .u8 0, Value.int .u8 0, Value.int .u16 0, Value.int .u16 0] 129)) = W
  have hFW : Fr (fun _ => False) w W := by
    rw [← hW]
    exact (Fr.alloc _ w _).trans (Fr.alloc _ _ _) (fun _ _ e => e)
  have hbg : W.heap[g]? = some (.cells (ordL a z o).toArray 129) := by
    rw [← hW, hg, heap_alloc, if_neg (by rw [size_alloc]; omega), heap_alloc, if_pos rfl]; rfl
  have hbr : W.heap[gr]? = some (.cells (ordL 0 0 noOrd).toArray 129) := by
    rw [← hW, hgr, heap_alloc, if_pos (by rw [size_alloc])]; rfl
  have hsz : W.heap.size = w.heap.size + 2 := by rw [← hW, size_alloc, size_alloc]
  clear hW
  have nGg : ¬ GB b c k g := fun e => by have := hgb _ e; omega
  have nGr : ¬ GB b c k gr := fun e => by have := hgb _ e; omega
  have hggr : g ≠ gr := by omega
  have hgW : g < W.heap.size := by omega
  have hrW : gr < W.heap.size := by omega
  have hR0 : Hid (Rel W b c k st) := HR.out.quiet hFW
  have HFW := Hid.mk hFW
  have hres0 : st.resting ≤ 64 := by have a1 := HR.out.inv.room; have a2 := HR.out.inv.pool; omega
  have HG := Hid.mk (And.intro hg hgr)
  clear hFW hg hgr hsz
  go_loopw [5] (fun _ wr => ∃ (i : Nat) (oc : Ord) (stc : St) (cc : BC), Hid (Rel wr b cc k stc ∧ Stp w b c k wr cc ∧ wr.heap[g]? = some (.cells (ordL a z oc).toArray 129) ∧ wr.heap[gr]? = some (.cells (ordL 0 0 noOrd).toArray 129) ∧ oc = { o with shares := oc.shares } ∧ oc.shares ≤ 9999 ∧ stc.meet (65 - i) oc = (st', o') ∧ i ≤ 65 ∧ (oc.shares = 0 ∨ stc.resting + i ≤ 64) ∧ stc.ans.length ≤ st.ans.length + 38 * i ∧ stc.tape.length ≤ st.tape.length + 17 * i ∧ ¬ GB b cc k g ∧ ¬ GB b cc k gr)) (fun _ wr => shCell wr g)
  case atStart => exact ⟨0, o, st, c, hR0.out, Stp.quiet HFW.out, hbg, hbr, rfl, hos, HM.out, by omega, Or.inr (by omega), by omega, by omega, nGg, nGr⟩
  case round =>
    obtain ⟨i, oc, stc, cc, HH⟩ := hrel
    clear hbg hbr hR0 nGg nGr
    obtain ⟨hR, hS, hbg, hbr, hoc, hos', hmt, hi65, hcnt, hla, hlt, nGg, nGr⟩ := HH.out
    have hbox : Box wr g a z oc := Box.of hbg
    obtain ⟨q0, q1, q2, q3, q4, q5, q6, q7⟩ := hbox
    have g19 := hR.books
    have hsh : shCell wr g = oc.shares := by simp [shCell, q7]
    have otok : oc.token < 4294967296 := by rw [hoc]; exact ho
    have ostk : oc.stock < k.S := by rw [hoc]; exact hst
    have osid : oc.side = 66 ∨ oc.side = 83 := by rw [hoc]; exact hsd
    have opri : oc.price ≤ 1000 := by rw [hoc]; exact hpr
    have HOC := Hid.mk hoc
    have HSH := Hid.mk hsh
    have HNG := Hid.mk nGg
    have HNR := Hid.mk nGr
    have hglt : g < wr.heap.size := (Array.getElem?_eq_some_iff.1 hbg).1
    have hrlt : gr < wr.heap.size := (Array.getElem?_eq_some_iff.1 hbr).1
    have HBG := Hid.mk hbg
    have HBR := Hid.mk hbr
    have HMT := Hid.mk hmt
    clear hR hS hbg hbr hsh hoc nGg nGr hmt
    by_cases hs0 : oc.shares = 0
    · have b0 : ¬ ((0 : Int) < (oc.shares : Int)) := by omega
      have HBR9 := HBR
      have HREL : Hid (Rel wr b cc k stc) := HH.out.1
      have HSTP : Hid (Stp w b c k wr cc) := HH.out.2.1
      have HMZ : Hid ((stc, oc) = (st', o')) := by
        show _ = _
        rw [← HMT.out, meet_zero _ _ _ (Or.inl hs0)]
      clear hs0
      have hbr9 := HBR9.out
      obtain ⟨r0, r1, r2, r3, r4, r5, r6, r7⟩ := (Box.of hbr9 : Box wr gr 0 0 noOrd)
      have fro : ∀ j, wr.frozen? ⟨gr, j, none⟩ = false := fun j => by simp [World.frozen?, hbr9]
      have fr0 := fro 0
      have fr1 := fro 1
      have fr2 := fro 2
      have fr3 := fro 3
      have fr4 := fro 4
      have fr5 := fro 5
      have fr6 := fro 6
      have fr7 := fro 7
      clear fro hbr9
      go_wp2_with fail
      have hbr9 := HBR9.out
      have hfin : ((((((((wr.setCell ⟨gr, 0, none⟩ (.int .i64 a)).setCell ⟨gr, 1, none⟩ (.int .i64 z)).setCell ⟨gr, 2, none⟩ (.int .u32 oc.ref)).setCell ⟨gr, 3, none⟩ (.int .u32 oc.token)).setCell ⟨gr, 4, none⟩ (.int .u8 oc.side.toNat)).setCell ⟨gr, 5, none⟩ (.int .u8 oc.stock)).setCell ⟨gr, 6, none⟩ (.int .u16 oc.price)).setCell ⟨gr, 7, none⟩ (.int .u16 oc.shares)).heap[gr]? = some (.cells (ordL a z oc).toArray 129) := by
        rw [(heap_setCell_same _ gr 7 _ _ _ (heap_setCell_same _ gr 6 _ _ _ (heap_setCell_same _ gr 5 _ _ _ (heap_setCell_same _ gr 4 _ _ _ (heap_setCell_same _ gr 3 _ _ _ (heap_setCell_same _ gr 2 _ _ _ (heap_setCell_same _ gr 1 _ _ _ (heap_setCell_same _ gr 0 _ _ _ hbr9))))))))]; rfl
      have hfrn : Fr (fun j => j = gr) wr ((((((((wr.setCell ⟨gr, 0, none⟩ (.int .i64 a)).setCell ⟨gr, 1, none⟩ (.int .i64 z)).setCell ⟨gr, 2, none⟩ (.int .u32 oc.ref)).setCell ⟨gr, 3, none⟩ (.int .u32 oc.token)).setCell ⟨gr, 4, none⟩ (.int .u8 oc.side.toNat)).setCell ⟨gr, 5, none⟩ (.int .u8 oc.stock)).setCell ⟨gr, 6, none⟩ (.int .u16 oc.price)).setCell ⟨gr, 7, none⟩ (.int .u16 oc.shares)) := fr_setCells gr (ordL a z oc) 0 wr
      generalize ((((((((wr.setCell ⟨gr, 0, none⟩ (.int .i64 a)).setCell ⟨gr, 1, none⟩ (.int .i64 z)).setCell ⟨gr, 2, none⟩ (.int .u32 oc.ref)).setCell ⟨gr, 3, none⟩ (.int .u32 oc.token)).setCell ⟨gr, 4, none⟩ (.int .u8 oc.side.toNat)).setCell ⟨gr, 5, none⟩ (.int .u8 oc.stock)).setCell ⟨gr, 6, none⟩ (.int .u16 oc.price)).setCell ⟨gr, 7, none⟩ (.int .u16 oc.shares)) = w9 at hfin hfrn ⊢
      obtain ⟨y0, y1, y2, y3, y4, y5, y6, y7⟩ := (Box.of hfin : Box w9 gr a z oc)
      obtain ⟨e1, e2⟩ := Prod.mk.inj HMZ.out
      refine bodyPost_ret (v := ordV a z oc) (by unfold ordV ordL; simp [results, Try.results73, go_sem, y0, y1, y2, y3, y4, y5, y6, y7]) rfl ⟨by rw [← e2]; rfl, cc, ?_, ?_⟩
      · rw [← e1]
        exact HREL.out.keep (fun j hj => hfrn.block j (HREL.out.lt j hj) (fun e => HNR.out (by rw [← (show j = gr from e)]; exact hj)))
      · exact ⟨HSTP.out.fr.trans hfrn (fun i hi e => by have e : i = gr := e; have := HG.out.2; omega), HSTP.out.sub, HSTP.out.bytes, HSTP.out.have_, HSTP.out.opn⟩
    · have b0 : (0 : Int) < (oc.shares : Int) := by omega
      obtain ⟨M, od, ps, fl, j1, j2, j3⟩ := HH.out.1.ex
      have HJ : Hid (Holds wr cc k stc M od ps fl) := ⟨j1, j2, j3⟩
      have hmp := j3.met oc ostk
      have hmn := j3.meets oc ostk
      have hne : ∀ s d p, VV k.S k.L s d p → (ps s d p).Nodup ∧ ∀ y ∈ ps s d p, y < k.n ∧ y ≠ 0 := fun s d p hv => ⟨(j1.nodup hv).1, (j1.nodup hv).2.1⟩
      have HMP := Hid.mk (And.intro hmp (And.intro hmn hne))
      clear j1 j2 j3 hmp hmn hne
      go_wp2_with fail
      go_region_held3 (fun w' => (w'.cell? ⟨g, 0, none⟩ = some (.int .i64 a) ∧ w'.cell? ⟨g, 1, none⟩ = some (.int .i64 z) ∧ w'.cell? ⟨g, 2, none⟩ = some (.int .u32 oc.ref) ∧ w'.cell? ⟨g, 3, none⟩ = some (.int .u32 oc.token) ∧ w'.cell? ⟨g, 4, none⟩ = some (.int .u8 oc.side.toNat) ∧ w'.cell? ⟨g, 5, none⟩ = some (.int .u8 oc.stock) ∧ w'.cell? ⟨g, 6, none⟩ = some (.int .u16 oc.price) ∧ w'.cell? ⟨g, 7, none⟩ = some (.int .u16 oc.shares)) ∧ w'.cell? ⟨b, 19, none⟩ = some (.pointer (some ⟨k.bk, 0, none⟩))) (first | exact m1 | go_keep)
        ((go_at_call 83; refine (meets_any k wr.drew stc.resting a z oc od ps fl (HJ.out.1.keep (fun _ _ => rfl)) ostk osid opri).mono ?_; rintro e w1 ⟨rfl, hf1⟩; have m1 := And.intro ((Box.fr (w := wr.drew) ⟨q0, q1, q2, q3, q4, q5, q6, q7⟩ hf1.out (fun e => e)).all) (hf1.out.cell (w := wr.drew) g19 (fun e => e))))
      have hF1 : Hid (Fr (fun _ => False) wr w1) := (Fr.drew _ wr).trans hf1.out (fun _ _ e => e)
      clear hf1 q0 q1 q2 q3 q4 q5 q6 q7 g19
      obtain ⟨⟨q0, q1, q2, q3, q4, q5, q6, q7⟩, g19⟩ := m1
      cases hmp : meetsP k.L ps oc with
      | none =>
        have HBR9 : Hid (w1.heap[gr]? = some (.cells (ordL 0 0 noOrd).toArray 129)) := (hF1.out.block _ hrlt (fun e => e)).trans HBR.out
        have HREL : Hid (Rel w1 b cc k stc) := HH.out.1.quiet hF1.out
        have HSTP : Hid (Stp w b c k w1 cc) := HH.out.2.1.trans (Stp.quiet hF1.out)
        have HMZ : Hid ((stc, oc) = (st', o')) := by
          show _ = _
          rw [← HMT.out, meet_zero _ _ _ (Or.inr (by rw [HMP.out.2.1, hmp]; rfl))]
        clear hmp g19
        dsimp only [Option.getD_none]
        have hbr9 := HBR9.out
        obtain ⟨r0, r1, r2, r3, r4, r5, r6, r7⟩ := (Box.of hbr9 : Box w1 gr 0 0 noOrd)
        have fro : ∀ j, w1.frozen? ⟨gr, j, none⟩ = false := fun j => by simp [World.frozen?, hbr9]
        have fr0 := fro 0
        have fr1 := fro 1
        have fr2 := fro 2
        have fr3 := fro 3
        have fr4 := fro 4
        have fr5 := fro 5
        have fr6 := fro 6
        have fr7 := fro 7
        clear fro hbr9
        go_wp2_with fail
        have hbr9 := HBR9.out
        have hfin : ((((((((w1.setCell ⟨gr, 0, none⟩ (.int .i64 a)).setCell ⟨gr, 1, none⟩ (.int .i64 z)).setCell ⟨gr, 2, none⟩ (.int .u32 oc.ref)).setCell ⟨gr, 3, none⟩ (.int .u32 oc.token)).setCell ⟨gr, 4, none⟩ (.int .u8 oc.side.toNat)).setCell ⟨gr, 5, none⟩ (.int .u8 oc.stock)).setCell ⟨gr, 6, none⟩ (.int .u16 oc.price)).setCell ⟨gr, 7, none⟩ (.int .u16 oc.shares)).heap[gr]? = some (.cells (ordL a z oc).toArray 129) := by
          rw [(heap_setCell_same _ gr 7 _ _ _ (heap_setCell_same _ gr 6 _ _ _ (heap_setCell_same _ gr 5 _ _ _ (heap_setCell_same _ gr 4 _ _ _ (heap_setCell_same _ gr 3 _ _ _ (heap_setCell_same _ gr 2 _ _ _ (heap_setCell_same _ gr 1 _ _ _ (heap_setCell_same _ gr 0 _ _ _ hbr9))))))))]; rfl
        have hfrn : Fr (fun j => j = gr) w1 ((((((((w1.setCell ⟨gr, 0, none⟩ (.int .i64 a)).setCell ⟨gr, 1, none⟩ (.int .i64 z)).setCell ⟨gr, 2, none⟩ (.int .u32 oc.ref)).setCell ⟨gr, 3, none⟩ (.int .u32 oc.token)).setCell ⟨gr, 4, none⟩ (.int .u8 oc.side.toNat)).setCell ⟨gr, 5, none⟩ (.int .u8 oc.stock)).setCell ⟨gr, 6, none⟩ (.int .u16 oc.price)).setCell ⟨gr, 7, none⟩ (.int .u16 oc.shares)) := fr_setCells gr (ordL a z oc) 0 w1
        generalize ((((((((w1.setCell ⟨gr, 0, none⟩ (.int .i64 a)).setCell ⟨gr, 1, none⟩ (.int .i64 z)).setCell ⟨gr, 2, none⟩ (.int .u32 oc.ref)).setCell ⟨gr, 3, none⟩ (.int .u32 oc.token)).setCell ⟨gr, 4, none⟩ (.int .u8 oc.side.toNat)).setCell ⟨gr, 5, none⟩ (.int .u8 oc.stock)).setCell ⟨gr, 6, none⟩ (.int .u16 oc.price)).setCell ⟨gr, 7, none⟩ (.int .u16 oc.shares)) = w9 at hfin hfrn ⊢
        obtain ⟨y0, y1, y2, y3, y4, y5, y6, y7⟩ := (Box.of hfin : Box w9 gr a z oc)
        obtain ⟨e1, e2⟩ := Prod.mk.inj HMZ.out
        refine bodyPost_ret (v := ordV a z oc) (by unfold ordV ordL; simp [results, Try.results73, go_sem, y0, y1, y2, y3, y4, y5, y6, y7]) rfl ⟨by rw [← e2]; rfl, cc, ?_, ?_⟩
        · rw [← e1]
          exact HREL.out.keep (fun j hj => hfrn.block j (HREL.out.lt j hj) (fun e => HNR.out (by rw [← (show j = gr from e)]; exact hj)))
        · exact ⟨HSTP.out.fr.trans hfrn (fun i hi e => by have e : i = gr := e; have := HG.out.2; omega), HSTP.out.sub, HSTP.out.bytes, HSTP.out.have_, HSTP.out.opn⟩
      | some x =>
        obtain ⟨p1, p2, p3⟩ := HMP.out.1 x hmp
        have hx0 := (HMP.out.2.2 _ _ _ p2).2 x p3
        have bx0 : ((x : Int) == 0) = false := by simp; omega
        have hnd := (HMP.out.2.2 _ _ _ p2).1
        obtain ⟨f, hf⟩ : ∃ f, od x = f := ⟨_, rfl⟩
        rw [hf] at p1 p2 p3 hnd
        have hfit := HJ.out.2.2.fits p2 p3
        rw [hf] at hfit
        have hfl := hfit.least
        obtain ⟨n, hn⟩ : ∃ n, min oc.shares f.shares = n := ⟨_, rfl⟩
        obtain ⟨v, hv⟩ : ∃ v, oc.shares - n = v := ⟨_, rfl⟩
        have hnle : n ≤ oc.shares ∧ 1 ≤ n := by omega
        have wv : IntKind.u16.wrap ((oc.shares : Int) - (n : Int)) = (v : Int) := by rw [IntKind.wrap_u16]; omega
        have hi64 : i ≤ 63 := by
          rcases hcnt with e | e
          · omega
          · have a1 : 1 ≤ stc.resting := by
              have := HJ.out.2.2.in_all p2 p3
              unfold St.resting
              exact List.length_pos_of_mem this
            omega
        have HR1 : Hid (Rel w1.drew b cc k stc) := (HH.out.1.quiet hF1.out).quiet (Fr.drew _ w1)
        have HJ1 : Hid (Holds w1.drew cc k stc M od ps fl) := (HJ.out.quiet hF1.out).quiet (Fr.drew _ w1)
        have HEX := Hid.mk (execute_step b cc k stc M od ps fl x a z n oc f w1.drew HR1.out HJ1.out hf p2 p3 hn otok hos' (by omega) (by omega))
        have hres := fun h => exec_rest HJ.out.2.2 oc f x n p2 p3 hnd hf h
        have HPP := Hid.mk (And.intro p1 (And.intro hn (And.intro hv hres)))
        clear hmp p1 p2 p3 hnd hfit hn hv hf hres
        dsimp only [Option.getD_some]
        go_wp2_with fail
        have hgw1 : g < w1.heap.size := Nat.lt_of_lt_of_le hglt hF1.out.size
        have hrw1 : gr < w1.heap.size := Nat.lt_of_lt_of_le hrlt hF1.out.size
        have HBG1 : Hid (w1.heap[g]? = some (.cells (ordL a z oc).toArray 129)) := (hF1.out.block _ hglt (fun e => e)).trans HBG.out
        have HBR1 : Hid (w1.heap[gr]? = some (.cells (ordL 0 0 noOrd).toArray 129)) := (hF1.out.block _ hrlt (fun e => e)).trans HBR.out
        go_region_with ((go_at_call 116; refine HEX.out.mono ?_; rintro e w2 ⟨rfl, c2, hR2, hS2⟩; obtain ⟨s0, s1, s2, s3, s4, s5, s6, s7⟩ := (Box.fr (w := w1.drew) ⟨q0, q1, q2, q3, q4, q5, q6, q7⟩ hS2.fr HNG.out).all; have hbg2 : w2.heap[g]? = some (.cells (ordL a z oc).toArray 129) := (hS2.fr.block (w := w1.drew) g hgw1 HNG.out).trans HBG1.out; have hf7 : w2.frozen? ⟨g, 7, none⟩ = false := (by simp [World.frozen?, hbg2])))
        all_goals
          have hbg3 : (w2.setCell ⟨g, 7, none⟩ (.int .u16 v)).heap[g]? = some (.cells (ordL a z { oc with shares := v }).toArray 129) := by rw [heap_setCell_same w2 g 7 _ _ _ hbg2]; rfl
          have hfr3 : Fr (fun j => j = g) w2 (w2.setCell ⟨g, 7, none⟩ (.int .u16 v)) := Fr.setCell w2 ⟨g, 7, none⟩ _
          generalize w2.setCell ⟨g, 7, none⟩ (.int .u16 v) = w3 at hbg3 hfr3 ⊢
          have nG2 : ¬ GB b c2 k g := fun e => (hS2.sub g e).elim HNG.out (fun e => by have e : w1.heap.size ≤ g := e; omega)
          have nR2 : ¬ GB b c2 k gr := fun e => (hS2.sub gr e).elim HNR.out (fun e => by have e : w1.heap.size ≤ gr := e; omega)
          have hS3 := HH.out.2.1.trans ((Stp.quiet hF1.out).trans ((Stp.quiet (Fr.drew _ w1)).trans hS2))
          have hbr3 : w3.heap[gr]? = some (.cells (ordL 0 0 noOrd).toArray 129) := (hfr3.block gr (Nat.lt_of_lt_of_le hrw1 hS2.fr.size) (Ne.symm hggr)).trans ((hS2.fr.block (w := w1.drew) gr hrw1 HNR.out).trans HBR1.out)
          have hgrw := grew_execute stc oc f n
          have hsh3 : shCell w3 g = v := by
            have h7 := (Box.of hbg3 : Box w3 g a z { oc with shares := v }).c7
            simp [shCell, h7]
          obtain ⟨p1, hn, hv, hres⟩ := HPP.out
          have HALL : Hid (Rel w3 b c2 k (stc.execute oc f n) ∧ Stp w b c k w3 c2 ∧ w3.heap[g]? = some (.cells (ordL a z { oc with shares := v }).toArray 129) ∧ w3.heap[gr]? = some (.cells (ordL 0 0 noOrd).toArray 129) ∧ ({ oc with shares := v } : Ord) = { o with shares := v } ∧ v ≤ 9999 ∧ (stc.execute oc f n).meet (65 - (i + 1)) { oc with shares := v } = (st', o') ∧ i + 1 ≤ 65 ∧ (v = 0 ∨ (stc.execute oc f n).resting + (i + 1) ≤ 64) ∧ (stc.execute oc f n).ans.length ≤ st.ans.length + 38 * (i + 1) ∧ (stc.execute oc f n).tape.length ≤ st.tape.length + 17 * (i + 1) ∧ ¬ GB b c2 k g ∧ ¬ GB b c2 k gr) := by
            refine ⟨hR2.keep (fun j hj => hfr3.block j (hR2.lt j hj) (fun e => nG2 (by rw [← (show j = g from e)]; exact hj))), ⟨hS3.fr.trans hfr3 (fun i hi e => by have e : i = g := e; have := HG.out.1; omega), hS3.sub, hS3.bytes, hS3.have_, hS3.opn⟩, hbg3, hbr3, ?_, by omega, ?_, by omega, ?_, ?_, ?_, nG2, nR2⟩
            · rw [HOC.out]
            · have h1 := HMT.out
              rw [show 65 - i = (65 - (i + 1)) + 1 by omega, meet_succ _ _ _ f (by omega) p1, hn, hv] at h1
              exact h1
            · by_cases e : v = 0
              · exact Or.inl e
              · have hfn : f.shares ≤ n := by omega
                have := hres hfn
                right
                rcases hcnt with q | q
                · omega
                · omega
            · have := hgrw.ans
              omega
            · have := hgrw.tape
              omega
          have HSH3 := Hid.mk hsh3
          have hvlt : v < oc.shares := by omega
          clear hbg3 hfr3 nG2 nR2 hS3 hbr3 hgrw hsh3 p1 hn hv hres hR2 hS2 hbg2 hf7 hcnt hla hlt
          go_wp2_with fail
          exact ⟨⟨i + 1, { oc with shares := v }, stc.execute oc f n, c2, HALL⟩, by rw [HSH3.out, HSH.out]; exact hvlt⟩

end Go.Proofs.Ytphkchjejbffeaa
