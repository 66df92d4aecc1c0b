/- A region that draws its order, by what each of its operations yields: whatever the order, one proof for each operation. -/
import Derived.Test.YtphkchjejbffeaaG04
import Derived.RegionTactic
import Derived.Orders
import Derived.Test.YtphkchjejbffeaaRows
import Derived.ProofKit
import Derived.OpenShut
import Derived.ShutString
import Derived.ChangeOld
import Derived.Below
import Derived.SizedLaws
import Derived.Deep.Slices
import Derived.JoinedCond
import Derived.ChangeMaps
namespace Go.Proofs.Ytphkchjejbffeaa

/-- The i-th operation writes the i-th place behind lo, asks no guard, and waits for earlier ones alone. -/
def rgOne (lo i : Nat) (o : Oper) : Bool := o.dst == some (lo + i) && o.guard.isNone && o.after.all fun e => decide (e.on < i) && Region.binds .any e
/-- Every operation but the last has a later one that waits for it. -/
def rgNext (ops : Array Oper) (j : Nat) : Bool := (List.range ops.size).any fun s => decide (j < s) && ((ops[s]?).map fun o => o.after.any fun e => e.on == j).getD false
def rgShape (lo : Nat) (ops : Array Oper) : Bool :=
  (List.range ops.size).all (fun i => ((ops[i]?).map (rgOne lo i)).getD true) && (List.range (ops.size - 1)).all (rgNext ops)

theorem rg_one {lo : Nat} {ops : Array Oper} (h : rgShape lo ops = true) {i : Nat} {o : Oper} (ho : ops[i]? = some o) :
    o.dst = some (lo + i) ∧ o.guard = none ∧ ∀ e ∈ o.after, e.on < i ∧ Region.binds .any e = true := by
  have hlt : i < ops.size := (Array.getElem?_eq_some_iff.1 ho).1
  unfold rgShape at h
  rw [Bool.and_eq_true, List.all_eq_true] at h
  have h1 := h.1 i (List.mem_range.2 hlt)
  rw [ho] at h1
  simp only [Option.map_some, Option.getD_some, rgOne, Bool.and_eq_true, beq_iff_eq, Option.isNone_iff_eq_none, Array.all_eq_true_iff_forall_mem, decide_eq_true_eq] at h1
  exact ⟨h1.1.1, h1.1.2, h1.2⟩
theorem rg_next {lo : Nat} {ops : Array Oper} (h : rgShape lo ops = true) {j : Nat} (hj : j + 1 < ops.size) : ∃ s o, j < s ∧ ops[s]? = some o ∧ ∃ e ∈ o.after, e.on = j := by
  unfold rgShape at h
  rw [Bool.and_eq_true, List.all_eq_true, List.all_eq_true] at h
  have h1 := h.2 j (List.mem_range.2 (by omega))
  unfold rgNext at h1
  rw [List.any_eq_true] at h1
  obtain ⟨s, hs, h2⟩ := h1
  rw [Bool.and_eq_true, decide_eq_true_eq] at h2
  have hlt := List.mem_range.1 hs
  rw [Array.getElem?_eq_getElem hlt] at h2
  simp only [Option.map_some, Option.getD_some, Array.any_eq_true', beq_iff_eq] at h2
  obtain ⟨e, he, hej⟩ := h2.2
  exact ⟨s, ops[s], h2.1, Array.getElem?_eq_getElem hlt, e, he, hej⟩

/-- A frame: what lies ahead of the region's places, what they hold, what lies behind. -/
def RgFrame (pre vals suf : List Value) (df : List Deferred) : Go.Act := ⟨(pre ++ vals ++ suf).toArray, df⟩
theorem RgFrame.put (pre vals suf : List Value) (df : List Deferred) (i : Nat) (v : Value) (h : i < vals.length) : (RgFrame pre vals suf df).put (some (pre.length + i)) v = RgFrame pre (vals.set i v) suf df := by
  unfold RgFrame Go.Act.put
  simp only [List.setIfInBounds_toArray, Go.Act.mk.injEq, and_true]
  rw [List.append_assoc, List.set_append_right _ _ (by omega), Nat.add_sub_cancel_left, List.set_append_left _ _ h, List.append_assoc]

theorem rg_wanted {o : Oper} (h : o.guard = none) (f : Nat → Option Bool) : Region.wanted o f = true := by unfold Region.wanted; rw [h]

/-- How many have not come up. -/
def rgLeft (n : Nat) (listed : Array Bool) : Nat := ((List.range n).filter fun i => !listed.getD i true).length
theorem rgLeft_step (n : Nat) (listed : Array Bool) (i : Nat) (hi : i < n) (h : listed.getD i true = false) : rgLeft n (listed.setIfInBounds i true) < rgLeft n listed := by
  unfold rgLeft
  have hsub : ((List.range n).filter fun j => !(listed.setIfInBounds i true).getD j true).length < ((List.range n).filter fun j => !listed.getD j true).length := by
    rw [← List.countP_eq_length_filter, ← List.countP_eq_length_filter]
    have : ∀ l : List Nat, (∀ j ∈ l, j ≠ i) → l.countP (fun j => !(listed.setIfInBounds i true).getD j true) = l.countP (fun j => !listed.getD j true) := by
      intro l hl
      refine List.countP_congr fun j hj => ?_
      rw [getD_set_ne true (fun e => hl j hj e.symm)]
    have hsplit : List.range n = List.range i ++ i :: (List.range' (i + 1) (n - i - 1)) := by
      rw [List.range_eq_range', List.range_eq_range']
      have : n = i + (1 + (n - i - 1)) := by omega
      rw [this, ← List.range'_append_1, Nat.zero_add, show 1 + (n - i - 1) = (n - i - 1) + 1 by omega, List.range'_succ]
      congr 3
      omega
    rw [hsplit, List.countP_append, List.countP_append, List.countP_cons, List.countP_cons,
      this _ (fun j hj => by have := List.mem_range.1 hj; omega), this _ (fun j hj => by have := (List.mem_range'_1.1 hj).1; omega)]
    have e1 : (listed.setIfInBounds i true).getD i true = true := by
      rw [Array.getD_eq_getD_getElem?, Array.getElem?_setIfInBounds]
      split
      · split <;> rfl
      · rename_i hh; exact absurd rfl hh
    rw [e1, h]
    simp
  exact hsub

theorem wpAny_inv {P : Program} {ops : Array Oper} {Q : Exit → Go.Act → World → Prop} (I : Array Bool → Go.Act → World → Prop)
    (done : ∀ listed a w, I listed a w → Region.ready .any ops listed = [] → Q .normal a w)
    (step : ∀ listed a w, I listed a w → ∀ i ∈ Region.ready .any ops listed, wpOp P ops Q i (fun a' w' => I (listed.setIfInBounds i true) a' w') a w) :
    ∀ fuel listed a w, rgLeft ops.size listed ≤ fuel → I listed a w → wpAny P .any ops Q fuel listed a w := by
  intro fuel
  induction fuel with
  | zero =>
    intro listed a w hf hi
    have hr : Region.ready .any ops listed = [] := by
      rw [List.eq_nil_iff_forall_not_mem]
      intro j hj
      obtain ⟨h0, o, ho, -⟩ := mem_ready.1 hj
      have hlt : j < ops.size := (Array.getElem?_eq_some_iff.1 ho).1
      have := rgLeft_step ops.size listed j hlt h0
      omega
    exact ⟨hr, done _ _ _ hi hr⟩
  | succ fuel ih =>
    intro listed a w hf hi
    refine ⟨fun hr => done _ _ _ hi hr, fun i hr => ?_⟩
    refine wpOp_mono ?_ (step listed a w hi i hr)
    intro a' w' hi'
    obtain ⟨h0, o, ho, -⟩ := mem_ready.1 hr
    have hlt : i < ops.size := (Array.getElem?_eq_some_iff.1 ho).1
    have := rgLeft_step ops.size listed i hlt h0
    exact ih _ _ _ (by omega) hi'

theorem wp_region_vals {P : Program} {id : Nat} {ops : Array Oper} {Q : Exit → Go.Act → World → Prop} {pre suf vals0 : List Value} {df : List Deferred} {w : World}
    (hm : P.follows .mixedOrders = true) (hs : rgShape pre.length ops = true) (n : Nat) (hn : ops.size = n + 1) (V : Nat → Value → World → Prop) (R : World → Prop) (hv0 : vals0.length = n + 1) (hR : R w.drew)
    (step : ∀ i o, i < n → ops[i]? = some o → ∀ vals w, vals.length = n + 1 → R w → (∀ e ∈ o.after, V e.on (vals.getD e.on undef) w) →
      ∀ K : Go.Act → World → Prop, (∀ v w', V i v w' → R w' → (∀ j u, V j u w → V j u w') → K (RgFrame pre (vals.set i v) suf df) w') → o.wp P (RgFrame pre vals suf df) w K Q)
    (last : ∀ o, ops[n]? = some o → ∀ vals w, vals.length = n + 1 → R w → (∀ j, j < n → V j (vals.getD j undef) w) →
      ∀ K : Go.Act → World → Prop, (∀ a' w', Q .normal a' w' → K a' w') → o.wp P (RgFrame pre vals suf df) w K Q) :
    (Code.region id ops true).wp P Q (RgFrame pre vals0 suf df) w := by
  refine wp_region_any hm ?_
  refine wpAny_inv (fun listed a w => listed.size = n + 1 ∧ (∀ i o, ops[i]? = some o → listed.getD i false = true → ∀ e ∈ o.after, listed.getD e.on false = true) ∧
      ((listed.getD n false = true ∧ Q .normal a w) ∨ (listed.getD n false = false ∧ R w ∧ ∃ vals, vals.length = n + 1 ∧ a = RgFrame pre vals suf df ∧ ∀ j, listed.getD j false = true → V j (vals.getD j undef) w))) ?_ ?_ _ _ _ _ ?_ ?_
  · rintro listed a w ⟨hsz, hcl, h⟩ hr
    have hall : ∀ k, k < n + 1 → ∀ j, j ≤ k → listed.getD j false = true := by
      intro k
      induction k with
      | zero =>
        intro hk j hj
        rcases hb : listed.getD j false with _ | _
        · exfalso
          have hjn : j < ops.size := by omega
          have : j ∈ Region.ready .any ops listed := mem_ready.2 ⟨by
            rw [Array.getD_eq_getD_getElem?, Array.getElem?_eq_getElem (by omega)] at hb ⊢
            exact hb, ops[j], Array.getElem?_eq_getElem hjn, fun e he _ => by
            have := ((rg_one hs (Array.getElem?_eq_getElem hjn)).2.2 e he).1
            omega⟩
          rw [hr] at this
          cases this
        · rfl
      | succ k ih =>
        intro hk j hj
        rcases Nat.lt_or_ge j (k + 1) with h' | h'
        · exact ih (by omega) j (by omega)
        · have hjk : j = k + 1 := by omega
          subst hjk
          rcases hb : listed.getD (k + 1) false with _ | _
          · exfalso
            have hjn : k + 1 < ops.size := by omega
            have : k + 1 ∈ Region.ready .any ops listed := mem_ready.2 ⟨by
              rw [Array.getD_eq_getD_getElem?, Array.getElem?_eq_getElem (by omega)] at hb ⊢
              exact hb, ops[k + 1], Array.getElem?_eq_getElem hjn, fun e he _ => by
              have := ((rg_one hs (Array.getElem?_eq_getElem hjn)).2.2 e he).1
              exact ih (by omega) e.on (by omega)⟩
            rw [hr] at this
            cases this
          · rfl
    rcases h with ⟨-, h⟩ | ⟨h, -⟩
    · exact h
    · rw [hall n (by omega) n (Nat.le_refl _)] at h; cases h
  · rintro listed a w ⟨hsz, hcl, h⟩ i hr
    obtain ⟨h0, o, ho, hdep⟩ := mem_ready.1 hr
    have hlt : i < n + 1 := by have := (Array.getElem?_eq_some_iff.1 ho).1; omega
    obtain ⟨hdst, hg, haf⟩ := rg_one hs ho
    have h0' : listed.getD i false = false := by
      rw [Array.getD_eq_getD_getElem?, Array.getElem?_eq_getElem (by omega)] at h0 ⊢
      exact h0
    have hcl' : ∀ i' o', ops[i']? = some o' → (listed.setIfInBounds i true).getD i' false = true → ∀ e ∈ o'.after, (listed.setIfInBounds i true).getD e.on false = true := by
      intro i' o' ho' hl e he
      refine getD_set_true ?_
      by_cases hii : i = i'
      · subst hii
        rw [ho] at ho'
        cases ho'
        exact hdep e he (haf e he).2
      · rw [getD_set_ne false hii] at hl
        exact hcl i' o' ho' hl e he
    rcases h with ⟨hl, -⟩ | ⟨hl, hRw, vals, hvl, rfl, hV⟩
    · exfalso
      have hall : ∀ k j, j + k = n → listed.getD j false = true := by
        intro k
        induction k using Nat.strongRecOn with
        | ind k ih =>
          intro j hjk
          rcases Nat.eq_zero_or_pos k with rfl | hk
          · rw [show j = n by omega]; exact hl
          · obtain ⟨s, os, hjs, hos, e, he, hej⟩ := rg_next hs (j := j) (by omega)
            have hsn : s < n + 1 := by have := (Array.getElem?_eq_some_iff.1 hos).1; omega
            have := hcl s os hos (ih (n - s) (by omega) s (by omega)) e he
            rw [hej] at this
            exact this
      rw [hall (n - i) i (by omega)] at h0'
      cases h0'
    · refine wpOp_step ho fun K' hK' => ?_
      rw [if_pos (rg_wanted hg _)]
      by_cases hin : i = n
      · subst hin
        refine last o ho vals w hvl hRw ?_ K' ?_
        · intro j hj
          refine hV j ?_
          have hall : ∀ k j, j + k = i → j < i → listed.getD j false = true := by
            intro k
            induction k using Nat.strongRecOn with
            | ind k ih =>
              intro j hjk hji
              obtain ⟨s, os, hjs, hos, e, he, hej⟩ := rg_next hs (j := j) (by omega)
              have hsn : s < i + 1 := by have := (Array.getElem?_eq_some_iff.1 hos).1; omega
              by_cases hsi : s = i
              · subst hsi
                rw [ho] at hos
                cases hos
                have := hdep e he (haf e he).2
                rw [hej] at this
                exact this
              · have := hcl s os hos (ih (i - s) (by omega) s (by omega) (by omega)) e he
                rw [hej] at this
                exact this
          exact hall (i - j) j (by omega) hj
        · intro a' w' hq
          refine hK' a' w' ⟨by simpa using hsz, hcl', .inl ⟨?_, hq⟩⟩
          rw [Array.getD_eq_getD_getElem?, Array.getElem?_setIfInBounds, if_pos rfl, if_pos (by omega)]
          rfl
      · refine step i o (by omega) ho vals w hvl hRw (fun e he => hV e.on (hdep e he (haf e he).2)) K' ?_
        intro v w' hv hR' hst
        refine hK' _ w' ⟨by simpa using hsz, hcl', .inr ⟨?_, hR', vals.set i v, by simpa using hvl, rfl, ?_⟩⟩
        · rw [getD_set_ne false hin]; exact hl
        · intro j hj
          by_cases hij : i = j
          · subst hij
            rw [List.getD_eq_getElem?_getD, List.getElem?_set_self (by omega)]
            exact hv
          · rw [getD_set_ne false hij] at hj
            rw [List.getD_eq_getElem?_getD, List.getElem?_set_ne hij, ← List.getD_eq_getElem?_getD]
            exact hst j _ (hV j hj)
  · have := List.length_filter_le (fun i => !(Array.replicate ops.size false).getD i true) (List.range ops.size)
    unfold rgLeft
    rw [List.length_range] at this
    exact this
  · have hz : ∀ j, (Array.replicate ops.size false).getD j false = false := by
      intro j
      rw [Array.getD_eq_getD_getElem?, Array.getElem?_replicate]
      split <;> rfl
    refine ⟨by simp [hn], ?_, .inr ⟨hz n, hR, vals0, hv0, rfl, ?_⟩⟩
    · intro i o _ hl
      rw [hz i] at hl
      cases hl
    · intro j hj
      rw [hz j] at hj
      cases hj

end Go.Proofs.Ytphkchjejbffeaa

/- What the operations yield of a region that makes a message and hands it in. -/
namespace Go.Proofs.Ytphkchjejbffeaa
open Go.RowKit

inductive RgK where
  | val (x : Value)
  | bytes (l : List UInt8)
  | rows (l : List UInt8) (n : Nat)
  | own (l : List UInt8)

/-- What is said of a value: behind the block B0. -/
def RgK.holds (B0 : Nat) : RgK → Value → World → Prop
  | .val x, v, _ => v = x
  | .bytes l, v, w => ∃ g, v = .slice (some ⟨g, 0, none⟩) l.length l.length ∧ w.heap[g]? = some (.cells (l.map B).toArray 5)
  | .rows l n, v, w => ∃ bl ps, v = .slice (some ⟨bl, 0, none⟩) n n ∧ ps.length = n ∧ w.heap[bl]? = some (.cells (ps.map Piece.val).toArray 28) ∧
      (∀ p ∈ ps, p.o = 0 ∧ w.heap[p.b]? = some (.cells (p.l.map B).toArray 5)) ∧ cat ps = l
  | .own l, v, w => Own w B0 v l

theorem heap_lt {w : World} {g : Nat} {o : Obj} (h : w.heap[g]? = some o) : g < w.heap.size := (Array.getElem?_eq_some_iff.1 h).1
theorem RgK.keep {B0 : Nat} {k : RgK} {v : Value} {w w' : World} (h : k.holds B0 v w) (hb : Below w.heap.size w w') : k.holds B0 v w' := by
  cases k with
  | val x => exact h
  | bytes l =>
    obtain ⟨g, h1, h2⟩ := h
    exact ⟨g, h1, (hb.block g (heap_lt h2)).trans h2⟩
  | rows l n =>
    obtain ⟨bl, ps, h1, h2, h3, h4, h5⟩ := h
    exact ⟨bl, ps, h1, h2, (hb.block bl (heap_lt h3)).trans h3, fun p hp => ⟨(h4 p hp).1, (hb.block p.b (heap_lt (h4 p hp).2)).trans (h4 p hp).2⟩, h5⟩
  | own l => exact Own.below h hb

def rgV (B0 : Nat) (ks : List RgK) (j : Nat) (v : Value) (w : World) : Prop := ∀ k, ks[j]? = some k → k.holds B0 v w
theorem rgV_keep {B0 : Nat} {ks : List RgK} {w w' : World} (hb : Below w.heap.size w w') (j : Nat) (u : Value) (h : rgV B0 ks j u w) : rgV B0 ks j u w' := fun k hk => RgK.keep (h k hk) hb
theorem rgV_mk {B0 : Nat} {ks : List RgK} {j : Nat} {k : RgK} {v : Value} {w : World} (hk : ks[j]? = some k) (h : k.holds B0 v w) : rgV B0 ks j v w := fun k' hk' => by
  rw [hk] at hk'
  cases hk'
  exact h

/-- A frame that is written out, parted. -/
theorem wp_region_parted {P : Program} {id : Nat} {ops : Array Oper} {Q : Exit → Go.Act → World → Prop} (lo n : Nat) (A : List Value) {df : List Deferred} {w : World}
    (h : (Code.region id ops true).wp P Q (RgFrame (A.take lo) ((A.drop lo).take (n + 1)) (A.drop (lo + (n + 1))) df) w) : (Code.region id ops true).wp P Q ⟨A.toArray, df⟩ w := by
  have e : RgFrame (A.take lo) ((A.drop lo).take (n + 1)) (A.drop (lo + (n + 1))) df = ⟨A.toArray, df⟩ := by
    unfold RgFrame
    rw [List.append_assoc, ← List.drop_drop, List.take_append_drop, List.take_append_drop]
  rw [← e]
  exact h

end Go.Proofs.Ytphkchjejbffeaa

/- How the laws' arguments come in: acts in memory. -/
namespace Go.Proofs.Ytphkchjejbffeaa
open Go.ChangeShapes Go.WideShapes Go.ChangeAt Go.RowKit Go.Deep

theorem own : ownKnob Try.prog.godebug = none := by kernel_rfl
theorem laidOut : laidOutB Try.prog = true := by kernel_rfl
theorem Try.cells49 : Try.prog.cellsOf 49 = 7 := by kernel_rfl
theorem Try.cells3 : Try.prog.cellsOf 3 = 1 := by kernel_rfl
theorem Try.bytes49 : Try.prog.bytesOf 49 = 56 := by kernel_rfl

theorem list7 {α : Type} (l : List α) (h : l.length = 7) : ∃ a b c d e f g, l = [a, b, c, d, e, f, g] := by
  match l, h with
  | [a, b, c, d, e, f, g], _ => exact ⟨a, b, c, d, e, f, g, rfl⟩

theorem wf_i64 {x : Int} (h : (Lit.int .i64 x).wf = true) : I64 x := by
  simp [Lit.wf, IntKind.min, IntKind.max, IntKind.signed, IntKind.bits] at h
  unfold I64
  omega

theorem one_int {H : Type} {enc : TypeId × Value → H} {W : World} {base : Nat} {sp : Nat → Bool} {held : Bool} {n : Nat} {v : Value} {x : DataW H × List MemPlace}
    (h : DataW.trod enc Try.prog W base sp held n 3 [v] = some x) : ∃ y : Int, v = .int .i64 y ∧ I64 y := by
  obtain ⟨y, e, -, wy⟩ := DataW.trod_int Try.underlying3 h
  simp at e
  exact ⟨y, e, wf_i64 wy⟩

theorem open_act {H : Type} {enc : TypeId × Value → H} {W : World} {base : Nat} {sp : Nat → Bool} {held : Bool} {n : Nat} {cs : List Value} {x : DataW H × List MemPlace}
    (h : DataW.trod enc Try.prog W base sp held n 49 cs = some x) : ∃ a : Act, a.ok ∧ cs = a.cells.toList := by
  obtain ⟨xs, m, -, -, hl, hlen, hf⟩ := DataW.trod_struct Try.underlying49 h
  rw [Try.cells49] at hl
  obtain ⟨v0, v1, v2, v3, v4, v5, v6, rfl⟩ := list7 cs hl
  obtain ⟨y0, y1, y2, y3, y4, y5, y6, rfl⟩ := list7 xs hlen
  have f0 : DataW.trod enc Try.prog W base sp held m 3 (([v0, v1, v2, v3, v4, v5, v6].drop 0).take (Try.prog.cellsOf 3)) = some y0 := hf 0 _ rfl
  have f1 : DataW.trod enc Try.prog W base sp held m 3 (([v0, v1, v2, v3, v4, v5, v6].drop 1).take (Try.prog.cellsOf 3)) = some y1 := hf 1 _ rfl
  have f2 : DataW.trod enc Try.prog W base sp held m 3 (([v0, v1, v2, v3, v4, v5, v6].drop 2).take (Try.prog.cellsOf 3)) = some y2 := hf 2 _ rfl
  have f3 : DataW.trod enc Try.prog W base sp held m 3 (([v0, v1, v2, v3, v4, v5, v6].drop 3).take (Try.prog.cellsOf 3)) = some y3 := hf 3 _ rfl
  have f4 : DataW.trod enc Try.prog W base sp held m 3 (([v0, v1, v2, v3, v4, v5, v6].drop 4).take (Try.prog.cellsOf 3)) = some y4 := hf 4 _ rfl
  have f5 : DataW.trod enc Try.prog W base sp held m 3 (([v0, v1, v2, v3, v4, v5, v6].drop 5).take (Try.prog.cellsOf 3)) = some y5 := hf 5 _ rfl
  have f6 : DataW.trod enc Try.prog W base sp held m 3 (([v0, v1, v2, v3, v4, v5, v6].drop 6).take (Try.prog.cellsOf 3)) = some y6 := hf 6 _ rfl
  rw [Try.cells3] at f0 f1 f2 f3 f4 f5 f6
  obtain ⟨a0, rfl, b0⟩ := one_int (v := v0) f0
  obtain ⟨a1, rfl, b1⟩ := one_int (v := v1) f1
  obtain ⟨a2, rfl, b2⟩ := one_int (v := v2) f2
  obtain ⟨a3, rfl, b3⟩ := one_int (v := v3) f3
  obtain ⟨a4, rfl, b4⟩ := one_int (v := v4) f4
  obtain ⟨a5, rfl, b5⟩ := one_int (v := v5) f5
  obtain ⟨a6, rfl, b6⟩ := one_int (v := v6) f6
  exact ⟨⟨a0, a1, a2, a3, a4, a5, a6⟩, ⟨b0, b1, b2, b3, b4, b5, b6⟩, rfl⟩

theorem mapM_get {α β : Type} (f : α → Option β) : ∀ (l : List α) (r : List β), l.mapM f = some r → ∀ (i : Nat) (a : α), l[i]? = some a → ∃ b, r[i]? = some b ∧ f a = some b := by
  intro l
  induction l with
  | nil => intro r _ i a h; simp at h
  | cons x l ih =>
    intro r h i a hi
    rw [List.mapM_cons] at h
    cases hx : f x with
    | none => rw [hx] at h; cases h
    | some b =>
      rw [hx] at h
      cases hl : l.mapM f with
      | none => rw [hl] at h; cases h
      | some r' =>
        rw [hl] at h
        cases h
        cases i with
        | zero => simp at hi; subst hi; exact ⟨b, rfl, hx⟩
        | succ i => simp at hi; obtain ⟨c, h1, h2⟩ := ih r' hl i a hi; exact ⟨c, by simpa using h1, h2⟩

theorem add_add (a : Addr) (i j : Nat) : a.add (i + j) = (a.add i).add j := by
  obtain ⟨b, o, s⟩ := a
  by_cases hi : i = 0
  · subst hi; simp [Addr.add]
  · by_cases hj : j = 0
    · subst hj; simp [Addr.add]
    · simp only [Addr.add, if_neg hi, if_neg hj, if_neg (by omega : ¬ i + j = 0)]
      congr 1
      omega

theorem open_acts {H : Type} {enc : TypeId × Value → H} {W : World} {n : Nat} {a : Option Addr} {len cap : Nat} {x : DataW H × List MemPlace} {sp : Nat → Bool} {held : Bool}
    (h : DataW.trod enc Try.prog W 0 sp held n 40 [.slice a len cap] = some x) :
    ∃ l : List Act, ActsAt W (.slice a len cap) l ∧ ((l = [] ∧ x.1 = .nil) ∨ ∃ es spare, x.1 = .slice es spare ∧ es.length = l.length) := by
  rcases open_slice Try.underlying40 h with ⟨h1, h2⟩ | ⟨ad, len', cap', m, k, D, Pl, h1, h2, h3, h4, h5, h6, h7⟩
  · simp at h1
    obtain ⟨rfl, rfl, rfl⟩ := h1
    exact ⟨[], .inl ⟨_, _, rfl, rfl⟩, .inl ⟨rfl, by rw [h2]⟩⟩
  · simp at h1
    obtain ⟨rfl, rfl, rfl⟩ := h1
    have hm : len ≤ m := by rw [h5]; split <;> omega
    have hel : ∀ i, i < len → ∃ b : Act, b.ok ∧ ∀ j u, b.cells[j]? = some u → W.cell? (ad.add (i * 7 + j)) = some u := by
      intro i hi
      obtain ⟨cs, hc, ht⟩ := h7 i (by omega)
      obtain ⟨b, hb, rfl⟩ := open_act ht
      refine ⟨b, hb, ?_⟩
      intro j u hu
      rw [Try.cells49] at hc
      unfold World.cells? at hc
      rw [if_pos (Nat.zero_le _)] at hc
      have hj : j < 7 := by
        rcases Nat.lt_or_ge j 7 with h' | h'
        · exact h'
        · rw [Array.getElem?_eq_none (by simpa [Act.cells] using h')] at hu; cases hu
      obtain ⟨c, hc1, hc2⟩ := mapM_get _ _ _ hc j j (by rw [List.getElem?_range hj])
      have : c = u := by
        have hu' : b.cells.toList[j]? = some u := by simpa using hu
        rw [hu'] at hc1
        exact (Option.some.inj hc1).symm
      subst this
      rw [← hc2, add_add]
    rcases Nat.eq_zero_or_pos len with h0 | h0
    · subst h0
      exact ⟨[], .inl ⟨_, _, rfl, rfl⟩, .inr ⟨_, _, by rw [h6], by simp⟩⟩
    · have : Inhabited Act := ⟨⟨0, 0, 0, 0, 0, 0, 0⟩⟩
      obtain ⟨f, hf⟩ := choose_lt hel
      obtain ⟨blk, off, spot⟩ := ad
      have hsp : spot = none := by
        have := (hf 0 h0).2 0 _ rfl
        simpa [Addr.add] using World.cell?_spot this
      subst hsp
      have hblk : blk < W.heap.size := by
        have := (hf 0 h0).2 0 _ rfl
        simpa [Addr.add] using World.block_lt_of_cell? W _ this
      have hl : ((List.range len).map f).length = len := by simp
      refine ⟨(List.range len).map f, .inr ⟨blk, off, cap, by rw [hl], hblk, by rw [hl]; unfold maxLen at h4; omega, ?_⟩, .inr ⟨_, _, by rw [h6], by simp⟩⟩
      intro i b hb
      rw [List.getElem?_map, Option.map_eq_some_iff] at hb
      obtain ⟨i', hi', rfl⟩ := hb
      have hil : i < len := by
        rcases Nat.lt_or_ge i len with h' | h'
        · exact h'
        · rw [List.getElem?_eq_none (by simpa using h')] at hi'; cases hi'
      rw [List.getElem?_range hil] at hi'
      cases hi'
      refine ⟨(hf i hil).1, ?_⟩
      intro j u hu
      have := (hf i hil).2 j u hu
      rw [Addr.add_lit] at this
      rw [Nat.add_assoc]; exact this

end Go.Proofs.Ytphkchjejbffeaa

/- How the laws' arguments come in: whole numbers in memory, and how much there may be. -/
namespace Go.Proofs.Ytphkchjejbffeaa
open Go.ChangeShapes Go.WideShapes Go.ChangeAt Go.RowKit Go.Deep

theorem mapM_len {α β : Type} (f : α → Option β) : ∀ (l : List α) (r : List β), l.mapM f = some r → r.length = l.length := by
  intro l
  induction l with
  | nil => intro r h; simp at h; subst h; rfl
  | cons x l ih =>
    intro r h
    rw [List.mapM_cons] at h
    cases hx : f x with
    | none => rw [hx] at h; cases h
    | some b =>
      rw [hx] at h
      cases hl : l.mapM f with
      | none => rw [hl] at h; cases h
      | some r' =>
        rw [hl] at h
        cases h
        simp [ih r' hl]

/-- Whole numbers that may be read. -/
def IntsAt (w : World) (v : Value) (l : List Int) : Prop :=
  ∃ ra rc, v = .slice ra l.length rc ∧ l.length ≤ 9223372036854775807 ∧
    ∀ (i : Nat) (a : Int), l[i]? = some a → I64 a ∧ ∃ g o, ra = some ⟨g, o, none⟩ ∧ g < w.heap.size ∧ w.cell? ⟨g, o + i, none⟩ = some (.int .i64 a)

theorem open_ints {H : Type} {enc : TypeId × Value → H} {W : World} {n : Nat} {a : Option Addr} {len cap : Nat} {x : DataW H × List MemPlace} {sp : Nat → Bool} {held : Bool}
    (h : DataW.trod enc Try.prog W 0 sp held n 22 [.slice a len cap] = some x) :
    ∃ l : List Int, IntsAt W (.slice a len cap) l ∧ ((l = [] ∧ x.1 = .nil) ∨ ∃ es spare, x.1 = .slice es spare ∧ es.length = l.length) := by
  rcases open_slice Try.underlying22 h with ⟨h1, h2⟩ | ⟨ad, len', cap', m, k, D, Pl, h1, h2, h3, h4, h5, h6, h7⟩
  · simp at h1
    obtain ⟨rfl, rfl, rfl⟩ := h1
    exact ⟨[], ⟨_, _, rfl, by simp, fun i a h => by simp at h⟩, .inl ⟨rfl, by rw [h2]⟩⟩
  · simp at h1
    obtain ⟨rfl, rfl, rfl⟩ := h1
    have hm : len ≤ m := by rw [h5]; split <;> omega
    have hel : ∀ i, i < len → ∃ b : Int, I64 b ∧ W.cell? (ad.add i) = some (.int .i64 b) := by
      intro i hi
      obtain ⟨cs, hc, ht⟩ := h7 i (by omega)
      rw [Try.cells3] at hc
      unfold World.cells? at hc
      rw [if_pos (Nat.zero_le _)] at hc
      obtain ⟨c, hc1, hc2⟩ := mapM_get _ _ _ hc 0 0 rfl
      have hcl : cs = [c] := by
        have hl : cs.length = 1 := mapM_len _ _ _ hc
        match cs, hl with
        | [y], _ => simp at hc1; rw [hc1]
      subst hcl
      obtain ⟨y, rfl, hy⟩ := one_int ht
      refine ⟨y, hy, ?_⟩
      rw [← hc2, Nat.mul_one]
      simp [Addr.add]
    rcases Nat.eq_zero_or_pos len with h0 | h0
    · subst h0
      exact ⟨[], ⟨_, _, rfl, by simp, fun i a h => by simp at h⟩, .inr ⟨_, _, by rw [h6], by simp⟩⟩
    · obtain ⟨f, hf⟩ := choose_lt hel
      obtain ⟨blk, off, spot⟩ := ad
      have hsp : spot = none := by
        have := (hf 0 h0).2
        simpa [Addr.add] using World.cell?_spot this
      subst hsp
      have hblk : blk < W.heap.size := by
        have := (hf 0 h0).2
        simpa [Addr.add] using World.block_lt_of_cell? W _ this
      have hl : ((List.range len).map f).length = len := by simp
      refine ⟨(List.range len).map f, ⟨some ⟨blk, off, none⟩, cap, by rw [hl], by rw [hl]; unfold maxLen at h4; omega, ?_⟩, .inr ⟨_, _, by rw [h6], by simp⟩⟩
      intro i b hb
      rw [List.getElem?_map, Option.map_eq_some_iff] at hb
      obtain ⟨i', hi', rfl⟩ := hb
      have hil : i < len := by
        rcases Nat.lt_or_ge i len with h' | h'
        · exact h'
        · rw [List.getElem?_eq_none (by simpa using h')] at hi'; cases hi'
      rw [List.getElem?_range hil] at hi'
      cases hi'
      refine ⟨(hf i hil).1, blk, off, rfl, hblk, ?_⟩
      have := (hf i hil).2
      rw [Addr.add_lit] at this
      exact this

theorem bulk_one {H : Type} (d : DataW H) : 1 ≤ Rows.uptoBulk d := by
  cases d with
  | lit l => cases l <;> simp [Rows.uptoBulk]
  | nil => simp [Rows.uptoBulk]
  | ptr d => simp [Rows.uptoBulk]
  | slice elems spare => simp [Rows.uptoBulk]
  | agg parts => simp [Rows.uptoBulk]
  | iface t d => simp [Rows.uptoBulk]
  | map entries => simp [Rows.uptoBulk]
  | held h => simp [Rows.uptoBulk]
theorem bulk_len {H : Type} (l : List (DataW H)) : l.length ≤ Rows.uptoBulkAll l := by
  induction l with
  | nil => simp [Rows.uptoBulkAll]
  | cons x r ih => have := bulk_one x; simp only [Rows.uptoBulkAll, List.length_cons]; omega
theorem bulk_slice {H : Type} (elems spare : List (DataW H)) : elems.length ≤ Rows.uptoBulk (.slice elems spare) := by
  have h1 := bulk_len elems
  simp only [Rows.uptoBulk]
  omega
theorem bulk_part {H : Type} {d : DataW H} {l : List (DataW H)} (h : d ∈ l) : Rows.uptoBulk d ≤ Rows.uptoBulkAll l := by
  induction l with
  | nil => cases h
  | cons x r ih =>
    simp only [Rows.uptoBulkAll]
    cases List.mem_cons.1 h with
    | inl e => subst e; omega
    | inr e => have := ih e; omega
theorem bulk_bound {H : Type} {l : List (DataW H)} (hk : Rows.uptoSmall H l = true) : Rows.uptoBulkAll l ≤ 1048576 := of_decide_eq_true hk

end Go.Proofs.Ytphkchjejbffeaa
