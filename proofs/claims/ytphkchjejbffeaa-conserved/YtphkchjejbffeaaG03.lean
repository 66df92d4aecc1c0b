/- The walk of boursekeep's House.act. -/
import Derived.Test.YtphkchjejbffeaaG02
import Derived.Deep.RegionHeld3
import Derived.Deep.DrawnRows
import Derived.Maps.AppendAt
import Derived.Laws.AppendOwnNone
import Derived.BigQuiet
import Derived.Deep.QuietTactic
namespace Go.Proofs.Ytphkchjejbffeaa
open Go.RowKit
attribute [local go_sem ↓] Go.wp_at_zero Go.wp_at_succ

/-- What an act does to the bourse. -/
def St.done (st : St) (a : Act) : St := if pick a.kind 11 = 10 then st.tick (pick a.price 100) else st.feed a.message

set_option maxHeartbeats 600000 in
theorem act_tick {At : World → Nat → (Nat → Prop) → St → Prop} (api : Api At) (hb b : Nat) (G : Nat → Prop) (vo vt : Value) (st : St) (out tape : List UInt8) (a : Act) (w : World)
    (hh : House At w hb b G vo vt st out tape) (ha : a.ok) (hk : pick a.kind 11 = 10) :
    Calls Try.prog 22 #[.pointer (some ⟨hb, 0, none⟩), .agg a.cells] w fun e w' =>
      e = .returned (.bool true) ∧ House At w' hb b G vo vt (st.tick (pick a.price 100)) out tape ∧ Fr (HF hb G vo vt) w w' := by
  obtain ⟨kind, token, other, side, stock, price, shares⟩ := a
  obtain ⟨⟨k1, k2⟩, ⟨t1, t2⟩, ⟨o1, o2⟩, ⟨s1, s2⟩, ⟨c1, c2⟩, ⟨p1, p2⟩, ⟨q1, q2⟩⟩ := ha
  simp only [Act.cells] at *
  have b1 := pick_lt price 100 (by omega)
  have hc := cell_of_row w hb 0 _ 30 (0, 0) hh.cell
  simp only [List.getElem?_toArray, List.getElem?_cons_zero] at hc
  have hlt : hb < w.heap.size := (Array.getElem?_eq_some_iff.1 hh.cell).1
  have HH := Hid.mk hh
  clear hh
  go_enter Try.func22, Try.ntmps22
  go_wp2_with (go_at_call 11; refine (pick_any _ _ _ (by assumption) (by assumption) (by decide) (by decide)).mono ?_; rintro e w' ⟨rfl, rfl⟩)
  generalize hBo : Obj.cells _ 49 = Bo
  have hc' : (w.alloc Bo).cell? ⟨hb, 0, none⟩ = some (.pointer (some ⟨b, 0, none⟩)) := by rw [(Below.alloc (Below.refl _ w) (Nat.le_refl _) Bo).cell (p := ⟨hb, 0, none⟩) hlt, hc]
  have hd' : (w.alloc Bo).cell? ⟨w.heap.size, 5, none⟩ = some (.int .i64 price) := by subst hBo; rw [cell_of_row (w.alloc _) w.heap.size 5 _ 49 (0, 0) (by rw [heap_alloc, if_pos rfl])]; rfl
  have hat' : At (w.alloc Bo).drew b G st := api.keep HH.out.at_ (fun k hk => by rw [show (w.alloc Bo).drew.heap = (w.alloc Bo).heap from rfl, heap_alloc, if_neg (by have := api.lt HH.out.at_ k hk; omega)])
  have nG : ¬ G w.heap.size := fun h => by have := api.lt HH.out.at_ _ h; omega
  have nH : ¬ G hb := HH.out.hG
  clear hc hBo
  go_region_held3 (fun w' => w'.cell? ⟨hb, 0, none⟩ = some (.pointer (some ⟨b, 0, none⟩)) ∧ w'.cell? ⟨w.heap.size, 5, none⟩ = some (.int .i64 price))
    (first | go_keep | exact ⟨m1, m2⟩)
    (first
      | (go_at_call 11; refine (pick_any price 100 _ p1 p2 (by decide) (by decide)).mono ?_; rintro e w' ⟨rfl, rfl⟩)
      | (go_at_call 34; refine (api.tick b G st (pick price 100 : Nat) _ hat' (by omega) (by omega)).mono ?_; rintro e w5 ⟨rfl, hat5, hfr⟩; have m1 := hfr.cell (o := 0) hc' nH; have m2 := hfr.cell (o := 5) hd' nG))
  all_goals go_wp2_with fail
  go_ret
  have hF : Fr G w w5 := ((Fr.alloc G w Bo).then (Fr.drew G _)).then hfr
  exact ⟨rfl, HH.out.step hat5 hF (fun k hk => .inl hk), hF.mono (fun k _ hk => .inr (.inl hk))⟩

end Go.Proofs.Ytphkchjejbffeaa

/- append of bytes that may be read onto bytes of the call's own, in one law. -/
namespace Go.Proofs.Ytphkchjejbffeaa
open Go.RowKit

theorem wpList_append_rd {w : World} {ops : Array Oper} {rest : List Oper} {o : Oper} {a : Go.Act} {Q : Exit → Go.Act → World → Prop} (hgd : o.guard = none) (s x : Operand)
    (ho : o.op = .call { callee := .builtin .append, args := #[s, x], argTypes := #[28, 28] })
    (base : Nat) (vo : Value) (out : List UInt8) (hs : a.eval s = vo) (hown : Own w base vo out) (vx : Value) (l : List UInt8) (hx : a.eval x = vx) (F : Nat → Prop) (hrd : Rd w F vx l)
    (hlen : out.length + l.length ≤ 140737488355328) (hbase : base ≤ w.heap.size)
    (h : ∀ ra n cap w', Own w' base (.slice ra n cap) (out ++ l) → w.grownBy w' vo.ownBlock → (Value.ownBlock (.slice ra n cap) = vo.ownBlock ∨ Value.ownBlock (.slice ra n cap) = some w.heap.size) → wpList Try.prog ops Q rest (a.put o.dst (.slice ra n cap)) w') :
    wpList Try.prog ops Q (o :: rest) a w := by
  obtain ⟨i0, hi, hz0, hz1, hz2⟩ := info_parts Try.info5
  rcases hrd with ⟨rfl, rfl⟩ | ⟨g, off, cap, rfl, hl, hc1, hc2, _, _⟩
  · refine wpList_append_own_none hgd s x 28 ho base 5 i0 1 Try.underlying28 hi vo _ _ hs hown hx ?_
    obtain ⟨ra, cap, rfl, _, _⟩ := hown.len
    exact h ra _ cap w (by rw [List.append_nil]; exact hown) ⟨rfl, rfl, rfl, Nat.le_refl _, fun _ _ _ => rfl⟩ (.inl rfl)
  · refine wpList_append_own_at w hgd s x 28 ho base 5 i0 (.int .u8 0) 1 1 Try.underlying28 hi hz0 hz1 hz2 rfl (by decide) vo _ _ hs hown ⟨g, off, none⟩ l.length cap (l.map B) hx (by simp) ?_ ?_ (by unfold maxLen; omega) (by omega) hbase ?_
    · intro j u hu
      rw [List.getElem?_map, Option.map_eq_some_iff] at hu
      obtain ⟨c, hc', rfl⟩ := hu
      rw [Addr.add_lit]
      exact hl j c hc'
    · intro u hu
      simp at hu
      obtain ⟨c, _, rfl⟩ := hu
      rfl
    · intro v' w' h2 h3 _ h5
      have h2' : Own w' base v' (out ++ l) := by
        unfold Own
        rw [List.length_append, List.map_append]
        exact h2
      obtain ⟨ra, cap, rfl, _, _⟩ := h2'.len
      exact h ra _ cap w' h2' h3 h5

theorem rd_one (w : World) (c : UInt8) (n : Int) (hn : n = c.toNat) (F : Nat → Prop) (hF : ¬ F w.heap.size) : Rd (w.alloc (.cells #[.int .u8 n] 5)) F (.slice (some ⟨w.heap.size, 0, none⟩) 1 1) [c] := by
  subst hn
  refine .inr ⟨w.heap.size, 0, 1, rfl, ?_, by simp, by unfold maxLen; omega, hF, by rw [size_alloc]; omega⟩
  intro j d hd
  cases j with
  | zero =>
    simp at hd
    subst hd
    rw [cell_of_row _ w.heap.size 0 _ 5 (0, 0) (by rw [heap_alloc, if_pos rfl])]
    rfl
  | succ j => simp at hd

/-- A row of cells that may be read, as a slice of m elements. -/
def RdRow (w : World) (size : Nat) (v : Value) (m : Nat) (xs : List Value) : Prop :=
  (v = .slice none 0 0 ∧ m = 0 ∧ xs = []) ∨ ∃ g o cap, v = .slice (some ⟨g, o, none⟩) m cap ∧ xs.length = m * size ∧ ∀ j u, xs[j]? = some u → w.cell? ⟨g, o + j, none⟩ = some u

theorem ownsRow_rd {w : World} {b : Nat} {e : TypeId} {size : Nat} {v : Value} {n : Nat} {xs : List Value} (h : w.ownsRow b e size v n xs) : RdRow w size v n xs := by
  rcases h.2 with ⟨h1, h2⟩ | ⟨g, cap, cur, h1, h2, h3, h4, h5, h6, h7⟩
  · refine .inl ⟨h1, h2, ?_⟩
    have := h.1
    rw [h2, Nat.zero_mul] at this
    exact List.length_eq_zero_iff.1 this
  · refine .inr ⟨g, 0, cap, h1, h.1, ?_⟩
    intro j u hu
    have := h.cells (g := g) (by rw [h1]; rfl) j u hu
    rwa [Addr.add_lit] at this

theorem ownsRow_len {w : World} {b : Nat} {e : TypeId} {size : Nat} {v : Value} {n : Nat} {xs : List Value} (h : w.ownsRow b e size v n xs) : ∃ a cap, v = .slice a n cap ∧ n ≤ cap ∧ cap ≤ maxLen := by
  rcases h.2 with ⟨h1, h2⟩ | ⟨g, cap, cur, h1, h2, h3, h4, h5, h6, h7⟩
  · exact ⟨none, 0, by rw [h1, h2], by omega, by unfold maxLen; omega⟩
  · exact ⟨_, cap, h1, h4, h5⟩

theorem ownsRow_keep {w w' : World} {b : Nat} {e : TypeId} {size : Nat} {v : Value} {n : Nat} {xs : List Value} (h : w.ownsRow b e size v n xs) (hk : ∀ g, v.ownBlock = some g → w'.heap[g]? = w.heap[g]?) : w'.ownsRow b e size v n xs := by
  refine ⟨h.1, ?_⟩
  rcases h.2 with h | ⟨g, cap, cur, h1, h2, h3, h4⟩
  · exact .inl h
  · exact .inr ⟨g, cap, cur, h1, h2, (hk g (by rw [h1]; rfl)).trans h3, h4⟩

theorem wpList_append_row {w : World} {ops : Array Oper} {rest : List Oper} {o : Oper} {a : Go.Act} {Q : Exit → Go.Act → World → Prop} (hgd : o.guard = none) (s x : Operand) (t : TypeId)
    (ho : o.op = .call { callee := .builtin .append, args := #[s, x], argTypes := #[t, t] })
    (base : Nat) (e : TypeId) (i : TypeInfo) (z : Value) (size bytes : Nat) (ht : Try.prog.underlying t = some (.slice e)) (hi : Try.prog.info? e = some i) (hz : i.zero = some z)
    (hsize : i.size = size) (hby : i.bytes = bytes) (hzs : z.cells.size = size) (hsz : 0 < size)
    (vo : Value) (n : Nat) (xs : List Value) (hs : a.eval s = vo) (hown : w.ownsRow base e size vo n xs) (vx : Value) (m : Nat) (ys : List Value) (hx : a.eval x = vx) (hrd : RdRow w size vx m ys) (h1 : ∀ u ∈ ys, u.oneCell' = true)
    (h63 : n + m ≤ maxLen) (hbytes : (n + m) * bytes ≤ 140737488355328) (hbase : base ≤ w.heap.size)
    (h : ∀ ra cap w', w'.ownsRow base e size (.slice ra (n + m) cap) (n + m) (xs ++ ys) → w.grownBy w' vo.ownBlock → (Value.ownBlock (.slice ra (n + m) cap) = vo.ownBlock ∨ Value.ownBlock (.slice ra (n + m) cap) = some w.heap.size) → wpList Try.prog ops Q rest (a.put o.dst (.slice ra (n + m) cap)) w') :
    wpList Try.prog ops Q (o :: rest) a w := by
  rcases hrd with ⟨rfl, rfl, rfl⟩ | ⟨g, off, cap, rfl, hl, hc⟩
  · refine wpList_append_own_none hgd s x t ho base e i size ht hi vo _ _ hs hown hx ?_
    obtain ⟨ra, cap, rfl, _, _⟩ := ownsRow_len hown
    exact h ra cap w (by rw [List.append_nil]; exact hown) ⟨rfl, rfl, rfl, Nat.le_refl _, fun _ _ _ => rfl⟩ (.inl rfl)
  · refine wpList_append_own_at w hgd s x t ho base e i z size bytes ht hi hz hsize hby hzs hsz vo _ _ hs hown ⟨g, off, none⟩ m cap ys hx hl ?_ h1 h63 hbytes hbase ?_
    · intro j u hu
      rw [Addr.add_lit]
      exact hc j u hu
    · intro v' w' h2 h3 _ h5
      obtain ⟨ra, cap, rfl, _, _⟩ := ownsRow_len h2
      exact h ra cap w' h2 h3 h5

end Go.Proofs.Ytphkchjejbffeaa

/- The walk of boursekeep's House.act where a message comes. -/
namespace Go.Proofs.Ytphkchjejbffeaa
open Go.RowKit
attribute [local go_sem ↓] Go.wp_at_zero Go.wp_at_succ

theorem cells7 {W : World} {k : Nat} {T : TypeId} {v0 v1 v2 v3 v4 v5 v6 : Value} (h : W.heap[k]? = some (.cells #[v0, v1, v2, v3, v4, v5, v6] T)) :
    W.cell? ⟨k, 0, none⟩ = some v0 ∧ W.cell? ⟨k, 1, none⟩ = some v1 ∧ W.cell? ⟨k, 2, none⟩ = some v2 ∧ W.cell? ⟨k, 3, none⟩ = some v3 ∧ W.cell? ⟨k, 4, none⟩ = some v4 ∧ W.cell? ⟨k, 5, none⟩ = some v5 ∧ W.cell? ⟨k, 6, none⟩ = some v6 := by
  refine ⟨?_, ?_, ?_, ?_, ?_, ?_, ?_⟩ <;> (rw [cell_of_row W k _ _ T (0, 0) h]; rfl)

theorem House.setOut {At : World → Nat → (Nat → Prop) → St → Prop} (api : Api At) {w w' : World} {hb b : Nat} {G : Nat → Prop} {vo vt v' : Value} {st : St} {out out' tape : List UInt8}
    (h : House At w hb b G vo vt st out tape) (hown : Own w' 0 v' out') (hg : w.grownBy w' vo.ownBlock) (hv : v'.ownBlock = vo.ownBlock ∨ v'.ownBlock = some w.heap.size) :
    House At (w'.setCell ⟨hb, 1, none⟩ v') hb b G v' vt st out' tape ∧ w'.heap[hb]? = some (.cells #[.pointer (some ⟨b, 0, none⟩), vo, vt] 30) := by
  have hlt : hb < w.heap.size := (Array.getElem?_eq_some_iff.1 h.cell).1
  have hc : w'.heap[hb]? = some (.cells #[.pointer (some ⟨b, 0, none⟩), vo, vt] 30) := (hg.block hb hlt (fun e => (h.ho hb e.symm).2 rfl)).trans h.cell
  have hv' : ∀ g, v'.ownBlock = some g → ¬ G g ∧ g ≠ hb ∧ vt.ownBlock ≠ some g := by
    intro g hgg
    rcases hv with hv | hv
    · rw [hv] at hgg; exact ⟨(h.ho g hgg).1, (h.ho g hgg).2, h.hot g hgg⟩
    · rw [hv] at hgg; cases hgg
      exact ⟨fun hk => by have := api.lt h.at_ _ hk; omega, by omega, fun hk => by have := (h.tape.lt _ hk).2; omega⟩
  have hkeep : ∀ k, k < w.heap.size → some k ≠ vo.ownBlock → k ≠ hb → (w'.setCell ⟨hb, 1, none⟩ v').heap[k]? = w.heap[k]? := fun k h1 h2 h3 =>
    (Below.heap_setCell _ _ _ _ h3).trans (hg.block k h1 h2)
  refine ⟨⟨?_, ?_, ?_, ?_, h.hG, fun g hgg => ⟨(hv' g hgg).1, (hv' g hgg).2.1⟩, h.ht, fun g hgg => (hv' g hgg).2.2⟩, hc⟩
  · rw [heap_setCell_same w' hb 1 _ _ v' hc]; rfl
  · exact api.keep h.at_ (fun k hk => hkeep k (api.lt h.at_ k hk) (fun e => (h.ho k e.symm).1 hk) (fun e => h.hG (e ▸ hk)))
  · exact hown.keep (fun g hgg => Below.heap_setCell _ _ _ _ (hv' g hgg).2.1)
  · exact h.tape.keep (fun g hgg => hkeep g (h.tape.lt g hgg).2 (fun e => h.hot g e.symm hgg) (h.ht g hgg).2)

theorem House.setTape {At : World → Nat → (Nat → Prop) → St → Prop} (api : Api At) {w w' : World} {hb b : Nat} {G : Nat → Prop} {vo vt v' : Value} {st : St} {out tape tape' : List UInt8}
    (h : House At w hb b G vo vt st out tape) (hown : Own w' 0 v' tape') (hg : w.grownBy w' vt.ownBlock) (hv : v'.ownBlock = vt.ownBlock ∨ v'.ownBlock = some w.heap.size) :
    House At (w'.setCell ⟨hb, 2, none⟩ v') hb b G vo v' st out tape' ∧ w'.heap[hb]? = some (.cells #[.pointer (some ⟨b, 0, none⟩), vo, vt] 30) := by
  have hlt : hb < w.heap.size := (Array.getElem?_eq_some_iff.1 h.cell).1
  have hc : w'.heap[hb]? = some (.cells #[.pointer (some ⟨b, 0, none⟩), vo, vt] 30) := (hg.block hb hlt (fun e => (h.ht hb e.symm).2 rfl)).trans h.cell
  have hv' : ∀ g, v'.ownBlock = some g → ¬ G g ∧ g ≠ hb ∧ vo.ownBlock ≠ some g := by
    intro g hgg
    rcases hv with hv | hv
    · rw [hv] at hgg; exact ⟨(h.ht g hgg).1, (h.ht g hgg).2, fun e => h.hot g e hgg⟩
    · rw [hv] at hgg; cases hgg
      exact ⟨fun hk => by have := api.lt h.at_ _ hk; omega, by omega, fun hk => by have := (h.out.lt _ hk).2; omega⟩
  have hkeep : ∀ k, k < w.heap.size → some k ≠ vt.ownBlock → k ≠ hb → (w'.setCell ⟨hb, 2, none⟩ v').heap[k]? = w.heap[k]? := fun k h1 h2 h3 =>
    (Below.heap_setCell _ _ _ _ h3).trans (hg.block k h1 h2)
  refine ⟨⟨?_, ?_, ?_, ?_, h.hG, h.ho, fun g hgg => ⟨(hv' g hgg).1, (hv' g hgg).2.1⟩, fun g hgg e => (hv' g e).2.2 hgg⟩, hc⟩
  · rw [heap_setCell_same w' hb 2 _ _ v' hc]; rfl
  · exact api.keep h.at_ (fun k hk => hkeep k (api.lt h.at_ k hk) (fun e => (h.ht k e.symm).1 hk) (fun e => h.hG (e ▸ hk)))
  · exact h.out.keep (fun g hgg => hkeep g (h.out.lt g hgg).2 (fun e => h.hot g hgg e.symm) (h.ho g hgg).2)
  · exact hown.keep (fun g hgg => Below.heap_setCell _ _ _ _ (hv' g hgg).2.1)

theorem cells3 {W : World} {k : Nat} {T : TypeId} {v0 v1 v2 : Value} (h : W.heap[k]? = some (.cells #[v0, v1, v2] T)) :
    W.cell? ⟨k, 0, none⟩ = some v0 ∧ W.cell? ⟨k, 1, none⟩ = some v1 ∧ W.cell? ⟨k, 2, none⟩ = some v2 ∧ W.frozen? ⟨k, 1, none⟩ = false ∧ W.frozen? ⟨k, 2, none⟩ = false := by
  refine ⟨?_, ?_, ?_, by simp [World.frozen?, h], by simp [World.frozen?, h]⟩ <;> (rw [cell_of_row W k _ _ T (0, 0) h]; rfl)

set_option maxHeartbeats 600000 in
theorem act_feed {At : World → Nat → (Nat → Prop) → St → Prop} (api : Api At) (hb b : Nat) (G : Nat → Prop) (vo vt : Value) (st : St) (out tape : List UInt8) (a : Act) (w : World)
    (hh : House At w hb b G vo vt st out tape) (ha : a.ok) (hk : pick a.kind 11 ≠ 10)
    (ho : out.length + (st.feed a.message).ans.length ≤ big) (ht : tape.length + (st.feed a.message).tape.length ≤ big) :
    Calls Try.prog 22 #[.pointer (some ⟨hb, 0, none⟩), .agg a.cells] w fun e w' => ∃ G' vo' vt',
      e = .returned (.bool true) ∧ House At w' hb b G' vo' vt' (st.feed a.message).told.taped (out ++ (st.feed a.message).ans) (tape ++ (st.feed a.message).tape) ∧
      (∀ k, HF hb G' vo' vt' k → HF hb G vo vt k ∨ w.heap.size ≤ k) ∧ Fr (HF hb G vo vt) w w' := by
  have hmsg := fun w => message_any a w ha
  generalize a.message = M at *
  obtain ⟨kind, token, other, side, stock, price, shares⟩ := a
  obtain ⟨⟨k1, k2⟩, -, -, -, -, -, -⟩ := ha
  simp only [Act.cells] at *
  have HMsg := Hid.mk hmsg
  have hk' : ((pick kind 11 : Nat) : Int) ≠ 10 := by omega
  have hk'' : (((pick kind 11 : Nat) : Int) == 10) = false := by simpa using hk'
  have HOL := Hid.mk ho
  have HTL := Hid.mk ht
  clear hk hk' hmsg ho ht
  have hc := cell_of_row w hb 0 _ 30 (0, 0) hh.cell
  simp only [List.getElem?_toArray, List.getElem?_cons_zero] at hc
  have hlt : hb < w.heap.size := (Array.getElem?_eq_some_iff.1 hh.cell).1
  have HH := Hid.mk hh
  clear hh
  go_enter Try.func22, Try.ntmps22
  go_wp2_with (go_at_call 11; refine (pick_any _ _ _ (by assumption) (by assumption) (by decide) (by decide)).mono ?_; rintro e w' ⟨rfl, rfl⟩)
  have hBB := Below.alloc (Below.refl _ w) (Nat.le_refl _) (Obj.cells #[.int .i64 kind, .int .i64 token, .int .i64 other, .int .i64 side, .int .i64 stock, .int .i64 price, .int .i64 shares] 49)
  have hd' : (w.alloc (Obj.cells #[.int .i64 kind, .int .i64 token, .int .i64 other, .int .i64 side, .int .i64 stock, .int .i64 price, .int .i64 shares] 49)).heap[w.heap.size]? = some (Obj.cells #[.int .i64 kind, .int .i64 token, .int .i64 other, .int .i64 side, .int .i64 stock, .int .i64 price, .int .i64 shares] 49) := by rw [heap_alloc, if_pos rfl]
  generalize hBo : Obj.cells _ 49 = Bo at *
  have hc' : (w.alloc Bo).cell? ⟨hb, 0, none⟩ = some (.pointer (some ⟨b, 0, none⟩)) := by rw [hBB.cell (p := ⟨hb, 0, none⟩) hlt, hc]
  have hat' : At (w.alloc Bo).drew b G st := api.keep (api.below HH.out.at_ hBB) (fun k hk => rfl)
  have ltG := api.lt HH.out.at_
  have nG : ¬ G w.heap.size := fun h => by have := ltG _ h; omega
  have nH : ¬ G hb := HH.out.hG
  have HBB := Hid.mk hBB
  have HD := Hid.mk hd'
  obtain ⟨d0, d1, d2, d3, d4, d5, d6⟩ := cells7 (hd'.trans (congrArg some hBo.symm))
  clear hc hBB hd'
  go_region_held3 (fun w' => w'.cell? ⟨hb, 0, none⟩ = some (.pointer (some ⟨b, 0, none⟩)) ∧ w'.cell? ⟨w.heap.size, 0, none⟩ = some (.int .i64 kind) ∧ w'.cell? ⟨w.heap.size, 1, none⟩ = some (.int .i64 token) ∧ w'.cell? ⟨w.heap.size, 2, none⟩ = some (.int .i64 other) ∧ w'.cell? ⟨w.heap.size, 3, none⟩ = some (.int .i64 side) ∧ w'.cell? ⟨w.heap.size, 4, none⟩ = some (.int .i64 stock) ∧ w'.cell? ⟨w.heap.size, 5, none⟩ = some (.int .i64 price) ∧ w'.cell? ⟨w.heap.size, 6, none⟩ = some (.int .i64 shares))
    (first | exact ⟨m1, cells7 (m2.trans (congrArg some hBo.symm))⟩ | exact ⟨n1, cells7 (n2.trans (congrArg some hBo.symm))⟩ | go_keep)
    (first
      | (go_at_call 21; refine (HMsg.out _).mono ?_; rintro e w1 ⟨v, rfl, hov, hb1⟩; have n1 : w1.cell? ⟨hb, 0, none⟩ = some (.pointer (some ⟨b, 0, none⟩)) := (hb1.cell (p := ⟨hb, 0, none⟩) (by simp; omega)).trans hc'; have n2 := (hb1.block w.heap.size (by simp)).trans HD.out; have hat1 := api.below hat' hb1)
      | (go_at_call 12; refine (api.feed b G st v M _ hat1 (hov.rd (fun g hg h => by have := ltG _ h; have := (hov.lt g hg).1; simp at this; omega)) (Nat.le_trans (Nat.le_add_left _ _) HOL.out) (Nat.le_trans (Nat.le_add_left _ _) HTL.out)).mono ?_; rintro e w2 ⟨G2, rfl, hat2, hG2, hfr2⟩; have m1 := hfr2.cell n1 nH; have m2 := (hfr2.block w.heap.size (by have := hb1.size; simp at this; omega) nG).trans n2))
  all_goals go_wp2_with fail
  have hF2 : Fr G w w2 := (((Fr.alloc G w Bo).then (Fr.drew G _)).then (Fr.of_below hb1 G)).then hfr2
  have z1 := hb1.size
  have H2 := HH.out.step hat2 hF2 (fun k hk => by
    rcases hG2 k hk with h | h
    · exact .inl h
    · right; rw [show (w.alloc Bo).drew.heap.size = w.heap.size + 1 from size_alloc w Bo] at z1; omega)
  have hG2' : ∀ k, G2 k → G k ∨ w.heap.size ≤ k := fun k hk => by
    rcases hG2 k hk with h | h
    · exact .inl h
    · right; rw [show (w.alloc Bo).drew.heap.size = w.heap.size + 1 from size_alloc w Bo] at z1; omega
  clear z1 m2 hfr2 hG2 hat2 hat1 n1 n2 hb1 hov d0 d1 d2 d3 d4 d5 d6 HD HBB nG hat' hc' hBo hk'' HMsg
  refine (api.answers b G2 _ w2 H2.at_).mono ?_
  rintro e w3 ⟨va, G3, rfl, hoa, hat3, hG3, hva, hfr3⟩
  have c3 := hfr3.cell m1 H2.hG
  have H3 := H2.step hat3 hfr3 hG3
  have HX := Hid.mk (And.intro hva (And.intro hG3 hfr3))
  clear hva hG3 hfr3 hat3
  go_wp2_with fail
  refine (api.tape b G3 _ w3 H3.at_).mono ?_
  rintro e w4 ⟨vp, G4, rfl, hop, hat4, hG4, hvp, hfr4⟩
  have H4 := H3.step hat4 hfr4 hG4
  have hoa4 : Own w4 0 va (st.feed M).ans := hoa.fr hfr4 (fun g hg => (HX.out.1 g hg).2)
  obtain ⟨e0, e1, e2, e3, e4⟩ := cells3 H4.cell
  have hra : Rd w4 (fun _ => False) va (st.feed M).ans := hoa4.rd (fun _ _ h => h)
  have hpa : ∀ g, vp.ownBlock = some g → g ≠ hb ∧ vo.ownBlock ≠ some g ∧ g < w4.heap.size := by
    intro g hg
    have l3 : hb < w3.heap.size := (Array.getElem?_eq_some_iff.1 H3.cell).1
    rcases (hvp g hg).1 with h | h
    · exact ⟨fun e => H3.hG (e ▸ h), fun e => (H3.ho g e).1 h, (hop.lt g hg).2⟩
    · exact ⟨by omega, fun e => by have := (H3.out.lt g e).2; omega, (hop.lt g hg).2⟩
  have HY := Hid.mk (And.intro hG4 hfr4)
  clear hvp hG4 hfr4 hat4 c3 hoa
  go_wp2_with (first
    | (at_builtin; refine wpList_append_rd rfl _ _ rfl 0 vo out rfl H4.out va (st.feed M).ans rfl (fun _ => False) hra (Nat.le_trans HOL.out (by decide)) (Nat.zero_le _) ?_; intro r5 n5 q5 w5 ho5 hg5 hv5; have H5 := H4.setOut api ho5 hg5 hv5; obtain ⟨f0, f1, f2, f3, f4⟩ := cells3 H5.2; obtain ⟨f5, f6, f7, f8, f9⟩ := cells3 H5.1.cell; have hrp : Rd (w5.setCell ⟨hb, 1, none⟩ (.slice r5 n5 q5)) (fun _ => False) vp (st.feed M).tape := (hop.keep (fun g hg => (Below.heap_setCell _ _ _ _ (hpa g hg).1).trans (hg5.block g (hpa g hg).2.2 (fun e => (hpa g hg).2.1 e.symm)))).rd (fun _ _ h => h))
    | (at_builtin; refine wpList_append_rd rfl _ _ rfl 0 vt tape rfl H5.1.tape vp (st.feed M).tape rfl (fun _ => False) hrp (Nat.le_trans HTL.out (by decide)) (Nat.zero_le _) ?_; intro r6 n6 q6 w6 ho6 hg6 hv6; have H6 := H5.1.setTape api ho6 hg6 hv6; obtain ⟨g0, g1, g2, g3, g4⟩ := cells3 H6.2))
  go_ret
  obtain ⟨hva, hG3, hfr3⟩ := HX.out
  obtain ⟨hG4, hfr4⟩ := HY.out
  have y2 := hF2.size
  have y3 := hfr3.size
  have y4 := hfr4.size
  have y5 := hg5.size
  have hG3' : ∀ k, G3 k → G k ∨ w.heap.size ≤ k := fun k hk => by
    rcases hG3 k hk with h | h
    · exact hG2' k h
    · right; omega
  have hG4' : ∀ k, G4 k → G k ∨ w.heap.size ≤ k := fun k hk => by
    rcases hG4 k hk with h | h
    · exact hG3' k h
    · right; omega
  refine ⟨G4, .slice r5 n5 q5, .slice r6 n6 q6, rfl, H6.1, ?_, ?_⟩
  · intro k hk
    rcases hk with rfl | hk | hk | hk
    · exact .inl (.inl rfl)
    · rcases hG4' k hk with h | h
      · exact .inl (.inr (.inl h))
      · exact .inr h
    · rcases hv5 with h | h
      · exact .inl (.inr (.inr (.inl (h ▸ hk))))
      · rw [h] at hk; cases hk; right; omega
    · rcases hv6 with h | h
      · exact .inl (.inr (.inr (.inr (h ▸ hk))))
      · rw [h] at hk; cases hk; right
        rw [World.size_setCell]; omega
  · have a2 : Fr (HF hb G vo vt) w w2 := hF2.mono (fun k _ h => .inr (.inl h))
    have a3 : Fr (HF hb G vo vt) w w3 := a2.trans hfr3 (fun k hk h => by
      rcases hG2' k h with h | h
      · exact .inr (.inl h)
      · omega)
    have a4 : Fr (HF hb G vo vt) w w4 := a3.trans hfr4 (fun k hk h => by
      rcases hG3' k h with h | h
      · exact .inr (.inl h)
      · omega)
    have a5 : Fr (HF hb G vo vt) w w5 := a4.trans (Fr.of_grown hg5) (fun k _ h => .inr (.inr (.inl h.symm)))
    have a6 := a5.trans (Fr.setCell w5 ⟨hb, 1, none⟩ (.slice r5 n5 q5)) (fun k _ h => .inl h)
    have a7 := a6.trans (Fr.of_grown hg6) (fun k _ h => .inr (.inr (.inr h.symm)))
    exact a7.trans (Fr.setCell w6 ⟨hb, 2, none⟩ (.slice r6 n6 q6)) (fun k _ h => .inl h)

end Go.Proofs.Ytphkchjejbffeaa

/- The walk of boursekeep's acts: a row of acts. -/
namespace Go.Proofs.Ytphkchjejbffeaa
open Go.RowKit

/-- A bourse, and all that went out of it. -/
structure Run where
  st : St
  out : List UInt8
  tape : List UInt8

def Run.act (x : Run) (a : Act) : Run :=
  if pick a.kind 11 = 10 then { x with st := x.st.tick (pick a.price 100) }
  else { st := (x.st.feed a.message).told.taped, out := x.out ++ (x.st.feed a.message).ans, tape := x.tape ++ (x.st.feed a.message).tape }
def Run.acts (x : Run) (l : List Act) : Run := l.foldl Run.act x
def started (pool : Int) : Run := { st := openSt (1 + pick pool 64), out := [], tape := [] }

theorem Run.act_out (x : Run) (a : Act) : x.out.length ≤ (x.act a).out.length ∧ x.tape.length ≤ (x.act a).tape.length := by
  unfold Run.act
  split <;> simp
theorem Run.acts_out (l : List Act) (x : Run) : x.out.length ≤ (x.acts l).out.length ∧ x.tape.length ≤ (x.acts l).tape.length := by
  induction l generalizing x with
  | nil => simp [Run.acts]
  | cons a l ih =>
    have h1 := x.act_out a
    have h2 := ih (x.act a)
    have : x.acts (a :: l) = (x.act a).acts l := rfl
    rw [this]
    omega
theorem Run.acts_snoc (x : Run) (l : List Act) (k : Nat) (a : Act) (h : l[k]? = some a) : x.acts (l.take (k + 1)) = (x.acts (l.take k)).act a := by
  have hk : k < l.length := by
    rcases Nat.lt_or_ge k l.length with h' | h'
    · exact h'
    · rw [List.getElem?_eq_none h'] at h; cases h
  rw [List.getElem?_eq_getElem hk] at h
  cases h
  rw [List.take_succ_eq_append_getElem hk]
  simp only [Run.acts, List.foldl_append, List.foldl_cons, List.foldl_nil]
theorem Run.acts_take (x : Run) (l : List Act) (k : Nat) : (x.acts (l.take k)).out.length ≤ (x.acts l).out.length ∧ (x.acts (l.take k)).tape.length ≤ (x.acts l).tape.length := by
  have h : x.acts l = (x.acts (l.take k)).acts (l.drop k) := by
    simp only [Run.acts]
    rw [← List.foldl_append, List.take_append_drop]
  rw [h]
  exact Run.acts_out _ _

/-- A house in which all that is as x says. -/
def HouseOf (At : World → Nat → (Nat → Prop) → St → Prop) (w : World) (hb b : Nat) (G : Nat → Prop) (vo vt : Value) (x : Run) : Prop := House At w hb b G vo vt x.st x.out x.tape

theorem act_any {At : World → Nat → (Nat → Prop) → St → Prop} (api : Api At) (hb b : Nat) (G : Nat → Prop) (vo vt : Value) (x : Run) (a : Act) (w : World)
    (hh : HouseOf At w hb b G vo vt x) (ha : a.ok) (ho : (x.act a).out.length ≤ big) (ht : (x.act a).tape.length ≤ big) :
    Calls Try.prog 22 #[.pointer (some ⟨hb, 0, none⟩), .agg a.cells] w fun e w' => ∃ G' vo' vt',
      e = .returned (.bool true) ∧ HouseOf At w' hb b G' vo' vt' (x.act a) ∧ (∀ k, HF hb G' vo' vt' k → HF hb G vo vt k ∨ w.heap.size ≤ k) ∧ Fr (HF hb G vo vt) w w' := by
  by_cases hk : pick a.kind 11 = 10
  · refine (act_tick api hb b G vo vt x.st x.out x.tape a w hh ha hk).mono ?_
    rintro e w' ⟨rfl, h1, h2⟩
    refine ⟨G, vo, vt, rfl, ?_, fun k hk => .inl hk, h2⟩
    unfold HouseOf Run.act
    rw [if_pos hk]
    exact h1
  · have e1 : x.act a = { st := (x.st.feed a.message).told.taped, out := x.out ++ (x.st.feed a.message).ans, tape := x.tape ++ (x.st.feed a.message).tape } := by
      unfold Run.act; rw [if_neg hk]
    rw [e1] at ho ht ⊢
    simp only [List.length_append] at ho ht
    exact act_feed api hb b G vo vt x.st x.out x.tape a w hh ha hk ho ht

/-- Acts that may be read. -/
def ActsAt (w : World) (v : Value) (l : List Act) : Prop :=
  (∃ ra rc, v = .slice ra 0 rc ∧ l = []) ∨ ∃ g o cap, v = .slice (some ⟨g, o, none⟩) l.length cap ∧ g < w.heap.size ∧ l.length ≤ 9223372036854775807 ∧
    ∀ i a, l[i]? = some a → a.ok ∧ ∀ j u, a.cells[j]? = some u → w.cell? ⟨g, o + i * 7 + j, none⟩ = some u

theorem ActsAt.below {w w' : World} {v : Value} {l : List Act} (h : ActsAt w v l) (hb : Below w.heap.size w w') : ActsAt w' v l := by
  rcases h with h | ⟨g, o, cap, h1, h2, h3, h4⟩
  · exact .inl h
  · exact .inr ⟨g, o, cap, h1, Nat.lt_of_lt_of_le h2 hb.size, h3, fun i a hi => ⟨(h4 i a hi).1, fun j u hu => (hb.cell (p := ⟨g, o + i * 7 + j, none⟩) h2).trans ((h4 i a hi).2 j u hu)⟩⟩

theorem act_cells (a : Act) {w : World} {g o : Nat} (h : ∀ (j : Nat) (u : Value), a.cells[j]? = some u → w.cell? ⟨g, o + j, none⟩ = some u) :
    w.cell? ⟨g, o, none⟩ = some (.int .i64 a.kind) ∧ w.cell? ⟨g, o + 1, none⟩ = some (.int .i64 a.token) ∧ w.cell? ⟨g, o + 2, none⟩ = some (.int .i64 a.other) ∧ w.cell? ⟨g, o + 3, none⟩ = some (.int .i64 a.side) ∧
    w.cell? ⟨g, o + 4, none⟩ = some (.int .i64 a.stock) ∧ w.cell? ⟨g, o + 5, none⟩ = some (.int .i64 a.price) ∧ w.cell? ⟨g, o + 6, none⟩ = some (.int .i64 a.shares) :=
  ⟨h 0 _ rfl, h 1 _ rfl, h 2 _ rfl, h 3 _ rfl, h 4 _ rfl, h 5 _ rfl, h 6 _ rfl⟩

set_option maxHeartbeats 600000 in
theorem acts_any {At : World → Nat → (Nat → Prop) → St → Prop} (api : Api At) (pool : Int) (v : Value) (l : List Act) (w : World) (h1 : -9223372036854775808 ≤ pool) (h2 : pool ≤ 9223372036854775807)
    (hl : ActsAt w v l) (ho : ((started pool).acts l).out.length ≤ big) (ht : ((started pool).acts l).tape.length ≤ big) :
    Calls Try.prog 18 #[.int .i64 pool, v] w fun e w' => ∃ hb b G vo vt,
      e = .returned (.tuple #[.pointer (some ⟨hb, 0, none⟩), .bool true]) ∧ HouseOf At w' hb b G vo vt ((started pool).acts l) ∧ (∀ k, HF hb G vo vt k → w.heap.size ≤ k) ∧ Below w.heap.size w w' := by
  have HOL := Hid.mk ho
  have HTL := Hid.mk ht
  have HO := Hid.mk (open_any api pool w h1 h2)
  clear ho ht
  rcases hl with ⟨ra, rc, rfl, rfl⟩ | ⟨g, o, cap, rfl, hg, hlen, hcs⟩
  · go_enter Try.func18, Try.ntmps18
    go_wp2_with fail
    refine HO.out.mono ?_
    rintro e w1 ⟨hb, b, G, vo, vt, rfl, hh, hF, hB⟩
    have HN := Hid.mk (And.intro hh (And.intro hF hB))
    clear hh hF hB
    go_wp2_with fail
    go_loopw [7, 8] (fun ok i wr => ok = .bool true ∧ i = .int .i64 0 ∧ wr = w1) (fun _ _ _ => 0)
    case atStart => exact ⟨rfl, rfl, rfl⟩
    case round =>
      obtain ⟨rfl, rfl, rfl⟩ := hrel
      go_wp2_with fail
      go_ret2
      exact ⟨hb, b, G, vo, vt, rfl, HN.out.1, HN.out.2.1, HN.out.2.2⟩
  · go_enter Try.func18, Try.ntmps18
    go_wp2_with fail
    refine HO.out.mono ?_
    rintro e w1 ⟨hb, b, G, vo, vt, rfl, hh, hF, hB⟩
    go_wp2_with fail
    go_loopw [7, 8] (fun ok i wr => ∃ (k : Nat) (G' : Nat → Prop) (vo' vt' : Value), k ≤ l.length ∧ ok = .bool true ∧ i = .int .i64 k ∧ HouseOf At wr hb b G' vo' vt' ((started pool).acts (l.take k)) ∧ (∀ j, HF hb G' vo' vt' j → w.heap.size ≤ j) ∧ Below w.heap.size w wr) (fun _ i _ => l.length - (intOf i).toNat)
    case atStart => exact ⟨0, G, vo, vt, Nat.zero_le _, rfl, rfl, hh, hF, hB⟩
    case round =>
      clear hh hF hB
      obtain ⟨k, G', vo', vt', hk, rfl, rfl, hh, hF, hB⟩ := hrel
      by_cases hlt : k < l.length
      · obtain ⟨a, hka⟩ : ∃ a, l[k]? = some a := ⟨_, List.getElem?_eq_getElem hlt⟩
        obtain ⟨hok, hca⟩ := hcs k a hka
        obtain ⟨d0, d1, d2, d3, d4, d5, d6⟩ := act_cells a (w := wr) (g := g) (o := o + k * 7) (fun j u hu => (hB.cell (p := ⟨g, o + k * 7 + j, none⟩) hg).trans (hca j u hu))
        have HS := Hid.mk ((started pool).acts_snoc l k a hka)
        have hle := (started pool).acts_take l (k + 1)
        rw [HS.out] at hle
        have HA := Hid.mk (act_any api hb b G' vo' vt' _ a wr hh hok (Nat.le_trans hle.1 HOL.out) (Nat.le_trans hle.2 HTL.out))
        have HN := Hid.mk (And.intro hh (And.intro hF hB))
        clear hh hF hB hle hcs hca
        have i1 : (0 : Int) ≤ (k : Int) := by omega
        have i2 : (k : Int) < (l.length : Int) := by omega
        go_wp2_with fail
        refine HA.out.mono ?_
        rintro e w2 ⟨G2, vo2, vt2, rfl, hh2, hF2, hfr⟩
        obtain ⟨hh, hF, hB⟩ := HN.out
        have HP := Hid.mk (And.intro (HS.out ▸ hh2) (And.intro (fun j hj => (by rcases hF2 j hj with h | h; exact hF j h; have := hB.size; omega : w.heap.size ≤ j)) (hB.trans (hfr.below hB.size hF))))
        clear hh2 hF2 hfr hh hF hB
        go_wp2_with fail
        go_roundw
        case rel => exact ⟨k + 1, G2, vo2, vt2, by omega, rfl, by go_num, HP.out.1, HP.out.2.1, HP.out.2.2⟩
        case measure => simp [intOf]; omega
      · have HN := Hid.mk (And.intro hh (And.intro hF hB))
        clear hh hF hB hcs
        go_wp2_with fail
        go_ret2
        obtain ⟨hh, hF, hB⟩ := HN.out
        rw [List.take_of_length_le (by omega)] at hh
        exact ⟨hb, b, G', vo', vt', rfl, hh, hF, hB⟩

end Go.Proofs.Ytphkchjejbffeaa

/- Plain: what an act's message does; what holds behind any row of acts. -/
namespace Go.Proofs.Ytphkchjejbffeaa

theorem enc4 (v : Nat) : enc v 4 = [UInt8.ofNat (v / 256 / 256 / 256), UInt8.ofNat (v / 256 / 256), UInt8.ofNat (v / 256), UInt8.ofNat v] := rfl
theorem enc2 (v : Nat) : enc v 2 = [UInt8.ofNat (v / 256), UInt8.ofNat v] := rfl
theorem num4 (v : Nat) (h : v < 4294967296) : num [UInt8.ofNat (v / 256 / 256 / 256), UInt8.ofNat (v / 256 / 256), UInt8.ofNat (v / 256), UInt8.ofNat v] 0 = v := by
  rw [← enc4, num_enc]; exact Nat.mod_eq_of_lt h
theorem num2 (v : Nat) (h : v < 65536) : num [UInt8.ofNat (v / 256), UInt8.ofNat v] 0 = v := by
  rw [← enc2, num_enc]; exact Nat.mod_eq_of_lt h

/-- An enter message. -/
def enterMsg (t : Nat) (side stock : UInt8) (price shares : Nat) (kind : UInt8) : List UInt8 := [69] ++ enc t 4 ++ [side, stock] ++ enc price 2 ++ enc shares 2 ++ [kind]
theorem enterMsg_ok (t : Nat) (side stock : UInt8) (price shares : Nat) (kind : UInt8) : (enterMsg t side stock price shares kind).length = sizeOf (byteAt (enterMsg t side stock price shares kind) 0) ∧ 0 < (enterMsg t side stock price shares kind).length := by
  simp [enterMsg, enc_length, byteAt, sizeOf]
theorem enterMsg_act (st : St) (t : Nat) (side stock : UInt8) (price shares : Nat) (kind : UInt8) (h1 : t < 4294967296) (h2 : price < 65536) (h3 : shares < 65536) :
    st.act (enterMsg t side stock price shares kind) = st.enter t side stock.toNat price shares kind := by
  unfold St.act
  rw [if_pos (by simp [enterMsg, byteAt])]
  have a1 : at_ (enterMsg t side stock price shares kind) 1 4 = t := by
    unfold enterMsg; rw [enc4, enc2, enc2]; exact num4 t h1
  have a2 : at_ (enterMsg t side stock price shares kind) 7 2 = price := by
    unfold enterMsg; rw [enc4, enc2, enc2]; exact num2 price h2
  have a3 : at_ (enterMsg t side stock price shares kind) 9 2 = shares := by
    unfold enterMsg; rw [enc4, enc2, enc2]; exact num2 shares h3
  have b1 : byteAt (enterMsg t side stock price shares kind) 5 = side := by unfold enterMsg; rw [enc4, enc2, enc2]; rfl
  have b2 : byteAt (enterMsg t side stock price shares kind) 6 = stock := by unfold enterMsg; rw [enc4, enc2, enc2]; rfl
  have b3 : byteAt (enterMsg t side stock price shares kind) 11 = kind := by unfold enterMsg; rw [enc4, enc2, enc2]; rfl
  rw [a1, a2, a3, b1, b2, b3]

def cancelMsg (t n : Nat) : List UInt8 := [67] ++ enc t 4 ++ enc n 2
theorem cancelMsg_ok (t n : Nat) : (cancelMsg t n).length = sizeOf (byteAt (cancelMsg t n) 0) ∧ 0 < (cancelMsg t n).length := by
  simp [cancelMsg, enc_length, byteAt, sizeOf]
theorem cancelMsg_act (st : St) (t n : Nat) (h1 : t < 4294967296) (h2 : n < 65536) : st.act (cancelMsg t n) = st.cancel t n := by
  unfold St.act
  rw [if_neg (by simp [cancelMsg, byteAt]), if_neg (by simp [cancelMsg, byteAt]), if_pos (by simp [cancelMsg, byteAt])]
  have a1 : at_ (cancelMsg t n) 1 4 = t := by unfold cancelMsg; rw [enc4, enc2]; exact num4 t h1
  have a2 : at_ (cancelMsg t n) 5 2 = n := by unfold cancelMsg; rw [enc4, enc2]; exact num2 n h2
  rw [a1, a2]

def replaceMsg (t n price shares : Nat) : List UInt8 := [82] ++ enc t 4 ++ enc n 4 ++ enc price 2 ++ enc shares 2
theorem replaceMsg_ok (t n price shares : Nat) : (replaceMsg t n price shares).length = sizeOf (byteAt (replaceMsg t n price shares) 0) ∧ 0 < (replaceMsg t n price shares).length := by
  simp [replaceMsg, enc_length, byteAt, sizeOf]
theorem replaceMsg_act (st : St) (t n price shares : Nat) (h1 : t < 4294967296) (h2 : n < 4294967296) (h3 : price < 65536) (h4 : shares < 65536) : st.act (replaceMsg t n price shares) = st.replace t n price shares := by
  unfold St.act
  rw [if_neg (by simp [replaceMsg, byteAt]), if_pos (by simp [replaceMsg, byteAt])]
  have a1 : at_ (replaceMsg t n price shares) 1 4 = t := by unfold replaceMsg; rw [enc4, enc4, enc2, enc2]; exact num4 t h1
  have a2 : at_ (replaceMsg t n price shares) 5 4 = n := by unfold replaceMsg; rw [enc4, enc4, enc2, enc2]; exact num4 n h2
  have a3 : at_ (replaceMsg t n price shares) 9 2 = price := by unfold replaceMsg; rw [enc4, enc4, enc2, enc2]; exact num2 price h3
  have a4 : at_ (replaceMsg t n price shares) 11 2 = shares := by unfold replaceMsg; rw [enc4, enc4, enc2, enc2]; exact num2 shares h4
  rw [a1, a2, a3, a4]

/-- What an act's message does. -/
def St.does (st : St) (a : Act) : St :=
  if pick a.kind 11 < 6 then st.enter (pick a.token 40) (sideOf (pick a.side 2)) (pick a.stock 4) (pick a.price 12) (pick a.shares 60) (kindOf (pick a.other 4))
  else if pick a.kind 11 < 8 then st.cancel (pick a.token 40) (pick a.shares 60)
  else st.replace (pick a.token 40) (pick a.other 40) (pick a.price 12) (pick a.shares 60)

theorem feed_message (st : St) (a : Act) (ho : st.opn = true) (hp : st.part = []) : st.feed a.message = st.does a := by
  have b1 := pick_lt a.token 40 (by omega)
  have b2 := pick_lt a.price 12 (by omega)
  have b3 := pick_lt a.shares 60 (by omega)
  have b4 := pick_lt a.other 40 (by omega)
  have b5 := pick_lt a.stock 4 (by omega)
  unfold St.does Act.message
  by_cases h1 : pick a.kind 11 < 6
  · rw [if_pos h1, if_pos h1]
    have e := enterMsg_act st (pick a.token 40) (sideOf (pick a.side 2)) (UInt8.ofNat (pick a.stock 4)) (pick a.price 12) (pick a.shares 60) (kindOf (pick a.other 4)) (by omega) (by omega) (by omega)
    rw [show (UInt8.ofNat (pick a.stock 4)).toNat = pick a.stock 4 by simp; omega] at e
    rw [← e]
    exact feed_whole _ st ho hp (enterMsg_ok _ _ _ _ _ _).1 (enterMsg_ok _ _ _ _ _ _).2
  · rw [if_neg h1, if_neg h1]
    by_cases h2 : pick a.kind 11 < 8
    · rw [if_pos h2, if_pos h2, ← cancelMsg_act st _ _ (by omega) (by omega)]
      exact feed_whole _ st ho hp (cancelMsg_ok _ _).1 (cancelMsg_ok _ _).2
    · rw [if_neg h2, if_neg h2, ← replaceMsg_act st _ _ _ _ (by omega) (by omega) (by omega) (by omega)]
      exact feed_whole _ st ho hp (replaceMsg_ok _ _ _ _).1 (replaceMsg_ok _ _ _ _).2

/-- Tokens that acts and the opening use. -/
def Tok (t : Nat) : Prop := t < 40 ∨ t = 1000 ∨ t = 1001
theorem nodup_below (n : Nat) : ∀ l : List Nat, l.Nodup → (∀ x ∈ l, x < n) → l.length ≤ n := by
  induction n with
  | zero =>
    intro l _ h
    cases l with
    | nil => simp
    | cons x l => have := h x (by simp); omega
  | succ n ih =>
    intro l hn h
    have h2 : (l.erase n).length ≤ n := by
      refine ih _ (hn.erase n) ?_
      intro x hx
      have := (hn.mem_erase_iff).1 hx
      have := h x this.2
      omega
    have : l.length ≤ (l.erase n).length + 1 := by rw [List.length_erase]; split <;> omega
    omega
theorem tok_len (l : List Nat) (hn : l.Nodup) (h : ∀ t ∈ l, Tok t) : l.length ≤ 42 := by
  have := nodup_below 42 (l.map fun t => if t = 1000 then 40 else if t = 1001 then 41 else t) ?_ ?_
  · simpa using this
  · refine nodup_map_inj _ _ hn ?_
    intro a ha b hb e
    have h1 := h a ha
    have h2 := h b hb
    unfold Tok at h1 h2
    split at e <;> split at e <;> (try split at e) <;> (try split at e) <;> omega
  · intro x hx
    obtain ⟨t, ht, rfl⟩ := List.mem_map.1 hx
    have := h t ht
    unfold Tok at this
    split
    · omega
    · split <;> omega

/-- What holds behind n acts. -/
structure Good (p n : Nat) (x : Run) : Prop where
  inv : Inv x.st
  stocks : x.st.stocks = 3
  levels : x.st.levels = 10
  pool : x.st.pool = p
  opn : x.st.opn = true
  part : x.st.part = []
  ans : x.st.ans = []
  tape : x.st.tape = []
  nodup : x.st.used.Nodup
  tok : ∀ t ∈ x.st.used, Tok t
  outLen : x.out.length ≤ 14 * n + 4000 * x.st.used.length
  tapeLen : x.tape.length ≤ 14 * n + 4000 * x.st.used.length

theorem used_same_cancel (st : St) (t n : Nat) : (st.cancel t n).used = st.used := by
  unfold St.cancel
  split
  · rfl
  · split
    · rfl
    · dsimp only
      split <;> rfl

theorem grew_does (st : St) (a : Act) : (Grew st (st.does a) 14 14 0 ∧ (st.does a).used = st.used) ∨ ∃ t, Grew st (st.does a) 4000 4000 1 ∧ t ∉ st.used ∧ (st.does a).used = t :: st.used ∧ Tok t := by
  have b1 := pick_lt a.token 40 (by omega)
  have b4 := pick_lt a.other 40 (by omega)
  unfold St.does
  split
  · rcases grew_enter st (pick a.token 40) (sideOf (pick a.side 2)) (pick a.stock 4) (pick a.price 12) (pick a.shares 60) (kindOf (pick a.other 4)) with h | h
    · exact .inl h
    · exact .inr ⟨_, h.1, h.2.1, h.2.2, .inl b1⟩
  · split
    · exact .inl ⟨grew_cancel _ _ _, used_same_cancel _ _ _⟩
    · rcases grew_replace st (pick a.token 40) (pick a.other 40) (pick a.price 12) (pick a.shares 60) with h | h
      · exact .inl h
      · exact .inr ⟨_, h.1, h.2.1, h.2.2, .inl b4⟩
theorem keeps_does (st : St) (a : Act) : Keeps st (st.does a) := by
  unfold St.does
  split
  · exact keeps_enter _ _ _ _ _ _ _
  · split
    · exact keeps_cancel _ _ _
    · exact keeps_replace _ _ _ _ _
theorem Inv.does {st : St} (h : Inv st) (a : Act) : Inv (st.does a) := by
  have b1 := pick_lt a.token 40 (by omega)
  have b4 := pick_lt a.other 40 (by omega)
  unfold St.does
  split
  · exact h.enter _ _ _ _ _ _ (by omega)
  · split
    · exact h.cancel _ _
    · exact h.replace _ _ _ _ (by omega)

theorem Good.act {p n : Nat} {x : Run} (h : Good p n x) (a : Act) : Good p (n + 1) (x.act a) := by
  unfold Run.act
  split
  · exact ⟨h.inv.tick _, h.stocks, h.levels, h.pool, h.opn, h.part, h.ans, h.tape, h.nodup, h.tok, by have := h.outLen; show x.out.length ≤ 14 * (n + 1) + 4000 * x.st.used.length; omega, by have := h.tapeLen; show x.tape.length ≤ 14 * (n + 1) + 4000 * x.st.used.length; omega⟩
  · rw [feed_message x.st a h.opn h.part]
    have hk := keeps_does x.st a
    have hi := h.inv.does a
    have o1 := h.outLen
    have o2 := h.tapeLen
    have z1 : x.st.ans.length = 0 := by rw [h.ans]; rfl
    have z2 : x.st.tape.length = 0 := by rw [h.tape]; rfl
    refine ⟨hi.told.taped, hk.same.stocks.trans h.stocks, hk.same.levels.trans h.levels, hk.same.pool.trans h.pool, hk.opn.trans h.opn, hk.part.trans h.part, rfl, rfl, ?_, ?_, ?_, ?_⟩
    · show (x.st.does a).used.Nodup
      rcases grew_does x.st a with ⟨-, hu⟩ | ⟨t, -, ht, hu, -⟩
      · rw [hu]; exact h.nodup
      · rw [hu, List.nodup_cons]; exact ⟨ht, h.nodup⟩
    · show ∀ t ∈ (x.st.does a).used, Tok t
      rcases grew_does x.st a with ⟨-, hu⟩ | ⟨t, -, -, hu, ht⟩
      · rw [hu]; exact h.tok
      · rw [hu]
        intro t' ht'
        rcases List.mem_cons.1 ht' with rfl | ht'
        · exact ht
        · exact h.tok t' ht'
    · show (x.out ++ (x.st.does a).ans).length ≤ 14 * (n + 1) + 4000 * (x.st.does a).used.length
      rw [List.length_append]
      rcases grew_does x.st a with ⟨g, -⟩ | ⟨t, g, -⟩
      · have := g.ans; have := g.used; omega
      · have := g.ans; have := g.used; omega
    · show (x.tape ++ (x.st.does a).tape).length ≤ 14 * (n + 1) + 4000 * (x.st.does a).used.length
      rw [List.length_append]
      rcases grew_does x.st a with ⟨g, -⟩ | ⟨t, g, -⟩
      · have := g.tape; have := g.used; omega
      · have := g.tape; have := g.used; omega

theorem Good.acts {p : Nat} (l : List Act) : ∀ {n : Nat} {x : Run}, Good p n x → Good p (n + l.length) (x.acts l) := by
  induction l with
  | nil => intro n x h; exact h
  | cons a l ih =>
    intro n x h
    have := ih (h.act a)
    rw [List.length_cons, show n + (l.length + 1) = n + 1 + l.length by omega]
    exact this

def okUsed (p : Nat) : Bool := (openSt p).used == [1001, 1000] && (openSt p).part == [] && (openSt p).opn
theorem open_used_all : (List.range 64).all (fun p => okUsed (1 + p)) = true := by decide +kernel
theorem open_used (p : Nat) (h1 : 1 ≤ p) (h2 : p ≤ 64) : (openSt p).used = [1001, 1000] ∧ (openSt p).part = [] ∧ (openSt p).opn = true := by
  have h := List.all_eq_true.1 open_used_all (p - 1) (by simp; omega)
  rw [show 1 + (p - 1) = p by omega] at h
  simpa [okUsed, and_assoc] using h

theorem inv_openSt (p : Nat) (h1 : 1 ≤ p) (h2 : p ≤ 64) : Inv (openSt p) := by
  unfold openSt st2 st1
  exact (((Inv.opened 3 10 p ⟨by omega, by omega⟩ ⟨by omega, by omega⟩ ⟨h1, h2⟩).feed _).feed _).told.taped
theorem same_told (st : St) : Same st st.told.taped := ⟨rfl, rfl, rfl⟩
theorem same_openSt (p : Nat) : (openSt p).stocks = 3 ∧ (openSt p).levels = 10 ∧ (openSt p).pool = p := by
  have h : Same (opened 3 10 p) (openSt p) := by
    unfold openSt st2 st1
    exact ((same_feed _ _).trans (same_feed _ _)).trans (same_told _)
  exact ⟨h.stocks, h.levels, h.pool⟩

theorem told_ans (st : St) : st.told.taped.ans = [] := rfl
theorem told_tape' (st : St) : st.told.taped.tape = [] := rfl
theorem good_started (pool : Int) : Good (1 + pick pool 64) 0 (started pool) := by
  have hp := pick_lt pool 64 (by omega)
  obtain ⟨u1, u2, u3⟩ := open_used (1 + pick pool 64) (by omega) (by omega)
  obtain ⟨s1, s2, s3⟩ := same_openSt (1 + pick pool 64)
  refine ⟨inv_openSt _ (by omega) (by omega), s1, s2, s3, u3, u2, told_ans _, told_tape' _, ?_, ?_, Nat.zero_le _, Nat.zero_le _⟩
  · show (openSt (1 + pick pool 64)).used.Nodup
    rw [u1]; decide
  · show ∀ t ∈ (openSt (1 + pick pool 64)).used, Tok t
    rw [u1]
    intro t ht
    simp at ht
    unfold Tok
    omega

/-- How much goes out behind any row of acts. -/
theorem Good.lens {p n : Nat} {x : Run} (h : Good p n x) : x.out.length ≤ 14 * n + 168000 ∧ x.tape.length ≤ 14 * n + 168000 := by
  have h1 := h.outLen
  have h2 := h.tapeLen
  have h3 := tok_len _ h.nodup h.tok
  omega

end Go.Proofs.Ytphkchjejbffeaa

/- The walk of boursekeep's House.rests, where the books are as they must be. -/
namespace Go.Proofs.Ytphkchjejbffeaa
open Go.RowKit

def OrdOk (s : Nat) (x : Ord) : Prop := x.stock = s ∧ 1 ≤ x.price ∧ x.price ≤ 10 ∧ 1 ≤ x.shares ∧ x.shares ≤ 9999 ∧ (x.side = 66 ∨ x.side = 83) ∧ x.ref < 4294967296 ∧ x.token < 4294967296
/-- Two orders of a book, one right behind the other; f: the first one's price. -/
def PairOk (f : Nat) (p x : Ord) : Prop :=
  (p.side = 66 ∧ x.side = 66 ∧ x.price ≤ p.price) ∨ (p.side = 83 ∧ x.side = 83 ∧ p.price ≤ x.price) ∨ (p.side = 66 ∧ x.side = 83 ∧ f < x.price)
structure BookOk (s : Nat) (l : List Ord) : Prop where
  each : ∀ (i : Nat) (x : Ord), l[i]? = some x → OrdOk s x
  pair : ∀ (i : Nat) (f p x : Ord), l[0]? = some f → l[i]? = some p → l[i + 1]? = some x → PairOk f.price p x

theorem Try.info46 : (Try.prog.info? 46).map (fun i => (i.zero, i.size, i.bytes)) = some (some (.agg #[.int .i64 0, .int .i64 0, .int .u8 0, .int .i64 0, .int .i64 0, .int .i64 0]), 6, 48) := by kernel_rfl

theorem flat_get (l : List Ord) (i j : Nat) (x : Ord) (u : Value) (hi : l[i]? = some x) (hj : j < 6) (hu : x.cells[j]? = some u) : (l.flatMap Ord.cells)[i * 6 + j]? = some u := by
  induction l generalizing i with
  | nil => simp at hi
  | cons y l ih =>
    rw [List.flatMap_cons]
    cases i with
    | zero =>
      simp at hi
      subst hi
      rw [Nat.zero_mul, Nat.zero_add, List.getElem?_append_left (by simp [Ord.cells]; omega)]
      exact hu
    | succ i =>
      simp at hi
      have := ih i hi
      rw [List.getElem?_append_right (by simp [Ord.cells]; omega)]
      rw [← this]
      congr 1
      simp [Ord.cells]
      omega

theorem flat_one (l : List Ord) : ∀ u ∈ l.flatMap Ord.cells, u.oneCell' = true := by
  intro u hu
  simp only [List.mem_flatMap] at hu
  obtain ⟨x, _, hx⟩ := hu
  simp [Ord.cells] at hx
  rcases hx with rfl | rfl | rfl | rfl | rfl | rfl <;> rfl

theorem flat_len (l : List Ord) : (l.flatMap Ord.cells).length = l.length * 6 := by
  induction l with
  | nil => rfl
  | cons x l ih => rw [List.flatMap_cons, List.length_append, ih]; simp [Ord.cells]; omega

/-- The books of the stocks below k, one behind the other. -/
def upTo (st : St) (k : Nat) : List Ord := (List.range k).flatMap st.book
theorem upTo_succ (st : St) (k : Nat) : upTo st (k + 1) = upTo st k ++ st.book k := by simp [upTo, List.range_succ]

theorem upTo_le (st : St) (k : Nat) (h : ∀ s, s < k → (st.book s).length ≤ 1000) : (upTo st k).length ≤ 1000 * k := by
  induction k with
  | zero => simp [upTo]
  | succ k ih =>
    rw [upTo_succ, List.length_append]
    have := ih (fun s hs => h s (by omega))
    have := h k (by omega)
    omega

theorem row_orders {w : World} {b : Nat} {ra : Option Addr} {cap : Nat} {L : List Ord} (h : w.ownsRow b 46 6 (.slice ra L.length cap) L.length (L.flatMap Ord.cells)) (hL : 0 < L.length) :
    ∃ g, ra = some ⟨g, 0, none⟩ ∧ g < w.heap.size ∧ ∀ i x, L[i]? = some x → ∀ t u, t < 6 → x.cells[t]? = some u → w.cell? ⟨g, i * 6 + t, none⟩ = some u := by
  rcases h.2 with ⟨h1, h2⟩ | ⟨g, cap', cur, h1, h2, h3, h4⟩
  · omega
  · cases h1
    refine ⟨g, rfl, (Array.getElem?_eq_some_iff.1 h3).1, fun i x hi t u ht hu => ?_⟩
    have := h.cells (g := g) rfl (i * 6 + t) u (flat_get L i t x u hi ht hu)
    rwa [Addr.add_lit, Nat.zero_add] at this

theorem ord_cells (x : Ord) {w w' : World} {g o B : Nat} (hB : Below B w w') (hg : g < B) (h : ∀ (t : Nat) (u : Value), t < 6 → x.cells[t]? = some u → w.cell? ⟨g, o + t, none⟩ = some u) :
    w'.cell? ⟨g, o, none⟩ = some (.int .i64 x.ref) ∧ w'.cell? ⟨g, o + 1, none⟩ = some (.int .i64 x.token) ∧ w'.cell? ⟨g, o + 2, none⟩ = some (.int .u8 x.side.toNat) ∧ w'.cell? ⟨g, o + 3, none⟩ = some (.int .i64 x.stock) ∧
    w'.cell? ⟨g, o + 4, none⟩ = some (.int .i64 x.price) ∧ w'.cell? ⟨g, o + 5, none⟩ = some (.int .i64 x.shares) :=
  ⟨(hB.cell (p := ⟨g, o, none⟩) hg).trans (h 0 _ (by omega) rfl), (hB.cell (p := ⟨g, o + 1, none⟩) hg).trans (h 1 _ (by omega) rfl), (hB.cell (p := ⟨g, o + 2, none⟩) hg).trans (h 2 _ (by omega) rfl),
   (hB.cell (p := ⟨g, o + 3, none⟩) hg).trans (h 3 _ (by omega) rfl), (hB.cell (p := ⟨g, o + 4, none⟩) hg).trans (h 4 _ (by omega) rfl), (hB.cell (p := ⟨g, o + 5, none⟩) hg).trans (h 5 _ (by omega) rfl)⟩

set_option maxRecDepth 100000 in
set_option maxHeartbeats 4000000 in
theorem rests_any {At : World → Nat → (Nat → Prop) → St → Prop} (api : Api At) (hb b : Nat) (G : Nat → Prop) (vo vt : Value) (st : St) (w : World)
    (hc : w.heap[hb]? = some (.cells #[.pointer (some ⟨b, 0, none⟩), vo, vt] 30)) (hat : At w b G st) (hst : st.stocks = 3)
    (hok : ∀ s, s < 3 → BookOk s (st.book s)) (hlen : ∀ s, s < 3 → (st.book s).length ≤ 1000) :
    Calls Try.prog 19 #[.pointer (some ⟨hb, 0, none⟩)] w fun e w' => ∃ v, e = .returned (.tuple #[v, .bool true]) ∧
      w'.ownsRow w.heap.size 46 6 v st.all.length (st.all.flatMap Ord.cells) ∧ Below w.heap.size w w' := by
  obtain ⟨i0, hi, hz0, hz1, hz2⟩ := info_parts Try.info46
  have hall : st.all = upTo st 3 := by unfold St.all upTo; rw [hst]
  rw [hall]
  have hlt : hb < w.heap.size := (Array.getElem?_eq_some_iff.1 hc).1
  obtain ⟨c0, -⟩ := cells3 hc
  have HOk := Hid.mk (And.intro hok (And.intro hlen (And.intro hat (And.intro hst hc))))
  clear hok hlen hat hst hc hall
  go_enter Try.func19, Try.ntmps19
  go_wp2_with fail
  go_loopw [4, 5] (fun v i wr => ∃ k : Nat, k ≤ 3 ∧ i = .int .i64 k ∧ wr.ownsRow w.heap.size 46 6 v (upTo st k).length ((upTo st k).flatMap Ord.cells) ∧ Below w.heap.size w wr) (fun _ i _ => 3 - (intOf i).toNat)
  case atStart => exact ⟨0, by omega, rfl, World.ownsRow_nil _ _ _ _, Below.refl _ _⟩
  case round =>
    obtain ⟨k, hk, rfl, hown, hB⟩ := hrel
    obtain ⟨wo, hwo⟩ : ∃ wo, wo = wr := ⟨_, rfl⟩
    subst hwo
    by_cases hlt3 : k < 3
    · have hc0 : wo.cell? ⟨hb, 0, none⟩ = some (.pointer (some ⟨b, 0, none⟩)) := (hB.cell (p := ⟨hb, 0, none⟩) hlt).trans c0
      have HO := Hid.mk (And.intro hown hB)
      clear hown hB
      go_wp2_with fail
      obtain ⟨hown, hB⟩ := HO.out
      obtain ⟨hok, hlen, hat, hst, hc⟩ := HOk.out
      have hat1 : At wo b G st := api.below hat hB
      refine (api.book b G st k wo hat1 (by omega) (by rw [hst]; omega)).mono ?_
      rintro e w1 ⟨v, rfl, hbk, hB1⟩
      rw [Int.toNat_natCast] at hbk
      have hL := hlen k hlt3
      have HU := Hid.mk (upTo_le st k (fun s hs => hlen s (by omega)))
      have HK := Hid.mk (upTo_succ st k)
      have HL := Hid.mk (And.intro (hok k hlt3) (And.intro hbk hB1))
      obtain ⟨ra, cap, rfl, hcap, hcap2⟩ := ownsRow_len hbk
      clear hown hB hok hlen hat hst hc hat1 hbk hB1 hc0 c0
      generalize st.book k = L at *
      go_wp2_with fail
      go_loopw [8] (fun i w2 => ∃ j : Nat, j ≤ L.length ∧ i = .int .i64 j ∧ Below w1.heap.size w1 w2) (fun i _ => L.length - (intOf i).toNat)
      case atStart => exact ⟨0, Nat.zero_le _, rfl, Below.refl _ _⟩
      case round =>
        obtain ⟨j, hj, rfl, hB2⟩ := hrel
        by_cases hjl : j < L.length
        · obtain ⟨hbook, hbk, hB1⟩ := HL.out
          obtain ⟨g, rfl, hg, hcs⟩ := row_orders hbk (by omega)
          obtain ⟨x, hx⟩ : ∃ x, L[j]? = some x := ⟨_, List.getElem?_eq_getElem hjl⟩
          obtain ⟨d0, d1, d2, d3, d4, d5⟩ := ord_cells x hB2 hg (hcs j x hx)
          obtain ⟨o1, o2, o3, o4, o5, o6, o7, o8⟩ := hbook.each j x hx
          have i1 : (0 : Int) ≤ (j : Int) := by omega
          have i2 : (j : Int) < (L.length : Int) := by omega
          cases j with
          | zero =>
            clear hbk hB1 hbook hcs
            obtain ⟨ref, token, side, stock, price, shares⟩ := x
            simp only at o1 o2 o3 o4 o5 o6 o7 o8 d0 d1 d2 d3 d4 d5
            subst o1
            have HB2 := Hid.mk hB2
            clear hB2 hx HO HL HOk
            rcases o6 with rfl | rfl
            all_goals
              go_wp2_with fail
              exact ⟨⟨1, by omega, rfl, HB2.out.alloc HB2.out.size _⟩, by simp [intOf]; omega⟩
          | succ j =>
            obtain ⟨p, hp⟩ : ∃ p, L[j]? = some p := ⟨_, List.getElem?_eq_getElem (by omega)⟩
            obtain ⟨f, hf⟩ : ∃ f, L[0]? = some f := ⟨_, List.getElem?_eq_getElem (by omega)⟩
            obtain ⟨e0, e1, e2, e3, e4, e5⟩ := ord_cells p hB2 hg (hcs j p hp)
            obtain ⟨-, -, -, -, f4, -⟩ := ord_cells f hB2 hg (hcs 0 f hf)
            obtain ⟨q1, q2, q3, q4, q5, q6, q7, q8⟩ := hbook.each j p hp
            obtain ⟨-, r2, r3, -⟩ := hbook.each 0 f hf
            have hpair := hbook.pair j f p x hf hp hx
            have i3 : (j : Int) < (L.length : Int) := by omega
            have i4 : (0 : Int) < (L.length : Int) := by omega
            have hgr : g < wr.heap.size := Nat.lt_of_lt_of_le hg hB2.size
            clear hbk hB1 hbook hcs
            obtain ⟨ref, token, side, stock, price, shares⟩ := x
            obtain ⟨ref', token', side', stock', price', shares'⟩ := p
            obtain ⟨reff, tokenf, sidef, stockf, pricef, sharesf⟩ := f
            simp only [PairOk] at o1 o2 o3 o4 o5 o6 o7 o8 d0 d1 d2 d3 d4 d5 e0 e1 e2 e3 e4 e5 f4 q1 q2 q3 q4 q5 q6 q7 q8 r2 r3 hpair
            subst o1
            have HB2 := Hid.mk hB2
            clear hB2 hx hp hf HO HL HOk o6 q6
            rcases hpair with ⟨rfl, rfl, hle⟩ | ⟨rfl, rfl, hle⟩ | ⟨rfl, rfl, hle⟩
            all_goals
              go_wp2_with fail
              go_quiet (fail)
              go_wp2_with fail
              exact ⟨⟨j + 2, by omega, by go_num, below_drewN (Below.alloc (HB2.out.alloc HB2.out.size _) (by rw [size_alloc]; have := HB2.out.size; omega) _) _⟩, by simp [intOf]; omega⟩
        · obtain ⟨hbook, hbk, hB1⟩ := HL.out
          obtain ⟨hown, hB⟩ := HO.out
          have hB12 : Below wo.heap.size wo wr := hB1.trans (hB2.mono hB1.size)
          have hownr := ownsRow_keep hown (fun g hg => hB12.block g (hown.lt g hg).2)
          have hrdr := ownsRow_rd (ownsRow_keep hbk (fun g hg => hB2.block g (hbk.lt g hg).2))
          have hU : (upTo st k).length ≤ 1000 * k := HU.out
          have hsz : w.heap.size ≤ wr.heap.size := Nat.le_trans hB.size hB12.size
          have hBw : Below w.heap.size w wr := hB.trans (hB12.mono hB.size)
          clear hbook hbk hB1 hown hB hB12 HL HO hB2
          go_wp2_with (at_builtin; refine wpList_append_row rfl _ _ 42 rfl w.heap.size 46 i0 _ 6 48 Try.underlying42 hi hz0 hz1 hz2 rfl (by decide) _ (upTo st k).length ((upTo st k).flatMap Ord.cells) rfl hownr _ L.length (L.flatMap Ord.cells) rfl hrdr (flat_one L) (by unfold maxLen; omega) (by omega) hsz ?_; intro rb capb w3 hown3 hg3 hv3)
          exact ⟨⟨k + 1, by omega, by go_num, by rw [HK.out, List.length_append, List.flatMap_append]; exact hown3, hBw.grown hg3 hsz (fun g hg => (hownr.lt g hg).1)⟩, by simp [intOf]; omega⟩
    · have HO := Hid.mk (And.intro hown hB)
      clear hown hB
      go_wp2_with fail
      go_ret2
      have : k = 3 := by omega
      subst this
      exact ⟨_, rfl, HO.out.1, HO.out.2⟩

end Go.Proofs.Ytphkchjejbffeaa
