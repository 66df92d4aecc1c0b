/- The walk of boursekeep's House.act where a message comes. -/
import Derived.Test.YtphkchjejbffeaaG15
namespace Go.Proofs.Ytphkchjejbffeaa
open Go.RowKit
attribute [local go_sem ↓] Go.wp_at_zero Go.wp_at_succ

theorem cells7 {W : World} {k : Nat} {T : TypeId} {v0 v1 v2 v3 v4 v5 v6 : Value} (h : W.heap[k]? = some (.cells #[v0, v1, v2, v3, v4, v5, v6] T)) :
    W.cell? ⟨k, 0, none⟩ = some v0 ∧ W.cell? ⟨k, 1, none⟩ = some v1 ∧ W.cell? ⟨k, 2, none⟩ = some v2 ∧ W.cell? ⟨k, 3, none⟩ = some v3 ∧ W.cell? ⟨k, 4, none⟩ = some v4 ∧ W.cell? ⟨k, 5, none⟩ = some v5 ∧ W.cell? ⟨k, 6, none⟩ = some v6 := by
  refine ⟨?_, ?_, ?_, ?_, ?_, ?_, ?_⟩ <;> (rw [cell_of_row W k _ _ T (0, 0) h]; rfl)

theorem House.setOut {At : World → Nat → (Nat → Prop) → St → Prop} (api : Api At) {w w' : World} {hb b : Nat} {G : Nat → Prop} {vo vt v' : Value} {st : St} {out out' tape : List UInt8}
    (h : House At w hb b G vo vt st out tape) (hown : Own w' 0 v' out') (hg : w.grownBy w' vo.ownBlock) (hv : v'.ownBlock = vo.ownBlock ∨ v'.ownBlock = some w.heap.size) :
    House At (w'.setCell ⟨hb, 1, none⟩ v') hb b G v' vt st out' tape ∧ w'.heap[hb]? = some (.cells #[.pointer (some ⟨b, 0, none⟩), vo, vt] 30) := by
  have hlt : hb < w.heap.size := (Array.getElem?_eq_some_iff.1 h.cell).1
  have hc : w'.heap[hb]? = some (.cells #[.pointer (some ⟨b, 0, none⟩), vo, vt] 30) := (hg.block hb hlt (fun e => (h.ho hb e.symm).2 rfl)).trans h.cell
  have hv' : ∀ g, v'.ownBlock = some g → ¬ G g ∧ g ≠ hb ∧ vt.ownBlock ≠ some g := by
    intro g hgg
    rcases hv with hv | hv
    · rw [hv] at hgg; exact ⟨(h.ho g hgg).1, (h.ho g hgg).2, h.hot g hgg⟩
    · rw [hv] at hgg; cases hgg
      exact ⟨fun hk => by have := api.lt h.at_ _ hk; omega, by omega, fun hk => by have := (h.tape.lt _ hk).2; omega⟩
  have hkeep : ∀ k, k < w.heap.size → some k ≠ vo.ownBlock → k ≠ hb → (w'.setCell ⟨hb, 1, none⟩ v').heap[k]? = w.heap[k]? := fun k h1 h2 h3 =>
    (Below.heap_setCell _ _ _ _ h3).trans (hg.block k h1 h2)
  refine ⟨⟨?_, ?_, ?_, ?_, h.hG, fun g hgg => ⟨(hv' g hgg).1, (hv' g hgg).2.1⟩, h.ht, fun g hgg => (hv' g hgg).2.2⟩, hc⟩
  · rw [heap_setCell_same w' hb 1 _ _ v' hc]; rfl
  · exact api.keep h.at_ (fun k hk => hkeep k (api.lt h.at_ k hk) (fun e => (h.ho k e.symm).1 hk) (fun e => h.hG (e ▸ hk)))
  · exact hown.keep (fun g hgg => Below.heap_setCell _ _ _ _ (hv' g hgg).2.1)
  · exact h.tape.keep (fun g hgg => hkeep g (h.tape.lt g hgg).2 (fun e => h.hot g e.symm hgg) (h.ht g hgg).2)

theorem House.setTape {At : World → Nat → (Nat → Prop) → St → Prop} (api : Api At) {w w' : World} {hb b : Nat} {G : Nat → Prop} {vo vt v' : Value} {st : St} {out tape tape' : List UInt8}
    (h : House At w hb b G vo vt st out tape) (hown : Own w' 0 v' tape') (hg : w.grownBy w' vt.ownBlock) (hv : v'.ownBlock = vt.ownBlock ∨ v'.ownBlock = some w.heap.size) :
    House At (w'.setCell ⟨hb, 2, none⟩ v') hb b G vo v' st out tape' ∧ w'.heap[hb]? = some (.cells #[.pointer (some ⟨b, 0, none⟩), vo, vt] 30) := by
  have hlt : hb < w.heap.size := (Array.getElem?_eq_some_iff.1 h.cell).1
  have hc : w'.heap[hb]? = some (.cells #[.pointer (some ⟨b, 0, none⟩), vo, vt] 30) := (hg.block hb hlt (fun e => (h.ht hb e.symm).2 rfl)).trans h.cell
  have hv' : ∀ g, v'.ownBlock = some g → ¬ G g ∧ g ≠ hb ∧ vo.ownBlock ≠ some g := by
    intro g hgg
    rcases hv with hv | hv
    · rw [hv] at hgg; exact ⟨(h.ht g hgg).1, (h.ht g hgg).2, fun e => h.hot g e hgg⟩
    · rw [hv] at hgg; cases hgg
      exact ⟨fun hk => by have := api.lt h.at_ _ hk; omega, by omega, fun hk => by have := (h.out.lt _ hk).2; omega⟩
  have hkeep : ∀ k, k < w.heap.size → some k ≠ vt.ownBlock → k ≠ hb → (w'.setCell ⟨hb, 2, none⟩ v').heap[k]? = w.heap[k]? := fun k h1 h2 h3 =>
    (Below.heap_setCell _ _ _ _ h3).trans (hg.block k h1 h2)
  refine ⟨⟨?_, ?_, ?_, ?_, h.hG, h.ho, fun g hgg => ⟨(hv' g hgg).1, (hv' g hgg).2.1⟩, fun g hgg e => (hv' g e).2.2 hgg⟩, hc⟩
  · rw [heap_setCell_same w' hb 2 _ _ v' hc]; rfl
  · exact api.keep h.at_ (fun k hk => hkeep k (api.lt h.at_ k hk) (fun e => (h.ht k e.symm).1 hk) (fun e => h.hG (e ▸ hk)))
  · exact h.out.keep (fun g hgg => hkeep g (h.out.lt g hgg).2 (fun e => h.hot g hgg e.symm) (h.ho g hgg).2)
  · exact hown.keep (fun g hgg => Below.heap_setCell _ _ _ _ (hv' g hgg).2.1)

theorem cells3 {W : World} {k : Nat} {T : TypeId} {v0 v1 v2 : Value} (h : W.heap[k]? = some (.cells #[v0, v1, v2] T)) :
    W.cell? ⟨k, 0, none⟩ = some v0 ∧ W.cell? ⟨k, 1, none⟩ = some v1 ∧ W.cell? ⟨k, 2, none⟩ = some v2 ∧ W.frozen? ⟨k, 1, none⟩ = false ∧ W.frozen? ⟨k, 2, none⟩ = false := by
  refine ⟨?_, ?_, ?_, by simp [World.frozen?, h], by simp [World.frozen?, h]⟩ <;> (rw [cell_of_row W k _ _ T (0, 0) h]; rfl)

set_option maxHeartbeats 600000 in
theorem act_feed {At : World → Nat → (Nat → Prop) → St → Prop} (api : Api At) (hb b : Nat) (G : Nat → Prop) (vo vt : Value) (st : St) (out tape : List UInt8) (a : Act) (w : World)
    (hh : House At w hb b G vo vt st out tape) (ha : a.ok) (hk : pick a.kind 11 ≠ 10)
    (ho : out.length + (st.feed a.message).ans.length ≤ big) (ht : tape.length + (st.feed a.message).tape.length ≤ big) :
    Calls Try.prog 22 #[.pointer (some ⟨hb, 0, none⟩), .agg a.cells] w fun e w' => ∃ G' vo' vt',
      e = .returned (.bool true) ∧ House At w' hb b G' vo' vt' (st.feed a.message).told.taped (out ++ (st.feed a.message).ans) (tape ++ (st.feed a.message).tape) ∧
      (∀ k, HF hb G' vo' vt' k → HF hb G vo vt k ∨ w.heap.size ≤ k) ∧ Fr (HF hb G vo vt) w w' := by
  have hmsg := fun w => message_any a w ha
  generalize a.message = M at *
  obtain ⟨kind, token, other, side, stock, price, shares⟩ := a
  obtain ⟨⟨k1, k2⟩, -, -, -, -, -, -⟩ := ha
  simp only [Act.cells] at *
  have HMsg := Hid.mk hmsg
  have hk' : ((pick kind 11 : Nat) : Int) ≠ 10 := by omega
  have hk'' : (((pick kind 11 : Nat) : Int) == 10) = false := by simpa using hk'
  have HOL := Hid.mk ho
  have HTL := Hid.mk ht
  clear hk hk' hmsg ho ht
  have hc := cell_of_row w hb 0 _ 30 (0, 0) hh.cell
  simp only [List.getElem?_toArray, List.getElem?_cons_zero] at hc
  have hlt : hb < w.heap.size := (Array.getElem?_eq_some_iff.1 hh.cell).1
  have HH := Hid.mk hh
  clear hh
  go_enter Try.func22, Try.ntmps22
  go_wp2_with (go_at_call 11; refine (pick_any _ _ _ (by assumption) (by assumption) (by decide) (by decide)).mono ?_; rintro e w' ⟨rfl, rfl⟩)
  have hBB := Below.alloc (Below.refl _ w) (Nat.le_refl _) (Obj.cells #[.int .i64 kind, .int .i64 token, .int .i64 other, .int .i64 side, .int .i64 stock, .int .i64 price, .int .i64 shares] 49)
  have hd' : (w.alloc (Obj.cells #[.int .i64 kind, .int .i64 token, .int .i64 other, .int .i64 side, .int .i64 stock, .int .i64 price, .int .i64 shares] 49)).heap[w.heap.size]? = some (Obj.cells #[.int .i64 kind, .int .i64 token, .int .i64 other, .int .i64 side, .int .i64 stock, .int .i64 price, .int .i64 shares] 49) := by rw [heap_alloc, if_pos rfl]
  generalize hBo : Obj.cells _ 49 = Bo at *
  have hc' : (w.alloc Bo).cell? ⟨hb, 0, none⟩ = some (.pointer (some ⟨b, 0, none⟩)) := by rw [hBB.cell (p := ⟨hb, 0, none⟩) hlt, hc]
  have hat' : At (w.alloc Bo).drew b G st := api.keep (api.below HH.out.at_ hBB) (fun k hk => rfl)
  have ltG := api.lt HH.out.at_
  have nG : ¬ G w.heap.size := fun h => by have := ltG _ h; omega
  have nH : ¬ G hb := HH.out.hG
  have HBB := Hid.mk hBB
  have HD := Hid.mk hd'
  obtain ⟨d0, d1, d2, d3, d4, d5, d6⟩ := cells7 (hd'.trans (congrArg some hBo.symm))
  clear hc hBB hd'
  go_region_held3 (fun w' => w'.cell? ⟨hb, 0, none⟩ = some (.pointer (some ⟨b, 0, none⟩)) ∧ w'.cell? ⟨w.heap.size, 0, none⟩ = some (.int .i64 kind) ∧ w'.cell? ⟨w.heap.size, 1, none⟩ = some (.int .i64 token) ∧ w'.cell? ⟨w.heap.size, 2, none⟩ = some (.int .i64 other) ∧ w'.cell? ⟨w.heap.size, 3, none⟩ = some (.int .i64 side) ∧ w'.cell? ⟨w.heap.size, 4, none⟩ = some (.int .i64 stock) ∧ w'.cell? ⟨w.heap.size, 5, none⟩ = some (.int .i64 price) ∧ w'.cell? ⟨w.heap.size, 6, none⟩ = some (.int .i64 shares))
    (first | exact ⟨m1, cells7 (m2.trans (congrArg some hBo.symm))⟩ | exact ⟨n1, cells7 (n2.trans (congrArg some hBo.symm))⟩ | go_keep)
    (first
      | (go_at_call 21; refine (HMsg.out _).mono ?_; rintro e w1 ⟨v, rfl, hov, hb1⟩; have n1 : w1.cell? ⟨hb, 0, none⟩ = some (.pointer (some ⟨b, 0, none⟩)) := (hb1.cell (p := ⟨hb, 0, none⟩) (by simp; omega)).trans hc'; have n2 := (hb1.block w.heap.size (by simp)).trans HD.out; have hat1 := api.below hat' hb1)
      | (go_at_call 12; refine (api.feed b G st v M _ hat1 (hov.rd (fun g hg h => by have := ltG _ h; have := (hov.lt g hg).1; simp at this; omega)) (Nat.le_trans (Nat.le_add_left _ _) HOL.out) (Nat.le_trans (Nat.le_add_left _ _) HTL.out)).mono ?_; rintro e w2 ⟨G2, rfl, hat2, hG2, hfr2⟩; have m1 := hfr2.cell n1 nH; have m2 := (hfr2.block w.heap.size (by have := hb1.size; simp at this; omega) nG).trans n2))
  all_goals go_wp2_with fail
  have hF2 : Fr G w w2 := (((Fr.alloc G w Bo).then (Fr.drew G _)).then (Fr.of_below hb1 G)).then hfr2
  have z1 := hb1.size
  have H2 := HH.out.step hat2 hF2 (fun k hk => by
    rcases hG2 k hk with h | h
    · exact .inl h
    · right; rw [show (w.alloc Bo).drew.heap.size = w.heap.size + 1 from size_alloc w Bo] at z1; omega)
  have hG2' : ∀ k, G2 k → G k ∨ w.heap.size ≤ k := fun k hk => by
    rcases hG2 k hk with h | h
    · exact .inl h
    · right; rw [show (w.alloc Bo).drew.heap.size = w.heap.size + 1 from size_alloc w Bo] at z1; omega
  clear z1 m2 hfr2 hG2 hat2 hat1 n1 n2 hb1 hov d0 d1 d2 d3 d4 d5 d6 HD HBB nG hat' hc' hBo hk'' HMsg
  refine (api.answers b G2 _ w2 H2.at_).mono ?_
  rintro e w3 ⟨va, G3, rfl, hoa, hat3, hG3, hva, hfr3⟩
  have c3 := hfr3.cell m1 H2.hG
  have H3 := H2.step hat3 hfr3 hG3
  have HX := Hid.mk (And.intro hva (And.intro hG3 hfr3))
  clear hva hG3 hfr3 hat3
  go_wp2_with fail
  refine (api.tape b G3 _ w3 H3.at_).mono ?_
  rintro e w4 ⟨vp, G4, rfl, hop, hat4, hG4, hvp, hfr4⟩
  have H4 := H3.step hat4 hfr4 hG4
  have hoa4 : Own w4 0 va (st.feed M).ans := hoa.fr hfr4 (fun g hg => (HX.out.1 g hg).2)
  obtain ⟨e0, e1, e2, e3, e4⟩ := cells3 H4.cell
  have hra : Rd w4 (fun _ => False) va (st.feed M).ans := hoa4.rd (fun _ _ h => h)
  have hpa : ∀ g, vp.ownBlock = some g → g ≠ hb ∧ vo.ownBlock ≠ some g ∧ g < w4.heap.size := by
    intro g hg
    have l3 : hb < w3.heap.size := (Array.getElem?_eq_some_iff.1 H3.cell).1
    rcases (hvp g hg).1 with h | h
    · exact ⟨fun e => H3.hG (e ▸ h), fun e => (H3.ho g e).1 h, (hop.lt g hg).2⟩
    · exact ⟨by omega, fun e => by have := (H3.out.lt g e).2; omega, (hop.lt g hg).2⟩
  have HY := Hid.mk (And.intro hG4 hfr4)
  clear hvp hG4 hfr4 hat4 c3 hoa
  go_wp2_with (first
    | (at_builtin; refine wpList_append_rd rfl _ _ rfl 0 vo out rfl H4.out va (st.feed M).ans rfl (fun _ => False) hra (Nat.le_trans HOL.out (by decide)) (Nat.zero_le _) ?_; intro r5 n5 q5 w5 ho5 hg5 hv5; have H5 := H4.setOut api ho5 hg5 hv5; obtain ⟨f0, f1, f2, f3, f4⟩ := cells3 H5.2; obtain ⟨f5, f6, f7, f8, f9⟩ := cells3 H5.1.cell; have hrp : Rd (w5.setCell ⟨hb, 1, none⟩ (.slice r5 n5 q5)) (fun _ => False) vp (st.feed M).tape := (hop.keep (fun g hg => (Below.heap_setCell _ _ _ _ (hpa g hg).1).trans (hg5.block g (hpa g hg).2.2 (fun e => (hpa g hg).2.1 e.symm)))).rd (fun _ _ h => h))
    | (at_builtin; refine wpList_append_rd rfl _ _ rfl 0 vt tape rfl H5.1.tape vp (st.feed M).tape rfl (fun _ => False) hrp (Nat.le_trans HTL.out (by decide)) (Nat.zero_le _) ?_; intro r6 n6 q6 w6 ho6 hg6 hv6; have H6 := H5.1.setTape api ho6 hg6 hv6; obtain ⟨g0, g1, g2, g3, g4⟩ := cells3 H6.2))
  go_ret
  obtain ⟨hva, hG3, hfr3⟩ := HX.out
  obtain ⟨hG4, hfr4⟩ := HY.out
  have y2 := hF2.size
  have y3 := hfr3.size
  have y4 := hfr4.size
  have y5 := hg5.size
  have hG3' : ∀ k, G3 k → G k ∨ w.heap.size ≤ k := fun k hk => by
    rcases hG3 k hk with h | h
    · exact hG2' k h
    · right; omega
  have hG4' : ∀ k, G4 k → G k ∨ w.heap.size ≤ k := fun k hk => by
    rcases hG4 k hk with h | h
    · exact hG3' k h
    · right; omega
  refine ⟨G4, .slice r5 n5 q5, .slice r6 n6 q6, rfl, H6.1, ?_, ?_⟩
  · intro k hk
    rcases hk with rfl | hk | hk | hk
    · exact .inl (.inl rfl)
    · rcases hG4' k hk with h | h
      · exact .inl (.inr (.inl h))
      · exact .inr h
    · rcases hv5 with h | h
      · exact .inl (.inr (.inr (.inl (h ▸ hk))))
      · rw [h] at hk; cases hk; right; omega
    · rcases hv6 with h | h
      · exact .inl (.inr (.inr (.inr (h ▸ hk))))
      · rw [h] at hk; cases hk; right
        rw [World.size_setCell]; omega
  · have a2 : Fr (HF hb G vo vt) w w2 := hF2.mono (fun k _ h => .inr (.inl h))
    have a3 : Fr (HF hb G vo vt) w w3 := a2.trans hfr3 (fun k hk h => by
      rcases hG2' k h with h | h
      · exact .inr (.inl h)
      · omega)
    have a4 : Fr (HF hb G vo vt) w w4 := a3.trans hfr4 (fun k hk h => by
      rcases hG3' k h with h | h
      · exact .inr (.inl h)
      · omega)
    have a5 : Fr (HF hb G vo vt) w w5 := a4.trans (Fr.of_grown hg5) (fun k _ h => .inr (.inr (.inl h.symm)))
    have a6 := a5.trans (Fr.setCell w5 ⟨hb, 1, none⟩ (.slice r5 n5 q5)) (fun k _ h => .inl h)
    have a7 := a6.trans (Fr.of_grown hg6) (fun k _ h => .inr (.inr (.inr h.symm)))
    exact a7.trans (Fr.setCell w6 ⟨hb, 2, none⟩ (.slice r6 n6 q6)) (fun k _ h => .inl h)

end Go.Proofs.Ytphkchjejbffeaa

/- The walk of boursekeep's acts: a row of acts. -/
namespace Go.Proofs.Ytphkchjejbffeaa
open Go.RowKit

/-- A bourse, and all that went out of it. -/
structure Run where
  st : St
  out : List UInt8
  tape : List UInt8

def Run.act (x : Run) (a : Act) : Run :=
  if pick a.kind 11 = 10 then { x with st := x.st.tick (pick a.price 100) }
  else { st := (x.st.feed a.message).told.taped, out := x.out ++ (x.st.feed a.message).ans, tape := x.tape ++ (x.st.feed a.message).tape }
def Run.acts (x : Run) (l : List Act) : Run := l.foldl Run.act x
def started (pool : Int) : Run := { st := openSt (1 + pick pool 64), out := [], tape := [] }

theorem Run.act_out (x : Run) (a : Act) : x.out.length ≤ (x.act a).out.length ∧ x.tape.length ≤ (x.act a).tape.length := by
  unfold Run.act
  split <;> simp
theorem Run.acts_out (l : List Act) (x : Run) : x.out.length ≤ (x.acts l).out.length ∧ x.tape.length ≤ (x.acts l).tape.length := by
  induction l generalizing x with
  | nil => simp [Run.acts]
  | cons a l ih =>
    have h1 := x.act_out a
    have h2 := ih (x.act a)
    have : x.acts (a :: l) = (x.act a).acts l := rfl
    rw [this]
    omega
theorem Run.acts_snoc (x : Run) (l : List Act) (k : Nat) (a : Act) (h : l[k]? = some a) : x.acts (l.take (k + 1)) = (x.acts (l.take k)).act a := by
  have hk : k < l.length := by
    rcases Nat.lt_or_ge k l.length with h' | h'
    · exact h'
    · rw [List.getElem?_eq_none h'] at h; cases h
  rw [List.getElem?_eq_getElem hk] at h
  cases h
  rw [List.take_succ_eq_append_getElem hk]
  simp only [Run.acts, List.foldl_append, List.foldl_cons, List.foldl_nil]
theorem Run.acts_take (x : Run) (l : List Act) (k : Nat) : (x.acts (l.take k)).out.length ≤ (x.acts l).out.length ∧ (x.acts (l.take k)).tape.length ≤ (x.acts l).tape.length := by
  have h : x.acts l = (x.acts (l.take k)).acts (l.drop k) := by
    simp only [Run.acts]
    rw [← List.foldl_append, List.take_append_drop]
  rw [h]
  exact Run.acts_out _ _

/-- A house in which all that is as x says. -/
def HouseOf (At : World → Nat → (Nat → Prop) → St → Prop) (w : World) (hb b : Nat) (G : Nat → Prop) (vo vt : Value) (x : Run) : Prop := House At w hb b G vo vt x.st x.out x.tape

theorem act_any {At : World → Nat → (Nat → Prop) → St → Prop} (api : Api At) (hb b : Nat) (G : Nat → Prop) (vo vt : Value) (x : Run) (a : Act) (w : World)
    (hh : HouseOf At w hb b G vo vt x) (ha : a.ok) (ho : (x.act a).out.length ≤ big) (ht : (x.act a).tape.length ≤ big) :
    Calls Try.prog 22 #[.pointer (some ⟨hb, 0, none⟩), .agg a.cells] w fun e w' => ∃ G' vo' vt',
      e = .returned (.bool true) ∧ HouseOf At w' hb b G' vo' vt' (x.act a) ∧ (∀ k, HF hb G' vo' vt' k → HF hb G vo vt k ∨ w.heap.size ≤ k) ∧ Fr (HF hb G vo vt) w w' := by
  by_cases hk : pick a.kind 11 = 10
  · refine (act_tick api hb b G vo vt x.st x.out x.tape a w hh ha hk).mono ?_
    rintro e w' ⟨rfl, h1, h2⟩
    refine ⟨G, vo, vt, rfl, ?_, fun k hk => .inl hk, h2⟩
    unfold HouseOf Run.act
    rw [if_pos hk]
    exact h1
  · have e1 : x.act a = { st := (x.st.feed a.message).told.taped, out := x.out ++ (x.st.feed a.message).ans, tape := x.tape ++ (x.st.feed a.message).tape } := by
      unfold Run.act; rw [if_neg hk]
    rw [e1] at ho ht ⊢
    simp only [List.length_append] at ho ht
    exact act_feed api hb b G vo vt x.st x.out x.tape a w hh ha hk ho ht

/-- Acts that may be read. -/
def ActsAt (w : World) (v : Value) (l : List Act) : Prop :=
  (∃ ra rc, v = .slice ra 0 rc ∧ l = []) ∨ ∃ g o cap, v = .slice (some ⟨g, o, none⟩) l.length cap ∧ g < w.heap.size ∧ l.length ≤ 9223372036854775807 ∧
    ∀ i a, l[i]? = some a → a.ok ∧ ∀ j u, a.cells[j]? = some u → w.cell? ⟨g, o + i * 7 + j, none⟩ = some u

theorem ActsAt.below {w w' : World} {v : Value} {l : List Act} (h : ActsAt w v l) (hb : Below w.heap.size w w') : ActsAt w' v l := by
  rcases h with h | ⟨g, o, cap, h1, h2, h3, h4⟩
  · exact .inl h
  · exact .inr ⟨g, o, cap, h1, Nat.lt_of_lt_of_le h2 hb.size, h3, fun i a hi => ⟨(h4 i a hi).1, fun j u hu => (hb.cell (p := ⟨g, o + i * 7 + j, none⟩) h2).trans ((h4 i a hi).2 j u hu)⟩⟩

theorem act_cells (a : Act) {w : World} {g o : Nat} (h : ∀ (j : Nat) (u : Value), a.cells[j]? = some u → w.cell? ⟨g, o + j, none⟩ = some u) :
    w.cell? ⟨g, o, none⟩ = some (.int .i64 a.kind) ∧ w.cell? ⟨g, o + 1, none⟩ = some (.int .i64 a.token) ∧ w.cell? ⟨g, o + 2, none⟩ = some (.int .i64 a.other) ∧ w.cell? ⟨g, o + 3, none⟩ = some (.int .i64 a.side) ∧
    w.cell? ⟨g, o + 4, none⟩ = some (.int .i64 a.stock) ∧ w.cell? ⟨g, o + 5, none⟩ = some (.int .i64 a.price) ∧ w.cell? ⟨g, o + 6, none⟩ = some (.int .i64 a.shares) :=
  ⟨h 0 _ rfl, h 1 _ rfl, h 2 _ rfl, h 3 _ rfl, h 4 _ rfl, h 5 _ rfl, h 6 _ rfl⟩

set_option maxHeartbeats 600000 in
theorem acts_any {At : World → Nat → (Nat → Prop) → St → Prop} (api : Api At) (pool : Int) (v : Value) (l : List Act) (w : World) (h1 : -9223372036854775808 ≤ pool) (h2 : pool ≤ 9223372036854775807)
    (hl : ActsAt w v l) (ho : ((started pool).acts l).out.length ≤ big) (ht : ((started pool).acts l).tape.length ≤ big) :
    Calls Try.prog 18 #[.int .i64 pool, v] w fun e w' => ∃ hb b G vo vt,
      e = .returned (.tuple #[.pointer (some ⟨hb, 0, none⟩), .bool true]) ∧ HouseOf At w' hb b G vo vt ((started pool).acts l) ∧ (∀ k, HF hb G vo vt k → w.heap.size ≤ k) ∧ Below w.heap.size w w' := by
  have HOL := Hid.mk ho
  have HTL := Hid.mk ht
  have HO := Hid.mk (open_any api pool w h1 h2)
  clear ho ht
  rcases hl with ⟨ra, rc, rfl, rfl⟩ | ⟨g, o, cap, rfl, hg, hlen, hcs⟩
  · go_enter Try.func18, Try.ntmps18
    go_wp2_with fail
    refine HO.out.mono ?_
    rintro e w1 ⟨hb, b, G, vo, vt, rfl, hh, hF, hB⟩
    have HN := Hid.mk (And.intro hh (And.intro hF hB))
    clear hh hF hB
    go_wp2_with fail
    go_loopw [7, 8] (fun ok i wr => ok = .bool true ∧ i = .int .i64 0 ∧ wr = w1) (fun _ _ _ => 0)
    case atStart => exact ⟨rfl, rfl, rfl⟩
    case round =>
      obtain ⟨rfl, rfl, rfl⟩ := hrel
      go_wp2_with fail
      go_ret2
      exact ⟨hb, b, G, vo, vt, rfl, HN.out.1, HN.out.2.1, HN.out.2.2⟩
  · go_enter Try.func18, Try.ntmps18
    go_wp2_with fail
    refine HO.out.mono ?_
    rintro e w1 ⟨hb, b, G, vo, vt, rfl, hh, hF, hB⟩
    go_wp2_with fail
    go_loopw [7, 8] (fun ok i wr => ∃ (k : Nat) (G' : Nat → Prop) (vo' vt' : Value), k ≤ l.length ∧ ok = .bool true ∧ i = .int .i64 k ∧ HouseOf At wr hb b G' vo' vt' ((started pool).acts (l.take k)) ∧ (∀ j, HF hb G' vo' vt' j → w.heap.size ≤ j) ∧ Below w.heap.size w wr) (fun _ i _ => l.length - (intOf i).toNat)
    case atStart => exact ⟨0, G, vo, vt, Nat.zero_le _, rfl, rfl, hh, hF, hB⟩
    case round =>
      clear hh hF hB
      obtain ⟨k, G', vo', vt', hk, rfl, rfl, hh, hF, hB⟩ := hrel
      by_cases hlt : k < l.length
      · obtain ⟨a, hka⟩ : ∃ a, l[k]? = some a := ⟨_, List.getElem?_eq_getElem hlt⟩
        obtain ⟨hok, hca⟩ := hcs k a hka
        obtain ⟨d0, d1, d2, d3, d4, d5, d6⟩ := act_cells a (w := wr) (g := g) (o := o + k * 7) (fun j u hu => (hB.cell (p := ⟨g, o + k * 7 + j, none⟩) hg).trans (hca j u hu))
        have HS := Hid.mk ((started pool).acts_snoc l k a hka)
        have hle := (started pool).acts_take l (k + 1)
        rw [HS.out] at hle
        have HA := Hid.mk (act_any api hb b G' vo' vt' _ a wr hh hok (Nat.le_trans hle.1 HOL.out) (Nat.le_trans hle.2 HTL.out))
        have HN := Hid.mk (And.intro hh (And.intro hF hB))
        clear hh hF hB hle hcs hca
        have i1 : (0 : Int) ≤ (k : Int) := by omega
        have i2 : (k : Int) < (l.length : Int) := by omega
        go_wp2_with fail
        refine HA.out.mono ?_
        rintro e w2 ⟨G2, vo2, vt2, rfl, hh2, hF2, hfr⟩
        obtain ⟨hh, hF, hB⟩ := HN.out
        have HP := Hid.mk (And.intro (HS.out ▸ hh2) (And.intro (fun j hj => (by rcases hF2 j hj with h | h; exact hF j h; have := hB.size; omega : w.heap.size ≤ j)) (hB.trans (hfr.below hB.size hF))))
        clear hh2 hF2 hfr hh hF hB
        go_wp2_with fail
        go_roundw
        case rel => exact ⟨k + 1, G2, vo2, vt2, by omega, rfl, by go_num, HP.out.1, HP.out.2.1, HP.out.2.2⟩
        case measure => simp [intOf]; omega
      · have HN := Hid.mk (And.intro hh (And.intro hF hB))
        clear hh hF hB hcs
        go_wp2_with fail
        go_ret2
        obtain ⟨hh, hF, hB⟩ := HN.out
        rw [List.take_of_length_le (by omega)] at hh
        exact ⟨hb, b, G', vo', vt', rfl, hh, hF, hB⟩

end Go.Proofs.Ytphkchjejbffeaa

/- Plain: what an act's message does; what holds behind any row of acts. -/
namespace Go.Proofs.Ytphkchjejbffeaa

theorem enc4 (v : Nat) : enc v 4 = [UInt8.ofNat (v / 256 / 256 / 256), UInt8.ofNat (v / 256 / 256), UInt8.ofNat (v / 256), UInt8.ofNat v] := rfl
theorem enc2 (v : Nat) : enc v 2 = [UInt8.ofNat (v / 256), UInt8.ofNat v] := rfl
theorem num4 (v : Nat) (h : v < 4294967296) : num [UInt8.ofNat (v / 256 / 256 / 256), UInt8.ofNat (v / 256 / 256), UInt8.ofNat (v / 256), UInt8.ofNat v] 0 = v := by
  rw [← enc4, num_enc]; exact Nat.mod_eq_of_lt h
theorem num2 (v : Nat) (h : v < 65536) : num [UInt8.ofNat (v / 256), UInt8.ofNat v] 0 = v := by
  rw [← enc2, num_enc]; exact Nat.mod_eq_of_lt h

/-- An enter message. -/
def enterMsg (t : Nat) (side stock : UInt8) (price shares : Nat) (kind : UInt8) : List UInt8 := [69] ++ enc t 4 ++ [side, stock] ++ enc price 2 ++ enc shares 2 ++ [kind]
theorem enterMsg_ok (t : Nat) (side stock : UInt8) (price shares : Nat) (kind : UInt8) : (enterMsg t side stock price shares kind).length = sizeOf (byteAt (enterMsg t side stock price shares kind) 0) ∧ 0 < (enterMsg t side stock price shares kind).length := by
  simp [enterMsg, enc_length, byteAt, sizeOf]
theorem enterMsg_act (st : St) (t : Nat) (side stock : UInt8) (price shares : Nat) (kind : UInt8) (h1 : t < 4294967296) (h2 : price < 65536) (h3 : shares < 65536) :
    st.act (enterMsg t side stock price shares kind) = st.enter t side stock.toNat price shares kind := by
  unfold St.act
  rw [if_pos (by simp [enterMsg, byteAt])]
  have a1 : at_ (enterMsg t side stock price shares kind) 1 4 = t := by
    unfold enterMsg; rw [enc4, enc2, enc2]; exact num4 t h1
  have a2 : at_ (enterMsg t side stock price shares kind) 7 2 = price := by
    unfold enterMsg; rw [enc4, enc2, enc2]; exact num2 price h2
  have a3 : at_ (enterMsg t side stock price shares kind) 9 2 = shares := by
    unfold enterMsg; rw [enc4, enc2, enc2]; exact num2 shares h3
  have b1 : byteAt (enterMsg t side stock price shares kind) 5 = side := by unfold enterMsg; rw [enc4, enc2, enc2]; rfl
  have b2 : byteAt (enterMsg t side stock price shares kind) 6 = stock := by unfold enterMsg; rw [enc4, enc2, enc2]; rfl
  have b3 : byteAt (enterMsg t side stock price shares kind) 11 = kind := by unfold enterMsg; rw [enc4, enc2, enc2]; rfl
  rw [a1, a2, a3, b1, b2, b3]

def cancelMsg (t n : Nat) : List UInt8 := [67] ++ enc t 4 ++ enc n 2
theorem cancelMsg_ok (t n : Nat) : (cancelMsg t n).length = sizeOf (byteAt (cancelMsg t n) 0) ∧ 0 < (cancelMsg t n).length := by
  simp [cancelMsg, enc_length, byteAt, sizeOf]
theorem cancelMsg_act (st : St) (t n : Nat) (h1 : t < 4294967296) (h2 : n < 65536) : st.act (cancelMsg t n) = st.cancel t n := by
  unfold St.act
  rw [if_neg (by simp [cancelMsg, byteAt]), if_neg (by simp [cancelMsg, byteAt]), if_pos (by simp [cancelMsg, byteAt])]
  have a1 : at_ (cancelMsg t n) 1 4 = t := by unfold cancelMsg; rw [enc4, enc2]; exact num4 t h1
  have a2 : at_ (cancelMsg t n) 5 2 = n := by unfold cancelMsg; rw [enc4, enc2]; exact num2 n h2
  rw [a1, a2]

def replaceMsg (t n price shares : Nat) : List UInt8 := [82] ++ enc t 4 ++ enc n 4 ++ enc price 2 ++ enc shares 2
theorem replaceMsg_ok (t n price shares : Nat) : (replaceMsg t n price shares).length = sizeOf (byteAt (replaceMsg t n price shares) 0) ∧ 0 < (replaceMsg t n price shares).length := by
  simp [replaceMsg, enc_length, byteAt, sizeOf]
theorem replaceMsg_act (st : St) (t n price shares : Nat) (h1 : t < 4294967296) (h2 : n < 4294967296) (h3 : price < 65536) (h4 : shares < 65536) : st.act (replaceMsg t n price shares) = st.replace t n price shares := by
  unfold St.act
  rw [if_neg (by simp [replaceMsg, byteAt]), if_pos (by simp [replaceMsg, byteAt])]
  have a1 : at_ (replaceMsg t n price shares) 1 4 = t := by unfold replaceMsg; rw [enc4, enc4, enc2, enc2]; exact num4 t h1
  have a2 : at_ (replaceMsg t n price shares) 5 4 = n := by unfold replaceMsg; rw [enc4, enc4, enc2, enc2]; exact num4 n h2
  have a3 : at_ (replaceMsg t n price shares) 9 2 = price := by unfold replaceMsg; rw [enc4, enc4, enc2, enc2]; exact num2 price h3
  have a4 : at_ (replaceMsg t n price shares) 11 2 = shares := by unfold replaceMsg; rw [enc4, enc4, enc2, enc2]; exact num2 shares h4
  rw [a1, a2, a3, a4]

/-- What an act's message does. -/
def St.does (st : St) (a : Act) : St :=
  if pick a.kind 11 < 6 then st.enter (pick a.token 40) (sideOf (pick a.side 2)) (pick a.stock 4) (pick a.price 12) (pick a.shares 60) (kindOf (pick a.other 4))
  else if pick a.kind 11 < 8 then st.cancel (pick a.token 40) (pick a.shares 60)
  else st.replace (pick a.token 40) (pick a.other 40) (pick a.price 12) (pick a.shares 60)

theorem feed_message (st : St) (a : Act) (ho : st.opn = true) (hp : st.part = []) : st.feed a.message = st.does a := by
  have b1 := pick_lt a.token 40 (by omega)
  have b2 := pick_lt a.price 12 (by omega)
  have b3 := pick_lt a.shares 60 (by omega)
  have b4 := pick_lt a.other 40 (by omega)
  have b5 := pick_lt a.stock 4 (by omega)
  unfold St.does Act.message
  by_cases h1 : pick a.kind 11 < 6
  · rw [if_pos h1, if_pos h1]
    have e := enterMsg_act st (pick a.token 40) (sideOf (pick a.side 2)) (UInt8.ofNat (pick a.stock 4)) (pick a.price 12) (pick a.shares 60) (kindOf (pick a.other 4)) (by omega) (by omega) (by omega)
    rw [show (UInt8.ofNat (pick a.stock 4)).toNat = pick a.stock 4 by simp; omega] at e
    rw [← e]
    exact feed_whole _ st ho hp (enterMsg_ok _ _ _ _ _ _).1 (enterMsg_ok _ _ _ _ _ _).2
  · rw [if_neg h1, if_neg h1]
    by_cases h2 : pick a.kind 11 < 8
    · rw [if_pos h2, if_pos h2, ← cancelMsg_act st _ _ (by omega) (by omega)]
      exact feed_whole _ st ho hp (cancelMsg_ok _ _).1 (cancelMsg_ok _ _).2
    · rw [if_neg h2, if_neg h2, ← replaceMsg_act st _ _ _ _ (by omega) (by omega) (by omega) (by omega)]
      exact feed_whole _ st ho hp (replaceMsg_ok _ _ _ _).1 (replaceMsg_ok _ _ _ _).2

/-- Tokens that acts and the opening use. -/
def Tok (t : Nat) : Prop := t < 40 ∨ t = 1000 ∨ t = 1001
theorem nodup_below (n : Nat) : ∀ l : List Nat, l.Nodup → (∀ x ∈ l, x < n) → l.length ≤ n := by
  induction n with
  | zero =>
    intro l _ h
    cases l with
    | nil => simp
    | cons x l => have := h x (by simp); omega
  | succ n ih =>
    intro l hn h
    have h2 : (l.erase n).length ≤ n := by
      refine ih _ (hn.erase n) ?_
      intro x hx
      have := (hn.mem_erase_iff).1 hx
      have := h x this.2
      omega
    have : l.length ≤ (l.erase n).length + 1 := by rw [List.length_erase]; split <;> omega
    omega
theorem tok_len (l : List Nat) (hn : l.Nodup) (h : ∀ t ∈ l, Tok t) : l.length ≤ 42 := by
  have := nodup_below 42 (l.map fun t => if t = 1000 then 40 else if t = 1001 then 41 else t) ?_ ?_
  · simpa using this
  · refine nodup_map_inj _ _ hn ?_
    intro a ha b hb e
    have h1 := h a ha
    have h2 := h b hb
    unfold Tok at h1 h2
    split at e <;> split at e <;> (try split at e) <;> (try split at e) <;> omega
  · intro x hx
    obtain ⟨t, ht, rfl⟩ := List.mem_map.1 hx
    have := h t ht
    unfold Tok at this
    split
    · omega
    · split <;> omega

/-- What holds behind n acts. -/
structure Good (p n : Nat) (x : Run) : Prop where
  inv : Inv x.st
  stocks : x.st.stocks = 3
  levels : x.st.levels = 10
  pool : x.st.pool = p
  opn : x.st.opn = true
  part : x.st.part = []
  ans : x.st.ans = []
  tape : x.st.tape = []
  nodup : x.st.used.Nodup
  tok : ∀ t ∈ x.st.used, Tok t
  outLen : x.out.length ≤ 14 * n + 4000 * x.st.used.length
  tapeLen : x.tape.length ≤ 14 * n + 4000 * x.st.used.length

theorem used_same_cancel (st : St) (t n : Nat) : (st.cancel t n).used = st.used := by
  unfold St.cancel
  split
  · rfl
  · split
    · rfl
    · dsimp only
      split <;> rfl

theorem grew_does (st : St) (a : Act) : (Grew st (st.does a) 14 14 0 ∧ (st.does a).used = st.used) ∨ ∃ t, Grew st (st.does a) 4000 4000 1 ∧ t ∉ st.used ∧ (st.does a).used = t :: st.used ∧ Tok t := by
  have b1 := pick_lt a.token 40 (by omega)
  have b4 := pick_lt a.other 40 (by omega)
  unfold St.does
  split
  · rcases grew_enter st (pick a.token 40) (sideOf (pick a.side 2)) (pick a.stock 4) (pick a.price 12) (pick a.shares 60) (kindOf (pick a.other 4)) with h | h
    · exact .inl h
    · exact .inr ⟨_, h.1, h.2.1, h.2.2, .inl b1⟩
  · split
    · exact .inl ⟨grew_cancel _ _ _, used_same_cancel _ _ _⟩
    · rcases grew_replace st (pick a.token 40) (pick a.other 40) (pick a.price 12) (pick a.shares 60) with h | h
      · exact .inl h
      · exact .inr ⟨_, h.1, h.2.1, h.2.2, .inl b4⟩
theorem keeps_does (st : St) (a : Act) : Keeps st (st.does a) := by
  unfold St.does
  split
  · exact keeps_enter _ _ _ _ _ _ _
  · split
    · exact keeps_cancel _ _ _
    · exact keeps_replace _ _ _ _ _
theorem Inv.does {st : St} (h : Inv st) (a : Act) : Inv (st.does a) := by
  have b1 := pick_lt a.token 40 (by omega)
  have b4 := pick_lt a.other 40 (by omega)
  unfold St.does
  split
  · exact h.enter _ _ _ _ _ _ (by omega)
  · split
    · exact h.cancel _ _
    · exact h.replace _ _ _ _ (by omega)

theorem Good.act {p n : Nat} {x : Run} (h : Good p n x) (a : Act) : Good p (n + 1) (x.act a) := by
  unfold Run.act
  split
  · exact ⟨h.inv.tick _, h.stocks, h.levels, h.pool, h.opn, h.part, h.ans, h.tape, h.nodup, h.tok, by have := h.outLen; show x.out.length ≤ 14 * (n + 1) + 4000 * x.st.used.length; omega, by have := h.tapeLen; show x.tape.length ≤ 14 * (n + 1) + 4000 * x.st.used.length; omega⟩
  · rw [feed_message x.st a h.opn h.part]
    have hk := keeps_does x.st a
    have hi := h.inv.does a
    have o1 := h.outLen
    have o2 := h.tapeLen
    have z1 : x.st.ans.length = 0 := by rw [h.ans]; rfl
    have z2 : x.st.tape.length = 0 := by rw [h.tape]; rfl
    refine ⟨hi.told.taped, hk.same.stocks.trans h.stocks, hk.same.levels.trans h.levels, hk.same.pool.trans h.pool, hk.opn.trans h.opn, hk.part.trans h.part, rfl, rfl, ?_, ?_, ?_, ?_⟩
    · show (x.st.does a).used.Nodup
      rcases grew_does x.st a with ⟨-, hu⟩ | ⟨t, -, ht, hu, -⟩
      · rw [hu]; exact h.nodup
      · rw [hu, List.nodup_cons]; exact ⟨ht, h.nodup⟩
    · show ∀ t ∈ (x.st.does a).used, Tok t
      rcases grew_does x.st a with ⟨-, hu⟩ | ⟨t, -, -, hu, ht⟩
      · rw [hu]; exact h.tok
      · rw [hu]
        intro t' ht'
        rcases List.mem_cons.1 ht' with rfl | ht'
        · exact ht
        · exact h.tok t' ht'
    · show (x.out ++ (x.st.does a).ans).length ≤ 14 * (n + 1) + 4000 * (x.st.does a).used.length
      rw [List.length_append]
      rcases grew_does x.st a with ⟨g, -⟩ | ⟨t, g, -⟩
      · have := g.ans; have := g.used; omega
      · have := g.ans; have := g.used; omega
    · show (x.tape ++ (x.st.does a).tape).length ≤ 14 * (n + 1) + 4000 * (x.st.does a).used.length
      rw [List.length_append]
      rcases grew_does x.st a with ⟨g, -⟩ | ⟨t, g, -⟩
      · have := g.tape; have := g.used; omega
      · have := g.tape; have := g.used; omega

theorem Good.acts {p : Nat} (l : List Act) : ∀ {n : Nat} {x : Run}, Good p n x → Good p (n + l.length) (x.acts l) := by
  induction l with
  | nil => intro n x h; exact h
  | cons a l ih =>
    intro n x h
    have := ih (h.act a)
    rw [List.length_cons, show n + (l.length + 1) = n + 1 + l.length by omega]
    exact this

def okUsed (p : Nat) : Bool := (openSt p).used == [1001, 1000] && (openSt p).part == [] && (openSt p).opn
theorem open_used_all : (List.range 64).all (fun p => okUsed (1 + p)) = true := by decide +kernel
theorem open_used (p : Nat) (h1 : 1 ≤ p) (h2 : p ≤ 64) : (openSt p).used = [1001, 1000] ∧ (openSt p).part = [] ∧ (openSt p).opn = true := by
  have h := List.all_eq_true.1 open_used_all (p - 1) (by simp; omega)
  rw [show 1 + (p - 1) = p by omega] at h
  simpa [okUsed, and_assoc] using h

theorem inv_openSt (p : Nat) (h1 : 1 ≤ p) (h2 : p ≤ 64) : Inv (openSt p) := by
  unfold openSt st2 st1
  exact (((Inv.opened 3 10 p ⟨by omega, by omega⟩ ⟨by omega, by omega⟩ ⟨h1, h2⟩).feed _).feed _).told.taped
theorem same_told (st : St) : Same st st.told.taped := ⟨rfl, rfl, rfl⟩
theorem same_openSt (p : Nat) : (openSt p).stocks = 3 ∧ (openSt p).levels = 10 ∧ (openSt p).pool = p := by
  have h : Same (opened 3 10 p) (openSt p) := by
    unfold openSt st2 st1
    exact ((same_feed _ _).trans (same_feed _ _)).trans (same_told _)
  exact ⟨h.stocks, h.levels, h.pool⟩

theorem told_ans (st : St) : st.told.taped.ans = [] := rfl
theorem told_tape' (st : St) : st.told.taped.tape = [] := rfl
theorem good_started (pool : Int) : Good (1 + pick pool 64) 0 (started pool) := by
  have hp := pick_lt pool 64 (by omega)
  obtain ⟨u1, u2, u3⟩ := open_used (1 + pick pool 64) (by omega) (by omega)
  obtain ⟨s1, s2, s3⟩ := same_openSt (1 + pick pool 64)
  refine ⟨inv_openSt _ (by omega) (by omega), s1, s2, s3, u3, u2, told_ans _, told_tape' _, ?_, ?_, Nat.zero_le _, Nat.zero_le _⟩
  · show (openSt (1 + pick pool 64)).used.Nodup
    rw [u1]; decide
  · show ∀ t ∈ (openSt (1 + pick pool 64)).used, Tok t
    rw [u1]
    intro t ht
    simp at ht
    unfold Tok
    omega

/-- How much goes out behind any row of acts. -/
theorem Good.lens {p n : Nat} {x : Run} (h : Good p n x) : x.out.length ≤ 14 * n + 168000 ∧ x.tape.length ≤ 14 * n + 168000 := by
  have h1 := h.outLen
  have h2 := h.tapeLen
  have h3 := tok_len _ h.nodup h.tok
  omega

end Go.Proofs.Ytphkchjejbffeaa

/- What is left of each token, as answers tell: plain lists. -/
namespace Go.Proofs.Ytphkchjejbffeaa

/-- Of a token: what is left, its side, whether it was replaced. -/
structure Hl where
  token : Nat
  left : Nat
  side : UInt8
  over : Bool

def Hl.less (h : Hl) (n : Nat) : Hl := { h with left := h.left - n }
def Hl.done (h : Hl) : Hl := { h with over := true }
def lessAt (t n : Nat) (l : List Hl) : List Hl := l.map fun h => if h.token = t then h.less n else h
def doneAt (t : Nat) (l : List Hl) : List Hl := l.map fun h => if h.token = t then h.done else h

/-- One answer, or two of an execution, and what it makes of the list. -/
inductive RdStep : List UInt8 → List Hl → List Hl → Prop
  | acc (t6 : List UInt8) (tok : Nat) (side stock : UInt8) (price shares : Nat) (kind : UInt8) (ref : Nat) (l : List Hl) (h6 : t6.length = 6) (h1 : tok < 4294967296) (h2 : shares < 65536) (h3 : ∀ h ∈ l, h.token ≠ tok) :
      RdStep (65 :: t6 ++ enc tok 4 ++ [side, stock] ++ enc price 2 ++ enc shares 2 ++ [kind] ++ enc ref 4) l (l ++ [⟨tok, shares, side, false⟩])
  | rep (t6 : List UInt8) (new old price shares ref : Nat) (l : List Hl) (h : Hl) (h6 : t6.length = 6) (h1 : new < 4294967296) (h2 : shares < 65536) (h3 : ∀ h ∈ l, h.token ≠ new) (h4 : h ∈ l) (h5 : h.token = old) (h7 : 1 ≤ h.left) (h8 : h.over = false) (h9 : old < 4294967296) :
      RdStep (85 :: t6 ++ enc new 4 ++ enc price 2 ++ enc shares 2 ++ enc ref 4 ++ enc old 4) l (doneAt old l ++ [⟨new, shares, h.side, false⟩])
  | can (t6 : List UInt8) (tok n : Nat) (r : UInt8) (l : List Hl) (h : Hl) (h6 : t6.length = 6) (h1 : tok < 4294967296) (h2 : n < 65536) (h4 : h ∈ l) (h5 : h.token = tok) (h7 : n ≤ h.left) :
      RdStep (88 :: t6 ++ enc tok 4 ++ enc n 2 ++ [r]) l (lessAt tok n l)
  | rej (t6 : List UInt8) (tok : Nat) (r : UInt8) (l : List Hl) (h6 : t6.length = 6) (h1 : tok < 4294967296) : RdStep (74 :: t6 ++ enc tok 4 ++ [r]) l l
  | fil (t6 : List UInt8) (a b n p m : Nat) (l : List Hl) (ha hb : Hl) (h6 : t6.length = 6) (h1 : a < 4294967296) (h2 : b < 4294967296) (h3 : n < 65536) (h0 : 1 ≤ n) (h4 : ha ∈ l) (h5 : ha.token = a) (h7 : hb ∈ l) (h8 : hb.token = b) (h9 : a ≠ b) (h10 : ha.side ≠ hb.side)
      (h11 : n ≤ ha.left) (h12 : n ≤ hb.left) :
      RdStep (70 :: t6 ++ enc a 4 ++ enc n 2 ++ enc p 2 ++ enc m 4 ++ (70 :: t6 ++ enc b 4 ++ enc n 2 ++ enc p 2 ++ enc m 4)) l (lessAt b n (lessAt a n l))

inductive Reads : List UInt8 → List Hl → List Hl → Prop
  | nil (l : List Hl) : Reads [] l l
  | cons (m r : List UInt8) (l l' l'' : List Hl) (h : RdStep m l l') (k : Reads r l' l'') : Reads (m ++ r) l l''

theorem Reads.one {m : List UInt8} {l l' : List Hl} (h : RdStep m l l') : Reads m l l' := by
  have := Reads.cons m [] l l' l' h (.nil l')
  rwa [List.append_nil] at this
theorem Reads.app {a b : List UInt8} {l l' l'' : List Hl} (h : Reads a l l') (k : Reads b l' l'') : Reads (a ++ b) l l'' := by
  induction h with
  | nil l => exact k
  | cons m r l l1 l2 h _ ih =>
    rw [List.append_assoc]
    exact .cons m (r ++ b) l l1 l'' h (ih k)

/-- An order, if it has shares. -/
def liveO (o : Ord) : List Ord := if o.shares = 0 then [] else [o]
def Hl.fits (h : Hl) (x : Ord) : Prop := h.token = x.token ∧ h.left = x.shares ∧ h.side = x.side ∧ h.over = false

structure Live (ords : List Ord) (l : List Hl) : Prop where
  ndl : (l.map (·.token)).Nodup
  ndo : (ords.map (·.token)).Nodup
  have_ : ∀ x ∈ ords, 1 ≤ x.shares ∧ ∃ h ∈ l, h.fits x
  only : ∀ h ∈ l, h.over = false → h.left ≠ 0 → ∃ x ∈ ords, h.fits x

theorem Live.perm {a b : List Ord} {l : List Hl} (h : Live a l) (p : a.Perm b) : Live b l :=
  ⟨h.ndl, (p.map _).nodup_iff.1 h.ndo, fun x hx => h.have_ x (p.mem_iff.2 hx), fun y hy h1 h2 => by
    obtain ⟨x, hx, e⟩ := h.only y hy h1 h2
    exact ⟨x, p.mem_iff.1 hx, e⟩⟩

theorem nd_eq {l : List Hl} (h : (l.map (·.token)).Nodup) {a b : Hl} (ha : a ∈ l) (hb : b ∈ l) (e : a.token = b.token) : a = b := by
  induction l with
  | nil => cases ha
  | cons x l ih =>
    rw [List.map_cons, List.nodup_cons] at h
    rcases List.mem_cons.1 ha with rfl | ha'
    · rcases List.mem_cons.1 hb with rfl | hb'
      · rfl
      · exact absurd (List.mem_map.2 ⟨b, hb', e.symm⟩) h.1
    · rcases List.mem_cons.1 hb with rfl | hb'
      · exact absurd (List.mem_map.2 ⟨a, ha', e⟩) h.1
      · exact ih h.2 ha' hb'

theorem less_tokens (t n : Nat) (l : List Hl) : (lessAt t n l).map (·.token) = l.map (·.token) := by
  unfold lessAt
  rw [List.map_map]
  refine List.map_congr_left fun h _ => ?_
  simp only [Function.comp_apply]
  split <;> rfl
theorem done_tokens (t : Nat) (l : List Hl) : (doneAt t l).map (·.token) = l.map (·.token) := by
  unfold doneAt
  rw [List.map_map]
  refine List.map_congr_left fun h _ => ?_
  simp only [Function.comp_apply]
  split <;> rfl
theorem mem_less {t n : Nat} {l : List Hl} {h : Hl} : h ∈ lessAt t n l ↔ ∃ a ∈ l, h = if a.token = t then a.less n else a := by
  unfold lessAt
  rw [List.mem_map]
  exact ⟨fun ⟨a, ha, e⟩ => ⟨a, ha, e.symm⟩, fun ⟨a, ha, e⟩ => ⟨a, ha, e.symm⟩⟩
theorem mem_done {t : Nat} {l : List Hl} {h : Hl} : h ∈ doneAt t l ↔ ∃ a ∈ l, h = if a.token = t then a.done else a := by
  unfold doneAt
  rw [List.mem_map]
  exact ⟨fun ⟨a, ha, e⟩ => ⟨a, ha, e.symm⟩, fun ⟨a, ha, e⟩ => ⟨a, ha, e.symm⟩⟩

/-- Of one order shares are gone. -/
theorem Live.less {f : Ord} {R : List Ord} {l : List Hl} (h : Live (f :: R) l) (n : Nat) (h2 : n ≤ f.shares) :
    Live (liveO { f with shares := f.shares - n } ++ R) (lessAt f.token n l) := by
  have hnd := h.ndo
  rw [List.map_cons, List.nodup_cons] at hnd
  obtain ⟨hf1, hf, hfl, hff⟩ := h.have_ f (by simp)
  refine ⟨by rw [less_tokens]; exact h.ndl, ?_, ?_, ?_⟩
  · unfold liveO
    split
    · exact hnd.2
    · show (f.token :: R.map (·.token)).Nodup
      exact h.ndo
  · intro x hx
    rcases List.mem_append.1 hx with hx | hx
    · unfold liveO at hx
      split at hx
      · cases hx
      · rename_i hne
        simp at hx
        subst hx
        refine ⟨?_, hf.less n, mem_less.2 ⟨hf, hfl, by rw [if_pos hff.1]⟩, ?_⟩
        · simp only at hne ⊢; omega
        · exact ⟨hff.1, by show hf.left - n = f.shares - n; rw [hff.2.1], hff.2.2.1, hff.2.2.2⟩
    · obtain ⟨h1, y, hy, hyf⟩ := h.have_ x (by simp [hx])
      refine ⟨h1, y, mem_less.2 ⟨y, hy, ?_⟩, hyf⟩
      rw [if_neg]
      intro e
      exact hnd.1 (List.mem_map.2 ⟨x, hx, by rw [← hyf.1, e]⟩)
  · intro y hy ho hl
    obtain ⟨a, ha, e⟩ := mem_less.1 hy
    by_cases hat : a.token = f.token
    · rw [if_pos hat] at e
      have : a = hf := nd_eq h.ndl ha hfl (by rw [hat, hff.1])
      subst this
      subst e
      have hne : f.shares - n ≠ 0 := by
        intro e0
        apply hl
        show a.left - n = 0
        rw [hff.2.1]; exact e0
      refine ⟨{ f with shares := f.shares - n }, ?_, ?_⟩
      · unfold liveO
        rw [if_neg hne]
        simp
      · exact ⟨hff.1, by show a.left - n = f.shares - n; rw [hff.2.1], hff.2.2.1, hff.2.2.2⟩
    · rw [if_neg hat] at e
      subst e
      obtain ⟨x, hx, hxf⟩ := h.only y ha ho hl
      rcases List.mem_cons.1 hx with rfl | hx
      · exact absurd hxf.1 hat
      · exact ⟨x, by simp [hx], hxf⟩

theorem Live.add {x : Ord} {R : List Ord} {l : List Hl} (h : Live R l) (hn : ∀ y ∈ l, y.token ≠ x.token) (h1 : 1 ≤ x.shares) : Live (x :: R) (l ++ [⟨x.token, x.shares, x.side, false⟩]) := by
  refine ⟨?_, ?_, ?_, ?_⟩
  · rw [List.map_append, List.nodup_append]
    refine ⟨h.ndl, by simp, ?_⟩
    intro a ha b hb e
    simp at hb
    obtain ⟨y, hy, rfl⟩ := List.mem_map.1 ha
    exact hn y hy (by rw [e, hb])
  · rw [List.map_cons, List.nodup_cons]
    refine ⟨?_, h.ndo⟩
    intro hx
    obtain ⟨y, hy, e⟩ := List.mem_map.1 hx
    obtain ⟨-, z, hz, hzf⟩ := h.have_ y hy
    exact hn z hz (by rw [hzf.1, e])
  · intro y hy
    rcases List.mem_cons.1 hy with rfl | hy
    · exact ⟨h1, ⟨y.token, y.shares, y.side, false⟩, by simp, rfl, rfl, rfl, rfl⟩
    · obtain ⟨a, z, hz, hzf⟩ := h.have_ y hy
      exact ⟨a, z, by simp [hz], hzf⟩
  · intro y hy ho hl
    rcases List.mem_append.1 hy with hy | hy
    · obtain ⟨z, hz, hzf⟩ := h.only y hy ho hl
      exact ⟨z, by simp [hz], hzf⟩
    · simp at hy
      subst hy
      exact ⟨x, by simp, rfl, rfl, rfl, rfl⟩

theorem Live.swap {old new : Ord} {R : List Ord} {l : List Hl} (h : Live (old :: R) l) (hn : ∀ y ∈ l, y.token ≠ new.token) (h1 : 1 ≤ new.shares) : Live (new :: R) (doneAt old.token l ++ [⟨new.token, new.shares, new.side, false⟩]) := by
  have hnd := h.ndo
  rw [List.map_cons, List.nodup_cons] at hnd
  have hmid : Live R (doneAt old.token l) := by
    refine ⟨by rw [done_tokens]; exact h.ndl, hnd.2, ?_, ?_⟩
    · intro x hx
      obtain ⟨a, y, hy, hyf⟩ := h.have_ x (by simp [hx])
      refine ⟨a, y, mem_done.2 ⟨y, hy, ?_⟩, hyf⟩
      rw [if_neg]
      intro e
      exact hnd.1 (List.mem_map.2 ⟨x, hx, by rw [← hyf.1, e]⟩)
    · intro y hy ho hl
      obtain ⟨a, ha, e⟩ := mem_done.1 hy
      by_cases hat : a.token = old.token
      · rw [if_pos hat] at e
        subst e
        cases ho
      · rw [if_neg hat] at e
        subst e
        obtain ⟨x, hx, hxf⟩ := h.only y ha ho hl
        rcases List.mem_cons.1 hx with rfl | hx
        · exact absurd hxf.1 hat
        · exact ⟨x, hx, hxf⟩
  refine hmid.add ?_ h1
  intro y hy
  obtain ⟨a, ha, e⟩ := mem_done.1 hy
  have := hn a ha
  rw [e]
  split <;> exact this

/-- As many entries are alive as there are orders. -/
theorem Live.count {ords : List Ord} {l : List Hl} (h : Live ords l) : (l.filter fun y => !y.over && y.left != 0).length = ords.length := by
  have hp : ((l.filter fun y => !y.over && y.left != 0).map (·.token)).Perm (ords.map (·.token)) := by
    refine (List.perm_ext_iff_of_nodup ?_ h.ndo).2 ?_
    · exact List.Nodup.sublist (List.Sublist.map _ List.filter_sublist) h.ndl
    · intro t
      rw [List.mem_map, List.mem_map]
      constructor
      · rintro ⟨y, hy, rfl⟩
        rw [List.mem_filter] at hy
        simp only [Bool.and_eq_true, Bool.not_eq_true', bne_iff_ne] at hy
        obtain ⟨x, hx, hxf⟩ := h.only y hy.1 hy.2.1 hy.2.2
        exact ⟨x, hx, hxf.1.symm⟩
      · rintro ⟨x, hx, rfl⟩
        obtain ⟨a, y, hy, hyf⟩ := h.have_ x hx
        refine ⟨y, List.mem_filter.2 ⟨hy, ?_⟩, hyf.1⟩
        simp only [Bool.and_eq_true, Bool.not_eq_true', bne_iff_ne]
        exact ⟨hyf.2.2.2, by rw [hyf.2.1]; omega⟩
  have := hp.length_eq
  simpa using this

end Go.Proofs.Ytphkchjejbffeaa

/- What Build does, as plain functions of a list of orders, dead ones with no shares. -/
namespace Go.Proofs.Ytphkchjejbffeaa

/-- It rests, with this reference. -/
def isR (t : Nat) (o : Ord) : Bool := o.ref == t && o.shares != 0
def liv (L : List Ord) (t : Nat) : Option Ord := L.find? (isR t)
def leftL (L : List Ord) (t : Nat) : Nat := match liv L t with | none => 0 | some o => o.shares
def chL (t : Nat) (f : Ord → Ord) (L : List Ord) : List Ord := L.map fun o => if isR t o then f o else o
def lessL (t n : Nat) (L : List Ord) : List Ord := chL t (fun o => { o with shares := o.shares - n }) L

theorem isR_iff (t : Nat) (o : Ord) : isR t o = true ↔ o.ref = t ∧ o.shares ≠ 0 := by simp [isR]

/-- M holds the places of those that rest. -/
def Ix (L : List Ord) (M : Nat → Option Nat) : Prop := ∀ t p, M t = some p ↔ ∃ o, L[p]? = some o ∧ isR t o = true

theorem Ix.nil : Ix [] (fun _ => none) := fun t p => ⟨fun h => (by cases h), fun ⟨o, h, _⟩ => (by simp at h)⟩

theorem Ix.unfound {L : List Ord} {M : Nat → Option Nat} (h : Ix L M) {t : Nat} (ht : M t = none) : liv L t = none := by
  cases hl : liv L t with
  | none => rfl
  | some o =>
    have h1 := List.find?_some hl
    obtain ⟨i, hi⟩ := List.mem_iff_getElem?.1 (List.mem_of_find?_eq_some hl)
    have := (h t i).2 ⟨o, hi, h1⟩
    rw [ht] at this
    cases this
theorem Ix.found {L : List Ord} {M : Nat → Option Nat} (h : Ix L M) {t p : Nat} (ht : M t = some p) : ∃ o, L[p]? = some o ∧ isR t o = true ∧ liv L t = some o := by
  obtain ⟨o, ho, hr⟩ := (h t p).1 ht
  refine ⟨o, ho, hr, ?_⟩
  cases hl : liv L t with
  | none =>
    have := List.find?_eq_none.1 hl o (List.mem_of_getElem? ho)
    exact absurd hr this
  | some o' =>
    have h1 := List.find?_some hl
    obtain ⟨i, hi⟩ := List.mem_iff_getElem?.1 (List.mem_of_find?_eq_some hl)
    have h2 := (h t i).2 ⟨o', hi, h1⟩
    rw [ht] at h2
    cases h2
    rw [ho] at hi
    exact hi.symm
theorem Ix.left {L : List Ord} {M : Nat → Option Nat} (h : Ix L M) (t : Nat) : leftL L t = (match M t with | none => 0 | some p => (match L[p]? with | none => 0 | some o => o.shares)) := by
  unfold leftL
  cases ht : M t with
  | none => rw [h.unfound ht]
  | some p =>
    obtain ⟨o, ho, -, hl⟩ := h.found ht
    rw [hl]
    simp only [ho]
theorem left_pos {L : List Ord} {t : Nat} (h : leftL L t ≠ 0) : ∃ o, liv L t = some o ∧ leftL L t = o.shares ∧ isR t o = true := by
  unfold leftL at *
  cases hl : liv L t with
  | none => rw [hl] at h; exact absurd rfl h
  | some o => exact ⟨o, rfl, rfl, List.find?_some hl⟩
theorem liv_left {L : List Ord} {t : Nat} {o : Ord} (h : liv L t = some o) : leftL L t = o.shares := by unfold leftL; rw [h]

theorem Ix.ch {L : List Ord} {M : Nat → Option Nat} (h : Ix L M) {t p : Nat} {o : Ord} (ht : M t = some p) (ho : L[p]? = some o) (f : Ord → Ord) : chL t f L = L.set p (f o) := by
  have hp := (List.getElem?_eq_some_iff.1 ho).1
  refine List.ext_getElem? (fun i => ?_)
  unfold chL
  rw [List.getElem?_map, List.getElem?_set]
  by_cases hi : p = i
  · subst hi
    rw [if_pos rfl, if_pos hp, ho]
    obtain ⟨o', ho', hr, -⟩ := h.found ht
    rw [ho] at ho'
    cases ho'
    simp [hr]
  · rw [if_neg hi]
    cases hL : L[i]? with
    | none => rfl
    | some x =>
      have : ¬ isR t x = true := fun hr => by
        have := (h t i).2 ⟨x, hL, hr⟩
        rw [ht] at this
        cases this
        exact hi rfl
      simp [this]

theorem Ix.part {L : List Ord} {M : Nat → Option Nat} (h : Ix L M) {t p : Nat} {o y : Ord} (ht : M t = some p) (ho : L[p]? = some o) (hy : isR t y = true) : Ix (L.set p y) M := by
  have hp := (List.getElem?_eq_some_iff.1 ho).1
  intro u i
  rw [h u i, List.getElem?_set]
  by_cases hi : p = i
  · subst hi
    rw [if_pos rfl, if_pos hp, ho]
    obtain ⟨o', ho', hr, -⟩ := h.found ht
    rw [ho] at ho'
    cases ho'
    rw [isR_iff] at hr hy
    constructor
    · rintro ⟨x, hx, hr2⟩
      cases hx
      rw [isR_iff] at hr2
      exact ⟨y, rfl, (isR_iff _ _).2 ⟨by omega, hy.2⟩⟩
    · rintro ⟨x, hx, hr2⟩
      cases hx
      rw [isR_iff] at hr2
      exact ⟨o, rfl, (isR_iff _ _).2 ⟨by omega, hr.2⟩⟩
  · rw [if_neg hi]
theorem Ix.dead {L : List Ord} {M : Nat → Option Nat} (h : Ix L M) {t p : Nat} {o y : Ord} (ht : M t = some p) (ho : L[p]? = some o) (hy : y.shares = 0) : Ix (L.set p y) (updM M t none) := by
  have hp := (List.getElem?_eq_some_iff.1 ho).1
  intro u i
  rw [List.getElem?_set]
  by_cases hu : u = t
  · subst hu
    rw [updM_same]
    refine ⟨fun e => (by cases e), ?_⟩
    by_cases hi : p = i
    · rw [if_pos hi, if_pos hp]
      rintro ⟨x, hx, hr⟩
      cases hx
      rw [isR_iff] at hr
      exact absurd hy hr.2
    · rw [if_neg hi]
      intro hx
      have := (h u i).2 hx
      rw [ht] at this
      cases this
      exact absurd rfl hi
  · rw [updM_ne _ _ _ _ hu, h u i]
    by_cases hi : p = i
    · subst hi
      rw [if_pos rfl, if_pos hp, ho]
      constructor
      · rintro ⟨x, hx, hr⟩
        cases hx
        obtain ⟨o', ho', hr', -⟩ := h.found ht
        rw [ho] at ho'
        cases ho'
        rw [isR_iff] at hr hr'
        exact absurd (hr.1.symm.trans hr'.1) hu
      · rintro ⟨x, hx, hr⟩
        cases hx
        rw [isR_iff] at hr
        exact absurd hy hr.2
    · rw [if_neg hi]
theorem Ix.add {L : List Ord} {M : Nat → Option Nat} (h : Ix L M) {y : Ord} (ht : M y.ref = none) (hy : y.shares ≠ 0) : Ix (L ++ [y]) (updM M y.ref (some L.length)) := by
  intro u i
  by_cases hu : u = y.ref
  · subst hu
    rw [updM_same]
    constructor
    · intro e
      cases e
      exact ⟨y, by simp, (isR_iff _ _).2 ⟨rfl, hy⟩⟩
    · rintro ⟨x, hx, hr⟩
      by_cases hi : i < L.length
      · rw [List.getElem?_append_left hi] at hx
        have := (h y.ref i).2 ⟨x, hx, hr⟩
        rw [ht] at this
        cases this
      · have : i < (L ++ [y]).length := (List.getElem?_eq_some_iff.1 hx).1
        simp at this
        congr 1
        omega
  · rw [updM_ne _ _ _ _ hu, h u i]
    by_cases hi : i < L.length
    · rw [List.getElem?_append_left hi]
    · constructor
      · rintro ⟨x, hx, -⟩
        exact absurd (List.getElem?_eq_some_iff.1 hx).1 hi
      · rintro ⟨x, hx, hr⟩
        have : i < (L ++ [y]).length := (List.getElem?_eq_some_iff.1 hx).1
        simp at this
        have e : i = L.length := by omega
        subst e
        simp at hx
        subst hx
        rw [isR_iff] at hr
        exact absurd hr.1.symm hu
theorem Ix.put {L : List Ord} {M : Nat → Option Nat} (h : Ix L M) {p : Nat} {o y : Ord} (ho : L[p]? = some o) (h0 : o.shares = 0) (ht : M y.ref = none) (hy : y.shares ≠ 0) : Ix (L.set p y) (updM M y.ref (some p)) := by
  have hp := (List.getElem?_eq_some_iff.1 ho).1
  intro u i
  rw [List.getElem?_set]
  by_cases hu : u = y.ref
  · subst hu
    rw [updM_same]
    by_cases hi : p = i
    · subst hi
      rw [if_pos rfl, if_pos hp]
      exact ⟨fun _ => ⟨y, rfl, (isR_iff _ _).2 ⟨rfl, hy⟩⟩, fun _ => rfl⟩
    · rw [if_neg hi]
      constructor
      · intro e; cases e; exact absurd rfl hi
      · intro hx
        have := (h y.ref i).2 hx
        rw [ht] at this
        cases this
  · rw [updM_ne _ _ _ _ hu, h u i]
    by_cases hi : p = i
    · subst hi
      rw [if_pos rfl, if_pos hp, ho]
      constructor
      · rintro ⟨x, hx, hr⟩
        cases hx
        rw [isR_iff] at hr
        exact absurd h0 hr.2
      · rintro ⟨x, hx, hr⟩
        cases hx
        rw [isR_iff] at hr
        exact absurd hr.1.symm hu
    · rw [if_neg hi]

/-- How many bytes a message of the tape has: 0, if there is no such letter. -/
def tSize (c : UInt8) : Nat := if c = 97 then 17 else if c = 101 then 17 else if c = 120 then 13 else if c = 100 then 11 else if c = 117 then 19 else 0

def fOrd (f : List UInt8) : Ord := { ref := at_ f 0 4, token := 0, side := byteAt f 4, stock := (byteAt f 5).toNat, price := at_ f 8 2, shares := at_ f 6 2 }
def fRests (L : List Ord) (f : List UInt8) : Option (List Ord) :=
  if leftL L (at_ f 0 4) ≠ 0 ∨ ¬ (byteAt f 4 = 66 ∨ byteAt f 4 = 83) ∨ at_ f 6 2 = 0 then none else some (L ++ [fOrd f])
def fExec (L : List Ord) (f : List UInt8) : Option (List Ord) :=
  if at_ f 4 2 = 0 ∨ leftL L (at_ f 0 4) < at_ f 4 2 then none else some (lessL (at_ f 0 4) (at_ f 4 2) L)
def fLess (L : List Ord) (f : List UInt8) : Option (List Ord) :=
  if at_ f 4 2 = 0 ∨ leftL L (at_ f 0 4) ≤ at_ f 4 2 then none else some (lessL (at_ f 0 4) (at_ f 4 2) L)
def fGone (L : List Ord) (f : List UInt8) : Option (List Ord) :=
  if leftL L (at_ f 0 4) = 0 then none else some (lessL (at_ f 0 4) (leftL L (at_ f 0 4)) L)
/-- The order that takes the place of an old one. -/
def fNew (o : Ord) (f : List UInt8) : Ord := { ref := at_ f 4 4, token := 0, side := o.side, stock := o.stock, price := at_ f 10 2, shares := at_ f 8 2 }
def fSwap (L : List Ord) (f : List UInt8) : Option (List Ord) :=
  match liv L (at_ f 0 4) with
  | none => none
  | some o =>
    if (at_ f 4 4 ≠ at_ f 0 4 ∧ leftL L (at_ f 4 4) ≠ 0) ∨ at_ f 8 2 = 0 then none
    else if at_ f 10 2 = o.price ∧ at_ f 8 2 ≤ o.shares then some (chL (at_ f 0 4) (fun _ => fNew o f) L)
    else some (lessL (at_ f 0 4) o.shares L ++ [fNew o f])

def fol (L : List Ord) (c : UInt8) (f : List UInt8) : Option (List Ord) :=
  if c = 97 then fRests L f else if c = 101 then fExec L f else if c = 120 then fLess L f else if c = 100 then fGone L f else if c = 117 then fSwap L f else none

/-- The orders behind a tape, or none, and what stood behind where it ends. -/
def tb : Nat → List Ord → List UInt8 → Option (List Ord) × List UInt8
  | 0, L, b => (some L, b)
  | k + 1, L, b =>
    if b = [] then (some L, []) else
    if tSize (byteAt b 0) = 0 ∨ b.length < tSize (byteAt b 0) then (none, b) else
    match fol L (byteAt b 0) ((b.take (tSize (byteAt b 0))).drop 7) with
    | none => (none, b)
    | some L' => tb k L' (b.drop (tSize (byteAt b 0)))
def built (tape : List UInt8) : Option (List Ord) × List UInt8 := tb tape.length [] tape

/-- Bytes of the tape that turn one list to another. -/
def Bld (bs : List UInt8) (L L' : List Ord) : Prop := ∀ rest k, (bs ++ rest).length ≤ k → ∃ k', rest.length ≤ k' ∧ tb k L (bs ++ rest) = tb k' L' rest
theorem Bld.nil (L : List Ord) : Bld [] L L := fun _ k h => ⟨k, h, rfl⟩
theorem Bld.app {a b : List UInt8} {L M N : List Ord} (h : Bld a L M) (g : Bld b M N) : Bld (a ++ b) L N := by
  intro rest k hk
  rw [List.append_assoc] at hk ⊢
  obtain ⟨k1, h1, e1⟩ := h (b ++ rest) k hk
  obtain ⟨k2, h2, e2⟩ := g rest k1 h1
  exact ⟨k2, h2, e1.trans e2⟩
theorem Bld.one {L L' : List Ord} (c : UInt8) (m f : List UInt8) (hm : m.length = 6) (hs : (c :: (m ++ f)).length = tSize c) (hf : fol L c f = some L') : Bld (c :: (m ++ f)) L L' := by
  intro rest k hk
  have hne : (c :: (m ++ f)) ++ rest ≠ [] := by simp
  have hb : byteAt ((c :: (m ++ f)) ++ rest) 0 = c := rfl
  have htk : (((c :: (m ++ f)) ++ rest).take (tSize c)).drop 7 = f := by
    rw [← hs, List.take_left]
    rw [show c :: (m ++ f) = (c :: m) ++ f from rfl, show 7 = (c :: m).length by simp [hm], List.drop_left]
  have hdr : ((c :: (m ++ f)) ++ rest).drop (tSize c) = rest := by rw [← hs, List.drop_left]
  have hlen : ((c :: (m ++ f)) ++ rest).length = tSize c + rest.length := by rw [List.length_append, hs]
  have hpos : tSize c ≠ 0 := by rw [← hs]; simp
  cases k with
  | zero => rw [hlen] at hk; omega
  | succ k =>
    refine ⟨k, by rw [hlen] at hk; omega, ?_⟩
    show (if _ then _ else _) = _
    rw [if_neg hne, hb, if_neg (by rw [hlen]; omega), htk, hf, hdr]
theorem Bld.built {bs : List UInt8} {L : List Ord} (h : Bld bs [] L) : built bs = (some L, []) := by
  obtain ⟨k, -, e⟩ := h [] bs.length (by simp)
  rw [List.append_nil] at e
  unfold Go.Proofs.Ytphkchjejbffeaa.built
  rw [e]
  cases k with
  | zero => rfl
  | succ k => rfl

end Go.Proofs.Ytphkchjejbffeaa
