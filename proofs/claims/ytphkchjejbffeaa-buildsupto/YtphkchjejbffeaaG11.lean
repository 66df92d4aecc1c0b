/- Why an order may not enter. -/
import Derived.Test.YtphkchjejbffeaaG10
import Derived.BigQuiet
import Derived.Deep.QuietTactic
namespace Go.Proofs.Ytphkchjejbffeaa
open Go.RowKit
attribute [local go_sem ↓] Go.wp_at_zero Go.wp_at_succ

def whyV : Option UInt8 → Value
  | some r => .tuple #[.int .u8 r.toNat, .bool true]
  | none => .tuple #[.int .u8 0, .bool false]
def enterV (t : Nat) (side : UInt8) (stock price shares : Nat) (kind : UInt8) : Value := .agg #[.int .u32 t, .int .u8 side.toNat, .int .u8 stock, .int .u16 price, .int .u16 shares, .int .u8 kind.toNat]

theorem u8_ne (t u : UInt8) (h : t ≠ u) : (((t.toNat : Int)) == (u.toNat : Int)) = false := by
  rw [beq_eq_false_iff_ne]
  intro e
  exact h (UInt8.toNat_inj.1 (by omega))

theorem Lk.full {S L n free : Nat} {fs ls : Nat → Nat → Nat} {bef aft : Nat → Nat} {ps : Nat → UInt8 → Nat → List Nat} {fl : List Nat} (h : Lk S L n free fs ls bef aft ps fl) : free = 0 ↔ fl = [] := by
  have := h.free
  rcases fl with _ | ⟨x, fl⟩
  · simp [FreeC] at this; simp [this]
  · obtain ⟨h1, h2, -⟩ := this
    simp [h1, h2]

theorem sideMayBe_lit (x : Int) (w : World) (h : x = 66 ∨ x = 83) :
    Calls Try.prog 93 #[.int .u8 x] w fun e w' => e = .returned (.bool true) ∧ w' = w := by
  rcases h with rfl | rfl
  all_goals
    go_enter Try.func93, Try.ntmps93
    go_wp2_with fail
    go_ret
    exact ⟨rfl, rfl⟩

theorem sideMayBe_no (side : UInt8) (h : side ≠ 66 ∧ side ≠ 83) (w : World) :
    Calls Try.prog 93 #[.int .u8 side.toNat] w fun e w' => e = .returned (.bool false) ∧ w' = w := by
  have n1 : ((side.toNat : Int) == 66) = false := u8_ne side 66 h.1
  have n2 : ((side.toNat : Int) == 83) = false := u8_ne side 83 h.2
  go_enter Try.func93, Try.ntmps93
  go_wp2_with fail
  go_ret
  exact ⟨rfl, rfl⟩

set_option maxRecDepth 100000 in
set_option maxHeartbeats 2000000 in
theorem whyNotEnter_D (b : Nat) (c : BC) (k : SK) (st : St) (t : Nat) (side : UInt8) (stock price shares : Nat) (kind : UInt8) (w : World) (h : Rel w b c k st) (ht : t < 4294967296) (hst : stock < 256) (_hp : price < 65536) (_hs : shares < 65536) (h1 : t ∈ st.used) :
    Calls Try.prog 71 #[.pointer (some ⟨b, 0, none⟩), enterV t side stock price shares kind] w fun e w' => e = .returned (.tuple #[.int .u8 68, .bool true]) ∧ Hid (Fr (fun _ => False) w w') := by
  obtain ⟨M, od, ps, fl, j1, j2, j3⟩ := h.ex
  obtain ⟨free, fs, ls, bef, aft, h4, h5⟩ := j1.ex
  have g19 := h.books
  have hblt := h.B.lt
  have hgb : ∀ j, GB b c k j → j < w.heap.size := h.lt
  have HFN : Hid (free = 0 ↔ st.pool ≤ st.resting) := by
    have a1 := h5.full
    have a2 := j3.cnt
    constructor
    · intro e
      rw [a1.1 e] at a2
      simp at a2; omega
    · intro e
      apply a1.2
      rcases fl with _ | ⟨x, fl⟩
      · rfl
      · rw [List.length_cons] at a2; omega
  have HST : Hid (k.S = st.stocks) := j3.hS
  have hSS : (k.S : Int) = (st.stocks : Int) := by rw [HST.out]
  have HSS := Hid.mk hSS
  have HR := Hid.mk h
  have H4 := Hid.mk h4
  have ws : IntKind.i64.wrap (stock : Int) = (stock : Int) := by rw [IntKind.wrap_i64]; omega
  clear h j1 j2 j3 h4 h5 hSS
  have HU : Hid (decide (t ∈ st.used) = true) := by show _ = _; simp [h1]
  unfold enterV
  go_enter Try.func71, Try.ntmps71
  go_wp2_with fail
  generalize hOb : Obj.cells _ 110 = Ob
  have hF : Fr (fun _ => False) w (w.alloc Ob) := Fr.alloc _ w Ob
  have cc : ∀ i v, (#[Value.int .u32 t, .int .u8 side.toNat, .int .u8 stock, .int .u16 price, .int .u16 shares, .int .u8 kind.toNat] : Array Value)[i]? = some v → (w.alloc Ob).cell? ⟨w.heap.size, i, none⟩ = some v := by
    intro i v hv
    rw [cell_of_row _ w.heap.size i _ 110 (0, 0) (by rw [heap_alloc, if_pos rfl, ← hOb])]
    exact hv
  generalize w.alloc Ob = W at hF cc ⊢
  have q0 := cc 0 _ rfl
  have q1 := cc 1 _ rfl
  have q2 := cc 2 _ rfl
  have q3 := cc 3 _ rfl
  have q4 := cc 4 _ rfl
  have q5 := cc 5 _ rfl
  have HRW : Hid (Rel W b c k st) := HR.out.quiet hF
  have HK : Hid (IsK W k.bk (k.kc free st.resting)) := ⟨(hF.block _ H4.out.K.lt (fun e => e)).trans H4.out.K.blk⟩
  have g19w := hF.cell g19 (fun e => e)
  have HF := Hid.mk hF
  clear hF cc g19 hOb
  refine (used_any b c k st t W HRW.out ht).mono ?_
  rintro e w' ⟨rfl, hw⟩
  replace hw := hw.symm
  subst hw
  rw [HU.out]
  go_wp2_with fail
  go_ret2
  exact ⟨rfl, HF.out⟩

set_option maxRecDepth 100000 in
set_option maxHeartbeats 2000000 in
theorem whyNotEnter_B (b : Nat) (c : BC) (k : SK) (st : St) (t : Nat) (side : UInt8) (stock price shares : Nat) (kind : UInt8) (w : World) (h : Rel w b c k st) (ht : t < 4294967296) (hst : stock < 256) (_hp : price < 65536) (_hs : shares < 65536) (h1 : t ∉ st.used) (h2 : side ≠ 66 ∧ side ≠ 83) :
    Calls Try.prog 71 #[.pointer (some ⟨b, 0, none⟩), enterV t side stock price shares kind] w fun e w' => e = .returned (.tuple #[.int .u8 66, .bool true]) ∧ Hid (Fr (fun _ => False) w w') := by
  obtain ⟨M, od, ps, fl, j1, j2, j3⟩ := h.ex
  obtain ⟨free, fs, ls, bef, aft, h4, h5⟩ := j1.ex
  have g19 := h.books
  have hblt := h.B.lt
  have hgb : ∀ j, GB b c k j → j < w.heap.size := h.lt
  have HFN : Hid (free = 0 ↔ st.pool ≤ st.resting) := by
    have a1 := h5.full
    have a2 := j3.cnt
    constructor
    · intro e
      rw [a1.1 e] at a2
      simp at a2; omega
    · intro e
      apply a1.2
      rcases fl with _ | ⟨x, fl⟩
      · rfl
      · rw [List.length_cons] at a2; omega
  have HST : Hid (k.S = st.stocks) := j3.hS
  have hSS : (k.S : Int) = (st.stocks : Int) := by rw [HST.out]
  have HSS := Hid.mk hSS
  have HR := Hid.mk h
  have H4 := Hid.mk h4
  have ws : IntKind.i64.wrap (stock : Int) = (stock : Int) := by rw [IntKind.wrap_i64]; omega
  clear h j1 j2 j3 h4 h5 hSS
  have HU : Hid (decide (t ∈ st.used) = false) := by show _ = _; simp [h1]
  unfold enterV
  go_enter Try.func71, Try.ntmps71
  go_wp2_with fail
  generalize hOb : Obj.cells _ 110 = Ob
  have hF : Fr (fun _ => False) w (w.alloc Ob) := Fr.alloc _ w Ob
  have cc : ∀ i v, (#[Value.int .u32 t, .int .u8 side.toNat, .int .u8 stock, .int .u16 price, .int .u16 shares, .int .u8 kind.toNat] : Array Value)[i]? = some v → (w.alloc Ob).cell? ⟨w.heap.size, i, none⟩ = some v := by
    intro i v hv
    rw [cell_of_row _ w.heap.size i _ 110 (0, 0) (by rw [heap_alloc, if_pos rfl, ← hOb])]
    exact hv
  generalize w.alloc Ob = W at hF cc ⊢
  have q0 := cc 0 _ rfl
  have q1 := cc 1 _ rfl
  have q2 := cc 2 _ rfl
  have q3 := cc 3 _ rfl
  have q4 := cc 4 _ rfl
  have q5 := cc 5 _ rfl
  have HRW : Hid (Rel W b c k st) := HR.out.quiet hF
  have HK : Hid (IsK W k.bk (k.kc free st.resting)) := ⟨(hF.block _ H4.out.K.lt (fun e => e)).trans H4.out.K.blk⟩
  have g19w := hF.cell g19 (fun e => e)
  have HF := Hid.mk hF
  clear hF cc g19 hOb
  refine (used_any b c k st t W HRW.out ht).mono ?_
  rintro e w' ⟨rfl, hw⟩
  replace hw := hw.symm
  subst hw
  rw [HU.out]
  go_wp2_with fail
  refine (sideMayBe_no side h2 W).mono ?_
  rintro e w' ⟨rfl, hw⟩
  replace hw := hw.symm
  subst hw
  go_wp2_with fail
  go_ret2
  exact ⟨rfl, HF.out⟩

set_option maxRecDepth 100000 in
set_option maxHeartbeats 2000000 in
theorem whyNotEnter_S (b : Nat) (c : BC) (k : SK) (st : St) (t : Nat) (side : UInt8) (stock price shares : Nat) (kind : UInt8) (w : World) (h : Rel w b c k st) (ht : t < 4294967296) (hst : stock < 256) (_hp : price < 65536) (_hs : shares < 65536) (h1 : t ∉ st.used) (h2 : side = 66 ∨ side = 83) (h3 : st.stocks ≤ stock) :
    Calls Try.prog 71 #[.pointer (some ⟨b, 0, none⟩), enterV t side stock price shares kind] w fun e w' => e = .returned (.tuple #[.int .u8 83, .bool true]) ∧ Hid (Fr (fun _ => False) w w') := by
  obtain ⟨M, od, ps, fl, j1, j2, j3⟩ := h.ex
  obtain ⟨free, fs, ls, bef, aft, h4, h5⟩ := j1.ex
  have g19 := h.books
  have hblt := h.B.lt
  have hgb : ∀ j, GB b c k j → j < w.heap.size := h.lt
  have HFN : Hid (free = 0 ↔ st.pool ≤ st.resting) := by
    have a1 := h5.full
    have a2 := j3.cnt
    constructor
    · intro e
      rw [a1.1 e] at a2
      simp at a2; omega
    · intro e
      apply a1.2
      rcases fl with _ | ⟨x, fl⟩
      · rfl
      · rw [List.length_cons] at a2; omega
  have HST : Hid (k.S = st.stocks) := j3.hS
  have hSS : (k.S : Int) = (st.stocks : Int) := by rw [HST.out]
  have HSS := Hid.mk hSS
  have HR := Hid.mk h
  have H4 := Hid.mk h4
  have ws : IntKind.i64.wrap (stock : Int) = (stock : Int) := by rw [IntKind.wrap_i64]; omega
  clear h j1 j2 j3 h4 h5 hSS
  have HU : Hid (decide (t ∈ st.used) = false) := by show _ = _; simp [h1]
  have s2 : (k.kc free st.resting).stocks ≤ stock := by show k.S ≤ stock; rw [HST.out]; omega
  unfold enterV
  go_enter Try.func71, Try.ntmps71
  go_wp2_with fail
  generalize hOb : Obj.cells _ 110 = Ob
  have hF : Fr (fun _ => False) w (w.alloc Ob) := Fr.alloc _ w Ob
  have cc : ∀ i v, (#[Value.int .u32 t, .int .u8 side.toNat, .int .u8 stock, .int .u16 price, .int .u16 shares, .int .u8 kind.toNat] : Array Value)[i]? = some v → (w.alloc Ob).cell? ⟨w.heap.size, i, none⟩ = some v := by
    intro i v hv
    rw [cell_of_row _ w.heap.size i _ 110 (0, 0) (by rw [heap_alloc, if_pos rfl, ← hOb])]
    exact hv
  generalize w.alloc Ob = W at hF cc ⊢
  have q0 := cc 0 _ rfl
  have q1 := cc 1 _ rfl
  have q2 := cc 2 _ rfl
  have q3 := cc 3 _ rfl
  have q4 := cc 4 _ rfl
  have q5 := cc 5 _ rfl
  have HRW : Hid (Rel W b c k st) := HR.out.quiet hF
  have HK : Hid (IsK W k.bk (k.kc free st.resting)) := ⟨(hF.block _ H4.out.K.lt (fun e => e)).trans H4.out.K.blk⟩
  have g19w := hF.cell g19 (fun e => e)
  have HF := Hid.mk hF
  clear hF cc g19 hOb
  rcases h2 with rfl | rfl
  all_goals
    refine (used_any b c k st t W HRW.out ht).mono ?_
    rintro e w' ⟨rfl, hw⟩
    replace hw := hw.symm
    subst hw
    rw [HU.out]
    go_wp2_with fail
    refine (sideMayBe_lit _ W (by first | exact .inl rfl | exact .inr rfl)).mono ?_
    rintro e w' ⟨rfl, hw⟩
    replace hw := hw.symm
    subst hw
    go_wp2_with fail
    go_region_held3 (fun w' => w'.cell? ⟨w.heap.size, 2, none⟩ = some (.int .u8 stock) ∧ w'.cell? ⟨b, 19, none⟩ = some (.pointer (some ⟨k.bk, 0, none⟩))) (first | exact m1 | go_keep)
      ((go_at_call 57; refine (stocks_any k.bk (k.kc free st.resting) W.drew ⟨HK.out.blk⟩).mono ?_; rintro e w' ⟨rfl, hw⟩; replace hw := hw.symm; subst hw; have m1 : W.drew.cell? ⟨w.heap.size, 2, none⟩ = some (.int .u8 stock) ∧ W.drew.cell? ⟨b, 19, none⟩ = some (.pointer (some ⟨k.bk, 0, none⟩)) := ⟨q2, g19w⟩))
    go_wp2_with fail
    go_ret2
    exact ⟨rfl, HF.out.trans (Fr.drew _ W) (fun _ _ e => e)⟩

set_option maxRecDepth 100000 in
set_option maxHeartbeats 2000000 in
theorem whyNotEnter_P (b : Nat) (c : BC) (k : SK) (st : St) (t : Nat) (side : UInt8) (stock price shares : Nat) (kind : UInt8) (w : World) (h : Rel w b c k st) (ht : t < 4294967296) (hst : stock < 256) (hp : price < 65536) (_hs : shares < 65536) (h1 : t ∉ st.used) (h2 : side = 66 ∨ side = 83) (h3 : stock < st.stocks) (h4 : ¬ (1 ≤ price ∧ price ≤ st.levels)) :
    Calls Try.prog 71 #[.pointer (some ⟨b, 0, none⟩), enterV t side stock price shares kind] w fun e w' => e = .returned (.tuple #[.int .u8 80, .bool true]) ∧ Hid (Fr (fun _ => False) w w') := by
  obtain ⟨M, od, ps, fl, j1, j2, j3⟩ := h.ex
  obtain ⟨free, fs, ls, bef, aft, h4, h5⟩ := j1.ex
  have g19 := h.books
  have hblt := h.B.lt
  have hgb : ∀ j, GB b c k j → j < w.heap.size := h.lt
  have HFN : Hid (free = 0 ↔ st.pool ≤ st.resting) := by
    have a1 := h5.full
    have a2 := j3.cnt
    constructor
    · intro e
      rw [a1.1 e] at a2
      simp at a2; omega
    · intro e
      apply a1.2
      rcases fl with _ | ⟨x, fl⟩
      · rfl
      · rw [List.length_cons] at a2; omega
  have HST : Hid (k.S = st.stocks) := j3.hS
  have hSS : (k.S : Int) = (st.stocks : Int) := by rw [HST.out]
  have HSS := Hid.mk hSS
  have HR := Hid.mk h
  have H4 := Hid.mk h4
  have ws : IntKind.i64.wrap (stock : Int) = (stock : Int) := by rw [IntKind.wrap_i64]; omega
  clear h j1 j2 j3 h4 h5 hSS
  have HU : Hid (decide (t ∈ st.used) = false) := by show _ = _; simp [h1]
  have s2 : ¬ ((k.kc free st.resting).stocks ≤ stock) := by show ¬ (k.S ≤ stock); rw [HST.out]; omega
  have HP : Hid (decide (1 ≤ price ∧ price ≤ st.levels) = false) := by show _ = _; simp only [h4, decide_false]
  unfold enterV
  go_enter Try.func71, Try.ntmps71
  go_wp2_with fail
  generalize hOb : Obj.cells _ 110 = Ob
  have hF : Fr (fun _ => False) w (w.alloc Ob) := Fr.alloc _ w Ob
  have cc : ∀ i v, (#[Value.int .u32 t, .int .u8 side.toNat, .int .u8 stock, .int .u16 price, .int .u16 shares, .int .u8 kind.toNat] : Array Value)[i]? = some v → (w.alloc Ob).cell? ⟨w.heap.size, i, none⟩ = some v := by
    intro i v hv
    rw [cell_of_row _ w.heap.size i _ 110 (0, 0) (by rw [heap_alloc, if_pos rfl, ← hOb])]
    exact hv
  generalize w.alloc Ob = W at hF cc ⊢
  have q0 := cc 0 _ rfl
  have q1 := cc 1 _ rfl
  have q2 := cc 2 _ rfl
  have q3 := cc 3 _ rfl
  have q4 := cc 4 _ rfl
  have q5 := cc 5 _ rfl
  have HRW : Hid (Rel W b c k st) := HR.out.quiet hF
  have HK : Hid (IsK W k.bk (k.kc free st.resting)) := ⟨(hF.block _ H4.out.K.lt (fun e => e)).trans H4.out.K.blk⟩
  have g19w := hF.cell g19 (fun e => e)
  have HF := Hid.mk hF
  clear hF cc g19 hOb
  rcases h2 with rfl | rfl
  all_goals
    refine (used_any b c k st t W HRW.out ht).mono ?_
    rintro e w' ⟨rfl, hw⟩
    replace hw := hw.symm
    subst hw
    rw [HU.out]
    go_wp2_with fail
    refine (sideMayBe_lit _ W (by first | exact .inl rfl | exact .inr rfl)).mono ?_
    rintro e w' ⟨rfl, hw⟩
    replace hw := hw.symm
    subst hw
    go_wp2_with fail
    go_region_held3 (fun w' => w'.cell? ⟨w.heap.size, 2, none⟩ = some (.int .u8 stock) ∧ w'.cell? ⟨b, 19, none⟩ = some (.pointer (some ⟨k.bk, 0, none⟩))) (first | exact m1 | go_keep)
      ((go_at_call 57; refine (stocks_any k.bk (k.kc free st.resting) W.drew ⟨HK.out.blk⟩).mono ?_; rintro e w' ⟨rfl, hw⟩; replace hw := hw.symm; subst hw; have m1 : W.drew.cell? ⟨w.heap.size, 2, none⟩ = some (.int .u8 stock) ∧ W.drew.cell? ⟨b, 19, none⟩ = some (.pointer (some ⟨k.bk, 0, none⟩)) := ⟨q2, g19w⟩))
    go_wp2_with (first
      | (go_at_call 112; refine (onLadder_any b c k st price W.drew (HRW.out.quiet (Fr.drew _ W)) hp _ HP.out).mono ?_; rintro e w' ⟨rfl, hw⟩; replace hw := hw.symm; subst hw)
      | (go_at_call 113; refine (sharesMayBe_any shares W.drew hs _ (rfl)).mono ?_; rintro e w' ⟨rfl, hw⟩; replace hw := hw.symm; subst hw))
    go_ret2
    exact ⟨rfl, HF.out.trans (Fr.drew _ W) (fun _ _ e => e)⟩

set_option maxRecDepth 100000 in
set_option maxHeartbeats 2000000 in
theorem whyNotEnter_Q (b : Nat) (c : BC) (k : SK) (st : St) (t : Nat) (side : UInt8) (stock price shares : Nat) (kind : UInt8) (w : World) (h : Rel w b c k st) (ht : t < 4294967296) (hst : stock < 256) (hp : price < 65536) (hs : shares < 65536) (h1 : t ∉ st.used) (h2 : side = 66 ∨ side = 83) (h3 : stock < st.stocks) (h4 : 1 ≤ price ∧ price ≤ st.levels) (h5 : ¬ (1 ≤ shares ∧ shares ≤ 9999)) :
    Calls Try.prog 71 #[.pointer (some ⟨b, 0, none⟩), enterV t side stock price shares kind] w fun e w' => e = .returned (.tuple #[.int .u8 81, .bool true]) ∧ Hid (Fr (fun _ => False) w w') := by
  obtain ⟨M, od, ps, fl, j1, j2, j3⟩ := h.ex
  obtain ⟨free, fs, ls, bef, aft, h4, h5⟩ := j1.ex
  have g19 := h.books
  have hblt := h.B.lt
  have hgb : ∀ j, GB b c k j → j < w.heap.size := h.lt
  have HFN : Hid (free = 0 ↔ st.pool ≤ st.resting) := by
    have a1 := h5.full
    have a2 := j3.cnt
    constructor
    · intro e
      rw [a1.1 e] at a2
      simp at a2; omega
    · intro e
      apply a1.2
      rcases fl with _ | ⟨x, fl⟩
      · rfl
      · rw [List.length_cons] at a2; omega
  have HST : Hid (k.S = st.stocks) := j3.hS
  have hSS : (k.S : Int) = (st.stocks : Int) := by rw [HST.out]
  have HSS := Hid.mk hSS
  have HR := Hid.mk h
  have H4 := Hid.mk h4
  have ws : IntKind.i64.wrap (stock : Int) = (stock : Int) := by rw [IntKind.wrap_i64]; omega
  clear h j1 j2 j3 h4 h5 hSS
  have HU : Hid (decide (t ∈ st.used) = false) := by show _ = _; simp [h1]
  have s2 : ¬ ((k.kc free st.resting).stocks ≤ stock) := by show ¬ (k.S ≤ stock); rw [HST.out]; omega
  have HP : Hid (decide (1 ≤ price ∧ price ≤ st.levels) = true) := by show _ = _; simp only [h4, and_self, decide_true]
  have HS : Hid (decide (1 ≤ shares ∧ shares ≤ 9999) = false) := by show _ = _; simp only [h5, decide_false]
  unfold enterV
  go_enter Try.func71, Try.ntmps71
  go_wp2_with fail
  generalize hOb : Obj.cells _ 110 = Ob
  have hF : Fr (fun _ => False) w (w.alloc Ob) := Fr.alloc _ w Ob
  have cc : ∀ i v, (#[Value.int .u32 t, .int .u8 side.toNat, .int .u8 stock, .int .u16 price, .int .u16 shares, .int .u8 kind.toNat] : Array Value)[i]? = some v → (w.alloc Ob).cell? ⟨w.heap.size, i, none⟩ = some v := by
    intro i v hv
    rw [cell_of_row _ w.heap.size i _ 110 (0, 0) (by rw [heap_alloc, if_pos rfl, ← hOb])]
    exact hv
  generalize w.alloc Ob = W at hF cc ⊢
  have q0 := cc 0 _ rfl
  have q1 := cc 1 _ rfl
  have q2 := cc 2 _ rfl
  have q3 := cc 3 _ rfl
  have q4 := cc 4 _ rfl
  have q5 := cc 5 _ rfl
  have HRW : Hid (Rel W b c k st) := HR.out.quiet hF
  have HK : Hid (IsK W k.bk (k.kc free st.resting)) := ⟨(hF.block _ H4.out.K.lt (fun e => e)).trans H4.out.K.blk⟩
  have g19w := hF.cell g19 (fun e => e)
  have HF := Hid.mk hF
  clear hF cc g19 hOb
  rcases h2 with rfl | rfl
  all_goals
    refine (used_any b c k st t W HRW.out ht).mono ?_
    rintro e w' ⟨rfl, hw⟩
    replace hw := hw.symm
    subst hw
    rw [HU.out]
    go_wp2_with fail
    refine (sideMayBe_lit _ W (by first | exact .inl rfl | exact .inr rfl)).mono ?_
    rintro e w' ⟨rfl, hw⟩
    replace hw := hw.symm
    subst hw
    go_wp2_with fail
    go_region_held3 (fun w' => w'.cell? ⟨w.heap.size, 2, none⟩ = some (.int .u8 stock) ∧ w'.cell? ⟨b, 19, none⟩ = some (.pointer (some ⟨k.bk, 0, none⟩))) (first | exact m1 | go_keep)
      ((go_at_call 57; refine (stocks_any k.bk (k.kc free st.resting) W.drew ⟨HK.out.blk⟩).mono ?_; rintro e w' ⟨rfl, hw⟩; replace hw := hw.symm; subst hw; have m1 : W.drew.cell? ⟨w.heap.size, 2, none⟩ = some (.int .u8 stock) ∧ W.drew.cell? ⟨b, 19, none⟩ = some (.pointer (some ⟨k.bk, 0, none⟩)) := ⟨q2, g19w⟩))
    go_wp2_with (first
      | (go_at_call 112; refine (onLadder_any b c k st price W.drew (HRW.out.quiet (Fr.drew _ W)) hp _ HP.out).mono ?_; rintro e w' ⟨rfl, hw⟩; replace hw := hw.symm; subst hw)
      | (go_at_call 113; refine (sharesMayBe_any shares W.drew hs _ HS.out).mono ?_; rintro e w' ⟨rfl, hw⟩; replace hw := hw.symm; subst hw))
    go_ret2
    exact ⟨rfl, HF.out.trans (Fr.drew _ W) (fun _ _ e => e)⟩

set_option maxRecDepth 100000 in
set_option maxHeartbeats 2000000 in
theorem whyNotEnter_K (b : Nat) (c : BC) (k : SK) (st : St) (t : Nat) (side : UInt8) (stock price shares : Nat) (kind : UInt8) (w : World) (h : Rel w b c k st) (ht : t < 4294967296) (hst : stock < 256) (hp : price < 65536) (hs : shares < 65536) (h1 : t ∉ st.used) (h2 : side = 66 ∨ side = 83) (h3 : stock < st.stocks) (h4 : 1 ≤ price ∧ price ≤ st.levels) (h5 : 1 ≤ shares ∧ shares ≤ 9999) (h6 : kind ≠ 68 ∧ kind ≠ 73) :
    Calls Try.prog 71 #[.pointer (some ⟨b, 0, none⟩), enterV t side stock price shares kind] w fun e w' => e = .returned (.tuple #[.int .u8 75, .bool true]) ∧ Hid (Fr (fun _ => False) w w') := by
  obtain ⟨M, od, ps, fl, j1, j2, j3⟩ := h.ex
  obtain ⟨free, fs, ls, bef, aft, h4, h5⟩ := j1.ex
  have g19 := h.books
  have hblt := h.B.lt
  have hgb : ∀ j, GB b c k j → j < w.heap.size := h.lt
  have HFN : Hid (free = 0 ↔ st.pool ≤ st.resting) := by
    have a1 := h5.full
    have a2 := j3.cnt
    constructor
    · intro e
      rw [a1.1 e] at a2
      simp at a2; omega
    · intro e
      apply a1.2
      rcases fl with _ | ⟨x, fl⟩
      · rfl
      · rw [List.length_cons] at a2; omega
  have HST : Hid (k.S = st.stocks) := j3.hS
  have hSS : (k.S : Int) = (st.stocks : Int) := by rw [HST.out]
  have HSS := Hid.mk hSS
  have HR := Hid.mk h
  have H4 := Hid.mk h4
  have ws : IntKind.i64.wrap (stock : Int) = (stock : Int) := by rw [IntKind.wrap_i64]; omega
  clear h j1 j2 j3 h4 h5 hSS
  have HU : Hid (decide (t ∈ st.used) = false) := by show _ = _; simp [h1]
  have s2 : ¬ ((k.kc free st.resting).stocks ≤ stock) := by show ¬ (k.S ≤ stock); rw [HST.out]; omega
  have HP : Hid (decide (1 ≤ price ∧ price ≤ st.levels) = true) := by show _ = _; simp only [h4, and_self, decide_true]
  have HS : Hid (decide (1 ≤ shares ∧ shares ≤ 9999) = true) := by show _ = _; simp only [h5, and_self, decide_true]
  have k1 : ((kind.toNat : Int) != 68) = true := by have := u8_ne kind 68 h6.1; simp at this ⊢; exact this
  have k2 : ((kind.toNat : Int) != 73) = true := by have := u8_ne kind 73 h6.2; simp at this ⊢; exact this
  unfold enterV
  go_enter Try.func71, Try.ntmps71
  go_wp2_with fail
  generalize hOb : Obj.cells _ 110 = Ob
  have hF : Fr (fun _ => False) w (w.alloc Ob) := Fr.alloc _ w Ob
  have cc : ∀ i v, (#[Value.int .u32 t, .int .u8 side.toNat, .int .u8 stock, .int .u16 price, .int .u16 shares, .int .u8 kind.toNat] : Array Value)[i]? = some v → (w.alloc Ob).cell? ⟨w.heap.size, i, none⟩ = some v := by
    intro i v hv
    rw [cell_of_row _ w.heap.size i _ 110 (0, 0) (by rw [heap_alloc, if_pos rfl, ← hOb])]
    exact hv
  generalize w.alloc Ob = W at hF cc ⊢
  have q0 := cc 0 _ rfl
  have q1 := cc 1 _ rfl
  have q2 := cc 2 _ rfl
  have q3 := cc 3 _ rfl
  have q4 := cc 4 _ rfl
  have q5 := cc 5 _ rfl
  have HRW : Hid (Rel W b c k st) := HR.out.quiet hF
  have HK : Hid (IsK W k.bk (k.kc free st.resting)) := ⟨(hF.block _ H4.out.K.lt (fun e => e)).trans H4.out.K.blk⟩
  have g19w := hF.cell g19 (fun e => e)
  have HF := Hid.mk hF
  clear hF cc g19 hOb
  rcases h2 with rfl | rfl
  all_goals
    refine (used_any b c k st t W HRW.out ht).mono ?_
    rintro e w' ⟨rfl, hw⟩
    replace hw := hw.symm
    subst hw
    rw [HU.out]
    go_wp2_with fail
    refine (sideMayBe_lit _ W (by first | exact .inl rfl | exact .inr rfl)).mono ?_
    rintro e w' ⟨rfl, hw⟩
    replace hw := hw.symm
    subst hw
    go_wp2_with fail
    go_region_held3 (fun w' => w'.cell? ⟨w.heap.size, 2, none⟩ = some (.int .u8 stock) ∧ w'.cell? ⟨b, 19, none⟩ = some (.pointer (some ⟨k.bk, 0, none⟩))) (first | exact m1 | go_keep)
      ((go_at_call 57; refine (stocks_any k.bk (k.kc free st.resting) W.drew ⟨HK.out.blk⟩).mono ?_; rintro e w' ⟨rfl, hw⟩; replace hw := hw.symm; subst hw; have m1 : W.drew.cell? ⟨w.heap.size, 2, none⟩ = some (.int .u8 stock) ∧ W.drew.cell? ⟨b, 19, none⟩ = some (.pointer (some ⟨k.bk, 0, none⟩)) := ⟨q2, g19w⟩))
    go_wp2_with (first
      | (go_at_call 112; refine (onLadder_any b c k st price W.drew (HRW.out.quiet (Fr.drew _ W)) hp _ HP.out).mono ?_; rintro e w' ⟨rfl, hw⟩; replace hw := hw.symm; subst hw)
      | (go_at_call 113; refine (sharesMayBe_any shares W.drew hs _ HS.out).mono ?_; rintro e w' ⟨rfl, hw⟩; replace hw := hw.symm; subst hw))
    go_ret2
    exact ⟨rfl, HF.out.trans (Fr.drew _ W) (fun _ _ e => e)⟩

set_option maxRecDepth 100000 in
set_option maxHeartbeats 2000000 in
theorem whyNotEnter_F (b : Nat) (c : BC) (k : SK) (st : St) (t : Nat) (side : UInt8) (stock price shares : Nat) (kind : UInt8) (w : World) (h : Rel w b c k st) (ht : t < 4294967296) (hst : stock < 256) (hp : price < 65536) (hs : shares < 65536) (h1 : t ∉ st.used) (h2 : side = 66 ∨ side = 83) (h3 : stock < st.stocks) (h4 : 1 ≤ price ∧ price ≤ st.levels) (h5 : 1 ≤ shares ∧ shares ≤ 9999) (h6 : kind = 68) (h7 : st.pool ≤ st.resting) :
    Calls Try.prog 71 #[.pointer (some ⟨b, 0, none⟩), enterV t side stock price shares kind] w fun e w' => e = .returned (.tuple #[.int .u8 70, .bool true]) ∧ Hid (Fr (fun _ => False) w w') := by
  obtain ⟨M, od, ps, fl, j1, j2, j3⟩ := h.ex
  obtain ⟨free, fs, ls, bef, aft, h4, h5⟩ := j1.ex
  have g19 := h.books
  have hblt := h.B.lt
  have hgb : ∀ j, GB b c k j → j < w.heap.size := h.lt
  have HFN : Hid (free = 0 ↔ st.pool ≤ st.resting) := by
    have a1 := h5.full
    have a2 := j3.cnt
    constructor
    · intro e
      rw [a1.1 e] at a2
      simp at a2; omega
    · intro e
      apply a1.2
      rcases fl with _ | ⟨x, fl⟩
      · rfl
      · rw [List.length_cons] at a2; omega
  have HST : Hid (k.S = st.stocks) := j3.hS
  have hSS : (k.S : Int) = (st.stocks : Int) := by rw [HST.out]
  have HSS := Hid.mk hSS
  have HR := Hid.mk h
  have H4 := Hid.mk h4
  have ws : IntKind.i64.wrap (stock : Int) = (stock : Int) := by rw [IntKind.wrap_i64]; omega
  clear h j1 j2 j3 h4 h5 hSS
  have HU : Hid (decide (t ∈ st.used) = false) := by show _ = _; simp [h1]
  have s2 : ¬ ((k.kc free st.resting).stocks ≤ stock) := by show ¬ (k.S ≤ stock); rw [HST.out]; omega
  have HP : Hid (decide (1 ≤ price ∧ price ≤ st.levels) = true) := by show _ = _; simp only [h4, and_self, decide_true]
  have HS : Hid (decide (1 ≤ shares ∧ shares ≤ 9999) = true) := by show _ = _; simp only [h5, and_self, decide_true]
  have HFU : Hid ((((k.kc free st.resting).free : Int) == 0) = true) := by show ((free : Int) == 0) = true; rw [HFN.out.2 h7]; rfl
  have H6 := Hid.mk h6
  clear h6
  unfold enterV
  go_enter Try.func71, Try.ntmps71
  go_wp2_with fail
  generalize hOb : Obj.cells _ 110 = Ob
  have hF : Fr (fun _ => False) w (w.alloc Ob) := Fr.alloc _ w Ob
  have cc : ∀ i v, (#[Value.int .u32 t, .int .u8 side.toNat, .int .u8 stock, .int .u16 price, .int .u16 shares, .int .u8 kind.toNat] : Array Value)[i]? = some v → (w.alloc Ob).cell? ⟨w.heap.size, i, none⟩ = some v := by
    intro i v hv
    rw [cell_of_row _ w.heap.size i _ 110 (0, 0) (by rw [heap_alloc, if_pos rfl, ← hOb])]
    exact hv
  generalize w.alloc Ob = W at hF cc ⊢
  have q0 := cc 0 _ rfl
  have q1 := cc 1 _ rfl
  have q2 := cc 2 _ rfl
  have q3 := cc 3 _ rfl
  have q4 := cc 4 _ rfl
  have q5 := cc 5 _ rfl
  have HRW : Hid (Rel W b c k st) := HR.out.quiet hF
  have HK : Hid (IsK W k.bk (k.kc free st.resting)) := ⟨(hF.block _ H4.out.K.lt (fun e => e)).trans H4.out.K.blk⟩
  have g19w := hF.cell g19 (fun e => e)
  have HF := Hid.mk hF
  clear hF cc g19 hOb
  have h6 := H6.out
  subst h6
  rcases h2 with rfl | rfl
  all_goals
    refine (used_any b c k st t W HRW.out ht).mono ?_
    rintro e w' ⟨rfl, hw⟩
    replace hw := hw.symm
    subst hw
    rw [HU.out]
    go_wp2_with fail
    refine (sideMayBe_lit _ W (by first | exact .inl rfl | exact .inr rfl)).mono ?_
    rintro e w' ⟨rfl, hw⟩
    replace hw := hw.symm
    subst hw
    go_wp2_with fail
    go_region_held3 (fun w' => w'.cell? ⟨w.heap.size, 2, none⟩ = some (.int .u8 stock) ∧ w'.cell? ⟨b, 19, none⟩ = some (.pointer (some ⟨k.bk, 0, none⟩))) (first | exact m1 | go_keep)
      ((go_at_call 57; refine (stocks_any k.bk (k.kc free st.resting) W.drew ⟨HK.out.blk⟩).mono ?_; rintro e w' ⟨rfl, hw⟩; replace hw := hw.symm; subst hw; have m1 : W.drew.cell? ⟨w.heap.size, 2, none⟩ = some (.int .u8 stock) ∧ W.drew.cell? ⟨b, 19, none⟩ = some (.pointer (some ⟨k.bk, 0, none⟩)) := ⟨q2, g19w⟩))
    go_wp2_with (first
      | (go_at_call 112; refine (onLadder_any b c k st price W.drew (HRW.out.quiet (Fr.drew _ W)) hp _ HP.out).mono ?_; rintro e w' ⟨rfl, hw⟩; replace hw := hw.symm; subst hw)
      | (go_at_call 113; refine (sharesMayBe_any shares W.drew hs _ HS.out).mono ?_; rintro e w' ⟨rfl, hw⟩; replace hw := hw.symm; subst hw)
      | (go_at_call 114; refine (full_any k.bk (k.kc free st.resting) W.drew ⟨HK.out.blk⟩).mono ?_; rintro e w' ⟨rfl, hw⟩; replace hw := hw.symm; subst hw; rw [HFU.out]))
    go_ret2
    exact ⟨rfl, HF.out.trans (Fr.drew _ W) (fun _ _ e => e)⟩

set_option maxRecDepth 100000 in
set_option maxHeartbeats 2000000 in
theorem whyNotEnter_N1 (b : Nat) (c : BC) (k : SK) (st : St) (t : Nat) (side : UInt8) (stock price shares : Nat) (kind : UInt8) (w : World) (h : Rel w b c k st) (ht : t < 4294967296) (hst : stock < 256) (hp : price < 65536) (hs : shares < 65536) (h1 : t ∉ st.used) (h2 : side = 66 ∨ side = 83) (h3 : stock < st.stocks) (h4 : 1 ≤ price ∧ price ≤ st.levels) (h5 : 1 ≤ shares ∧ shares ≤ 9999) (h6 : kind = 68) (h7 : ¬ st.pool ≤ st.resting) :
    Calls Try.prog 71 #[.pointer (some ⟨b, 0, none⟩), enterV t side stock price shares kind] w fun e w' => e = .returned (.tuple #[.int .u8 0, .bool false]) ∧ Hid (Fr (fun _ => False) w w') := by
  obtain ⟨M, od, ps, fl, j1, j2, j3⟩ := h.ex
  obtain ⟨free, fs, ls, bef, aft, h4, h5⟩ := j1.ex
  have g19 := h.books
  have hblt := h.B.lt
  have hgb : ∀ j, GB b c k j → j < w.heap.size := h.lt
  have HFN : Hid (free = 0 ↔ st.pool ≤ st.resting) := by
    have a1 := h5.full
    have a2 := j3.cnt
    constructor
    · intro e
      rw [a1.1 e] at a2
      simp at a2; omega
    · intro e
      apply a1.2
      rcases fl with _ | ⟨x, fl⟩
      · rfl
      · rw [List.length_cons] at a2; omega
  have HST : Hid (k.S = st.stocks) := j3.hS
  have hSS : (k.S : Int) = (st.stocks : Int) := by rw [HST.out]
  have HSS := Hid.mk hSS
  have HR := Hid.mk h
  have H4 := Hid.mk h4
  have ws : IntKind.i64.wrap (stock : Int) = (stock : Int) := by rw [IntKind.wrap_i64]; omega
  clear h j1 j2 j3 h4 h5 hSS
  have HU : Hid (decide (t ∈ st.used) = false) := by show _ = _; simp [h1]
  have s2 : ¬ ((k.kc free st.resting).stocks ≤ stock) := by show ¬ (k.S ≤ stock); rw [HST.out]; omega
  have HP : Hid (decide (1 ≤ price ∧ price ≤ st.levels) = true) := by show _ = _; simp only [h4, and_self, decide_true]
  have HS : Hid (decide (1 ≤ shares ∧ shares ≤ 9999) = true) := by show _ = _; simp only [h5, and_self, decide_true]
  have HFU : Hid ((((k.kc free st.resting).free : Int) == 0) = false) := by
    show ((free : Int) == 0) = false
    have : free ≠ 0 := fun e => h7 (HFN.out.1 e)
    simp; omega
  have H6 := Hid.mk h6
  clear h6
  unfold enterV
  go_enter Try.func71, Try.ntmps71
  go_wp2_with fail
  generalize hOb : Obj.cells _ 110 = Ob
  have hF : Fr (fun _ => False) w (w.alloc Ob) := Fr.alloc _ w Ob
  have cc : ∀ i v, (#[Value.int .u32 t, .int .u8 side.toNat, .int .u8 stock, .int .u16 price, .int .u16 shares, .int .u8 kind.toNat] : Array Value)[i]? = some v → (w.alloc Ob).cell? ⟨w.heap.size, i, none⟩ = some v := by
    intro i v hv
    rw [cell_of_row _ w.heap.size i _ 110 (0, 0) (by rw [heap_alloc, if_pos rfl, ← hOb])]
    exact hv
  generalize w.alloc Ob = W at hF cc ⊢
  have q0 := cc 0 _ rfl
  have q1 := cc 1 _ rfl
  have q2 := cc 2 _ rfl
  have q3 := cc 3 _ rfl
  have q4 := cc 4 _ rfl
  have q5 := cc 5 _ rfl
  have HRW : Hid (Rel W b c k st) := HR.out.quiet hF
  have HK : Hid (IsK W k.bk (k.kc free st.resting)) := ⟨(hF.block _ H4.out.K.lt (fun e => e)).trans H4.out.K.blk⟩
  have g19w := hF.cell g19 (fun e => e)
  have HF := Hid.mk hF
  clear hF cc g19 hOb
  have h6 := H6.out
  subst h6
  rcases h2 with rfl | rfl
  all_goals
    refine (used_any b c k st t W HRW.out ht).mono ?_
    rintro e w' ⟨rfl, hw⟩
    replace hw := hw.symm
    subst hw
    rw [HU.out]
    go_wp2_with fail
    refine (sideMayBe_lit _ W (by first | exact .inl rfl | exact .inr rfl)).mono ?_
    rintro e w' ⟨rfl, hw⟩
    replace hw := hw.symm
    subst hw
    go_wp2_with fail
    go_region_held3 (fun w' => w'.cell? ⟨w.heap.size, 2, none⟩ = some (.int .u8 stock) ∧ w'.cell? ⟨b, 19, none⟩ = some (.pointer (some ⟨k.bk, 0, none⟩))) (first | exact m1 | go_keep)
      ((go_at_call 57; refine (stocks_any k.bk (k.kc free st.resting) W.drew ⟨HK.out.blk⟩).mono ?_; rintro e w' ⟨rfl, hw⟩; replace hw := hw.symm; subst hw; have m1 : W.drew.cell? ⟨w.heap.size, 2, none⟩ = some (.int .u8 stock) ∧ W.drew.cell? ⟨b, 19, none⟩ = some (.pointer (some ⟨k.bk, 0, none⟩)) := ⟨q2, g19w⟩))
    go_wp2_with (first
      | (go_at_call 112; refine (onLadder_any b c k st price W.drew (HRW.out.quiet (Fr.drew _ W)) hp _ HP.out).mono ?_; rintro e w' ⟨rfl, hw⟩; replace hw := hw.symm; subst hw)
      | (go_at_call 113; refine (sharesMayBe_any shares W.drew hs _ HS.out).mono ?_; rintro e w' ⟨rfl, hw⟩; replace hw := hw.symm; subst hw)
      | (go_at_call 114; refine (full_any k.bk (k.kc free st.resting) W.drew ⟨HK.out.blk⟩).mono ?_; rintro e w' ⟨rfl, hw⟩; replace hw := hw.symm; subst hw; rw [HFU.out]))
    go_ret2
    exact ⟨rfl, HF.out.trans (Fr.drew _ W) (fun _ _ e => e)⟩

set_option maxRecDepth 100000 in
set_option maxHeartbeats 2000000 in
theorem whyNotEnter_N2 (b : Nat) (c : BC) (k : SK) (st : St) (t : Nat) (side : UInt8) (stock price shares : Nat) (kind : UInt8) (w : World) (h : Rel w b c k st) (ht : t < 4294967296) (hst : stock < 256) (hp : price < 65536) (hs : shares < 65536) (h1 : t ∉ st.used) (h2 : side = 66 ∨ side = 83) (h3 : stock < st.stocks) (h4 : 1 ≤ price ∧ price ≤ st.levels) (h5 : 1 ≤ shares ∧ shares ≤ 9999) (h6 : kind = 73) :
    Calls Try.prog 71 #[.pointer (some ⟨b, 0, none⟩), enterV t side stock price shares kind] w fun e w' => e = .returned (.tuple #[.int .u8 0, .bool false]) ∧ Hid (Fr (fun _ => False) w w') := by
  obtain ⟨M, od, ps, fl, j1, j2, j3⟩ := h.ex
  obtain ⟨free, fs, ls, bef, aft, h4, h5⟩ := j1.ex
  have g19 := h.books
  have hblt := h.B.lt
  have hgb : ∀ j, GB b c k j → j < w.heap.size := h.lt
  have HFN : Hid (free = 0 ↔ st.pool ≤ st.resting) := by
    have a1 := h5.full
    have a2 := j3.cnt
    constructor
    · intro e
      rw [a1.1 e] at a2
      simp at a2; omega
    · intro e
      apply a1.2
      rcases fl with _ | ⟨x, fl⟩
      · rfl
      · rw [List.length_cons] at a2; omega
  have HST : Hid (k.S = st.stocks) := j3.hS
  have hSS : (k.S : Int) = (st.stocks : Int) := by rw [HST.out]
  have HSS := Hid.mk hSS
  have HR := Hid.mk h
  have H4 := Hid.mk h4
  have ws : IntKind.i64.wrap (stock : Int) = (stock : Int) := by rw [IntKind.wrap_i64]; omega
  clear h j1 j2 j3 h4 h5 hSS
  have HU : Hid (decide (t ∈ st.used) = false) := by show _ = _; simp [h1]
  have s2 : ¬ ((k.kc free st.resting).stocks ≤ stock) := by show ¬ (k.S ≤ stock); rw [HST.out]; omega
  have HP : Hid (decide (1 ≤ price ∧ price ≤ st.levels) = true) := by show _ = _; simp only [h4, and_self, decide_true]
  have HS : Hid (decide (1 ≤ shares ∧ shares ≤ 9999) = true) := by show _ = _; simp only [h5, and_self, decide_true]
  have H6 := Hid.mk h6
  clear h6
  unfold enterV
  go_enter Try.func71, Try.ntmps71
  go_wp2_with fail
  generalize hOb : Obj.cells _ 110 = Ob
  have hF : Fr (fun _ => False) w (w.alloc Ob) := Fr.alloc _ w Ob
  have cc : ∀ i v, (#[Value.int .u32 t, .int .u8 side.toNat, .int .u8 stock, .int .u16 price, .int .u16 shares, .int .u8 kind.toNat] : Array Value)[i]? = some v → (w.alloc Ob).cell? ⟨w.heap.size, i, none⟩ = some v := by
    intro i v hv
    rw [cell_of_row _ w.heap.size i _ 110 (0, 0) (by rw [heap_alloc, if_pos rfl, ← hOb])]
    exact hv
  generalize w.alloc Ob = W at hF cc ⊢
  have q0 := cc 0 _ rfl
  have q1 := cc 1 _ rfl
  have q2 := cc 2 _ rfl
  have q3 := cc 3 _ rfl
  have q4 := cc 4 _ rfl
  have q5 := cc 5 _ rfl
  have HRW : Hid (Rel W b c k st) := HR.out.quiet hF
  have HK : Hid (IsK W k.bk (k.kc free st.resting)) := ⟨(hF.block _ H4.out.K.lt (fun e => e)).trans H4.out.K.blk⟩
  have g19w := hF.cell g19 (fun e => e)
  have HF := Hid.mk hF
  clear hF cc g19 hOb
  have h6 := H6.out
  subst h6
  rcases h2 with rfl | rfl
  all_goals
    refine (used_any b c k st t W HRW.out ht).mono ?_
    rintro e w' ⟨rfl, hw⟩
    replace hw := hw.symm
    subst hw
    rw [HU.out]
    go_wp2_with fail
    refine (sideMayBe_lit _ W (by first | exact .inl rfl | exact .inr rfl)).mono ?_
    rintro e w' ⟨rfl, hw⟩
    replace hw := hw.symm
    subst hw
    go_wp2_with fail
    go_region_held3 (fun w' => w'.cell? ⟨w.heap.size, 2, none⟩ = some (.int .u8 stock) ∧ w'.cell? ⟨b, 19, none⟩ = some (.pointer (some ⟨k.bk, 0, none⟩))) (first | exact m1 | go_keep)
      ((go_at_call 57; refine (stocks_any k.bk (k.kc free st.resting) W.drew ⟨HK.out.blk⟩).mono ?_; rintro e w' ⟨rfl, hw⟩; replace hw := hw.symm; subst hw; have m1 : W.drew.cell? ⟨w.heap.size, 2, none⟩ = some (.int .u8 stock) ∧ W.drew.cell? ⟨b, 19, none⟩ = some (.pointer (some ⟨k.bk, 0, none⟩)) := ⟨q2, g19w⟩))
    go_wp2_with (first
      | (go_at_call 112; refine (onLadder_any b c k st price W.drew (HRW.out.quiet (Fr.drew _ W)) hp _ HP.out).mono ?_; rintro e w' ⟨rfl, hw⟩; replace hw := hw.symm; subst hw)
      | (go_at_call 113; refine (sharesMayBe_any shares W.drew hs _ HS.out).mono ?_; rintro e w' ⟨rfl, hw⟩; replace hw := hw.symm; subst hw))
    go_ret2
    exact ⟨rfl, HF.out.trans (Fr.drew _ W) (fun _ _ e => e)⟩

theorem whyNotEnter_any (b : Nat) (c : BC) (k : SK) (st : St) (t : Nat) (side : UInt8) (stock price shares : Nat) (kind : UInt8) (w : World) (h : Rel w b c k st) (ht : t < 4294967296) (hst : stock < 256) (hp : price < 65536) (hs : shares < 65536) :
    Calls Try.prog 71 #[.pointer (some ⟨b, 0, none⟩), enterV t side stock price shares kind] w fun e w' => e = .returned (whyV (st.why t side stock price shares kind)) ∧ Hid (Fr (fun _ => False) w w') := by
  unfold St.why
  by_cases h1 : t ∈ st.used
  · rw [if_pos h1]; exact whyNotEnter_D b c k st t side stock price shares kind w h ht hst hp hs h1
  rw [if_neg h1]
  by_cases h2 : side ≠ 66 ∧ side ≠ 83
  · rw [if_pos h2]; exact whyNotEnter_B b c k st t side stock price shares kind w h ht hst hp hs h1 h2
  rw [if_neg h2]
  have h2' : side = 66 ∨ side = 83 := by
    by_cases e : side = 66
    · exact Or.inl e
    · by_cases e2 : side = 83
      · exact Or.inr e2
      · exact absurd ⟨e, e2⟩ h2
  by_cases h3 : st.stocks ≤ stock
  · rw [if_pos h3]; exact whyNotEnter_S b c k st t side stock price shares kind w h ht hst hp hs h1 h2' h3
  rw [if_neg h3]
  by_cases h4 : 1 ≤ price ∧ price ≤ st.levels
  · rw [if_neg (by omega)]
    by_cases h5 : 1 ≤ shares ∧ shares ≤ 9999
    · rw [if_neg (by omega)]
      by_cases h6 : kind ≠ 68 ∧ kind ≠ 73
      · rw [if_pos h6]; exact whyNotEnter_K b c k st t side stock price shares kind w h ht hst hp hs h1 h2' (by omega) h4 h5 h6
      rw [if_neg h6]
      by_cases h7 : kind = 68
      · by_cases h8 : st.pool ≤ st.resting
        · rw [if_pos ⟨h7, h8⟩]; exact whyNotEnter_F b c k st t side stock price shares kind w h ht hst hp hs h1 h2' (by omega) h4 h5 h7 h8
        · rw [if_neg (fun e => h8 e.2)]; exact whyNotEnter_N1 b c k st t side stock price shares kind w h ht hst hp hs h1 h2' (by omega) h4 h5 h7 h8
      · rw [if_neg (fun e => h7 e.1)]
        have h8 : kind = 73 := by
          by_cases e : kind = 73
          · exact e
          · exact absurd ⟨h7, e⟩ h6
        exact whyNotEnter_N2 b c k st t side stock price shares kind w h ht hst hp hs h1 h2' (by omega) h4 h5 h8
    · rw [if_pos (by omega)]; exact whyNotEnter_Q b c k st t side stock price shares kind w h ht hst hp hs h1 h2' (by omega) h4 h5
  · rw [if_pos (by omega)]; exact whyNotEnter_P b c k st t side stock price shares kind w h ht hst hp hs h1 h2' (by omega) h4

end Go.Proofs.Ytphkchjejbffeaa
