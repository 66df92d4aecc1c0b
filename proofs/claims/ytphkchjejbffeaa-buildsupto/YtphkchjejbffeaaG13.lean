/- Why an order may not be replaced. -/
import Derived.Test.YtphkchjejbffeaaG12
namespace Go.Proofs.Ytphkchjejbffeaa
open Go.RowKit
attribute [local go_sem ↓] Go.wp_at_zero Go.wp_at_succ

def replaceV (t n price shares : Nat) : Value := .agg #[.int .u32 t, .int .u32 n, .int .u16 price, .int .u16 shares]

set_option maxRecDepth 100000 in
set_option maxHeartbeats 1000000 in
theorem whyNotReplace_D (b : Nat) (c : BC) (k : SK) (st : St) (t n price shares : Nat) (w : World) (h : Rel w b c k st) (ht : n < 4294967296) (_hp : price < 65536) (_hs : shares < 65536) (h1 : n ∈ st.used) :
    Calls Try.prog 80 #[.pointer (some ⟨b, 0, none⟩), replaceV t n price shares] w fun e w' => e = .returned (.tuple #[.int .u8 68, .bool true]) ∧ Hid (Fr (fun _ => False) w w') := by
  have HR := Hid.mk h
  clear h
  have HU : Hid (decide (n ∈ st.used) = true) := by show _ = _; simp [h1]
  unfold replaceV
  go_enter Try.func80, Try.ntmps80
  go_wp2_with fail
  generalize hOb : Obj.cells _ 114 = Ob
  have hF : Fr (fun _ => False) w (w.alloc Ob) := Fr.alloc _ w Ob
  have cc : ∀ i v, (#[Value.int .u32 t, .int .u32 n, .int .u16 price, .int .u16 shares] : Array Value)[i]? = some v → (w.alloc Ob).cell? ⟨w.heap.size, i, none⟩ = some v := by
    intro i v hv
    rw [cell_of_row _ w.heap.size i _ 114 (0, 0) (by rw [heap_alloc, if_pos rfl, ← hOb])]
    exact hv
  generalize w.alloc Ob = W at hF cc ⊢
  have q0 := cc 0 _ rfl
  have q1 := cc 1 _ rfl
  have q2 := cc 2 _ rfl
  have q3 := cc 3 _ rfl
  have HRW : Hid (Rel W b c k st) := HR.out.quiet hF
  have HF := Hid.mk hF
  clear hF cc hOb
  refine (used_any b c k st n W HRW.out ht).mono ?_
  rintro e w' ⟨rfl, hw⟩
  replace hw := hw.symm
  subst hw
  rw [HU.out]
  go_wp2_with fail
  go_ret2
  exact ⟨rfl, HF.out⟩

set_option maxRecDepth 100000 in
set_option maxHeartbeats 1000000 in
theorem whyNotReplace_P (b : Nat) (c : BC) (k : SK) (st : St) (t n price shares : Nat) (w : World) (h : Rel w b c k st) (ht : n < 4294967296) (hp : price < 65536) (_hs : shares < 65536) (h1 : n ∉ st.used) (h4 : ¬ (1 ≤ price ∧ price ≤ st.levels)) :
    Calls Try.prog 80 #[.pointer (some ⟨b, 0, none⟩), replaceV t n price shares] w fun e w' => e = .returned (.tuple #[.int .u8 80, .bool true]) ∧ Hid (Fr (fun _ => False) w w') := by
  have HR := Hid.mk h
  clear h
  have HU : Hid (decide (n ∈ st.used) = false) := by show _ = _; simp [h1]
  have HP : Hid (decide (1 ≤ price ∧ price ≤ st.levels) = false) := by show _ = _; simp only [h4, decide_false]
  unfold replaceV
  go_enter Try.func80, Try.ntmps80
  go_wp2_with fail
  generalize hOb : Obj.cells _ 114 = Ob
  have hF : Fr (fun _ => False) w (w.alloc Ob) := Fr.alloc _ w Ob
  have cc : ∀ i v, (#[Value.int .u32 t, .int .u32 n, .int .u16 price, .int .u16 shares] : Array Value)[i]? = some v → (w.alloc Ob).cell? ⟨w.heap.size, i, none⟩ = some v := by
    intro i v hv
    rw [cell_of_row _ w.heap.size i _ 114 (0, 0) (by rw [heap_alloc, if_pos rfl, ← hOb])]
    exact hv
  generalize w.alloc Ob = W at hF cc ⊢
  have q0 := cc 0 _ rfl
  have q1 := cc 1 _ rfl
  have q2 := cc 2 _ rfl
  have q3 := cc 3 _ rfl
  have HRW : Hid (Rel W b c k st) := HR.out.quiet hF
  have HF := Hid.mk hF
  clear hF cc hOb
  refine (used_any b c k st n W HRW.out ht).mono ?_
  rintro e w' ⟨rfl, hw⟩
  replace hw := hw.symm
  subst hw
  rw [HU.out]
  go_wp2_with (first
    | (go_at_call 112; refine (onLadder_any b c k st price W HRW.out hp _ HP.out).mono ?_; rintro e w' ⟨rfl, hw⟩; replace hw := hw.symm; subst hw)
    | (go_at_call 113; refine (sharesMayBe_any shares W hs _ rfl).mono ?_; rintro e w' ⟨rfl, hw⟩; replace hw := hw.symm; subst hw))
  go_ret2
  exact ⟨rfl, HF.out⟩

set_option maxRecDepth 100000 in
set_option maxHeartbeats 1000000 in
theorem whyNotReplace_Q (b : Nat) (c : BC) (k : SK) (st : St) (t n price shares : Nat) (w : World) (h : Rel w b c k st) (ht : n < 4294967296) (hp : price < 65536) (hs : shares < 65536) (h1 : n ∉ st.used) (h4 : 1 ≤ price ∧ price ≤ st.levels) (h5 : ¬ (1 ≤ shares ∧ shares ≤ 9999)) :
    Calls Try.prog 80 #[.pointer (some ⟨b, 0, none⟩), replaceV t n price shares] w fun e w' => e = .returned (.tuple #[.int .u8 81, .bool true]) ∧ Hid (Fr (fun _ => False) w w') := by
  have HR := Hid.mk h
  clear h
  have HU : Hid (decide (n ∈ st.used) = false) := by show _ = _; simp [h1]
  have HP : Hid (decide (1 ≤ price ∧ price ≤ st.levels) = true) := by show _ = _; simp only [h4, and_self, decide_true]
  have HS : Hid (decide (1 ≤ shares ∧ shares ≤ 9999) = false) := by show _ = _; simp only [h5, decide_false]
  unfold replaceV
  go_enter Try.func80, Try.ntmps80
  go_wp2_with fail
  generalize hOb : Obj.cells _ 114 = Ob
  have hF : Fr (fun _ => False) w (w.alloc Ob) := Fr.alloc _ w Ob
  have cc : ∀ i v, (#[Value.int .u32 t, .int .u32 n, .int .u16 price, .int .u16 shares] : Array Value)[i]? = some v → (w.alloc Ob).cell? ⟨w.heap.size, i, none⟩ = some v := by
    intro i v hv
    rw [cell_of_row _ w.heap.size i _ 114 (0, 0) (by rw [heap_alloc, if_pos rfl, ← hOb])]
    exact hv
  generalize w.alloc Ob = W at hF cc ⊢
  have q0 := cc 0 _ rfl
  have q1 := cc 1 _ rfl
  have q2 := cc 2 _ rfl
  have q3 := cc 3 _ rfl
  have HRW : Hid (Rel W b c k st) := HR.out.quiet hF
  have HF := Hid.mk hF
  clear hF cc hOb
  refine (used_any b c k st n W HRW.out ht).mono ?_
  rintro e w' ⟨rfl, hw⟩
  replace hw := hw.symm
  subst hw
  rw [HU.out]
  go_wp2_with (first
    | (go_at_call 112; refine (onLadder_any b c k st price W HRW.out hp _ HP.out).mono ?_; rintro e w' ⟨rfl, hw⟩; replace hw := hw.symm; subst hw)
    | (go_at_call 113; refine (sharesMayBe_any shares W hs _ HS.out).mono ?_; rintro e w' ⟨rfl, hw⟩; replace hw := hw.symm; subst hw))
  go_ret2
  exact ⟨rfl, HF.out⟩

set_option maxRecDepth 100000 in
set_option maxHeartbeats 1000000 in
theorem whyNotReplace_N (b : Nat) (c : BC) (k : SK) (st : St) (t n price shares : Nat) (w : World) (h : Rel w b c k st) (ht : n < 4294967296) (hp : price < 65536) (hs : shares < 65536) (h1 : n ∉ st.used) (h4 : 1 ≤ price ∧ price ≤ st.levels) (h5 : 1 ≤ shares ∧ shares ≤ 9999) :
    Calls Try.prog 80 #[.pointer (some ⟨b, 0, none⟩), replaceV t n price shares] w fun e w' => e = .returned (.tuple #[.int .u8 0, .bool false]) ∧ Hid (Fr (fun _ => False) w w') := by
  have HR := Hid.mk h
  clear h
  have HU : Hid (decide (n ∈ st.used) = false) := by show _ = _; simp [h1]
  have HP : Hid (decide (1 ≤ price ∧ price ≤ st.levels) = true) := by show _ = _; simp only [h4, and_self, decide_true]
  have HS : Hid (decide (1 ≤ shares ∧ shares ≤ 9999) = true) := by show _ = _; simp only [h5, and_self, decide_true]
  unfold replaceV
  go_enter Try.func80, Try.ntmps80
  go_wp2_with fail
  generalize hOb : Obj.cells _ 114 = Ob
  have hF : Fr (fun _ => False) w (w.alloc Ob) := Fr.alloc _ w Ob
  have cc : ∀ i v, (#[Value.int .u32 t, .int .u32 n, .int .u16 price, .int .u16 shares] : Array Value)[i]? = some v → (w.alloc Ob).cell? ⟨w.heap.size, i, none⟩ = some v := by
    intro i v hv
    rw [cell_of_row _ w.heap.size i _ 114 (0, 0) (by rw [heap_alloc, if_pos rfl, ← hOb])]
    exact hv
  generalize w.alloc Ob = W at hF cc ⊢
  have q0 := cc 0 _ rfl
  have q1 := cc 1 _ rfl
  have q2 := cc 2 _ rfl
  have q3 := cc 3 _ rfl
  have HRW : Hid (Rel W b c k st) := HR.out.quiet hF
  have HF := Hid.mk hF
  clear hF cc hOb
  refine (used_any b c k st n W HRW.out ht).mono ?_
  rintro e w' ⟨rfl, hw⟩
  replace hw := hw.symm
  subst hw
  rw [HU.out]
  go_wp2_with (first
    | (go_at_call 112; refine (onLadder_any b c k st price W HRW.out hp _ HP.out).mono ?_; rintro e w' ⟨rfl, hw⟩; replace hw := hw.symm; subst hw)
    | (go_at_call 113; refine (sharesMayBe_any shares W hs _ HS.out).mono ?_; rintro e w' ⟨rfl, hw⟩; replace hw := hw.symm; subst hw))
  go_ret2
  exact ⟨rfl, HF.out⟩

theorem whyNotReplace_any (b : Nat) (c : BC) (k : SK) (st : St) (t n price shares : Nat) (w : World) (h : Rel w b c k st) (ht : n < 4294967296) (hp : price < 65536) (hs : shares < 65536) :
    Calls Try.prog 80 #[.pointer (some ⟨b, 0, none⟩), replaceV t n price shares] w fun e w' => e = .returned (whyV (st.whyR n price shares)) ∧ Hid (Fr (fun _ => False) w w') := by
  unfold St.whyR
  by_cases h1 : n ∈ st.used
  · rw [if_pos h1]; exact whyNotReplace_D b c k st t n price shares w h ht hp hs h1
  rw [if_neg h1]
  by_cases h4 : 1 ≤ price ∧ price ≤ st.levels
  · rw [if_neg (by omega)]
    by_cases h5 : 1 ≤ shares ∧ shares ≤ 9999
    · rw [if_neg (by omega)]; exact whyNotReplace_N b c k st t n price shares w h ht hp hs h1 h4 h5
    · rw [if_pos (by omega)]; exact whyNotReplace_Q b c k st t n price shares w h ht hp hs h1 h4 h5
  · rw [if_pos (by omega)]; exact whyNotReplace_P b c k st t n price shares w h ht hp hs h1 h4

theorem whyR_none {st : St} {n price shares : Nat} (h : st.whyR n price shares = none) : n ∉ st.used ∧ 1 ≤ price ∧ price ≤ st.levels ∧ 1 ≤ shares ∧ shares ≤ 9999 := by
  unfold St.whyR at h
  split at h
  · cases h
  split at h
  · cases h
  split at h
  · cases h
  rename_i h1 h2 h3
  exact ⟨h1, by omega, by omega, by omega, by omega⟩

end Go.Proofs.Ytphkchjejbffeaa

/- A replacement is accepted. -/
namespace Go.Proofs.Ytphkchjejbffeaa
open Go.RowKit
attribute [local go_sem ↓] Go.wp_at_zero Go.wp_at_succ

theorem Holds.apart {w w' : World} {c : BC} {k : SK} {st : St} {M : Nat → Option Nat} {od : Nat → Ord} {ps : Nat → UInt8 → Nat → List Nat} {fl : List Nat} {F : Nat → Prop} (h : Holds w c k st M od ps fl) (hf : Fr F w w') (h1 : ∀ j, k.F j → ¬ F j) (h2 : ¬ F c.pm) : Holds w' c k st M od ps fl :=
  ⟨h.1.fr hf h1, h.2.1.keep (hf.block _ h.2.1.lt h2), h.2.2⟩

set_option maxHeartbeats 600000 in
theorem register_h (b : Nat) (c : BC) (k : SK) (st : St) (t r : Nat) (w : World) (h : Rel w b c k st) (ht : t < 4294967296) (hu : t ∉ st.used) (hr : (st.refs + 1) % 4294967296 = r) :
    Calls Try.prog 117 #[.pointer (some ⟨b, 0, none⟩), .int .u32 t] w fun e w' => e = .returned (.int .u32 r) ∧ ∃ c', Rel w' b c' k { st with refs := r, used := t :: st.used } ∧ Stp w b c k w' c' ∧
      ∀ M od ps fl, Holds w c k st M od ps fl → Holds w' c' k { st with refs := r, used := t :: st.used } (updM M t (some 0)) od ps fl := by
  have hd := h.dist
  have g16 : w.cell? ⟨b, 16, none⟩ = some (.int .u32 c.refs) := by rw [h.B.cell]; exact (c.get h.B.len).2.2.2.1
  have f16 := h.B.frozen 16
  have hB1 := h.B.setRefs r
  have hF1 : Fr (fun j => j = b) w (w.setCell ⟨b, 16, none⟩ (.int .u32 r)) := Fr.setCell w ⟨b, 16, none⟩ _
  have hi1 : Inv { st with refs := r } := h.inv.of_q rfl rfl rfl rfl (fun _ q => q) (by rw [← hr]; exact Nat.mod_lt _ (by decide)) h.inv.mats h.inv.time
  have hi2 : Inv { st with refs := r, used := t :: st.used } := hi1.of_q rfl rfl rfl rfl (fun _ q => List.mem_cons_of_mem _ q) hi1.refs hi1.mats hi1.time
  obtain ⟨hR1, hfr1, hsub1⟩ := h.own (st' := { st with refs := r }) hB1 hF1 rfl rfl rfl rfl rfl rfl h.time rfl h.mats hi1 rfl rfl rfl rfl rfl
  have hrb := h.inv.refs
  have w1 : IntKind.u32.wrap ((c.refs : Int) + 1) = (r : Int) := by
    rw [IntKind.wrap_u32, h.refs, ← hr]
    omega
  have hH1 : ∀ M od ps fl, Holds w c k st M od ps fl → Holds (w.setCell ⟨b, 16, none⟩ (.int .u32 r)) { c with refs := r } k { st with refs := r } M od ps fl := fun M od ps fl hh => hh.own hd hF1 rfl hi1 rfl rfl rfl rfl rfl
  generalize hW : w.setCell ⟨b, 16, none⟩ (.int .u32 r) = W at *
  have hMt : ∀ M od ps fl, Holds W { c with refs := r } k { st with refs := r } M od ps fl → M t = none := by
    intro M od ps fl k3
    cases e : M t with
    | none => rfl
    | some x => exact absurd ((k3.2.2.used t).1 (by rw [e]; rfl)) hu
  obtain ⟨M, od, ps, fl, k1, k2, k3⟩ := hR1.ex
  have hMn := hMt M od ps fl ⟨k1, k2, k3⟩
  obtain ⟨w2, hrun, k4, k5⟩ := k2.store t 0 ht (by decide) k3.usedLen
  rw [hMn] at k4
  have k6 := k3.register (st' := { st with refs := r, used := t :: st.used }) hi2 rfl rfl rfl rfl rfl hu ht
  obtain ⟨hR2, hS2⟩ := hR1.turn (st' := { st with refs := r, used := t :: st.used }) (k5.mono (fun j _ e => Or.inr e)) (k1.fr k5 (fun j hj e => hd.pF (e ▸ hj))) k4 k6 rfl rfl rfl rfl rfl
  have hT2 : ∀ M od ps fl, Holds w c k st M od ps fl → Holds w2 { c with refs := r } k { st with refs := r, used := t :: st.used } (updM M t (some 0)) od ps fl := by
    intro M' od' ps' fl' hh
    have hh1 := hH1 _ _ _ _ hh
    obtain ⟨w2', hrun', l4, l5⟩ := hh1.2.1.store t 0 ht (by decide) hh1.2.2.usedLen
    have e : w2' = w2 := by
      have := hrun'.symm.trans hrun
      injection this
    subst e
    rw [hMt _ _ _ _ hh1] at l4
    exact ⟨hh1.1.fr l5 (fun j hj e => hd.pF (e ▸ hj)), l4, hh1.2.2.register (st' := { st with refs := r, used := t :: st.used }) hi2 rfl rfl rfl rfl rfl hu ht⟩
  have g18 : W.cell? ⟨b, 18, none⟩ = some (.map (some c.pm)) := hR1.map
  have g2 : w2.cell? ⟨b, 16, none⟩ = some (.int .u32 r) := by rw [hR2.B.cell]; exact (BC.get _ hR2.B.len).2.2.2.1
  have HF : Hid (∃ c', Rel w2 b c' k { st with refs := r, used := t :: st.used } ∧ Stp w b c k w2 c' ∧ ∀ M od ps fl, Holds w c k st M od ps fl → Holds w2 c' k { st with refs := r, used := t :: st.used } (updM M t (some 0)) od ps fl) := ⟨_, hR2, (Stp.trans ⟨hfr1, fun j hj => Or.inl (hsub1 j hj), rfl, rfl, rfl⟩ hS2), hT2⟩
  clear hR2 hS2 hR1 k1 k2 k3 k4 k5 k6 hfr1 hsub1 hF1 hB1 hi1 hi2 h hd hT2 hH1 hMt hMn
  have hrun' : (Instr.mapUpdate 78 (.map (some c.pm)) (.int .u32 t) (.int .i64 0)).run Try.prog W = .ok () w2 := hrun
  clear hrun
  go_enter Try.func117, Try.ntmps117
  go_wp2_with fail
  go_ret
  exact ⟨rfl, HF.out⟩

set_option maxRecDepth 100000 in
set_option maxHeartbeats 2000000 in
theorem acceptRepl_step (b a z : Nat) (c : BC) (k : SK) (st : St) (old : Ord) (t n price shares : Nat) (r : Nat) (w : World) (h : Rel w b c k st) (ht : n < 4294967296) (hot : old.token < 4294967296) (hst : old.stock < 256) (hp : price < 65536) (hs : shares < 65536) (hu : n ∉ st.used) (hra : st.ans.length ≤ 70368744280000)
    (hr : (st.refs + 1) % 4294967296 = r) :
    Calls Try.prog 82 #[.pointer (some ⟨b, 0, none⟩), ordV a z old, replaceV t n price shares] w fun e w' => e = .returned (ordV 0 0 { old with ref := r, token := n, price, shares }) ∧
      ∃ c', Rel w' b c' k ({ st with refs := r, used := n :: st.used }.say (st.head 85 ++ enc n 4 ++ enc price 2 ++ enc shares 2 ++ enc r 4 ++ enc old.token 4)) ∧ Stp w b c k w' c' ∧
        ∀ M od ps fl, Holds w c k st M od ps fl → Holds w' c' k ({ st with refs := r, used := n :: st.used }.say (st.head 85 ++ enc n 4 ++ enc price 2 ++ enc shares 2 ++ enc r 4 ++ enc old.token 4)) (updM M n (some 0)) od ps fl := by
  have hgb : ∀ j, GB b c k j → j < w.heap.size := h.lt
  have hblt := h.B.lt
  have hrl : r < 4294967296 := by rw [← hr]; exact Nat.mod_lt _ (by decide)
  have HR := Hid.mk h
  have HRr := Hid.mk hr
  clear h hr
  unfold replaceV ordV ordL
  go_enter Try.func82, Try.ntmps82
  go_wp2_with fail
  obtain ⟨go, hgo⟩ : ∃ g, g = w.heap.size := ⟨_, rfl⟩
  obtain ⟨gm, hgm⟩ : ∃ g, g = w.heap.size + 1 := ⟨_, rfl⟩
  obtain ⟨gr, hgr⟩ : ∃ gr, gr = w.heap.size + 1 + 1 := ⟨_, rfl⟩
  rw [← hgr, ← hgm, ← hgo]
  generalize hW : (World.alloc _ (Obj.cells #[Value.int .i64 0, Value.int .i64 0, Value.int .u32 0, Value.int .u32 0, Value.int .u8 0, Value.int .u8 0, Value.int .u16 0, Value.int .u16 0] 129)) = W
  have hFW : Fr (fun _ => False) w W := by
    rw [← hW]
    exact ((Fr.alloc _ w _).trans (Fr.alloc _ _ _) (fun _ _ e => e)).trans (Fr.alloc _ _ _) (fun _ _ e => e)
  have hbo' : W.heap[go]? = some (.cells (ordL a z old).toArray 129) := by
    rw [← hW, hgo, heap_alloc, if_neg (by rw [size_alloc, size_alloc]; omega), heap_alloc, if_neg (by rw [size_alloc]; omega), heap_alloc, if_pos rfl]; rfl
  have hbm : W.heap[gm]? = some (.cells #[.int .u32 t, .int .u32 n, .int .u16 price, .int .u16 shares] 114) := by
    rw [← hW, hgm, heap_alloc, if_neg (by rw [size_alloc, size_alloc]; omega), heap_alloc, if_pos (by rw [size_alloc])]
  have hbr : W.heap[gr]? = some (.cells (ordL 0 0 noOrd).toArray 129) := by
    rw [← hW, hgr, heap_alloc, if_pos (by rw [size_alloc, size_alloc])]; rfl
  clear hW
  have nGo : ¬ GB b c k go := fun e => by have := hgb _ e; omega
  have nGm : ¬ GB b c k gm := fun e => by have := hgb _ e; omega
  have nGr : ¬ GB b c k gr := fun e => by have := hgb _ e; omega
  have q0 : W.cell? ⟨gm, 1, none⟩ = some (.int .u32 n) := by rw [cell_of_row W gm 1 _ _ (0, 0) hbm]; rfl
  have q1 : W.cell? ⟨gm, 2, none⟩ = some (.int .u16 price) := by rw [cell_of_row W gm 2 _ _ (0, 0) hbm]; rfl
  have q2 : W.cell? ⟨gm, 3, none⟩ = some (.int .u16 shares) := by rw [cell_of_row W gm 3 _ _ (0, 0) hbm]; rfl
  have hbx : Box W go a z old := Box.of hbo'
  have q3 := hbx.c3
  have q4 := hbx.c4
  have q5 := hbx.c5
  have HRW : Hid (Rel W b c k st) := HR.out.quiet hFW
  have HFW := Hid.mk hFW
  have hoW : go < W.heap.size := (Array.getElem?_eq_some_iff.1 hbo').1
  have hmW : gm < W.heap.size := (Array.getElem?_eq_some_iff.1 hbm).1
  have hrW : gr < W.heap.size := (Array.getElem?_eq_some_iff.1 hbr).1
  have HBR := Hid.mk hbr
  have HG := Hid.mk (And.intro hgo (And.intro hgm hgr))
  have HNG := Hid.mk (And.intro nGm (And.intro nGr nGo))
  clear hFW hbm hbr hbo' hbx hgm hgr hgo nGm nGr nGo
  have hnGo : ¬ GB b c k W.heap.size := fun e => by have := HRW.out.lt _ e; omega
  have hnm : gm ≠ W.heap.size := by omega
  have hno : go ≠ W.heap.size := by omega
  have hnm2 : ¬ W.heap.size = gm := by omega
  have hno2 : ¬ W.heap.size = go := by omega
  have HRa : Hid (Rel W.drew b c k st) := HRW.out.quiet (Fr.drew _ W)
  obtain ⟨VB, hVB⟩ : ∃ VB, VB = (W.alloc (Obj.cells #[Value.int .i64 0, Value.int .i64 0, Value.int .u32 0, Value.int .u32 0, Value.int .u8 0, Value.int .u8 0, Value.int .u16 0, Value.int .u16 0] 129)).drew := ⟨_, rfl⟩
  have HRb : Hid (Rel VB b c k st) := by
    rw [hVB]
    exact (HRW.out.quiet (Fr.alloc _ W _)).quiet (Fr.drew _ _)
  have HFB : Hid (Fr (fun _ => False) W VB) := by
    rw [hVB]
    exact (Fr.alloc _ W _).trans (Fr.drew _ _) (fun _ _ e => e)
  have HVS : Hid (W.heap.size < VB.heap.size ∧ VB.heap[W.heap.size]? = some (Obj.cells #[Value.int .i64 0, Value.int .i64 0, Value.int .u32 0, Value.int .u32 0, Value.int .u8 0, Value.int .u8 0, Value.int .u16 0, Value.int .u16 0] 129)) := by
    rw [hVB]
    exact ⟨by show W.heap.size < (W.alloc (Obj.cells #[Value.int .i64 0, Value.int .i64 0, Value.int .u32 0, Value.int .u32 0, Value.int .u8 0, Value.int .u8 0, Value.int .u16 0, Value.int .u16 0] 129)).heap.size; rw [size_alloc]; omega, by show (W.alloc (Obj.cells #[Value.int .i64 0, Value.int .i64 0, Value.int .u32 0, Value.int .u32 0, Value.int .u8 0, Value.int .u8 0, Value.int .u16 0, Value.int .u16 0] 129)).heap[W.heap.size]? = _; rw [heap_alloc, if_pos rfl]⟩
  have v0 := HFB.out.cell q0 (fun e => e)
  have q0d : W.drew.cell? ⟨gm, 1, none⟩ = _ := q0
  have v1 := HFB.out.cell q1 (fun e => e)
  have q1d : W.drew.cell? ⟨gm, 2, none⟩ = _ := q1
  have v2 := HFB.out.cell q2 (fun e => e)
  have q2d : W.drew.cell? ⟨gm, 3, none⟩ = _ := q2
  have v3 := HFB.out.cell q3 (fun e => e)
  have q3d : W.drew.cell? ⟨go, 3, none⟩ = _ := q3
  have v4 := HFB.out.cell q4 (fun e => e)
  have q4d : W.drew.cell? ⟨go, 4, none⟩ = _ := q4
  have v5 := HFB.out.cell q5 (fun e => e)
  have q5d : W.drew.cell? ⟨go, 5, none⟩ = _ := q5
  have HVB := Hid.mk hVB
  clear hVB
  go_region_held3 (fun w' => w'.cell? ⟨gm, 1, none⟩ = some (.int .u32 n) ∧ w'.cell? ⟨gm, 2, none⟩ = some (.int .u16 price) ∧ w'.cell? ⟨gm, 3, none⟩ = some (.int .u16 shares) ∧ w'.cell? ⟨go, 3, none⟩ = some (.int .u32 old.token) ∧ w'.cell? ⟨go, 4, none⟩ = some (.int .u8 old.side.toNat) ∧ w'.cell? ⟨go, 5, none⟩ = some (.int .u8 old.stock)) (first | with_reducible exact m1 | go_keep)
    ((go_at_call 117; first | (rw [← HVB.out]; refine (register_h b c k st n r VB HRb.out ht hu HRr.out).mono ?_; rintro e w2 ⟨rfl, c2, hR2, hS2, hT2⟩; have hp0 := hS2.fr.cell v0 HNG.out.1; have hp1 := hS2.fr.cell v1 HNG.out.1; have hp2 := hS2.fr.cell v2 HNG.out.1; have hp3 := hS2.fr.cell v3 HNG.out.2.2; have hp4 := hS2.fr.cell v4 HNG.out.2.2; have hp5 := hS2.fr.cell v5 HNG.out.2.2; have m1 := And.intro hp0 (And.intro hp1 (And.intro hp2 (And.intro hp3 (And.intro hp4 hp5)))); have hmw2 : gm < w2.heap.size := World.block_lt_of_cell? w2 _ hp0; have hgw2 : go < w2.heap.size := World.block_lt_of_cell? w2 _ hp3; have hbo2 : w2.heap[W.heap.size]? = some (Obj.cells #[Value.int .i64 0, Value.int .i64 0, Value.int .u32 0, Value.int .u32 0, Value.int .u8 0, Value.int .u8 0, Value.int .u16 0, Value.int .u16 0] 129) := (hS2.fr.block W.heap.size HVS.out.1 hnGo).trans HVS.out.2; obtain ⟨x0, x1, x2, x3, x4, x5, x6, x7⟩ := Box.of (o := noOrd) (a := 0) (z := 0) hbo2; have fo : ∀ j, w2.frozen? ⟨W.heap.size, j, none⟩ = false := (fun j => (by simp [World.frozen?, hbo2])); have fo0 := fo 0; have fo1 := fo 1; have fo2 := fo 2; have fo3 := fo 3; have fo4 := fo 4; have fo5 := fo 5; have fo6 := fo 6; have fo7 := fo 7; clear fo; replace hbo2 := Hid.mk hbo2; replace hR2 := Hid.mk hR2; replace hS2 := Hid.mk hS2; replace hT2 := Hid.mk hT2) | (refine (register_h b c k st n r W.drew HRa.out ht hu HRr.out).mono ?_; rintro e w2 ⟨rfl, c2, hR2, hS2, hT2⟩; have hp0 := hS2.fr.cell q0d HNG.out.1; have hp1 := hS2.fr.cell q1d HNG.out.1; have hp2 := hS2.fr.cell q2d HNG.out.1; have hp3 := hS2.fr.cell q3d HNG.out.2.2; have hp4 := hS2.fr.cell q4d HNG.out.2.2; have hp5 := hS2.fr.cell q5d HNG.out.2.2; have m1 := And.intro hp0 (And.intro hp1 (And.intro hp2 (And.intro hp3 (And.intro hp4 hp5)))); have hmw2 : gm < w2.heap.size := World.block_lt_of_cell? w2 _ hp0; have hgw2 : go < w2.heap.size := World.block_lt_of_cell? w2 _ hp3; replace hR2 := Hid.mk hR2; replace hS2 := Hid.mk hS2; replace hT2 := Hid.mk hT2)))
  · have hFA : Fr (fun _ => False) w2 (w2.alloc (Obj.cells #[Value.int .i64 0, Value.int .i64 0, Value.int .u32 r, Value.int .u32 n, Value.int .u8 old.side.toNat, Value.int .u8 old.stock, Value.int .u16 price, Value.int .u16 shares] 129)) := Fr.alloc _ _ _
    have hgr2 : gr < w2.heap.size := Nat.lt_of_lt_of_le hrW hS2.out.fr.size
    have hbA : (w2.alloc (Obj.cells #[Value.int .i64 0, Value.int .i64 0, Value.int .u32 r, Value.int .u32 n, Value.int .u8 old.side.toNat, Value.int .u8 old.stock, Value.int .u16 price, Value.int .u16 shares] 129)).heap[w2.heap.size]? = some (.cells (ordL 0 0 ({ ref := r, token := n, side := old.side, stock := old.stock, price := price, shares := shares } : Ord)).toArray 129) := by rw [heap_alloc, if_pos rfl]; rfl
    obtain ⟨bo, hbo⟩ : ∃ bo, w2.heap.size = bo := ⟨_, rfl⟩
    have nG : ∀ g, g < W.heap.size → ¬ GB b c k g → ¬ GB b c2 k g := fun g hg hn e => (hS2.out.sub g e).elim hn (fun e => by have e : W.heap.size ≤ g := e; omega)
    have hR2' := hR2.out.quiet hFA
    have hS2' := (Stp.quiet HFW.out).trans ((Stp.quiet (Fr.drew _ W)).trans (hS2.out.trans (Stp.quiet hFA)))
    have h5' := hFA.cell hp3 (fun e => e)
    have hr' : (w2.alloc (Obj.cells #[Value.int .i64 0, Value.int .i64 0, Value.int .u32 r, Value.int .u32 n, Value.int .u8 old.side.toNat, Value.int .u8 old.stock, Value.int .u16 price, Value.int .u16 shares] 129)).heap[gr]? = some (.cells (ordL 0 0 noOrd).toArray 129) := (hFA.block _ hgr2 (fun e => e)).trans ((hS2.out.fr.block (w := W.drew) gr hrW HNG.out.2.1).trans HBR.out)
    have hnb : ¬ GB b c2 k w2.heap.size := fun e => by have := hR2.out.lt _ e; omega
    rw [hbo] at hbA hnb ⊢
    generalize w2.alloc (Obj.cells #[Value.int .i64 0, Value.int .i64 0, Value.int .u32 r, Value.int .u32 n, Value.int .u8 old.side.toNat, Value.int .u8 old.stock, Value.int .u16 price, Value.int .u16 shares] 129) = V at hFA hbA hR2' hS2' h5' hr' ⊢
    have HV : Hid (Rel V b c2 k { st with refs := r, used := n :: st.used } ∧ Stp w b c k V c2 ∧ V.heap[bo]? = some (.cells (ordL 0 0 ({ ref := r, token := n, side := old.side, stock := old.stock, price := price, shares := shares } : Ord)).toArray 129) ∧ V.cell? ⟨go, 3, none⟩ = some (.int .u32 old.token) ∧ V.heap[gr]? = some (.cells (ordL 0 0 noOrd).toArray 129) ∧ ¬ GB b c2 k bo ∧ ¬ GB b c2 k gm ∧ ¬ GB b c2 k gr ∧ ∀ M od ps fl, Holds w c k st M od ps fl → Holds V c2 k { st with refs := r, used := n :: st.used } (updM M n (some 0)) od ps fl) := ⟨hR2', hS2', hbA, h5', hr', hnb, nG gm hmW HNG.out.1, nG gr hrW HNG.out.2.1, fun M od ps fl hh => (hT2.out M od ps fl ((hh.quiet HFW.out).quiet (Fr.drew _ W))).quiet hFA⟩
    clear hFA hbA hR2' hS2' h5' hr' hnb hbo nG
    clear hp0 hp1 hp2 hp3 hp4 hp5 m1 hR2 hS2 hT2
    obtain ⟨hRV, hSV, hbV, h5V, hrV, nbo, nmo, nro, hTV⟩ := HV.out
    obtain ⟨y0, y1, y2, y3, y4, y5, y6, y7⟩ := (Box.of hbV : Box V bo 0 0 ({ ref := r, token := n, side := old.side, stock := old.stock, price := price, shares := shares } : Ord))
    have HRV := Hid.mk hRV
    have htmv := hRV.time
    have hok : (poOf 0 0 ({ ref := r, token := n, side := old.side, stock := old.stock, price := price, shares := shares } : Ord)).ok := ⟨hrl, ht, hst, hp, hs⟩
    have HT := Hid.mk (tellReplaced_any b c2 st.ans (poOf 0 0 ({ ref := r, token := n, side := old.side, stock := old.stock, price := price, shares := shares } : Ord)) old.token V hRV.B hRV.tm.1 hRV.tm.2 hRV.A hRV.dist.ab (by omega) hok hot)
    clear hRV hSV hbV hrV nbo nmo nro hok hTV
    go_wp2_with fail
    refine HT.out.mono ?_
    rintro e w4 ⟨rfl, ht4⟩
    obtain ⟨c4, hR4, hS4, hp4, -⟩ := HRV.out.tellA (l := st.head 85 ++ enc n 4 ++ enc price 2 ++ enc shares 2 ++ enc r 4 ++ enc old.token 4) ht4 (by
      show st.ans ++ 85 :: enc c2.time 6 ++ enc n 4 ++ enc price 2 ++ enc shares 2 ++ enc r 4 ++ enc old.token 4 = st.ans ++ (st.head 85 ++ enc n 4 ++ enc price 2 ++ enc shares 2 ++ enc r 4 ++ enc old.token 4)
      have htm' : c2.time = st.time := htmv
      unfold St.head
      rw [htm']
      simp)
    obtain ⟨hRV, hSV, hbV, h5V', hrV, nbo, nmo, nro, hTV⟩ := HV.out
    obtain ⟨z0, z1, z2, z3, z4, z5, z6, z7⟩ := (Box.of ((hS4.fr.block _ (Array.getElem?_eq_some_iff.1 hbV).1 nbo).trans hbV) : Box w4 bo 0 0 ({ ref := r, token := n, side := old.side, stock := old.stock, price := price, shares := shares } : Ord))
    have hbr4 : w4.heap[gr]? = some (.cells (ordL 0 0 noOrd).toArray 129) := (hS4.fr.block _ (Array.getElem?_eq_some_iff.1 hrV).1 nro).trans hrV
    obtain ⟨r0, r1, r2, r3, r4, r5, r6, r7⟩ := (Box.of hbr4 : Box w4 gr 0 0 noOrd)
    have fro : ∀ j, w4.frozen? ⟨gr, j, none⟩ = false := fun j => by simp [World.frozen?, hbr4]
    have fr0 := fro 0
    have fr1 := fro 1
    have fr2 := fro 2
    have fr3 := fro 3
    have fr4 := fro 4
    have fr5 := fro 5
    have fr6 := fro 6
    have fr7 := fro 7
    have hnr4 : ¬ GB b c4 k gr := fun e => (hS4.sub gr e).elim nro (fun e => by have := (Array.getElem?_eq_some_iff.1 hrV).1; omega)
    have HR4 := Hid.mk hR4
    have HS4 : Hid (Stp w b c k w4 c4) := hSV.trans hS4
    have HBR4 := Hid.mk hbr4
    have HT4 : Hid (∀ M od ps fl, Holds w c k st M od ps fl → Holds w4 c4 k _ (updM M n (some 0)) od ps fl) := fun M od ps fl hh => (hTV M od ps fl hh).tellA (l := st.head 85 ++ enc n 4 ++ enc price 2 ++ enc shares 2 ++ enc r 4 ++ enc old.token 4) (c' := c4) hRV.dist ht4 hp4
    clear fro hbr4 hRV hSV hbV h5V' hrV nbo nmo nro hR4 hS4 ht4 hTV hp4 y0 y1 y2 y3 y4 y5 y6 y7 h5V
    go_wp2_with fail
    have hbr4 := HBR4.out
    have hfin : ((((((((w4.setCell ⟨gr, 0, none⟩ (.int .i64 0)).setCell ⟨gr, 1, none⟩ (.int .i64 0)).setCell ⟨gr, 2, none⟩ (.int .u32 r)).setCell ⟨gr, 3, none⟩ (.int .u32 n)).setCell ⟨gr, 4, none⟩ (.int .u8 old.side.toNat)).setCell ⟨gr, 5, none⟩ (.int .u8 old.stock)).setCell ⟨gr, 6, none⟩ (.int .u16 price)).setCell ⟨gr, 7, none⟩ (.int .u16 shares)).heap[gr]? = some (.cells (ordL 0 0 ({ ref := r, token := n, side := old.side, stock := old.stock, price := price, shares := shares } : Ord)).toArray 129) := by
      rw [(heap_setCell_same _ gr 7 _ _ _ (heap_setCell_same _ gr 6 _ _ _ (heap_setCell_same _ gr 5 _ _ _ (heap_setCell_same _ gr 4 _ _ _ (heap_setCell_same _ gr 3 _ _ _ (heap_setCell_same _ gr 2 _ _ _ (heap_setCell_same _ gr 1 _ _ _ (heap_setCell_same _ gr 0 _ _ _ hbr4))))))))]; rfl
    have hfrn : Fr (fun j => j = gr) w4 ((((((((w4.setCell ⟨gr, 0, none⟩ (.int .i64 0)).setCell ⟨gr, 1, none⟩ (.int .i64 0)).setCell ⟨gr, 2, none⟩ (.int .u32 r)).setCell ⟨gr, 3, none⟩ (.int .u32 n)).setCell ⟨gr, 4, none⟩ (.int .u8 old.side.toNat)).setCell ⟨gr, 5, none⟩ (.int .u8 old.stock)).setCell ⟨gr, 6, none⟩ (.int .u16 price)).setCell ⟨gr, 7, none⟩ (.int .u16 shares)) := fr_setCells gr (ordL 0 0 ({ ref := r, token := n, side := old.side, stock := old.stock, price := price, shares := shares } : Ord)) 0 w4
    generalize ((((((((w4.setCell ⟨gr, 0, none⟩ (.int .i64 0)).setCell ⟨gr, 1, none⟩ (.int .i64 0)).setCell ⟨gr, 2, none⟩ (.int .u32 r)).setCell ⟨gr, 3, none⟩ (.int .u32 n)).setCell ⟨gr, 4, none⟩ (.int .u8 old.side.toNat)).setCell ⟨gr, 5, none⟩ (.int .u8 old.stock)).setCell ⟨gr, 6, none⟩ (.int .u16 price)).setCell ⟨gr, 7, none⟩ (.int .u16 shares)) = w9 at hfin hfrn ⊢
    obtain ⟨u0, u1, u2, u3, u4, u5, u6, u7⟩ := (Box.of hfin : Box w9 gr 0 0 ({ ref := r, token := n, side := old.side, stock := old.stock, price := price, shares := shares } : Ord))
    refine bodyPost_ret (v := ordV 0 0 ({ ref := r, token := n, side := old.side, stock := old.stock, price := price, shares := shares } : Ord)) (by unfold ordV ordL; simp [results, Try.results82, go_sem, u0, u1, u2, u3, u4, u5, u6, u7]) rfl ⟨rfl, c4, ?_, ?_, ?_⟩
    · exact HR4.out.keep (fun j hj => hfrn.block j (HR4.out.lt j hj) (fun e => hnr4 (by rw [← (show j = gr from e)]; exact hj)))
    · exact ⟨HS4.out.fr.trans hfrn (fun i hi e => by have e : i = gr := e; have := HG.out.2.2; omega), HS4.out.sub, HS4.out.bytes, HS4.out.have_, HS4.out.opn⟩
    · intro M od ps fl hh
      exact (HT4.out M od ps fl hh).apart hfrn (fun j hj e => hnr4 (by rw [← (show j = gr from e)]; exact Or.inr (Or.inr (Or.inl hj)))) (fun e => hnr4 (by rw [← (show c4.pm = gr from e)]; exact Or.inr (Or.inl rfl)))
  · have hFA : Fr (fun j => j = W.heap.size) w2 ((((((((w2.setCell ⟨W.heap.size, 0, none⟩ (.int .i64 0)).setCell ⟨W.heap.size, 1, none⟩ (.int .i64 0)).setCell ⟨W.heap.size, 2, none⟩ (.int .u32 r)).setCell ⟨W.heap.size, 3, none⟩ (.int .u32 n)).setCell ⟨W.heap.size, 4, none⟩ (.int .u8 old.side.toNat)).setCell ⟨W.heap.size, 5, none⟩ (.int .u8 old.stock)).setCell ⟨W.heap.size, 6, none⟩ (.int .u16 price)).setCell ⟨W.heap.size, 7, none⟩ (.int .u16 shares)) := fr_setCells W.heap.size (ordL 0 0 ({ ref := r, token := n, side := old.side, stock := old.stock, price := price, shares := shares } : Ord)) 0 w2
    have hgr2 : gr < w2.heap.size := by
      have := hS2.out.fr.size
      have := HVS.out.1
      omega
    have hbA : ((((((((w2.setCell ⟨W.heap.size, 0, none⟩ (.int .i64 0)).setCell ⟨W.heap.size, 1, none⟩ (.int .i64 0)).setCell ⟨W.heap.size, 2, none⟩ (.int .u32 r)).setCell ⟨W.heap.size, 3, none⟩ (.int .u32 n)).setCell ⟨W.heap.size, 4, none⟩ (.int .u8 old.side.toNat)).setCell ⟨W.heap.size, 5, none⟩ (.int .u8 old.stock)).setCell ⟨W.heap.size, 6, none⟩ (.int .u16 price)).setCell ⟨W.heap.size, 7, none⟩ (.int .u16 shares)).heap[W.heap.size]? = some (.cells (ordL 0 0 ({ ref := r, token := n, side := old.side, stock := old.stock, price := price, shares := shares } : Ord)).toArray 129) := by
      rw [(heap_setCell_same _ W.heap.size 7 _ _ _ (heap_setCell_same _ W.heap.size 6 _ _ _ (heap_setCell_same _ W.heap.size 5 _ _ _ (heap_setCell_same _ W.heap.size 4 _ _ _ (heap_setCell_same _ W.heap.size 3 _ _ _ (heap_setCell_same _ W.heap.size 2 _ _ _ (heap_setCell_same _ W.heap.size 1 _ _ _ (heap_setCell_same _ W.heap.size 0 _ _ _ hbo2.out))))))))]; rfl
    obtain ⟨bo, hbo⟩ : ∃ bo, W.heap.size = bo := ⟨_, rfl⟩
    have nG : ∀ g, g < VB.heap.size → ¬ GB b c k g → ¬ GB b c2 k g := fun g hg hn e => (hS2.out.sub g e).elim hn (fun e => by omega)
    have hnb : ¬ GB b c2 k W.heap.size := nG _ HVS.out.1 hnGo
    have hR2' : Rel ((((((((w2.setCell ⟨W.heap.size, 0, none⟩ (.int .i64 0)).setCell ⟨W.heap.size, 1, none⟩ (.int .i64 0)).setCell ⟨W.heap.size, 2, none⟩ (.int .u32 r)).setCell ⟨W.heap.size, 3, none⟩ (.int .u32 n)).setCell ⟨W.heap.size, 4, none⟩ (.int .u8 old.side.toNat)).setCell ⟨W.heap.size, 5, none⟩ (.int .u8 old.stock)).setCell ⟨W.heap.size, 6, none⟩ (.int .u16 price)).setCell ⟨W.heap.size, 7, none⟩ (.int .u16 shares)) b c2 k _ := hR2.out.keep (fun j hj => hFA.block j (hR2.out.lt j hj) (fun e => hnb (by rw [← (show j = W.heap.size from e)]; exact hj)))
    have hS1 := (Stp.quiet HFW.out).trans (((Stp.quiet HFB.out)).trans hS2.out)
    have hS2' : Stp w b c k ((((((((w2.setCell ⟨W.heap.size, 0, none⟩ (.int .i64 0)).setCell ⟨W.heap.size, 1, none⟩ (.int .i64 0)).setCell ⟨W.heap.size, 2, none⟩ (.int .u32 r)).setCell ⟨W.heap.size, 3, none⟩ (.int .u32 n)).setCell ⟨W.heap.size, 4, none⟩ (.int .u8 old.side.toNat)).setCell ⟨W.heap.size, 5, none⟩ (.int .u8 old.stock)).setCell ⟨W.heap.size, 6, none⟩ (.int .u16 price)).setCell ⟨W.heap.size, 7, none⟩ (.int .u16 shares)) c2 := ⟨hS1.fr.trans hFA (fun i hi e => by have e : i = W.heap.size := e; have := HFW.out.size; omega), hS1.sub, hS1.bytes, hS1.have_, hS1.opn⟩
    have h5' := hFA.cell hp3 hno
    have hr' : ((((((((w2.setCell ⟨W.heap.size, 0, none⟩ (.int .i64 0)).setCell ⟨W.heap.size, 1, none⟩ (.int .i64 0)).setCell ⟨W.heap.size, 2, none⟩ (.int .u32 r)).setCell ⟨W.heap.size, 3, none⟩ (.int .u32 n)).setCell ⟨W.heap.size, 4, none⟩ (.int .u8 old.side.toNat)).setCell ⟨W.heap.size, 5, none⟩ (.int .u8 old.stock)).setCell ⟨W.heap.size, 6, none⟩ (.int .u16 price)).setCell ⟨W.heap.size, 7, none⟩ (.int .u16 shares)).heap[gr]? = some (.cells (ordL 0 0 noOrd).toArray 129) := (hFA.block _ hgr2 (fun e => by have e : gr = W.heap.size := e; omega)).trans ((hS2.out.fr.block gr (by have := HVS.out.1; omega) HNG.out.2.1).trans ((HFB.out.block gr hrW (fun e => e)).trans HBR.out))
    rw [hbo] at hbA hnb ⊢
    rw [hbo] at hFA hR2' hS2' h5' hr'
    generalize ((((((((w2.setCell ⟨bo, 0, none⟩ (.int .i64 0)).setCell ⟨bo, 1, none⟩ (.int .i64 0)).setCell ⟨bo, 2, none⟩ (.int .u32 r)).setCell ⟨bo, 3, none⟩ (.int .u32 n)).setCell ⟨bo, 4, none⟩ (.int .u8 old.side.toNat)).setCell ⟨bo, 5, none⟩ (.int .u8 old.stock)).setCell ⟨bo, 6, none⟩ (.int .u16 price)).setCell ⟨bo, 7, none⟩ (.int .u16 shares)) = V at hFA hbA hR2' hS2' h5' hr' ⊢
    have HV : Hid (Rel V b c2 k { st with refs := r, used := n :: st.used } ∧ Stp w b c k V c2 ∧ V.heap[bo]? = some (.cells (ordL 0 0 ({ ref := r, token := n, side := old.side, stock := old.stock, price := price, shares := shares } : Ord)).toArray 129) ∧ V.cell? ⟨go, 3, none⟩ = some (.int .u32 old.token) ∧ V.heap[gr]? = some (.cells (ordL 0 0 noOrd).toArray 129) ∧ ¬ GB b c2 k bo ∧ ¬ GB b c2 k gm ∧ ¬ GB b c2 k gr ∧ ∀ M od ps fl, Holds w c k st M od ps fl → Holds V c2 k { st with refs := r, used := n :: st.used } (updM M n (some 0)) od ps fl) := ⟨hR2', hS2', hbA, h5', hr', hnb, nG gm (by have := HVS.out.1; omega) HNG.out.1, nG gr (by have := HVS.out.1; omega) HNG.out.2.1, fun M od ps fl hh => (hT2.out M od ps fl ((hh.quiet HFW.out).quiet HFB.out)).apart hFA (fun j hj e => hnb (by rw [← (show j = bo from e)]; exact Or.inr (Or.inr (Or.inl hj)))) (fun e => hnb (by rw [← (show c2.pm = bo from e)]; exact Or.inr (Or.inl rfl)))⟩
    clear hFA hbA hR2' hS2' h5' hr' hnb nG x0 x1 x2 x3 x4 x5 x6 x7 fo0 fo1 fo2 fo3 fo4 fo5 fo6 fo7 hS1 hbo2
    clear hbo
    clear hp0 hp1 hp2 hp3 hp4 hp5 m1 hR2 hS2 hT2
    obtain ⟨hRV, hSV, hbV, h5V, hrV, nbo, nmo, nro, hTV⟩ := HV.out
    obtain ⟨y0, y1, y2, y3, y4, y5, y6, y7⟩ := (Box.of hbV : Box V bo 0 0 ({ ref := r, token := n, side := old.side, stock := old.stock, price := price, shares := shares } : Ord))
    have HRV := Hid.mk hRV
    have htmv := hRV.time
    have hok : (poOf 0 0 ({ ref := r, token := n, side := old.side, stock := old.stock, price := price, shares := shares } : Ord)).ok := ⟨hrl, ht, hst, hp, hs⟩
    have HT := Hid.mk (tellReplaced_any b c2 st.ans (poOf 0 0 ({ ref := r, token := n, side := old.side, stock := old.stock, price := price, shares := shares } : Ord)) old.token V hRV.B hRV.tm.1 hRV.tm.2 hRV.A hRV.dist.ab (by omega) hok hot)
    clear hRV hSV hbV hrV nbo nmo nro hok hTV
    go_wp2_with fail
    refine HT.out.mono ?_
    rintro e w4 ⟨rfl, ht4⟩
    obtain ⟨c4, hR4, hS4, hp4, -⟩ := HRV.out.tellA (l := st.head 85 ++ enc n 4 ++ enc price 2 ++ enc shares 2 ++ enc r 4 ++ enc old.token 4) ht4 (by
      show st.ans ++ 85 :: enc c2.time 6 ++ enc n 4 ++ enc price 2 ++ enc shares 2 ++ enc r 4 ++ enc old.token 4 = st.ans ++ (st.head 85 ++ enc n 4 ++ enc price 2 ++ enc shares 2 ++ enc r 4 ++ enc old.token 4)
      have htm' : c2.time = st.time := htmv
      unfold St.head
      rw [htm']
      simp)
    obtain ⟨hRV, hSV, hbV, h5V', hrV, nbo, nmo, nro, hTV⟩ := HV.out
    obtain ⟨z0, z1, z2, z3, z4, z5, z6, z7⟩ := (Box.of ((hS4.fr.block _ (Array.getElem?_eq_some_iff.1 hbV).1 nbo).trans hbV) : Box w4 bo 0 0 ({ ref := r, token := n, side := old.side, stock := old.stock, price := price, shares := shares } : Ord))
    have hbr4 : w4.heap[gr]? = some (.cells (ordL 0 0 noOrd).toArray 129) := (hS4.fr.block _ (Array.getElem?_eq_some_iff.1 hrV).1 nro).trans hrV
    obtain ⟨r0, r1, r2, r3, r4, r5, r6, r7⟩ := (Box.of hbr4 : Box w4 gr 0 0 noOrd)
    have fro : ∀ j, w4.frozen? ⟨gr, j, none⟩ = false := fun j => by simp [World.frozen?, hbr4]
    have fr0 := fro 0
    have fr1 := fro 1
    have fr2 := fro 2
    have fr3 := fro 3
    have fr4 := fro 4
    have fr5 := fro 5
    have fr6 := fro 6
    have fr7 := fro 7
    have hnr4 : ¬ GB b c4 k gr := fun e => (hS4.sub gr e).elim nro (fun e => by have := (Array.getElem?_eq_some_iff.1 hrV).1; omega)
    have HR4 := Hid.mk hR4
    have HS4 : Hid (Stp w b c k w4 c4) := hSV.trans hS4
    have HBR4 := Hid.mk hbr4
    have HT4 : Hid (∀ M od ps fl, Holds w c k st M od ps fl → Holds w4 c4 k _ (updM M n (some 0)) od ps fl) := fun M od ps fl hh => (hTV M od ps fl hh).tellA (l := st.head 85 ++ enc n 4 ++ enc price 2 ++ enc shares 2 ++ enc r 4 ++ enc old.token 4) (c' := c4) hRV.dist ht4 hp4
    clear fro hbr4 hRV hSV hbV h5V' hrV nbo nmo nro hR4 hS4 ht4 hTV hp4 y0 y1 y2 y3 y4 y5 y6 y7 h5V
    go_wp2_with fail
    have hbr4 := HBR4.out
    have hfin : ((((((((w4.setCell ⟨gr, 0, none⟩ (.int .i64 0)).setCell ⟨gr, 1, none⟩ (.int .i64 0)).setCell ⟨gr, 2, none⟩ (.int .u32 r)).setCell ⟨gr, 3, none⟩ (.int .u32 n)).setCell ⟨gr, 4, none⟩ (.int .u8 old.side.toNat)).setCell ⟨gr, 5, none⟩ (.int .u8 old.stock)).setCell ⟨gr, 6, none⟩ (.int .u16 price)).setCell ⟨gr, 7, none⟩ (.int .u16 shares)).heap[gr]? = some (.cells (ordL 0 0 ({ ref := r, token := n, side := old.side, stock := old.stock, price := price, shares := shares } : Ord)).toArray 129) := by
      rw [(heap_setCell_same _ gr 7 _ _ _ (heap_setCell_same _ gr 6 _ _ _ (heap_setCell_same _ gr 5 _ _ _ (heap_setCell_same _ gr 4 _ _ _ (heap_setCell_same _ gr 3 _ _ _ (heap_setCell_same _ gr 2 _ _ _ (heap_setCell_same _ gr 1 _ _ _ (heap_setCell_same _ gr 0 _ _ _ hbr4))))))))]; rfl
    have hfrn : Fr (fun j => j = gr) w4 ((((((((w4.setCell ⟨gr, 0, none⟩ (.int .i64 0)).setCell ⟨gr, 1, none⟩ (.int .i64 0)).setCell ⟨gr, 2, none⟩ (.int .u32 r)).setCell ⟨gr, 3, none⟩ (.int .u32 n)).setCell ⟨gr, 4, none⟩ (.int .u8 old.side.toNat)).setCell ⟨gr, 5, none⟩ (.int .u8 old.stock)).setCell ⟨gr, 6, none⟩ (.int .u16 price)).setCell ⟨gr, 7, none⟩ (.int .u16 shares)) := fr_setCells gr (ordL 0 0 ({ ref := r, token := n, side := old.side, stock := old.stock, price := price, shares := shares } : Ord)) 0 w4
    generalize ((((((((w4.setCell ⟨gr, 0, none⟩ (.int .i64 0)).setCell ⟨gr, 1, none⟩ (.int .i64 0)).setCell ⟨gr, 2, none⟩ (.int .u32 r)).setCell ⟨gr, 3, none⟩ (.int .u32 n)).setCell ⟨gr, 4, none⟩ (.int .u8 old.side.toNat)).setCell ⟨gr, 5, none⟩ (.int .u8 old.stock)).setCell ⟨gr, 6, none⟩ (.int .u16 price)).setCell ⟨gr, 7, none⟩ (.int .u16 shares)) = w9 at hfin hfrn ⊢
    obtain ⟨u0, u1, u2, u3, u4, u5, u6, u7⟩ := (Box.of hfin : Box w9 gr 0 0 ({ ref := r, token := n, side := old.side, stock := old.stock, price := price, shares := shares } : Ord))
    refine bodyPost_ret (v := ordV 0 0 ({ ref := r, token := n, side := old.side, stock := old.stock, price := price, shares := shares } : Ord)) (by unfold ordV ordL; simp [results, Try.results82, go_sem, u0, u1, u2, u3, u4, u5, u6, u7]) rfl ⟨rfl, c4, ?_, ?_, ?_⟩
    · exact HR4.out.keep (fun j hj => hfrn.block j (HR4.out.lt j hj) (fun e => hnr4 (by rw [← (show j = gr from e)]; exact hj)))
    · exact ⟨HS4.out.fr.trans hfrn (fun i hi e => by have e : i = gr := e; have := HG.out.2.2; omega), HS4.out.sub, HS4.out.bytes, HS4.out.have_, HS4.out.opn⟩
    · intro M od ps fl hh
      exact (HT4.out M od ps fl hh).apart hfrn (fun j hj e => hnr4 (by rw [← (show j = gr from e)]; exact Or.inr (Or.inr (Or.inl hj)))) (fun e => hnr4 (by rw [← (show c4.pm = gr from e)]; exact Or.inr (Or.inl rfl)))

end Go.Proofs.Ytphkchjejbffeaa

/- A replacement that does not cross. -/
namespace Go.Proofs.Ytphkchjejbffeaa
open Go.RowKit
attribute [local go_sem ↓] Go.wp_at_zero Go.wp_at_succ

/-- The books behind a replacement that does not cross. -/
def St.swapQ (st : St) (old y : Ord) : St :=
  if y.price = old.price ∧ y.shares ≤ old.shares then st.upd old.stock old.side old.price (subO old.token y)
  else (st.upd old.stock old.side old.price (delO old.token)).upd old.stock old.side y.price (· ++ [y])

theorem Inv.moved {b : St} (hB : Inv b) (old y : Ord) (hvb : Valid b old.stock old.side old.price) (hvn : Valid b y.stock y.side y.price) (e1 : y.stock = old.stock) (e2 : y.side = old.side) (hxq : ∃ x ∈ b.q old.stock old.side old.price, x.token = old.token) (h1 : 1 ≤ y.shares) (h2 : y.shares ≤ 9999) (h3 : y.ref < 4294967296) (h4 : y.token < 4294967296) (hu : y.token ∈ b.used) (hnn : ∀ x ∈ b.all, x.token ≠ y.token) (hm : b.meets y = none) :
    Inv ((b.upd old.stock old.side old.price (delO old.token)).upd old.stock old.side y.price (· ++ [y])) := by
  have hd := hB.del old.stock old.side old.price old.token hvb
  obtain ⟨r1, r2⟩ := del_all (st := b) old.stock old.side old.price old.token hvb hxq
  rw [← e1, ← e2] at hd r1 r2 ⊢
  refine hd.push y hvn h1 h2 h3 h4 hu (fun x hx => hnn x (r2.subset hx)) ?_ ?_
  · show _ < b.pool
    have := hB.room
    omega
  · intro p hne
    have hne' : b.q y.stock (other y.side) p ≠ [] := by
      intro e
      apply hne
      show (if _ then _ else _) = []
      rw [if_neg]
      · exact e
      · rintro ⟨-, hd, -⟩
        have hd : other y.side = y.side := hd
        rcases hvn.2.1 with hs | hs <;> rw [hs] at hd <;> revert hd <;> decide
    have hvp := hB.ok _ _ _ hne'
    obtain ⟨r, hr1, hr2⟩ := ranked_of b (other y.side) p hvp.2.2.1 hvp.2.2.2
    by_cases hc : reaches y p = true
    · rw [← hr2] at hc hne'
      exact absurd (meets_none hm r hr1 hc) hne'
    · simpa using hc

theorem swap_books (k : SK) (st : St) (M : Nat → Option Nat) (od : Nat → Ord) (ps : Nat → UInt8 → Nat → List Nat) (fl : List Nat) (x : Nat) (old y : Ord) (w : World) (hb : Bks w k st.resting od ps fl) (j3 : Fi k.S k.L k.n od ps fl M st) (hf : od x = old) (hv : VV k.S k.L old.stock old.side old.price) (hx : x ∈ ps old.stock old.side old.price)
    (e1 : y.stock = old.stock) (e2 : y.side = old.side) (hvy : VV k.S k.L y.stock y.side y.price) (h1 : 1 ≤ y.shares) (h2 : y.shares ≤ 9999) (h3 : y.ref < 4294967296) (h4 : y.token < 4294967296) (hM : M y.token = some 0) (hm : st.meets y = none) :
    ∃ ps', Fi k.S k.L k.n (updN od x y) ps' fl (updM (updM M old.token (some 0)) y.token (some x)) (st.swapQ old y) ∧ (st.swapQ old y).resting = st.resting ∧
      ∀ w, Bks w k st.resting od ps fl → Calls Try.prog 128 #[.pointer (some ⟨k.bk, 0, none⟩), .int .i64 x, ordV 0 0 y] w fun e w' => e = .returned (.tuple #[]) ∧ Bks w' k st.resting (updN od x y) ps' fl ∧ Fr k.F w w' := by
  obtain ⟨nd, lt, dis⟩ := hb.nodup hv
  have hxn := lt x hx
  have hxd := dis x hx
  have hne : ∀ s d p, VV k.S k.L s d p → ∀ y ∈ ps s d p, y ≠ 0 := fun s d p hv y hy => ((hb.nodup hv).2.1 y hy).2
  obtain ⟨a, bb, hab⟩ := List.append_of_mem hx
  have hcut := j3.cut hv hab nd
  rw [hf] at hcut
  have hq : st.q old.stock old.side old.price = a.map od ++ old :: bb.map od := by rw [j3.q _ _ _ hv, hab, List.map_append, List.map_cons, hf]
  have hu : y.token ∈ st.used := (j3.used _).1 (by rw [hM]; rfl)
  have hnn : ∀ o ∈ st.all, o.token ≠ y.token := by
    intro o ho e
    obtain ⟨s, d, p, x', v1, v2, rfl⟩ := j3.mem_all ho
    have := j3.mat _ _ _ v1 x' v2
    rw [e, hM] at this
    cases this
    exact hne _ _ _ v1 0 v2 rfl
  have hxq : ∃ o ∈ st.q old.stock old.side old.price, o.token = old.token := ⟨old, by rw [hq]; simp, rfl⟩
  have hvb := j3.valid hv
  have hvn := j3.valid hvy
  have cnt : ∀ {ps' M' st'}, st'.pool = st.pool → Fi k.S k.L k.n (updN od x y) ps' fl M' st' → st'.resting = st.resting := by
    intro ps' M' st' hp h
    have a1 := h.cnt
    have a2 := j3.cnt
    omega
  by_cases hc : y.price = old.price ∧ y.shares ≤ old.shares
  · have hinv : Inv (st.upd old.stock old.side old.price (subO old.token y)) := by
      have := j3.inv.sub old.token y (by rw [e1, e2, hc.1]; exact hvb) (by rw [e1, e2, hc.1]; exact hxq) h1 h2 h3 h4 hu hnn
      rw [e1, e2, hc.1] at this
      exact this
    have hF := j3.sub hv hab nd hxd hne y hM (subO old.token y) (by rw [hq, subO_app old.token y (a.map od) old (bb.map od) hcut.1 rfl]) hinv
    rw [hf] at hF
    unfold St.swapQ
    rw [if_pos hc]
    refine ⟨ps, hF, cnt rfl hF, ?_⟩
    intro w hb
    exact replace_stay k w st.resting x y od ps fl hb hxn.1 (by rw [hf]; exact hc.1) (by rw [hf]; exact hc.2)
  · have hinv := j3.inv.moved old y hvb hvn e1 e2 hxq h1 h2 h3 h4 hu hnn hm
    have hdel : delO old.token (st.q old.stock old.side old.price) = (a ++ bb).map od := by rw [hq, delO_app old.token (a.map od) old (bb.map od) hcut.1 rfl, List.map_append]
    have hG := j3.gone hv hab nd hxd noOrd (delO old.token) hdel (j3.inv.del old.stock old.side old.price old.token hvb)
    rw [hf] at hG
    have hMo : M old.token = some x := by
      have := j3.mat _ _ _ hv x hx
      rw [hf] at this
      exact this
    have hty : y.token ≠ old.token := by
      intro e
      rw [e, hMo] at hM
      cases hM
      exact hxn.2 rfl
    have hfr : ∀ s d p, VV k.S k.L s d p → x ∉ updQ ps old.stock old.side old.price (a ++ bb) s d p := by
      intro s d p v hm
      by_cases e : s = old.stock ∧ d = old.side ∧ p = old.price
      · obtain ⟨rfl, rfl, rfl⟩ := e
        rw [updQ_same] at hm
        rcases List.mem_append.1 hm with hm | hm
        · exact hcut.2.1 hm
        · exact hcut.2.2 hm
      · rw [updQ_ne _ _ _ _ _ e] at hm
        exact e (hxd _ _ _ v hm)
    have hne1 : ∀ s d p, VV k.S k.L s d p → ∀ y ∈ updQ ps old.stock old.side old.price (a ++ bb) s d p, y ≠ 0 := by
      intro s d p v z hz
      by_cases e : s = old.stock ∧ d = old.side ∧ p = old.price
      · obtain ⟨rfl, rfl, rfl⟩ := e
        rw [updQ_same] at hz
        exact hne _ _ _ v z (by rw [hab]; simp at hz ⊢; rcases hz with hz | hz <;> simp [hz])
      · rw [updQ_ne _ _ _ _ _ e] at hz
        exact hne _ _ _ v z hz
    have hinv' : Inv ((st.upd old.stock old.side old.price (delO old.token)).upd y.stock y.side y.price (· ++ [y])) := by rw [e1, e2]; exact hinv
    have hF := hG.push hxn.2 hfr hne1 y hvy (by rw [updM_ne _ _ _ _ hty]; exact hM) hinv'
    rw [updN_twice] at hF
    unfold St.swapQ
    rw [if_neg hc]
    have e3 : (st.upd old.stock old.side old.price (delO old.token)).upd old.stock old.side y.price (· ++ [y]) = (st.upd old.stock old.side old.price (delO old.token)).upd y.stock y.side y.price (· ++ [y]) := by rw [e1, e2]
    rw [e3]
    refine ⟨_, hF, cnt rfl hF, ?_⟩
    intro w hb
    exact replace_go k w st.resting x y od ps fl a bb hb (by
      rw [hf]
      by_cases e : y.price = old.price
      · exact Or.inr ⟨e, by omega⟩
      · exact Or.inl e) (by rw [hf]; exact hv) hvy (by rw [hf]; exact hab) _ (by rw [hf])

set_option maxRecDepth 100000 in
set_option maxHeartbeats 2000000 in
theorem swap_step (b a z : Nat) (c : BC) (k : SK) (st : St) (M : Nat → Option Nat) (od : Nat → Ord) (ps : Nat → UInt8 → Nat → List Nat) (fl : List Nat) (x : Nat) (old y : Ord) (w : World) (h : Rel w b c k st) (hh : Holds w c k st M od ps fl) (hf : od x = old) (hv : VV k.S k.L old.stock old.side old.price) (hx : x ∈ ps old.stock old.side old.price)
    (e1 : y.stock = old.stock) (e2 : y.side = old.side) (hvy : VV k.S k.L y.stock y.side y.price) (h1 : 1 ≤ y.shares) (h2 : y.shares ≤ 9999) (h3 : y.ref < 4294967296) (h4 : y.token < 4294967296) (hM : M y.token = some 0) (hm : st.meets y = none) (hrt : st.tape.length ≤ 70368744280000) :
    Calls Try.prog 84 #[.pointer (some ⟨b, 0, none⟩), .int .i64 x, ordV a z old, ordV 0 0 y] w fun e w' => e = .returned (.tuple #[]) ∧ Does w b c k w' ((st.swapQ old y).put (st.head 117 ++ enc old.ref 4 ++ enc y.ref 4 ++ enc y.shares 2 ++ enc y.price 2)) := by
  have hgb : ∀ j, GB b c k j → j < w.heap.size := h.lt
  have hblt := h.B.lt
  have hd := h.dist
  have hfit := hh.2.2.fits hv hx
  rw [hf] at hfit
  have hot := hfit.token
  have hor := hfit.ref
  have hxn := ((hh.1.nodup hv).2.1 x hx)
  have hMo : (M old.token) = some x := by
    have := hh.2.2.mat _ _ _ hv x hx
    rw [hf] at this
    exact this
  have huse := hh.2.2.usedLen
  obtain ⟨ps', hF, hres, hrep⟩ := swap_books k st M od ps fl x old y w hh.1 hh.2.2 hf hv hx e1 e2 hvy h1 h2 h3 h4 hM hm
  have g18 := h.map
  have g19 := h.books
  have HR := Hid.mk h
  have HH := Hid.mk hh
  have HF := Hid.mk (And.intro hF (And.intro hres hrep))
  have HM := Hid.mk (And.intro hM hMo)
  have hyok : Hid ((poOf 0 0 y).ok) := ⟨h3, h4, by show y.stock < 256; have a1 := hvy.1; have a2 := h.ok.S; omega, by show y.price < 65536; have a1 := hvy.2.2.2; have a2 := h.ok.L; omega, by show y.shares < 65536; omega⟩
  clear h hh hf hv hx e1 e2 hvy hM hm hMo hfit hF hres hrep
  unfold ordV ordL
  go_enter Try.func84, Try.ntmps84
  go_wp2_with fail
  obtain ⟨go, hgo⟩ : ∃ g, g = w.heap.size := ⟨_, rfl⟩
  obtain ⟨gy, hgy⟩ : ∃ g, g = w.heap.size + 1 := ⟨_, rfl⟩
  rw [← hgy, ← hgo]
  generalize hW : (World.alloc _ (Obj.cells #[Value.int .i64 0, Value.int .i64 0, Value.int .u32 y.ref, Value.int .u32 y.token, Value.int .u8 y.side.toNat, Value.int .u8 y.stock, Value.int .u16 y.price, Value.int .u16 y.shares] 129)) = W
  have hFW : Fr (fun _ => False) w W := by
    rw [← hW]
    exact (Fr.alloc _ w _).trans (Fr.alloc _ _ _) (fun _ _ e => e)
  have hbo : Box W go a z old := Box.of (t := 129) (by rw [← hW, hgo, heap_alloc, if_neg (by rw [size_alloc]; omega), heap_alloc, if_pos rfl]; rfl)
  have hby : Box W gy 0 0 y := Box.of (t := 129) (by rw [← hW, hgy, heap_alloc, if_pos (by rw [size_alloc])]; rfl)
  clear hW
  have nGo : ¬ GB b c k go := fun e => by have := hgb _ e; omega
  have nGy : ¬ GB b c k gy := fun e => by have := hgb _ e; omega
  have HNG := Hid.mk (And.intro nGo nGy)
  have HG := Hid.mk (And.intro hgo hgy)
  have h19 := hFW.cell g19 (fun e => e)
  have h18 := hFW.cell g18 (fun e => e)
  obtain ⟨q0, q1, q2, q3, q4, q5, q6, q7⟩ := hby
  have HHW : Hid (Holds W c k st M od ps fl) := HH.out.quiet hFW
  have HFW := Hid.mk hFW
  have HBO := Hid.mk hbo
  have nF : ∀ g, ¬ GB b c k g → ¬ k.F g ∧ g ≠ c.pm := fun g hg => ⟨fun e => hg (Or.inr (Or.inr (Or.inl e))), fun e => hg (Or.inr (Or.inl e))⟩
  have hyF := nF gy nGy
  have hoF := nF go nGo
  have hbp : b ≠ c.pm := Ne.symm hd.pb
  clear hFW hbo hgo hgy nGo nGy g18 g19 nF
  go_region_held3 (fun w' => (w'.cell? ⟨gy, 0, none⟩ = some (.int .i64 0) ∧ w'.cell? ⟨gy, 1, none⟩ = some (.int .i64 0) ∧ w'.cell? ⟨gy, 2, none⟩ = some (.int .u32 y.ref) ∧ w'.cell? ⟨gy, 3, none⟩ = some (.int .u32 y.token) ∧ w'.cell? ⟨gy, 4, none⟩ = some (.int .u8 y.side.toNat) ∧ w'.cell? ⟨gy, 5, none⟩ = some (.int .u8 y.stock) ∧ w'.cell? ⟨gy, 6, none⟩ = some (.int .u16 y.price) ∧ w'.cell? ⟨gy, 7, none⟩ = some (.int .u16 y.shares)) ∧ w'.cell? ⟨b, 19, none⟩ = some (.pointer (some ⟨k.bk, 0, none⟩))) (first | with_reducible exact m1 | go_keep)
    ((go_at_call 128; refine (HF.out.2.2 W.drew (HHW.out.1.keep (fun _ _ => rfl))).mono ?_; rintro e w2 ⟨rfl, hb2, hf2⟩; have m1 := And.intro ((Box.fr (w := W.drew) ⟨q0, q1, q2, q3, q4, q5, q6, q7⟩ hf2 hyF.1).all) (hf2.cell (w := W.drew) h19 hd.bF); replace hb2 := Hid.mk hb2; replace hf2 := Hid.mk hf2))
  have hf2' : Hid (Fr k.F W w2) := (Fr.drew _ W).trans hf2.out (fun _ _ e => e)
  have hM2 : IsM w2 c.pm st.used.length M := HHW.out.2.1.keep (hf2'.out.block _ HHW.out.2.1.lt hd.pF)
  have h18b := hf2'.out.cell h18 hd.bF
  have hbo2 := HBO.out.fr hf2'.out hoF.1
  have o3 := hbo2.c3
  have o2 := hbo2.c2
  obtain ⟨⟨y0, y1, y2, y3, y4, y5, y6, y7⟩, h19b⟩ := m1
  obtain ⟨w3, hrun3, hM3, hf3d⟩ := (hM2.keep (w' := w2.drew) rfl).store old.token 0 hot (by decide) huse
  have hf3 : Fr (fun j => j = c.pm) w2 w3 := (Fr.drew _ w2).trans hf3d (fun _ _ e => e)
  rw [if_pos (by rw [HM.out.2]; rfl)] at hM3
  have h18c := hf3.cell h18b hbp
  have o3c := hf3.cell o3 hoF.2
  have z3 := hf3.cell y3 hyF.2
  have hM3s : ((updM M old.token (some 0)) y.token).isSome = true := by
    by_cases e : y.token = old.token
    · rw [e, updM_same]; rfl
    · rw [updM_ne _ _ _ _ e, HM.out.1]; rfl
  obtain ⟨w4, hrun4, hM4, hf4d⟩ := (hM3.keep (w' := w3.drew) rfl).store y.token x h4 (by have := HR.out.ok.n; omega) huse
  have hf4 : Fr (fun j => j = c.pm) w3 w4 := (Fr.drew _ w3).trans hf4d (fun _ _ e => e)
  rw [if_pos hM3s] at hM4
  have hrun3' : (Instr.mapUpdate 78 (.map (some c.pm)) (.int .u32 old.token) (.int .i64 0)).run Try.prog w2.drew = .ok () w3 := hrun3
  have F3 : Fr (fun j => k.F j ∨ j = c.pm) w W := HFW.out.mono (fun _ _ e => e.elim)
  have F4 : Fr (fun j => k.F j ∨ j = c.pm) W w2 := hf2'.out.mono (fun _ _ e => Or.inl e)
  have F5 : Fr (fun j => k.F j ∨ j = c.pm) w2 w3 := hf3.mono (fun _ _ e => Or.inr e)
  have F6 : Fr (fun j => k.F j ∨ j = c.pm) w3 w4 := hf4.mono (fun _ _ e => Or.inr e)
  have F7 := (F3.trans F4 (fun _ _ e => e)).trans (F5.trans F6 (fun _ _ e => e)) (fun _ _ e => e)
  have hb4 : Bks w4 k st.resting (updN od x y) ps' fl := (hb2.out.fr hf3 (fun j hj e => hd.pF (e ▸ hj))).fr hf4 (fun j hj e => hd.pF (e ▸ hj))
  have hused : (st.swapQ old y).used = st.used := by unfold St.swapQ; split <;> rfl
  have hans : (st.swapQ old y).ans = st.ans := by unfold St.swapQ; split <;> rfl
  have htap : (st.swapQ old y).tape = st.tape := by unfold St.swapQ; split <;> rfl
  have htim : (st.swapQ old y).time = st.time := by unfold St.swapQ; split <;> rfl
  have hrfs : (st.swapQ old y).refs = st.refs := by unfold St.swapQ; split <;> rfl
  have hmts : (st.swapQ old y).mats = st.mats := by unfold St.swapQ; split <;> rfl
  rw [← HF.out.2.1] at hb4
  have hM4' : IsM w4 c.pm (st.swapQ old y).used.length (updM (updM M old.token (some 0)) y.token (some x)) := by rw [hused]; exact hM4
  have fin := HR.out.turn (w' := w4) (st' := st.swapQ old y) F7 hb4 hM4' HF.out.1 hans htap htim hrfs hmts
  have HFIN := Hid.mk fin
  have HT := Hid.mk (tapeReplaced_any b c st.tape old.ref (poOf 0 0 y) w4 fin.1.B fin.1.tm.1 fin.1.tm.2 (by rw [← htap]; exact fin.1.T) fin.1.dist.tb (by omega) hyok.out hor)
  have HTT := Hid.mk (And.intro htap htim)
  have h18d := hf4.cell h18c hbp
  have z3d := hf4.cell z3 hyF.2
  have o2c := hf4.cell (hf3.cell o2 hoF.2) hoF.2
  obtain ⟨s0, s1, s2, s3, s4, s5, s6, s7⟩ := ((Box.fr (w := w2) ⟨y0, y1, y2, y3, y4, y5, y6, y7⟩ hf3 hyF.2).fr hf4 hyF.2).all
  clear F3 F4 F5 F6 F7 hb4 hused hans htap htim hrfs hmts hM4' fin hM2 hM3 hM4 hM3s hbo2 hrun3 o2 q0 q1 q2 q3 q4 q5 q6 q7 h18 h19 hf3 hf4
  have m2 := And.intro h18c o3c
  have m3 := And.intro h18d z3d
  clear hf3d hf4d
  go_wp2_with fail
  go_region_held3 (fun w' => w'.cell? ⟨b, 18, none⟩ = some (.map (some c.pm)) ∧ w'.cell? ⟨go, 3, none⟩ = some (.int .u32 old.token)) (first | with_reducible exact m2 | go_keep) (fail)
  clear m2
  go_wp2_with fail
  go_region_held3 (fun w' => w'.cell? ⟨b, 18, none⟩ = some (.map (some c.pm)) ∧ w'.cell? ⟨gy, 3, none⟩ = some (.int .u32 y.token)) (first | with_reducible exact m3 | go_keep) (fail)
  clear m3
  go_wp2_with fail
  refine HT.out.mono ?_
  rintro e w5 ⟨rfl, ht5⟩
  obtain ⟨c5, hR5, hS5, -, -⟩ := HFIN.out.1.tellT (l := st.head 117 ++ enc old.ref 4 ++ enc y.ref 4 ++ enc y.shares 2 ++ enc y.price 2) ht5 (by
    have htm' : c.time = st.time := HR.out.time
    rw [HTT.out.1]
    show st.tape ++ 117 :: enc c.time 6 ++ enc old.ref 4 ++ enc y.ref 4 ++ enc y.shares 2 ++ enc y.price 2 = st.tape ++ (st.head 117 ++ enc old.ref 4 ++ enc y.ref 4 ++ enc y.shares 2 ++ enc y.price 2)
    unfold St.head
    rw [htm']
    simp)
  have HEND : Hid (Does w b c k w5 ((st.swapQ old y).put (st.head 117 ++ enc old.ref 4 ++ enc y.ref 4 ++ enc y.shares 2 ++ enc y.price 2))) := ⟨c5, hR5, HFIN.out.2.trans hS5⟩
  clear hR5 hS5 ht5
  go_wp2_with fail
  go_end0
  exact ⟨rfl, HEND.out⟩

end Go.Proofs.Ytphkchjejbffeaa
