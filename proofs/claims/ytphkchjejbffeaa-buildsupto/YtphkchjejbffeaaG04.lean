/- Joining a line. -/
import Derived.Test.YtphkchjejbffeaaG03
import Derived.Deep.MidRow
namespace Go.Proofs.Ytphkchjejbffeaa
open Go.RowKit
attribute [local go_sem ↓] Go.wp_at_zero Go.wp_at_succ

theorem setAhead_pool (po n i v : Nat) (bef aft : Nat → Nat) (od : Nat → Ord) (w : World) (h : IsP w po n bef aft od) (hi : i < n) :
    Calls Try.prog 149 #[.pointer (some ⟨po, i * 8, none⟩), .int .i64 v] w fun e w' => e = .returned (.tuple #[]) ∧ Hid (IsP w' po n (updN bef i v) aft od) ∧ Hid (Fr (fun k => k = po) w w') := by
  refine (setAhead_any po (i * 8) v _ w (h.cell i 0 hi (by omega)) (h.frozen _)).mono ?_
  rintro e w' ⟨rfl, rfl⟩
  exact ⟨rfl, h.setBef i v, Fr.setCell w ⟨po, i * 8, none⟩ _⟩
theorem setBehind_pool (po n i v : Nat) (bef aft : Nat → Nat) (od : Nat → Ord) (w : World) (h : IsP w po n bef aft od) (hi : i < n) :
    Calls Try.prog 108 #[.pointer (some ⟨po, i * 8, none⟩), .int .i64 v] w fun e w' => e = .returned (.tuple #[]) ∧ Hid (IsP w' po n bef (updN aft i v) od) ∧ Hid (Fr (fun k => k = po) w w') := by
  refine (setBehind_any po (i * 8) v _ w (h.cell i 1 hi (by omega)) (h.frozen _)).mono ?_
  rintro e w' ⟨rfl, rfl⟩
  exact ⟨rfl, h.setAft i v, Fr.setCell w ⟨po, i * 8 + 1, none⟩ _⟩

set_option maxRecDepth 100000 in
set_option maxHeartbeats 600000 in
theorem join_any (bk ln m q x f l : Nat) (k : KC) (bef aft fs ls : Nat → Nat) (od : Nat → Ord) (w : World) (hK : IsK w bk k) (hP : IsP w k.po k.n bef aft od) (hL : IsL w ln m fs ls) (hq : q < m) (hx : x < k.n) (hl : ls q < k.n) (hff : fs q = f) (hll : ls q = l) (_hn : k.n ≤ 1000)
    (n1 : bk ≠ k.po) (n2 : ln ≠ k.po) (_n3 : bk ≠ ln) :
    Calls Try.prog 142 #[.pointer (some ⟨bk, 0, none⟩), .pointer (some ⟨ln, q * 2, none⟩), .int .i64 x] w fun e w' => e = .returned (.tuple #[]) ∧
      IsP w' k.po k.n (updN bef x l) (updN (updN aft x 0) l x) od ∧ IsL w' ln m (updN fs q (if f = 0 then x else f)) (updN ls q x) ∧ Fr (fun j => j = k.po ∨ j = ln) w w' := by
  have gK : w.cell? ⟨bk, 0, none⟩ = some (.slice (some ⟨k.po, 0, none⟩) k.n k.n) := hK.cell 0
  have gf : w.cell? ⟨ln, q * 2, none⟩ = some (.int .i64 f) := by rw [← hff]; exact hL.cell q 0 hq (by omega)
  have gl : w.cell? ⟨ln, q * 2 + 1, none⟩ = some (.int .i64 l) := by rw [← hll]; exact hL.cell q 1 hq (by omega)
  rw [hll] at hl
  have HP := Hid.mk hP
  have HL := Hid.mk hL
  have HK := Hid.mk hK
  have HF := Hid.mk hff
  have i1 : (x : Int) < (k.n : Int) := by omega
  have i2 : (l : Int) < (k.n : Int) := by omega
  clear hP hL hK hff hll
  go_enter Try.func142, Try.ntmps142
  go_wp2_with fail
  go_region_held3 (fun w' => w'.cell? ⟨ln, q * 2 + 1, none⟩ = some (.int .i64 l)) (first | exact m1 | go_keep)
    ((go_at_call 149; refine (setAhead_pool k.po k.n x l bef aft od w.drew ⟨HP.out.blk⟩ hx).mono ?_; rintro e w1 ⟨rfl, hp1, hf1⟩; have m1 : w1.cell? ⟨ln, q * 2 + 1, none⟩ = some (.int .i64 l) := hf1.out.cell (w := w.drew) gl n2))
  have gK1 : w1.cell? ⟨bk, 0, none⟩ = some (.slice (some ⟨k.po, 0, none⟩) k.n k.n) := hf1.out.cell (w := w.drew) gK n1
  have gf1 : w1.cell? ⟨ln, q * 2, none⟩ = some (.int .i64 f) := hf1.out.cell (w := w.drew) gf n2
  clear gK gf gl
  go_wp2_with (go_at_call 108; refine (setBehind_pool k.po k.n x 0 _ _ od _ hp1.out hx).mono ?_; rintro e w2 ⟨rfl, hp2, hf2⟩; have gK2 : w2.cell? ⟨bk, 0, none⟩ = some (.slice (some ⟨k.po, 0, none⟩) k.n k.n) := hf2.out.cell gK1 n1; have gf2 : w2.cell? ⟨ln, q * 2, none⟩ = some (.int .i64 f) := hf2.out.cell gf1 n2; have gl2 : w2.cell? ⟨ln, q * 2 + 1, none⟩ = some (.int .i64 l) := hf2.out.cell m1 n2; clear gK1 gf1 m1)
  go_region_held3 (fun w' => w'.cell? ⟨ln, q * 2 + 1, none⟩ = some (.int .i64 l) ∧ w'.cell? ⟨bk, 0, none⟩ = some (.slice (some ⟨k.po, 0, none⟩) k.n k.n)) (first | exact ⟨m1, m2⟩ | go_keep)
    ((go_at_call 108; refine (setBehind_pool k.po k.n l x _ _ od w2.drew ⟨hp2.out.blk⟩ hl).mono ?_; rintro e w3 ⟨rfl, hp3, hf3⟩; have m1 : w3.cell? ⟨ln, q * 2 + 1, none⟩ = some (.int .i64 l) := hf3.out.cell (w := w2.drew) gl2 n2; have m2 : w3.cell? ⟨bk, 0, none⟩ = some (.slice (some ⟨k.po, 0, none⟩) k.n k.n) := hf3.out.cell (w := w2.drew) gK2 n1))
  have gf3 : w3.cell? ⟨ln, q * 2, none⟩ = some (.int .i64 f) := hf3.out.cell (w := w2.drew) gf2 n2
  have HF3 : Hid (Fr (fun j => j = k.po) w w3) := (Fr.drew _ w).trans ((hf1.out.trans (hf2.out.trans ((Fr.drew _ w2).trans hf3.out (fun _ _ h => h)) (fun _ _ h => h)) (fun _ _ h => h))) (fun _ _ h => h)
  have HL3 : Hid (IsL w3 ln m fs ls) := HL.out.keep (HF3.out.block ln HL.out.lt n2)
  have fz : ∀ i, w3.frozen? ⟨ln, i, none⟩ = false := HL3.out.frozen
  have fz0 := fz (q * 2)
  have fz1 := fz (q * 2 + 1)
  clear gf2 gl2 gK2 fz m2
  by_cases h0 : f = 0
  · subst h0
    have HL4 : Hid (IsL ((w3.setCell ⟨ln, q * 2, none⟩ (.int .i64 x)).setCell ⟨ln, q * 2 + 1, none⟩ (.int .i64 x)) ln m (updN fs q x) (updN ls q x)) := (HL3.out.setF q x).setL q x
    have HF4 : Hid (Fr (fun j => j = k.po ∨ j = ln) w ((w3.setCell ⟨ln, q * 2, none⟩ (.int .i64 x)).setCell ⟨ln, q * 2 + 1, none⟩ (.int .i64 x))) :=
      (HF3.out.mono (fun _ _ h => Or.inl h)).trans ((Fr.setCell w3 ⟨ln, q * 2, none⟩ _).trans (Fr.setCell _ ⟨ln, q * 2 + 1, none⟩ _) (fun _ _ h => h)) (fun _ _ h => Or.inr h)
    have HP4 : Hid (IsP ((w3.setCell ⟨ln, q * 2, none⟩ (.int .i64 x)).setCell ⟨ln, q * 2 + 1, none⟩ (.int .i64 x)) k.po k.n (updN bef x l) (updN (updN aft x 0) l x) od) :=
      (hp3.out.keep (Below.heap_setCell _ _ _ _ (Ne.symm n2))).keep (Below.heap_setCell _ _ _ _ (Ne.symm n2))
    go_wp2_with fail
    go_end0
    exact ⟨rfl, HP4.out, HL4.out, HF4.out⟩
  · have hb0 : ((f : Int) == 0) = false := by simp; omega
    have HL4 : Hid (IsL (w3.setCell ⟨ln, q * 2 + 1, none⟩ (.int .i64 x)) ln m (updN fs q f) (updN ls q x)) := by
      have e : updN fs q f = fs := by
        funext j
        unfold updN
        by_cases hj : j = q
        · rw [if_pos hj, hj, HF.out]
        · rw [if_neg hj]
      rw [e]
      exact HL3.out.setL q x
    have HF4 : Hid (Fr (fun j => j = k.po ∨ j = ln) w (w3.setCell ⟨ln, q * 2 + 1, none⟩ (.int .i64 x))) :=
      (HF3.out.mono (fun _ _ h => Or.inl h)).trans (Fr.setCell w3 ⟨ln, q * 2 + 1, none⟩ _) (fun _ _ h => Or.inr h)
    have HP4 : Hid (IsP (w3.setCell ⟨ln, q * 2 + 1, none⟩ (.int .i64 x)) k.po k.n (updN bef x l) (updN (updN aft x 0) l x) od) :=
      hp3.out.keep (Below.heap_setCell _ _ _ _ (Ne.symm n2))
    have H0 := Hid.mk h0
    go_wp2_with fail
    go_end0
    refine ⟨rfl, HP4.out, ?_, HF4.out⟩
    first
      | exact HL4.out
      | (rw [if_neg H0.out]; exact HL4.out)

end Go.Proofs.Ytphkchjejbffeaa

/- Leaving a line. -/
namespace Go.Proofs.Ytphkchjejbffeaa
open Go.RowKit
attribute [local go_sem ↓] Go.wp_at_zero Go.wp_at_succ

set_option maxRecDepth 100000 in
set_option maxHeartbeats 1000000 in
theorem leave_any (bk ln m q x f l a z : Nat) (k : KC) (bef aft fs ls : Nat → Nat) (od : Nat → Ord) (w : World) (hK : IsK w bk k) (hP : IsP w k.po k.n bef aft od) (hL : IsL w ln m fs ls) (hq : q < m) (hx : x < k.n) (hff : fs q = f) (hll : ls q = l) (_hn : k.n ≤ 1000)
    (ha : bef x = a) (hz : aft x = z) (ha1 : a < k.n) (hz1 : z < k.n) (hax : a ≠ x) (hzx : z ≠ x)
    (n1 : bk ≠ k.po) (n2 : ln ≠ k.po) (_n3 : bk ≠ ln) :
    Calls Try.prog 146 #[.pointer (some ⟨bk, 0, none⟩), .pointer (some ⟨ln, q * 2, none⟩), .int .i64 x] w fun e w' => e = .returned (.tuple #[]) ∧
      IsP w' k.po k.n (updN bef z a) (updN aft a z) od ∧ IsL w' ln m (updN fs q (if f = x then z else f)) (updN ls q (if l = x then a else l)) ∧ Fr (fun j => j = k.po ∨ j = ln) w w' := by
  have gK : w.cell? ⟨bk, 0, none⟩ = some (.slice (some ⟨k.po, 0, none⟩) k.n k.n) := hK.cell 0
  have gf : w.cell? ⟨ln, q * 2, none⟩ = some (.int .i64 f) := by rw [← hff]; exact hL.cell q 0 hq (by omega)
  have gl : w.cell? ⟨ln, q * 2 + 1, none⟩ = some (.int .i64 l) := by rw [← hll]; exact hL.cell q 1 hq (by omega)
  have ga : w.cell? ⟨k.po, x * 8, none⟩ = some (.int .i64 a) := by rw [← ha]; exact hP.cell x 0 hx (by omega)
  have gz : w.cell? ⟨k.po, x * 8 + 1, none⟩ = some (.int .i64 z) := by rw [← hz]; exact hP.cell x 1 hx (by omega)
  have HP := Hid.mk hP
  have HL := Hid.mk hL
  have HK := Hid.mk hK
  have HFF := Hid.mk (And.intro hff hll)
  have HAZ := Hid.mk (And.intro ha hz)
  have i1 : (x : Int) < (k.n : Int) := by omega
  have i2 : (a : Int) < (k.n : Int) := by omega
  have i3 : (z : Int) < (k.n : Int) := by omega
  clear hP hL hK hff hll ha hz
  go_enter Try.func146, Try.ntmps146
  go_wp2_with fail
  go_region_held3 (fun w' => w'.cell? ⟨bk, 0, none⟩ = some (.slice (some ⟨k.po, 0, none⟩) k.n k.n)) (first | exact m1 | go_keep)
    (first
      | (go_at_call 150; refine (ahead_any k.po (x * 8) a w.drew ga).mono ?_; rintro e w' ⟨rfl, hw⟩; subst hw)
      | (go_at_call 91; refine (behind_any k.po (x * 8) z w.drew gz).mono ?_; rintro e w' ⟨rfl, hw⟩; subst hw)
      | (go_at_call 108; refine (setBehind_pool k.po k.n a z bef aft od w.drew ⟨HP.out.blk⟩ ha1).mono ?_; rintro e w1 ⟨rfl, hp1, hf1⟩; have m1 : w1.cell? ⟨bk, 0, none⟩ = some (.slice (some ⟨k.po, 0, none⟩) k.n k.n) := hf1.out.cell (w := w.drew) gK n1))
  have ga1 : w1.cell? ⟨k.po, x * 8, none⟩ = some (.int .i64 a) := by rw [← HAZ.out.1]; exact hp1.out.cell x 0 hx (by omega)
  have gz1 : w1.cell? ⟨k.po, x * 8 + 1, none⟩ = some (.int .i64 z) := by
    have := hp1.out.cell x 1 hx (by omega)
    rw [this]
    show some (Value.int .i64 (updN aft a z x : Nat)) = _
    rw [updN_ne _ _ _ _ (Ne.symm hax), HAZ.out.2]
  have gf1 : w1.cell? ⟨ln, q * 2, none⟩ = some (.int .i64 f) := hf1.out.cell (w := w.drew) gf n2
  have gl1 : w1.cell? ⟨ln, q * 2 + 1, none⟩ = some (.int .i64 l) := hf1.out.cell (w := w.drew) gl n2
  clear ga gz gf gl gK
  go_wp2_with fail
  go_region_held3 (fun w' => w'.cell? ⟨bk, 0, none⟩ = some (.slice (some ⟨k.po, 0, none⟩) k.n k.n)) (first | exact m2 | go_keep)
    (first
      | (go_at_call 91; refine (behind_any k.po (x * 8) z w1.drew gz1).mono ?_; rintro e w' ⟨rfl, hw⟩; subst hw)
      | (go_at_call 150; refine (ahead_any k.po (x * 8) a w1.drew ga1).mono ?_; rintro e w' ⟨rfl, hw⟩; subst hw)
      | (go_at_call 149; refine (setAhead_pool k.po k.n z a _ _ od w1.drew ⟨hp1.out.blk⟩ hz1).mono ?_; rintro e w2 ⟨rfl, hp2, hf2⟩; have m2 : w2.cell? ⟨bk, 0, none⟩ = some (.slice (some ⟨k.po, 0, none⟩) k.n k.n) := hf2.out.cell (w := w1.drew) m1 n1))
  have ga2 : w2.cell? ⟨k.po, x * 8, none⟩ = some (.int .i64 a) := by
    have := hp2.out.cell x 0 hx (by omega)
    rw [Nat.add_zero] at this
    rw [this]
    show some (Value.int .i64 (updN bef z a x : Nat)) = _
    rw [updN_ne _ _ _ _ (Ne.symm hzx), HAZ.out.1]
  have gz2 : w2.cell? ⟨k.po, x * 8 + 1, none⟩ = some (.int .i64 z) := by
    have := hp2.out.cell x 1 hx (by omega)
    rw [this]
    show some (Value.int .i64 (updN aft a z x : Nat)) = _
    rw [updN_ne _ _ _ _ (Ne.symm hax), HAZ.out.2]
  have gf2 : w2.cell? ⟨ln, q * 2, none⟩ = some (.int .i64 f) := hf2.out.cell (w := w1.drew) gf1 n2
  have gl2 : w2.cell? ⟨ln, q * 2 + 1, none⟩ = some (.int .i64 l) := hf2.out.cell (w := w1.drew) gl1 n2
  clear ga1 gz1 gf1 gl1 m1
  have HF2 : Hid (Fr (fun j => j = k.po) w w2) := (Fr.drew _ w).trans (hf1.out.trans ((Fr.drew _ w1).trans hf2.out (fun _ _ h => h)) (fun _ _ h => h)) (fun _ _ h => h)
  have HL2 : Hid (IsL w2 ln m fs ls) := HL.out.keep (HF2.out.block ln HL.out.lt n2)
  have fz : ∀ i, w2.frozen? ⟨ln, i, none⟩ = false := HL2.out.frozen
  have fz0 := fz (q * 2)
  have fz1 := fz (q * 2 + 1)
  clear fz
  have ef : updN fs q f = fs := by
    funext j
    unfold updN
    by_cases hj : j = q
    · rw [if_pos hj, hj, HFF.out.1]
    · rw [if_neg hj]
  have el : updN ls q l = ls := by
    funext j
    unfold updN
    by_cases hj : j = q
    · rw [if_pos hj, hj, HFF.out.2]
    · rw [if_neg hj]
  replace ef := Hid.mk ef
  replace el := Hid.mk el
  by_cases h1 : f = x
  · have b1 : ((f : Int) == (x : Int)) = true := by simp [h1]
    have ga3 : (w2.setCell ⟨ln, q * 2, none⟩ (.int .i64 z)).cell? ⟨k.po, x * 8, none⟩ = some (.int .i64 a) := (Fr.setCell w2 ⟨ln, q * 2, none⟩ (.int .i64 z)).cell ga2 (Ne.symm n2)
    by_cases h2 : l = x
    · have b2 : ((l : Int) == (x : Int)) = true := by simp [h2]
      have HPf : Hid (IsP ((w2.setCell ⟨ln, q * 2, none⟩ (.int .i64 z)).setCell ⟨ln, q * 2 + 1, none⟩ (.int .i64 a)) k.po k.n (updN bef z a) (updN aft a z) od) := hp2.out.keep (((Fr.setCell w2 ⟨ln, q * 2, none⟩ (.int .i64 z)).trans (Fr.setCell _ ⟨ln, q * 2 + 1, none⟩ (.int .i64 a)) (fun _ _ h => h)).block k.po hp2.out.lt (Ne.symm n2))
      have HLf : Hid (IsL ((w2.setCell ⟨ln, q * 2, none⟩ (.int .i64 z)).setCell ⟨ln, q * 2 + 1, none⟩ (.int .i64 a)) ln m (updN fs q z) (updN ls q a)) := by
        show IsL _ _ _ _ _
        exact (HL2.out.setF q z).setL q a
      have HFf : Hid (Fr (fun j => j = k.po ∨ j = ln) w ((w2.setCell ⟨ln, q * 2, none⟩ (.int .i64 z)).setCell ⟨ln, q * 2 + 1, none⟩ (.int .i64 a))) := (HF2.out.mono (fun _ _ h => Or.inl h)).trans ((Fr.setCell w2 ⟨ln, q * 2, none⟩ (.int .i64 z)).trans (Fr.setCell _ ⟨ln, q * 2 + 1, none⟩ (.int .i64 a)) (fun _ _ h => h)) (fun _ _ h => Or.inr h)
      have H1 := Hid.mk h1
      have H2 := Hid.mk h2
      clear h1 h2
      go_wp2_with (first | (go_at_call 91; refine (behind_any k.po (x * 8) z w2 gz2).mono ?_; rintro e w' ⟨rfl, hw⟩; replace hw := hw.symm; subst hw) | (go_at_call 150; refine (ahead_any k.po (x * 8) a _ ga3).mono ?_; rintro e w' ⟨rfl, hw⟩; replace hw := hw.symm; subst hw))
      go_end0
      exact ⟨rfl, HPf.out, HLf.out, HFf.out⟩
    · have b2 : ((l : Int) == (x : Int)) = false := by simp; omega
      have HPf : Hid (IsP (w2.setCell ⟨ln, q * 2, none⟩ (.int .i64 z)) k.po k.n (updN bef z a) (updN aft a z) od) := hp2.out.keep ((Fr.setCell w2 ⟨ln, q * 2, none⟩ (.int .i64 z)).block k.po hp2.out.lt (Ne.symm n2))
      have HLf : Hid (IsL (w2.setCell ⟨ln, q * 2, none⟩ (.int .i64 z)) ln m (updN fs q z) (updN ls q l)) := by
        show IsL _ _ _ _ _
        rw [el.out]; exact HL2.out.setF q z
      have HFf : Hid (Fr (fun j => j = k.po ∨ j = ln) w (w2.setCell ⟨ln, q * 2, none⟩ (.int .i64 z))) := (HF2.out.mono (fun _ _ h => Or.inl h)).trans (Fr.setCell w2 ⟨ln, q * 2, none⟩ (.int .i64 z)) (fun _ _ h => Or.inr h)
      have H1 := Hid.mk h1
      have H2 := Hid.mk h2
      clear h1 h2
      go_wp2_with ((go_at_call 91; refine (behind_any k.po (x * 8) z w2 gz2).mono ?_; rintro e w' ⟨rfl, hw⟩; replace hw := hw.symm; subst hw))
      go_end0
      exact ⟨rfl, HPf.out, HLf.out, HFf.out⟩
  · have b1 : ((f : Int) == (x : Int)) = false := by simp; omega
    by_cases h2 : l = x
    · have b2 : ((l : Int) == (x : Int)) = true := by simp [h2]
      have HPf : Hid (IsP (w2.setCell ⟨ln, q * 2 + 1, none⟩ (.int .i64 a)) k.po k.n (updN bef z a) (updN aft a z) od) := hp2.out.keep ((Fr.setCell w2 ⟨ln, q * 2 + 1, none⟩ (.int .i64 a)).block k.po hp2.out.lt (Ne.symm n2))
      have HLf : Hid (IsL (w2.setCell ⟨ln, q * 2 + 1, none⟩ (.int .i64 a)) ln m (updN fs q f) (updN ls q a)) := by
        show IsL _ _ _ _ _
        rw [ef.out]; exact HL2.out.setL q a
      have HFf : Hid (Fr (fun j => j = k.po ∨ j = ln) w (w2.setCell ⟨ln, q * 2 + 1, none⟩ (.int .i64 a))) := (HF2.out.mono (fun _ _ h => Or.inl h)).trans (Fr.setCell w2 ⟨ln, q * 2 + 1, none⟩ (.int .i64 a)) (fun _ _ h => Or.inr h)
      have H1 := Hid.mk h1
      have H2 := Hid.mk h2
      clear h1 h2
      go_wp2_with ((go_at_call 150; refine (ahead_any k.po (x * 8) a _ ga2).mono ?_; rintro e w' ⟨rfl, hw⟩; replace hw := hw.symm; subst hw))
      go_end0
      exact ⟨rfl, HPf.out, HLf.out, HFf.out⟩
    · have b2 : ((l : Int) == (x : Int)) = false := by simp; omega
      have HPf : Hid (IsP w2 k.po k.n (updN bef z a) (updN aft a z) od) := hp2.out.keep ((Fr.refl (fun k => k = ln) w2).block k.po hp2.out.lt (Ne.symm n2))
      have HLf : Hid (IsL w2 ln m (updN fs q f) (updN ls q l)) := by
        show IsL _ _ _ _ _
        rw [ef.out, el.out]; exact HL2.out
      have HFf : Hid (Fr (fun j => j = k.po ∨ j = ln) w w2) := (HF2.out.mono (fun _ _ h => Or.inl h)).trans (Fr.refl (fun k => k = ln) w2) (fun _ _ h => Or.inr h)
      have H1 := Hid.mk h1
      have H2 := Hid.mk h2
      clear h1 h2
      go_wp2_with fail
      go_end0
      exact ⟨rfl, HPf.out, HLf.out, HFf.out⟩

end Go.Proofs.Ytphkchjejbffeaa

/- A whole order, out of its row and into it. -/
namespace Go.Proofs.Ytphkchjejbffeaa
open Go.RowKit

def ordL (a z : Nat) (o : Ord) : List Value := [.int .i64 a, .int .i64 z, .int .u32 o.ref, .int .u32 o.token, .int .u8 o.side.toNat, .int .u8 o.stock, .int .u16 o.price, .int .u16 o.shares]
def ordV (a z : Nat) (o : Ord) : Value := .agg (ordL a z o).toArray

theorem Try.sizeOrd : (Try.prog.info? 129).map (·.size) = some 8 := by kernel_rfl

theorem IsP.range {w : World} {po n : Nat} {bef aft : Nat → Nat} {od : Nat → Ord} (h : IsP w po n bef aft od) (i : Nat) (hi : i < n) : w.rangeAt po (i * 8) (ordL (bef i) (aft i) (od i)) := by
  intro j v hv
  match j with
  | 0 => simp [ordL] at hv; subst hv; exact h.cell i 0 hi (by omega)
  | 1 => simp [ordL] at hv; subst hv; exact h.cell i 1 hi (by omega)
  | 2 => simp [ordL] at hv; subst hv; exact h.cell i 2 hi (by omega)
  | 3 => simp [ordL] at hv; subst hv; exact h.cell i 3 hi (by omega)
  | 4 => simp [ordL] at hv; subst hv; exact h.cell i 4 hi (by omega)
  | 5 => simp [ordL] at hv; subst hv; exact h.cell i 5 hi (by omega)
  | 6 => simp [ordL] at hv; subst hv; exact h.cell i 6 hi (by omega)
  | 7 => simp [ordL] at hv; subst hv; exact h.cell i 7 hi (by omega)
  | j + 8 => simp [ordL] at hv

theorem IsP.there {w : World} {po n : Nat} {bef aft : Nat → Nat} {od : Nat → Ord} (h : IsP w po n bef aft od) (i : Nat) (hi : i < n) : w.there po (i * 8) 8 := by
  intro j hj
  exact ⟨by rw [h.cell i j hi hj]; rfl, h.frozen _⟩

theorem rowOf_sets (po t n m i : Nat) (vs : List Value) : ∀ (j : Nat) (f : Nat → Nat → Value) (w : World), j + vs.length ≤ m → w.heap[po]? = some (.cells (rowOf n m f) t) →
    (w.setCells po (i * m + j) vs).heap[po]? = some (.cells (rowOf n m (fun a b => if a = i ∧ j ≤ b then (vs[b - j]?).getD (f a b) else f a b)) t) := by
  induction vs with
  | nil =>
    intro j f w _ hw
    rw [World.setCells, hw]
    congr 3
    funext a b
    simp
  | cons v vs ih =>
    intro j f w hj hw
    rw [List.length_cons] at hj
    rw [World.setCells, Nat.add_assoc, ih (j + 1) _ _ (by omega) (by rw [heap_setCell_same w po (i * m + j) _ _ _ hw, rowOf_set n m f i j (by omega) v])]
    congr 3
    funext a b
    by_cases e : a = i
    · subst e
      by_cases e2 : b = j
      · subst e2
        have : ¬ b + 1 ≤ b := by omega
        simp [this]
      · by_cases e3 : j + 1 ≤ b
        · have : b - j = (b - (j + 1)) + 1 := by omega
          simp [e2, e3, this, show j ≤ b by omega]
        · have : ¬ j ≤ b := by omega
          simp [e2, e3, this]
    · simp [e]

theorem ordL_get (a z : Nat) (o : Ord) (bef aft : Nat → Nat) (od : Nat → Ord) (i b : Nat) (hb : b < 8) (v : Value) : ((ordL a z o)[b]?).getD v = oCell (updN bef i a) (updN aft i z) (updN od i o) i b := by
  match b, hb with
  | 0, _ => show Value.int .i64 a = .int .i64 (updN bef i a i : Nat); rw [updN_same]
  | 1, _ => show Value.int .i64 z = .int .i64 (updN aft i z i : Nat); rw [updN_same]
  | 2, _ => show Value.int .u32 o.ref = .int .u32 (updN od i o i).ref; rw [updN_same]
  | 3, _ => show Value.int .u32 o.token = .int .u32 (updN od i o i).token; rw [updN_same]
  | 4, _ => show Value.int .u8 o.side.toNat = .int .u8 (updN od i o i).side.toNat; rw [updN_same]
  | 5, _ => show Value.int .u8 o.stock = .int .u8 (updN od i o i).stock; rw [updN_same]
  | 6, _ => show Value.int .u16 o.price = .int .u16 (updN od i o i).price; rw [updN_same]
  | 7, _ => show Value.int .u16 o.shares = .int .u16 (updN od i o i).shares; rw [updN_same]

theorem oCell_ne (a z : Nat) (o : Ord) (bef aft : Nat → Nat) (od : Nat → Ord) (i j b : Nat) (h : j ≠ i) : oCell (updN bef i a) (updN aft i z) (updN od i o) j b = oCell bef aft od j b := by
  unfold oCell
  rw [updN_ne _ _ _ _ h, updN_ne _ _ _ _ h, updN_ne _ _ _ _ h]

theorem IsP.setOrd {w : World} {po n : Nat} {bef aft : Nat → Nat} {od : Nat → Ord} (h : IsP w po n bef aft od) (i a z : Nat) (o : Ord) : IsP (w.setCells po (i * 8) (ordL a z o)) po n (updN bef i a) (updN aft i z) (updN od i o) := by
  have e : rowOf n 8 (fun x y => if x = i ∧ 0 ≤ y then ((ordL a z o)[y - 0]?).getD (oCell bef aft od x y) else oCell bef aft od x y) = rowOf n 8 (oCell (updN bef i a) (updN aft i z) (updN od i o)) := by
    unfold rowOf
    congr 1
    funext x
    simp only [Nat.zero_le, and_true, Nat.sub_zero]
    by_cases e : x.val / 8 = i
    · rw [if_pos e, ordL_get a z o bef aft od i _ (by omega), e]
    · rw [if_neg e, oCell_ne _ _ _ _ _ _ _ _ _ e]
  have h1 := rowOf_sets po 129 n 8 i (ordL a z o) 0 (oCell bef aft od) w (Nat.le_refl 8) h.blk
  rw [e] at h1
  exact ⟨h1⟩

theorem fr_setCells (g : Nat) (vs : List Value) : ∀ (o : Nat) (w : World), Fr (fun k => k = g) w (w.setCells g o vs) := by
  induction vs with
  | nil => intro o w; exact Fr.refl _ _
  | cons v vs ih =>
    intro o w
    rw [World.setCells]
    exact (Fr.setCell w ⟨g, o, none⟩ v).trans (ih (o + 1) _) (fun _ _ h => h)

theorem set8 (w : World) (po i a z : Nat) (o : Ord) : w.setCells po (i * 8) (ordL a z o) = ((((((((w.setCell ⟨po, i * 8, none⟩ (.int .i64 a)).setCell ⟨po, i * 8 + 1, none⟩ (.int .i64 z)).setCell ⟨po, i * 8 + 2, none⟩ (.int .u32 o.ref)).setCell ⟨po, i * 8 + 3, none⟩ (.int .u32 o.token)).setCell ⟨po, i * 8 + 4, none⟩ (.int .u8 o.side.toNat)).setCell ⟨po, i * 8 + 5, none⟩ (.int .u8 o.stock)).setCell ⟨po, i * 8 + 6, none⟩ (.int .u16 o.price)).setCell ⟨po, i * 8 + 7, none⟩ (.int .u16 o.shares)) := rfl

theorem wp_store_ord {w : World} {o : Oper} {a : Go.Act} {K : Go.Act → World → Prop} {Q : Exit → Go.Act → World → Prop} (x y : Operand) (ho : o.op = .store 129 x y)
    (po n i b f : Nat) (bef aft : Nat → Nat) (od : Nat → Ord) (r : Ord) (hP : IsP w po n bef aft od) (hi : i < n) (hx : a.eval x = .pointer (some ⟨po, i * 8, none⟩)) (hy : a.eval y = ordV b f r)
    (h : ∀ w', Hid (IsP w' po n (updN bef i b) (updN aft i f) (updN od i r)) → Hid (Fr (fun k => k = po) w w') → K (a.put o.dst undef) w') : o.wp Try.prog a w K Q :=
  wp_store_mid 129 x y ho po (i * 8) (ordL b f r).toArray hx hy (by simpa [ordL] using hP.there i hi) (by rw [Try.sizeOrd]; rfl) (all_oneCell_toArray (by intro v hv; simp [ordL] at hv; rcases hv with rfl | rfl | rfl | rfl | rfl | rfl | rfl | rfl <;> rfl))
    (h _ (hP.setOrd i b f r) (fr_setCells po _ _ w))

theorem wpList_store_ord {w : World} {ops : Array Oper} {rest : List Oper} {o : Oper} {a : Go.Act} {Q : Exit → Go.Act → World → Prop} (hgd : o.guard = none) (x y : Operand) (ho : o.op = .store 129 x y)
    (po n i b f : Nat) (bef aft : Nat → Nat) (od : Nat → Ord) (r : Ord) (hP : IsP w po n bef aft od) (hi : i < n) (hx : a.eval x = .pointer (some ⟨po, i * 8, none⟩)) (hy : a.eval y = ordV b f r)
    (h : ∀ w', Hid (IsP w' po n (updN bef i b) (updN aft i f) (updN od i r)) → Hid (Fr (fun k => k = po) w w') → wpList Try.prog ops Q rest (a.put o.dst undef) w') : wpList Try.prog ops Q (o :: rest) a w :=
  wpList_plain hgd fun _ hK => wp_store_ord x y ho po n i b f bef aft od r hP hi hx hy fun w' h1 h2 => hK _ _ (h w' h1 h2)

theorem step_store_ord {w : World} {ops : Array Oper} {o : Oper} {a : Go.Act} {K : Go.Act → World → Prop} {Q : Exit → Go.Act → World → Prop} {E : Prop} (hgd : o.guard = none) (x y : Operand) (ho : o.op = .store 129 x y)
    (po n i b f : Nat) (bef aft : Nat → Nat) (od : Nat → Ord) (r : Ord) (hP : IsP w po n bef aft od) (hi : i < n) (hx : a.eval x = .pointer (some ⟨po, i * 8, none⟩)) (hy : a.eval y = ordV b f r)
    (h : ∀ w', Hid (IsP w' po n (updN bef i b) (updN aft i f) (updN od i r)) → Hid (Fr (fun k => k = po) w w') → K (a.put o.dst undef) w') :
    if Region.wanted o (yielded ops a.tmps) = true then Oper.wp Try.prog o a w K Q else E := by
  have hw : Region.wanted o (yielded ops a.tmps) = true := by simp [Region.wanted, hgd]
  rw [if_pos hw]
  exact wp_store_ord x y ho po n i b f bef aft od r hP hi hx hy h

end Go.Proofs.Ytphkchjejbffeaa

/- Books by links: plain facts of lines, free places, joining and leaving. -/
namespace Go.Proofs.Ytphkchjejbffeaa

def jx (s : Nat) (d : UInt8) : Nat := s * 2 + (if d = 66 then 0 else 1)
theorem jx_inj {s s' : Nat} {d d' : UInt8} (h : d = 66 ∨ d = 83) (h' : d' = 66 ∨ d' = 83) (e : jx s d = jx s' d') : s = s' ∧ d = d' := by
  unfold jx at e
  rcases h with rfl | rfl <;> rcases h' with rfl | rfl <;> simp at e ⊢ <;> omega
theorem jx_lt {s n : Nat} (d : UInt8) (h : s < n) : jx s d < n * 2 := by
  unfold jx
  split <;> omega

/-- Free places hang together by one link. -/
def FreeC (aft : Nat → Nat) : Nat → List Nat → Prop
  | f, [] => f = 0
  | f, x :: l => f = x ∧ x ≠ 0 ∧ FreeC aft (aft x) l
theorem FreeC.congr {aft aft' : Nat → Nat} {l : List Nat} : ∀ {f : Nat}, FreeC aft f l → (∀ x ∈ l, aft' x = aft x) → FreeC aft' f l := by
  induction l with
  | nil => intro f h _; exact h
  | cons x l ih =>
    intro f h h2
    exact ⟨h.1, h.2.1, by rw [h2 x (by simp)]; exact ih h.2.2 (fun y hy => h2 y (by simp [hy]))⟩
theorem FreeC.ne {aft : Nat → Nat} {l : List Nat} : ∀ {f : Nat}, FreeC aft f l → ∀ x ∈ l, x ≠ 0 := by
  induction l with
  | nil => intro f _ x hx; cases hx
  | cons y l ih =>
    intro f h x hx
    rcases List.mem_cons.1 hx with rfl | hx
    · exact h.2.1
    · exact ih h.2.2 x hx

def upd2 (f : Nat → Nat → Nat) (j i v : Nat) : Nat → Nat → Nat := updN f j (updN (f j) i v)
theorem upd2_same (f : Nat → Nat → Nat) (j i v : Nat) : upd2 f j i v j i = v := by
  unfold upd2; rw [updN_same, updN_same]
theorem upd2_ne (f : Nat → Nat → Nat) (j i v j' i' : Nat) (h : ¬ (j' = j ∧ i' = i)) : upd2 f j i v j' i' = f j' i' := by
  unfold upd2
  by_cases e : j' = j
  · subst e
    rw [updN_same, updN_ne]
    exact fun e2 => h ⟨rfl, e2⟩
  · rw [updN_ne _ _ _ _ e]

def updQ (ps : Nat → UInt8 → Nat → List Nat) (s : Nat) (d : UInt8) (p : Nat) (l : List Nat) : Nat → UInt8 → Nat → List Nat := fun s' d' p' => if s' = s ∧ d' = d ∧ p' = p then l else ps s' d' p'
theorem updQ_same (ps : Nat → UInt8 → Nat → List Nat) (s : Nat) (d : UInt8) (p : Nat) (l : List Nat) : updQ ps s d p l s d p = l := if_pos ⟨rfl, rfl, rfl⟩
theorem updQ_ne (ps : Nat → UInt8 → Nat → List Nat) (s : Nat) (d : UInt8) (p : Nat) (l : List Nat) {s' : Nat} {d' : UInt8} {p' : Nat} (h : ¬ (s' = s ∧ d' = d ∧ p' = p)) : updQ ps s d p l s' d' p' = ps s' d' p' := if_neg h

def VV (S L : Nat) (s : Nat) (d : UInt8) (p : Nat) : Prop := s < S ∧ (d = 66 ∨ d = 83) ∧ 1 ≤ p ∧ p ≤ L

theorem VV.far {S L s s' p p' : Nat} {d d' : UInt8} (h : VV S L s d p) (h' : VV S L s' d' p') (hn : ¬ (s' = s ∧ d' = d ∧ p' = p)) : ¬ (jx s' d' = jx s d ∧ p' - 1 = p - 1) := by
  rintro ⟨e1, e2⟩
  obtain ⟨rfl, rfl⟩ := jx_inj h'.2.1 h.2.1 e1
  have := h.2.2.1
  have := h'.2.2.1
  exact hn ⟨rfl, rfl, by omega⟩

/-- The lines and the free places, by their links. -/
structure Lk (S L n free : Nat) (fs ls : Nat → Nat → Nat) (bef aft : Nat → Nat) (ps : Nat → UInt8 → Nat → List Nat) (fl : List Nat) : Prop where
  line : ∀ s d p, VV S L s d p → LineOf bef aft (fs (jx s d) (p - 1)) (ls (jx s d) (p - 1)) (ps s d p)
  lt : ∀ s d p, VV S L s d p → ∀ x ∈ ps s d p, x < n
  dis : ∀ s d p s' d' p', VV S L s d p → VV S L s' d' p' → ∀ x, x ∈ ps s d p → x ∈ ps s' d' p' → s' = s ∧ d' = d ∧ p' = p
  free : FreeC aft free fl
  flt : ∀ x ∈ fl, x < n
  fnd : fl.Nodup
  fdis : ∀ s d p, VV S L s d p → ∀ x ∈ ps s d p, x ∉ fl

def Fresh (S L : Nat) (ps : Nat → UInt8 → Nat → List Nat) (fl : List Nat) (x : Nat) : Prop := (∀ s d p, VV S L s d p → x ∉ ps s d p) ∧ x ∉ fl

section
variable {S L n free : Nat} {fs ls : Nat → Nat → Nat} {bef aft : Nat → Nat} {ps : Nat → UInt8 → Nat → List Nat} {fl : List Nat}

theorem Lk.ne0 (h : Lk S L n free fs ls bef aft ps fl) {s : Nat} {d : UInt8} {p : Nat} (hv : VV S L s d p) {x : Nat} (hx : x ∈ ps s d p) : x ≠ 0 := (h.line s d p hv).chain.ne x hx

theorem Lk.setx (h : Lk S L n free fs ls bef aft ps fl) {x : Nat} (hf : Fresh S L ps fl x) (a b : Nat) : Lk S L n free fs ls (updN bef x a) (updN aft x b) ps fl := by
  refine ⟨?_, h.lt, h.dis, ?_, h.flt, h.fnd, h.fdis⟩
  · intro s d p hv
    refine (h.line s d p hv).congr (fun y hy => updN_ne _ _ _ _ ?_) (fun y hy => updN_ne _ _ _ _ ?_)
    · intro e; subst e; exact hf.1 s d p hv hy
    · intro e; subst e; exact hf.1 s d p hv hy
  · refine h.free.congr (fun y hy => updN_ne _ _ _ _ ?_)
    intro e; subst e; exact hf.2 hy

theorem Lk.take {x : Nat} (h : Lk S L n free fs ls bef aft ps (x :: fl)) : Lk S L n (aft x) fs ls bef aft ps fl ∧ Fresh S L ps fl x ∧ free = x ∧ x ≠ 0 ∧ x < n := by
  obtain ⟨h1, h2, h3⟩ := h.free
  have hn := List.nodup_cons.1 h.fnd
  refine ⟨⟨h.line, h.lt, h.dis, h3, fun y hy => h.flt y (by simp [hy]), hn.2, fun s d p hv y hy hm => h.fdis s d p hv y hy (by simp [hm])⟩, ⟨?_, hn.1⟩, h1, h2, h.flt x (by simp)⟩
  intro s d p hv hx
  exact h.fdis s d p hv x hx (by simp)

theorem Lk.give (h : Lk S L n free fs ls bef aft ps fl) {x : Nat} (hf : Fresh S L ps fl x) (hx : x ≠ 0) (hn : x < n) (ha : aft x = free) : Lk S L n x fs ls bef aft ps (x :: fl) := by
  refine ⟨h.line, h.lt, h.dis, ⟨rfl, hx, by rw [ha]; exact h.free⟩, ?_, List.nodup_cons.2 ⟨hf.2, h.fnd⟩, ?_⟩
  · intro y hy
    rcases List.mem_cons.1 hy with rfl | hy
    · exact hn
    · exact h.flt y hy
  · intro s d p hv y hy hm
    rcases List.mem_cons.1 hm with rfl | hm
    · exact hf.1 s d p hv hy
    · exact h.fdis s d p hv y hy hm

theorem Lk.join (h : Lk S L n free fs ls bef aft ps fl) {s : Nat} {d : UInt8} {p : Nat} (hv : VV S L s d p) {x : Nat} (hx : x ≠ 0) (hxn : x < n) (hf : Fresh S L ps fl x) :
    Lk S L n free (upd2 fs (jx s d) (p - 1) (if fs (jx s d) (p - 1) = 0 then x else fs (jx s d) (p - 1))) (upd2 ls (jx s d) (p - 1) x) (updN bef x (ls (jx s d) (p - 1))) (updN (updN aft x 0) (ls (jx s d) (p - 1)) x) (updQ ps s d p (ps s d p ++ [x])) fl := by
  have hl := h.line s d p hv
  have hlast : ls (jx s d) (p - 1) = 0 ∨ ls (jx s d) (p - 1) ∈ ps s d p := by rw [hl.last]; exact getLastD_mem _ _
  have mem_upd : ∀ s' d' p', VV S L s' d' p' → ∀ y, y ∈ updQ ps s d p (ps s d p ++ [x]) s' d' p' → y ∈ ps s' d' p' ∨ (y = x ∧ s' = s ∧ d' = d ∧ p' = p) := by
    intro s' d' p' hv' y hy
    by_cases e : s' = s ∧ d' = d ∧ p' = p
    · obtain ⟨rfl, rfl, rfl⟩ := e
      rw [updQ_same] at hy
      rcases List.mem_append.1 hy with hy | hy
      · exact Or.inl hy
      · exact Or.inr ⟨by simpa using hy, rfl, rfl, rfl⟩
    · rw [updQ_ne _ _ _ _ _ e] at hy
      exact Or.inl hy
  refine ⟨?_, ?_, ?_, ?_, h.flt, h.fnd, ?_⟩
  · intro s' d' p' hv'
    by_cases e : s' = s ∧ d' = d ∧ p' = p
    · obtain ⟨rfl, rfl, rfl⟩ := e
      rw [updQ_same, upd2_same, upd2_same]
      exact hl.join hx (hf.1 _ _ _ hv')
    · rw [updQ_ne _ _ _ _ _ e, upd2_ne _ _ _ _ _ _ (hv.far hv' e), upd2_ne _ _ _ _ _ _ (hv.far hv' e)]
      have hyx : ∀ y ∈ ps s' d' p', y ≠ x := fun y hy e2 => hf.1 _ _ _ hv' (e2 ▸ hy)
      have hyl : ∀ y ∈ ps s' d' p', y ≠ ls (jx s d) (p - 1) := by
        intro y hy e2
        rcases hlast with h0 | h0
        · exact h.ne0 hv' hy (e2.trans h0)
        · exact e (h.dis _ _ _ _ _ _ hv hv' y (e2 ▸ h0) hy)
      exact (h.line s' d' p' hv').congr (fun y hy => updN_ne _ _ _ _ (hyx y hy)) (fun y hy => by rw [updN_ne _ _ _ _ (hyl y hy), updN_ne _ _ _ _ (hyx y hy)])
  · intro s' d' p' hv' y hy
    rcases mem_upd s' d' p' hv' y hy with hy | ⟨rfl, -⟩
    · exact h.lt _ _ _ hv' y hy
    · exact hxn
  · intro s1 d1 p1 s2 d2 p2 hv1 hv2 y hy1 hy2
    rcases mem_upd _ _ _ hv1 y hy1 with k1 | ⟨e0, e1, e2, e3⟩
    · rcases mem_upd _ _ _ hv2 y hy2 with k2 | ⟨e0, e1, e2, e3⟩
      · exact h.dis _ _ _ _ _ _ hv1 hv2 y k1 k2
      · exact absurd k1 (e0 ▸ hf.1 _ _ _ hv1)
    · rcases mem_upd _ _ _ hv2 y hy2 with k2 | ⟨-, h1, h2, h3⟩
      · exact absurd k2 (e0 ▸ hf.1 _ _ _ hv2)
      · exact ⟨h1.trans e1.symm, h2.trans e2.symm, h3.trans e3.symm⟩
  · refine h.free.congr (fun y hy => ?_)
    have h1 : y ≠ x := fun e => hf.2 (e ▸ hy)
    have h2 : y ≠ ls (jx s d) (p - 1) := by
      intro e
      rcases hlast with h0 | h0
      · exact h.free.ne y hy (e.trans h0)
      · exact h.fdis _ _ _ hv y (e ▸ h0) hy
    rw [updN_ne _ _ _ _ h2, updN_ne _ _ _ _ h1]
  · intro s' d' p' hv' y hy
    rcases mem_upd s' d' p' hv' y hy with hy | ⟨rfl, -⟩
    · exact h.fdis _ _ _ hv' y hy
    · exact hf.2

theorem Lk.leave (h : Lk S L n free fs ls bef aft ps fl) {s : Nat} {d : UInt8} {p : Nat} (hv : VV S L s d p) {x : Nat} {a b : List Nat} (hab : ps s d p = a ++ x :: b) :
    Lk S L n free (upd2 fs (jx s d) (p - 1) (if fs (jx s d) (p - 1) = x then aft x else fs (jx s d) (p - 1))) (upd2 ls (jx s d) (p - 1) (if ls (jx s d) (p - 1) = x then bef x else ls (jx s d) (p - 1))) (updN bef (aft x) (bef x)) (updN aft (bef x) (aft x)) (updQ ps s d p (a ++ b)) fl ∧
      Fresh S L (updQ ps s d p (a ++ b)) fl x ∧ (bef x = 0 ∨ bef x ∈ a) ∧ (aft x = 0 ∨ aft x ∈ b) ∧ bef x ≠ x ∧ aft x ≠ x := by
  have hl := h.line s d p hv
  have hl' := hl
  rw [hab] at hl'
  obtain ⟨m1, m2, m3⟩ := hl'.chain.mid
  have hnd := hl'.nodup
  rw [List.nodup_append] at hnd
  have hxa : x ∉ a := fun e => hnd.2.2 x e x (by simp) rfl
  have hxb : x ∉ b := (List.nodup_cons.1 hnd.2.1).1
  have hb : bef x = 0 ∨ bef x ∈ a := by rw [m1]; exact getLastD_mem _ _
  have ha : aft x = 0 ∨ aft x ∈ b := by
    rw [m2]
    rcases b with _ | ⟨y, b⟩
    · exact Or.inl rfl
    · exact Or.inr (by simp)
  have mem_old : ∀ y, y ∈ a ∨ y ∈ b → y ∈ ps s d p := by
    intro y hy
    rw [hab]
    rcases hy with hy | hy <;> simp [hy]
  have mem_upd : ∀ s' d' p', VV S L s' d' p' → ∀ y, y ∈ updQ ps s d p (a ++ b) s' d' p' → y ∈ ps s' d' p' := by
    intro s' d' p' hv' y hy
    by_cases e : s' = s ∧ d' = d ∧ p' = p
    · obtain ⟨rfl, rfl, rfl⟩ := e
      rw [updQ_same] at hy
      exact mem_old y (List.mem_append.1 hy)
    · rw [updQ_ne _ _ _ _ _ e] at hy
      exact hy
  have hfr : Fresh S L (updQ ps s d p (a ++ b)) fl x := by
    have hx : x ∈ ps s d p := by rw [hab]; simp
    refine ⟨?_, h.fdis _ _ _ hv x hx⟩
    intro s' d' p' hv' hm
    by_cases e : s' = s ∧ d' = d ∧ p' = p
    · obtain ⟨rfl, rfl, rfl⟩ := e
      rw [updQ_same] at hm
      rcases List.mem_append.1 hm with hm | hm
      · exact hxa hm
      · exact hxb hm
    · rw [updQ_ne _ _ _ _ _ e] at hm
      exact e (h.dis _ _ _ _ _ _ hv hv' x hx hm)
  refine ⟨⟨?_, fun s' d' p' hv' y hy => h.lt _ _ _ hv' y (mem_upd _ _ _ hv' y hy), fun s1 d1 p1 s2 d2 p2 hv1 hv2 y h1 h2 => h.dis _ _ _ _ _ _ hv1 hv2 y (mem_upd _ _ _ hv1 y h1) (mem_upd _ _ _ hv2 y h2), ?_, h.flt, h.fnd, fun s' d' p' hv' y hy => h.fdis _ _ _ hv' y (mem_upd _ _ _ hv' y hy)⟩, hfr, hb, ha, ?_, ?_⟩
  · intro s' d' p' hv'
    by_cases e : s' = s ∧ d' = d ∧ p' = p
    · obtain ⟨rfl, rfl, rfl⟩ := e
      rw [updQ_same, upd2_same, upd2_same]
      exact hl'.leave
    · rw [updQ_ne _ _ _ _ _ e, upd2_ne _ _ _ _ _ _ (hv.far hv' e), upd2_ne _ _ _ _ _ _ (hv.far hv' e)]
      have far : ∀ z, z = 0 ∨ z ∈ ps s d p → ∀ y ∈ ps s' d' p', y ≠ z := by
        intro z hz y hy e2
        rcases hz with h0 | h0
        · exact h.ne0 hv' hy (e2.trans h0)
        · exact e (h.dis _ _ _ _ _ _ hv hv' y (e2 ▸ h0) hy)
      exact (h.line s' d' p' hv').congr (fun y hy => updN_ne _ _ _ _ (far _ (ha.imp id (fun q => mem_old _ (Or.inr q))) y hy)) (fun y hy => updN_ne _ _ _ _ (far _ (hb.imp id (fun q => mem_old _ (Or.inl q))) y hy))
  · refine h.free.congr (fun y hy => updN_ne _ _ _ _ ?_)
    intro e
    rcases hb with h0 | h0
    · exact h.free.ne y hy (e.trans h0)
    · exact h.fdis _ _ _ hv y (mem_old y (Or.inl (e ▸ h0))) hy
  · intro e
    rcases hb with h0 | h0
    · exact m3 (e.symm.trans h0)
    · exact hxa (e ▸ h0)
  · intro e
    rcases ha with h0 | h0
    · exact m3 (e.symm.trans h0)
    · exact hxb (e ▸ h0)
end

end Go.Proofs.Ytphkchjejbffeaa

/- The books as one whole: where they lie, and what they hold. -/
namespace Go.Proofs.Ytphkchjejbffeaa
open Go.RowKit

/-- Where books lie. -/
structure SK where
  bk : Nat
  po : Nat
  pl : Nat
  n : Nat
  S : Nat
  L : Nat
  ln : Nat → Nat

def SK.kc (k : SK) (free taken : Nat) : KC := { po := k.po, n := k.n, free, taken, levels := k.L, pl := k.pl, stocks := k.S }
structure SK.ok (k : SK) : Prop where
  bp : k.bk ≠ k.po
  bt : k.bk ≠ k.pl
  pt : k.po ≠ k.pl
  lb : ∀ j, j < k.S * 2 → k.ln j ≠ k.bk
  lp : ∀ j, j < k.S * 2 → k.ln j ≠ k.po
  lt : ∀ j, j < k.S * 2 → k.ln j ≠ k.pl
  inj : ∀ i j, i < k.S * 2 → j < k.S * 2 → k.ln i = k.ln j → i = j
  n : 1 ≤ k.n ∧ k.n ≤ 65
  S : k.S ≤ 8
  L : k.L ≤ 64

def SK.F (k : SK) (j : Nat) : Prop := j = k.bk ∨ j = k.po ∨ j = k.pl ∨ ∃ i, i < k.S * 2 ∧ j = k.ln i

structure IsBk (w : World) (k : SK) (free taken : Nat) (fs ls : Nat → Nat → Nat) (bef aft : Nat → Nat) (od : Nat → Ord) : Prop where
  K : IsK w k.bk (k.kc free taken)
  P : IsP w k.po k.n bef aft od
  T : w.heap[k.pl]? = some (.cells (rowOf k.S 2 (fun s i => .slice (some ⟨k.ln (s * 2 + i), 0, none⟩) k.L k.L)) 138)
  Ls : ∀ j, j < k.S * 2 → IsL w (k.ln j) k.L (fs j) (ls j)

theorem IsBk.lt {w : World} {k : SK} {free taken : Nat} {fs ls : Nat → Nat → Nat} {bef aft : Nat → Nat} {od : Nat → Ord} (h : IsBk w k free taken fs ls bef aft od) (j : Nat) (hj : k.F j) : j < w.heap.size := by
  rcases hj with rfl | rfl | rfl | ⟨i, hi, rfl⟩
  · exact h.K.lt
  · exact h.P.lt
  · exact (Array.getElem?_eq_some_iff.1 h.T).1
  · exact (h.Ls i hi).lt

theorem IsBk.keep {w w' : World} {k : SK} {free taken : Nat} {fs ls : Nat → Nat → Nat} {bef aft : Nat → Nat} {od : Nat → Ord} (h : IsBk w k free taken fs ls bef aft od) (hk : ∀ j, k.F j → w'.heap[j]? = w.heap[j]?) : IsBk w' k free taken fs ls bef aft od :=
  ⟨⟨(hk _ (Or.inl rfl)).trans h.K.blk⟩, ⟨(hk _ (Or.inr (Or.inl rfl))).trans h.P.blk⟩, (hk _ (Or.inr (Or.inr (Or.inl rfl)))).trans h.T, fun j hj => ⟨(hk _ (Or.inr (Or.inr (Or.inr ⟨j, hj, rfl⟩)))).trans (h.Ls j hj).blk⟩⟩

/-- Only the block of the books' own cells has turned. -/
theorem IsBk.turnK {w w' : World} {k : SK} {free taken : Nat} {fs ls : Nat → Nat → Nat} {bef aft : Nat → Nat} {od : Nat → Ord} (ok : k.ok) (h : IsBk w k free taken fs ls bef aft od) {free' taken' : Nat} (hK : IsK w' k.bk (k.kc free' taken')) (hf : Fr (fun j => j = k.bk) w w') : IsBk w' k free' taken' fs ls bef aft od :=
  ⟨hK, ⟨(hf.block _ h.P.lt (Ne.symm ok.bp)).trans h.P.blk⟩, (hf.block _ (h.lt _ (Or.inr (Or.inr (Or.inl rfl)))) (Ne.symm ok.bt)).trans h.T, fun j hj => ⟨(hf.block _ (h.Ls j hj).lt (ok.lb j hj)).trans (h.Ls j hj).blk⟩⟩
/-- Only the orders' row has turned. -/
theorem IsBk.turnP {w w' : World} {k : SK} {free taken : Nat} {fs ls : Nat → Nat → Nat} {bef aft : Nat → Nat} {od : Nat → Ord} (ok : k.ok) (h : IsBk w k free taken fs ls bef aft od) {bef' aft' : Nat → Nat} {od' : Nat → Ord} (hP : IsP w' k.po k.n bef' aft' od') (hf : Fr (fun j => j = k.po) w w') : IsBk w' k free taken fs ls bef' aft' od' :=
  ⟨⟨(hf.block _ h.K.lt ok.bp).trans h.K.blk⟩, hP, (hf.block _ (h.lt _ (Or.inr (Or.inr (Or.inl rfl)))) (Ne.symm ok.pt)).trans h.T, fun j hj => ⟨(hf.block _ (h.Ls j hj).lt (ok.lp j hj)).trans (h.Ls j hj).blk⟩⟩
/-- The orders' row and the books' own cells have turned. -/
theorem IsBk.turnPK {w w' : World} {k : SK} {free taken : Nat} {fs ls : Nat → Nat → Nat} {bef aft : Nat → Nat} {od : Nat → Ord} (ok : k.ok) (h : IsBk w k free taken fs ls bef aft od) {free' taken' : Nat} {bef' aft' : Nat → Nat} {od' : Nat → Ord} (hP : IsP w' k.po k.n bef' aft' od') (hK : IsK w' k.bk (k.kc free' taken')) (hf : Fr (fun j => j = k.po ∨ j = k.bk) w w') : IsBk w' k free' taken' fs ls bef' aft' od' :=
  ⟨hK, hP, (hf.block _ (h.lt _ (Or.inr (Or.inr (Or.inl rfl)))) (fun e => e.elim (fun e => ok.pt e.symm) (fun e => ok.bt e.symm))).trans h.T, fun j hj => ⟨(hf.block _ (h.Ls j hj).lt (fun e => e.elim (fun e => ok.lp j hj e) (fun e => ok.lb j hj e))).trans (h.Ls j hj).blk⟩⟩
/-- The orders' row and one row of lines have turned. -/
theorem IsBk.turnL {w w' : World} {k : SK} {free taken : Nat} {fs ls : Nat → Nat → Nat} {bef aft : Nat → Nat} {od : Nat → Ord} (ok : k.ok) (h : IsBk w k free taken fs ls bef aft od) {bef' aft' : Nat → Nat} {od' : Nat → Ord} (hP : IsP w' k.po k.n bef' aft' od') (j : Nat) (hj : j < k.S * 2) {f' l' : Nat → Nat} (hL : IsL w' (k.ln j) k.L f' l') (hf : Fr (fun i => i = k.po ∨ i = k.ln j) w w') :
    IsBk w' k free taken (updN fs j f') (updN ls j l') bef' aft' od' := by
  refine ⟨⟨(hf.block _ h.K.lt (fun e => e.elim (fun e => ok.bp e) (fun e => ok.lb j hj e.symm))).trans h.K.blk⟩, hP, (hf.block _ (h.lt _ (Or.inr (Or.inr (Or.inl rfl)))) (fun e => e.elim (fun e => ok.pt e.symm) (fun e => ok.lt j hj e.symm))).trans h.T, fun i hi => ?_⟩
  by_cases e : i = j
  · subst e
    rw [updN_same, updN_same]
    exact hL
  · rw [updN_ne _ _ _ _ e, updN_ne _ _ _ _ e]
    exact ⟨(hf.block _ (h.Ls i hi).lt (fun q => q.elim (fun q => ok.lp i hi q) (fun q => e (ok.inj i j hi hj q)))).trans (h.Ls i hi).blk⟩

/-- The books: their places by lines, the free places, and what lies where. -/
structure Bks (w : World) (k : SK) (taken : Nat) (od : Nat → Ord) (ps : Nat → UInt8 → Nat → List Nat) (fl : List Nat) : Prop where
  ok : k.ok
  ex : ∃ free fs ls bef aft, IsBk w k free taken fs ls bef aft od ∧ Lk k.S k.L k.n free fs ls bef aft ps fl

theorem Bks.lt {w : World} {k : SK} {taken : Nat} {od : Nat → Ord} {ps : Nat → UInt8 → Nat → List Nat} {fl : List Nat} (h : Bks w k taken od ps fl) (j : Nat) (hj : k.F j) : j < w.heap.size := by
  obtain ⟨_, _, _, _, _, h1, _⟩ := h.ex
  exact h1.lt j hj
theorem Bks.keep {w w' : World} {k : SK} {taken : Nat} {od : Nat → Ord} {ps : Nat → UInt8 → Nat → List Nat} {fl : List Nat} (h : Bks w k taken od ps fl) (hk : ∀ j, k.F j → w'.heap[j]? = w.heap[j]?) : Bks w' k taken od ps fl := by
  obtain ⟨a, b, c, d, e, h1, h2⟩ := h.ex
  exact ⟨h.ok, a, b, c, d, e, h1.keep hk, h2⟩
theorem Bks.fr {w w' : World} {k : SK} {taken : Nat} {od : Nat → Ord} {ps : Nat → UInt8 → Nat → List Nat} {fl : List Nat} {F : Nat → Prop} (h : Bks w k taken od ps fl) (hf : Fr F w w') (hn : ∀ j, k.F j → ¬ F j) : Bks w' k taken od ps fl :=
  h.keep (fun j hj => hf.block j (h.lt j hj) (hn j hj))
theorem IsBk.tab {w : World} {k : SK} {free taken : Nat} {fs ls : Nat → Nat → Nat} {bef aft : Nat → Nat} {od : Nat → Ord} (h : IsBk w k free taken fs ls bef aft od) (s : Nat) (d : UInt8) (hs : s < k.S) : w.cell? ⟨k.pl, jx s d, none⟩ = some (.slice (some ⟨k.ln (jx s d), 0, none⟩) k.L k.L) := by
  unfold jx
  rw [cell_of_row w k.pl _ _ _ (0, 0) h.T, rowOf_get _ _ _ _ _ hs (by split <;> omega)]

end Go.Proofs.Ytphkchjejbffeaa

/- Taking a place of the pool. -/
namespace Go.Proofs.Ytphkchjejbffeaa
open Go.RowKit
attribute [local go_sem ↓] Go.wp_at_zero Go.wp_at_succ

set_option maxRecDepth 100000 in
set_option maxHeartbeats 1000000 in
theorem take_any (bk x z : Nat) (k : KC) (o : Ord) (bef aft : Nat → Nat) (od : Nat → Ord) (w : World) (hK : IsK w bk k) (hP : IsP w k.po k.n bef aft od) (hx : x < k.n) (hfr : k.free = x) (_hn : k.n ≤ 1000) (ht : k.taken ≤ 1000)
    (hz : aft x = z) (n1 : bk ≠ k.po) :
    Calls Try.prog 141 #[.pointer (some ⟨bk, 0, none⟩), ordV 0 0 o] w fun e w' => e = .returned (.int .i64 x) ∧
      IsP w' k.po k.n (updN bef x 0) (updN aft x 0) (updN od x o) ∧ IsK w' bk { k with free := z, taken := k.taken + 1 } ∧ Fr (fun j => j = k.po ∨ j = bk) w w' := by
  have gK : w.cell? ⟨bk, 0, none⟩ = some (.slice (some ⟨k.po, 0, none⟩) k.n k.n) := hK.cell 0
  have gF : w.cell? ⟨bk, 1, none⟩ = some (.int .i64 x) := by rw [← hfr]; exact hK.cell 1
  have gT : w.cell? ⟨bk, 2, none⟩ = some (.int .i64 k.taken) := hK.cell 2
  have gz : w.cell? ⟨k.po, x * 8 + 1, none⟩ = some (.int .i64 z) := by rw [← hz]; exact hP.cell x 1 hx (by omega)
  have f1 := hK.frozen 1
  have f2 := hK.frozen 2
  have i1 : (x : Int) < (k.n : Int) := by omega
  have hbl := hK.lt
  have hpl := hP.lt
  have HP := Hid.mk hP
  have HK := Hid.mk hK
  clear hP hK
  unfold ordV ordL
  go_enter Try.func141, Try.ntmps141
  go_wp2_with fail
  generalize hOb : Obj.cells _ 129 = Ob
  have hKa : IsK (w.alloc Ob) bk k := ⟨by rw [heap_alloc, if_neg (by omega)]; exact HK.out.blk⟩
  have hPa : IsP (w.alloc Ob) k.po k.n bef aft od := HP.out.keep (by rw [heap_alloc, if_neg (by omega)])
  have hbx : (w.alloc Ob).heap[w.heap.size]? = some Ob := by rw [heap_alloc, if_pos rfl]
  have hFa := Fr.alloc (fun _ => False) w Ob
  generalize w.alloc Ob = W at hKa hPa hbx hFa ⊢
  clear gK gF gT gz f1 f2
  have gK : W.cell? ⟨bk, 0, none⟩ = some (.slice (some ⟨k.po, 0, none⟩) k.n k.n) := hKa.cell 0
  have gT : W.cell? ⟨bk, 2, none⟩ = some (.int .i64 k.taken) := hKa.cell 2
  have gF : W.cell? ⟨bk, 1, none⟩ = some (.int .i64 x) := by rw [← hfr]; exact hKa.cell 1
  have gz : W.cell? ⟨k.po, x * 8 + 1, none⟩ = some (.int .i64 z) := by rw [← hz]; exact hPa.cell x 1 hx (by omega)
  have f1 := hKa.frozen 1
  have f2 := hKa.frozen 2
  refine (behind_any k.po (x * 8) z W gz).mono ?_
  rintro e w' ⟨rfl, hw⟩
  replace hw := hw.symm
  subst hw
  have HKa := Hid.mk hKa
  have HPa := Hid.mk hPa
  have HFa := Hid.mk hFa
  have bc : ∀ i v, (#[Value.int .i64 0, .int .i64 0, .int .u32 o.ref, .int .u32 o.token, .int .u8 o.side.toNat, .int .u8 o.stock, .int .u16 o.price, .int .u16 o.shares] : Array Value)[i]? = some v → W.cell? ⟨w.heap.size, i, none⟩ = some v := by
    intro i v hv
    rw [cell_of_row W w.heap.size i _ 129 (0, 0) (hbx.trans (by rw [← hOb]))]
    exact hv
  have q0 := bc 0 _ rfl
  have q1 := bc 1 _ rfl
  have q2 := bc 2 _ rfl
  have q3 := bc 3 _ rfl
  have q4 := bc 4 _ rfl
  have q5 := bc 5 _ rfl
  have q6 := bc 6 _ rfl
  have q7 := bc 7 _ rfl
  have hbxn : w.heap.size ≠ bk := by omega
  have hbxp : w.heap.size ≠ k.po := by omega
  clear hKa hPa hFa hbx bc
  go_wp2_with fail
  have hB1 : Fr (fun j => j = bk) W (W.setCell ⟨bk, 1, none⟩ (.int .i64 z)) := Fr.setCell W ⟨bk, 1, none⟩ _
  have hK1 : Hid (IsK (W.setCell ⟨bk, 1, none⟩ (.int .i64 z)) bk { k with free := z }) := ⟨by rw [heap_setCell_same W bk 1 _ _ _ HKa.out.blk]; rfl⟩
  have hP1 : Hid (IsP (W.setCell ⟨bk, 1, none⟩ (.int .i64 z)) k.po k.n bef aft od) := HPa.out.keep (Below.heap_setCell _ _ _ _ (Ne.symm n1))
  have hF1 : Hid (Fr (fun j => j = k.po ∨ j = bk) w (W.setCell ⟨bk, 1, none⟩ (.int .i64 z))) := (HFa.out.mono (fun _ _ h => h.elim)).trans hB1 (fun _ _ h => Or.inr h)
  replace q0 := hB1.cell q0 hbxn
  replace q1 := hB1.cell q1 hbxn
  replace q2 := hB1.cell q2 hbxn
  replace q3 := hB1.cell q3 hbxn
  replace q4 := hB1.cell q4 hbxn
  replace q5 := hB1.cell q5 hbxn
  replace q6 := hB1.cell q6 hbxn
  replace q7 := hB1.cell q7 hbxn
  clear hB1 gK gT gF gz f1 f2
  generalize W.setCell ⟨bk, 1, none⟩ (.int .i64 z) = W1 at *
  have gK : W1.cell? ⟨bk, 0, none⟩ = some (.slice (some ⟨k.po, 0, none⟩) k.n k.n) := hK1.out.cell 0
  have tc : ∀ i, i < 8 → W1.cell? ⟨k.po, x * 8 + i, none⟩ = some (oCell bef aft od x i) := fun i hi => hP1.out.cell x i hx hi
  have t0 : W1.cell? ⟨k.po, x * 8, none⟩ = some _ := tc 0 (by omega)
  have t1 := tc 1 (by omega)
  have t2 := tc 2 (by omega)
  have t3 := tc 3 (by omega)
  have t4 := tc 4 (by omega)
  have t5 := tc 5 (by omega)
  have t6 := tc 6 (by omega)
  have t7 := tc 7 (by omega)
  have fp : ∀ i, W1.frozen? ⟨k.po, i, none⟩ = false := hP1.out.frozen
  have fp0 := fp (x * 8)
  have fp1 := fp (x * 8 + 1)
  have fp2 := fp (x * 8 + 2)
  have fp3 := fp (x * 8 + 3)
  have fp4 := fp (x * 8 + 4)
  have fp5 := fp (x * 8 + 5)
  have fp6 := fp (x * 8 + 6)
  have fp7 := fp (x * 8 + 7)
  clear fp tc
  have n1' : ¬ k.po = bk := fun e => n1 e.symm
  have hbxp' : ¬ k.po = w.heap.size := fun e => hbxp e.symm
  go_region_held3 (fun w' => w'.cell? ⟨bk, 0, none⟩ = some (.slice (some ⟨k.po, 0, none⟩) k.n k.n) ∧ w'.cell? ⟨w.heap.size, 0, none⟩ = some (.int .i64 0) ∧ w'.cell? ⟨w.heap.size, 1, none⟩ = some (.int .i64 0) ∧ w'.cell? ⟨w.heap.size, 2, none⟩ = some (.int .u32 o.ref) ∧ w'.cell? ⟨w.heap.size, 3, none⟩ = some (.int .u32 o.token) ∧ w'.cell? ⟨w.heap.size, 4, none⟩ = some (.int .u8 o.side.toNat) ∧ w'.cell? ⟨w.heap.size, 5, none⟩ = some (.int .u8 o.stock) ∧ w'.cell? ⟨w.heap.size, 6, none⟩ = some (.int .u16 o.price) ∧ w'.cell? ⟨w.heap.size, 7, none⟩ = some (.int .u16 o.shares)) (go_keep) (fail)
  rename_i hHeld
  clear hHeld
  have hp2 : Hid (IsP ((((((((W1.setCell ⟨k.po, x * 8, none⟩ (.int .i64 0)).setCell ⟨k.po, x * 8 + 1, none⟩ (.int .i64 0)).setCell ⟨k.po, x * 8 + 2, none⟩ (.int .u32 o.ref)).setCell ⟨k.po, x * 8 + 3, none⟩ (.int .u32 o.token)).setCell ⟨k.po, x * 8 + 4, none⟩ (.int .u8 o.side.toNat)).setCell ⟨k.po, x * 8 + 5, none⟩ (.int .u8 o.stock)).setCell ⟨k.po, x * 8 + 6, none⟩ (.int .u16 o.price)).setCell ⟨k.po, x * 8 + 7, none⟩ (.int .u16 o.shares)) k.po k.n (updN bef x 0) (updN aft x 0) (updN od x o)) := by
    have := hP1.out.setOrd x 0 0 o
    rw [set8] at this
    exact this
  have hf2 : Hid (Fr (fun j => j = k.po) W1 ((((((((W1.setCell ⟨k.po, x * 8, none⟩ (.int .i64 0)).setCell ⟨k.po, x * 8 + 1, none⟩ (.int .i64 0)).setCell ⟨k.po, x * 8 + 2, none⟩ (.int .u32 o.ref)).setCell ⟨k.po, x * 8 + 3, none⟩ (.int .u32 o.token)).setCell ⟨k.po, x * 8 + 4, none⟩ (.int .u8 o.side.toNat)).setCell ⟨k.po, x * 8 + 5, none⟩ (.int .u8 o.stock)).setCell ⟨k.po, x * 8 + 6, none⟩ (.int .u16 o.price)).setCell ⟨k.po, x * 8 + 7, none⟩ (.int .u16 o.shares))) := by
    have := fr_setCells k.po (ordL 0 0 o) (x * 8) W1
    rw [set8] at this
    exact this
  generalize ((((((((W1.setCell ⟨k.po, x * 8, none⟩ (.int .i64 0)).setCell ⟨k.po, x * 8 + 1, none⟩ (.int .i64 0)).setCell ⟨k.po, x * 8 + 2, none⟩ (.int .u32 o.ref)).setCell ⟨k.po, x * 8 + 3, none⟩ (.int .u32 o.token)).setCell ⟨k.po, x * 8 + 4, none⟩ (.int .u8 o.side.toNat)).setCell ⟨k.po, x * 8 + 5, none⟩ (.int .u8 o.stock)).setCell ⟨k.po, x * 8 + 6, none⟩ (.int .u16 o.price)).setCell ⟨k.po, x * 8 + 7, none⟩ (.int .u16 o.shares)) = w2 at hp2 hf2 ⊢
  have hK2 : IsK w2 bk { k with free := z } := ⟨(hf2.out.block bk hK1.out.lt n1).trans hK1.out.blk⟩
  have gT : w2.cell? ⟨bk, 2, none⟩ = some (.int .i64 k.taken) := hK2.cell 2
  have gF : w2.cell? ⟨bk, 2, none⟩ = some (.int .i64 k.taken) := hK2.cell 2
  have f2 := hK2.frozen 2
  have w1 : IntKind.i64.wrap ((k.taken : Int) + 1) = (k.taken : Int) + 1 := by rw [IntKind.wrap_i64]; omega
  have HK2 := Hid.mk hK2
  clear hK2
  go_wp2_with fail
  go_ret
  refine ⟨rfl, hp2.out.keep (Below.heap_setCell _ _ _ _ (Ne.symm n1)), ⟨?_⟩, ?_⟩
  · show (w2.setCell ⟨bk, 2, none⟩ (.int .i64 ((k.taken : Int) + 1))).heap[bk]? = _
    rw [heap_setCell_same _ bk 2 _ _ _ HK2.out.blk]; rfl
  · exact (hF1.out.trans hf2.out (fun _ _ h => Or.inl h)).trans ((Fr.setCell w2 ⟨bk, 2, none⟩ _).trans (Fr.drew (fun _ => False) _) (fun _ _ h => h.elim)) (fun _ _ h => Or.inr h)

end Go.Proofs.Ytphkchjejbffeaa

/- An order that rests; the line of an order. -/
namespace Go.Proofs.Ytphkchjejbffeaa
open Go.RowKit
attribute [local go_sem ↓] Go.wp_at_zero Go.wp_at_succ

set_option maxRecDepth 100000 in
set_option maxHeartbeats 1000000 in
theorem order_any (bk x : Nat) (k : KC) (bef aft : Nat → Nat) (od : Nat → Ord) (w : World) (hK : IsK w bk k) (hP : IsP w k.po k.n bef aft od) (hx : x < k.n) (_hn : k.n ≤ 1000) :
    Calls Try.prog 81 #[.pointer (some ⟨bk, 0, none⟩), .int .i64 x] w fun e w' => e = .returned (ordV (bef x) (aft x) (od x)) ∧ Hid (Fr (fun _ => False) w w') := by
  have gK : w.cell? ⟨bk, 0, none⟩ = some (.slice (some ⟨k.po, 0, none⟩) k.n k.n) := hK.cell 0
  have hbl := hK.lt
  have hpl := hP.lt
  have t0 : w.cell? ⟨k.po, x * 8, none⟩ = some (.int .i64 (bef x)) := hP.cell x 0 hx (by omega)
  have t1 : w.cell? ⟨k.po, x * 8 + 1, none⟩ = some (.int .i64 (aft x)) := hP.cell x 1 hx (by omega)
  have t2 : w.cell? ⟨k.po, x * 8 + 2, none⟩ = some (.int .u32 (od x).ref) := hP.cell x 2 hx (by omega)
  have t3 : w.cell? ⟨k.po, x * 8 + 3, none⟩ = some (.int .u32 (od x).token) := hP.cell x 3 hx (by omega)
  have t4 : w.cell? ⟨k.po, x * 8 + 4, none⟩ = some (.int .u8 (od x).side.toNat) := hP.cell x 4 hx (by omega)
  have t5 : w.cell? ⟨k.po, x * 8 + 5, none⟩ = some (.int .u8 (od x).stock) := hP.cell x 5 hx (by omega)
  have t6 : w.cell? ⟨k.po, x * 8 + 6, none⟩ = some (.int .u16 (od x).price) := hP.cell x 6 hx (by omega)
  have t7 : w.cell? ⟨k.po, x * 8 + 7, none⟩ = some (.int .u16 (od x).shares) := hP.cell x 7 hx (by omega)
  have i1 : (x : Int) < (k.n : Int) := by omega
  clear hK hP
  unfold ordV ordL
  generalize bef x = bx at *
  generalize aft x = ax at *
  generalize od x = o at *
  go_enter Try.func81, Try.ntmps81
  go_wp2_with fail
  refine bodyPost_ret (v := .agg #[.int .i64 bx, .int .i64 ax, .int .u32 o.ref, .int .u32 o.token, .int .u8 o.side.toNat, .int .u8 o.stock, .int .u16 o.price, .int .u16 o.shares]) (by simp [results, Try.results81, go_sem]) rfl ⟨rfl, ?_⟩
  exact Fr.alloc _ _ _

theorem line_any (k : SK) (ok : k.ok) (s p free taken : Nat) (d : UInt8) (fs ls : Nat → Nat → Nat) (bef aft : Nat → Nat) (od : Nat → Ord) (w : World) (h : IsBk w k free taken fs ls bef aft od) (hv : VV k.S k.L s d p) :
    Calls Try.prog 89 #[.pointer (some ⟨k.bk, 0, none⟩), .int .i64 s, .int .u8 d.toNat, .int .i64 p] w fun e w' => e = .returned (.pointer (some ⟨k.ln (jx s d), (p - 1) * 2, none⟩)) ∧ w' = w := by
  obtain ⟨h1, h2, h3, h4⟩ := hv
  have := ok.L
  have ht := h.tab s d h1
  rcases h2 with rfl | rfl
  · exact line_buy k.bk (k.kc free taken) s p _ w h.K h1 h3 h4 (show k.L ≤ 1000 by omega) ht
  · exact line_sell k.bk (k.kc free taken) s p _ w h.K h1 h3 h4 (show k.L ≤ 1000 by omega) ht

set_option maxRecDepth 100000 in
set_option maxHeartbeats 1000000 in
theorem lineOf_any (k : SK) (ok : k.ok) (a z free taken : Nat) (o : Ord) (fs ls : Nat → Nat → Nat) (bef aft : Nat → Nat) (od : Nat → Ord) (w : World) (h : IsBk w k free taken fs ls bef aft od) (hv : VV k.S k.L o.stock o.side o.price) :
    Calls Try.prog 143 #[.pointer (some ⟨k.bk, 0, none⟩), ordV a z o] w fun e w' => e = .returned (.pointer (some ⟨k.ln (jx o.stock o.side), (o.price - 1) * 2, none⟩)) ∧ Hid (Fr (fun _ => False) w w') := by
  have hsz : ∀ j, k.F j → j < w.heap.size := h.lt
  have H := Hid.mk h
  have HV := Hid.mk hv
  have b1 : (o.stock : Int) < 256 := by have := ok.S; have := hv.1; omega
  have b2 : (o.price : Int) < 65536 := by have := ok.L; have := hv.2.2.2; omega
  have w1 : IntKind.i64.wrap (o.stock : Int) = (o.stock : Int) := by rw [IntKind.wrap_i64]; omega
  have w2 : IntKind.i64.wrap (o.price : Int) = (o.price : Int) := by rw [IntKind.wrap_i64]; omega
  clear h hv
  unfold ordV ordL
  go_enter Try.func143, Try.ntmps143
  go_wp2_with fail
  generalize Obj.cells _ 129 = Ob
  refine (line_any k ok o.stock o.price free taken o.side fs ls bef aft od (w.alloc Ob) (H.out.keep (fun j hj => by rw [heap_alloc, if_neg (by have := hsz j hj; omega)])) HV.out).mono ?_
  rintro e w' ⟨rfl, hw⟩
  replace hw := hw.symm
  subst hw
  go_wp2_with fail
  go_ret
  exact ⟨rfl, Fr.alloc _ _ _⟩

end Go.Proofs.Ytphkchjejbffeaa
