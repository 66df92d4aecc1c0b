/- The walk of the document's taped. -/
import Derived.Test.YtphkchjejbffeaaG25
import Derived.Laws.IdiomStrings
import Derived.Laws.BytesArg
namespace Go.Proofs.Ytphkchjejbffeaa
open Go.RowKit
attribute [local go_sem ↓] Go.wp_at_zero Go.wp_at_succ

set_option maxRecDepth 100000 in
set_option maxHeartbeats 4000000 in
theorem rtaped_e {w : World} {base : Nat} {v : Value} {S : List Ord} (h : RsAt w base v S) (hsm : SmR S) (hb : base ≤ w.heap.size) (hn : S.length ≤ 1000000000) (gm om cm : Nat) (M : List UInt8) (hM : Lies w gm om M) (hl : M.length = 17) (hc : 17 ≤ cm) (hcm : cm ≤ 9223372036854775807) (_hgm : gm < base) (h0 : byteAt M 0 = 101) :
    Calls Try.prog 68 #[v, .slice (some ⟨gm, om, none⟩) 17 cm] w (RefP (rTaped S 101 (M.drop 7)) base w) := by
  have c0 : w.cell? ⟨gm, om, none⟩ = some (.int .u8 101) := by
    have := hM.cell 0 (by omega)
    have e : M.getD 0 0 = 101 := h0
    rw [e] at this
    exact this
  have HV : Hid (∀ (j n cap t : Nat), j + n ≤ M.length → n ≤ 7 → num ((M.drop j).take n) 0 = t → Calls Try.prog 102 #[.slice (some ⟨gm, om + j, none⟩) n cap] w fun e w' => e = .returned (.int .i64 t) ∧ w' = w) := fun j n cap t h1 h2 h3 => rval_part hM j n cap t h1 h2 h3
  obtain ⟨t, ht⟩ : ∃ t, at_ (M.drop 7) 0 4 = t := ⟨_, rfl⟩
  have HT : Hid (num ((M.drop 7).take 4) 0 = t) := ht
  have HF := Hid.mk (rfnd_any w base v S t h)
  rw [rfi_ixv] at HF
  have HIL : Hid (∀ i, rfind S t = some i → i < S.length) := fun i hi => by
    obtain ⟨o, ho, -⟩ := rfind_some hi
    exact (List.getElem?_eq_some_iff.1 ho).1
  have i4 : (17 : Int) ≤ (cm : Int) := by omega
  have i5 : (cm : Int) ≤ 9223372036854775807 := by omega
  obtain ⟨m, hm⟩ : ∃ m, at_ (M.drop 7) 4 2 = m := ⟨_, rfl⟩
  have HM : Hid (num ((M.drop 11).take 2) 0 = m) := (at_drop M 7 4 2).trans hm
  have hm2 := at_lt2 (M.drop 7) 4
  rw [hm] at hm2
  have HR : Hid (rTaped S 101 (M.drop 7) = rGone S (rfind S t) m true) := by rw [← ht, ← hm]; rfl
  generalize rTaped S 101 (M.drop 7) = res at *
  have HG := Hid.mk (rgone_any h hsm hb hn (rfind S t) HIL.out m hm2 true)
  obtain ⟨ra, cap, hv, -, -, -⟩ := h.form
  subst hv
  clear h hM ht hm
  go_enter Try.func68, Try.ntmps68
  go_wp2_with fail
  refine (HV.out 7 4 _ t (by omega) (by omega) HT.out).mono ?_
  rintro e w' ⟨rfl, hw⟩
  replace hw := hw.symm
  subst hw
  go_wp2_with fail
  refine HF.out.mono ?_
  rintro e w' ⟨rfl, hw⟩
  replace hw := hw.symm
  subst hw
  clear HF
  go_wp2_with fail
  refine (HV.out 11 2 _ m (by omega) (by omega) HM.out).mono ?_
  rintro e w' ⟨rfl, hw⟩
  replace hw := hw.symm
  subst hw
  go_wp2_with fail
  refine HG.out.mono ?_
  rintro e w2 ⟨hB, ⟨h1, rfl⟩ | ⟨S', v', h1, rfl, h2, h3⟩⟩
  · go_wp2_with fail
    go_ret2
    exact ⟨hB, Or.inl ⟨HR.out.trans h1, rfl⟩⟩
  · have H2 := Hid.mk (And.intro hB (And.intro h1 (And.intro h2 h3)))
    clear hB h1 h2 h3
    go_wp2_with fail
    go_ret2
    exact ⟨H2.out.1, Or.inr ⟨S', v', HR.out.trans H2.out.2.1, rfl, H2.out.2.2.1, H2.out.2.2.2⟩⟩

set_option maxRecDepth 100000 in
set_option maxHeartbeats 4000000 in
theorem rtaped_x {w : World} {base : Nat} {v : Value} {S : List Ord} (h : RsAt w base v S) (hsm : SmR S) (hb : base ≤ w.heap.size) (hn : S.length ≤ 1000000000) (gm om cm : Nat) (M : List UInt8) (hM : Lies w gm om M) (hl : M.length = 13) (hc : 13 ≤ cm) (hcm : cm ≤ 9223372036854775807) (_hgm : gm < base) (h0 : byteAt M 0 = 120) :
    Calls Try.prog 68 #[v, .slice (some ⟨gm, om, none⟩) 13 cm] w (RefP (rTaped S 120 (M.drop 7)) base w) := by
  have c0 : w.cell? ⟨gm, om, none⟩ = some (.int .u8 120) := by
    have := hM.cell 0 (by omega)
    have e : M.getD 0 0 = 120 := h0
    rw [e] at this
    exact this
  have HV : Hid (∀ (j n cap t : Nat), j + n ≤ M.length → n ≤ 7 → num ((M.drop j).take n) 0 = t → Calls Try.prog 102 #[.slice (some ⟨gm, om + j, none⟩) n cap] w fun e w' => e = .returned (.int .i64 t) ∧ w' = w) := fun j n cap t h1 h2 h3 => rval_part hM j n cap t h1 h2 h3
  obtain ⟨t, ht⟩ : ∃ t, at_ (M.drop 7) 0 4 = t := ⟨_, rfl⟩
  have HT : Hid (num ((M.drop 7).take 4) 0 = t) := ht
  have HF := Hid.mk (rfnd_any w base v S t h)
  rw [rfi_ixv] at HF
  have HIL : Hid (∀ i, rfind S t = some i → i < S.length) := fun i hi => by
    obtain ⟨o, ho, -⟩ := rfind_some hi
    exact (List.getElem?_eq_some_iff.1 ho).1
  have i4 : (13 : Int) ≤ (cm : Int) := by omega
  have i5 : (cm : Int) ≤ 9223372036854775807 := by omega
  obtain ⟨m, hm⟩ : ∃ m, at_ (M.drop 7) 4 2 = m := ⟨_, rfl⟩
  have HM : Hid (num ((M.drop 11).take 2) 0 = m) := (at_drop M 7 4 2).trans hm
  have hm2 := at_lt2 (M.drop 7) 4
  rw [hm] at hm2
  have HR : Hid (rTaped S 120 (M.drop 7) = rGone S (rfind S t) m false) := by rw [← ht, ← hm]; rfl
  generalize rTaped S 120 (M.drop 7) = res at *
  have HG := Hid.mk (rgone_any h hsm hb hn (rfind S t) HIL.out m hm2 false)
  obtain ⟨ra, cap, hv, -, -, -⟩ := h.form
  subst hv
  clear h hM ht hm
  go_enter Try.func68, Try.ntmps68
  go_wp2_with fail
  refine (HV.out 7 4 _ t (by omega) (by omega) HT.out).mono ?_
  rintro e w' ⟨rfl, hw⟩
  replace hw := hw.symm
  subst hw
  go_wp2_with fail
  refine HF.out.mono ?_
  rintro e w' ⟨rfl, hw⟩
  replace hw := hw.symm
  subst hw
  clear HF
  go_wp2_with fail
  refine (HV.out 11 2 _ m (by omega) (by omega) HM.out).mono ?_
  rintro e w' ⟨rfl, hw⟩
  replace hw := hw.symm
  subst hw
  go_wp2_with fail
  refine HG.out.mono ?_
  rintro e w2 ⟨hB, ⟨h1, rfl⟩ | ⟨S', v', h1, rfl, h2, h3⟩⟩
  · go_wp2_with fail
    go_ret2
    exact ⟨hB, Or.inl ⟨HR.out.trans h1, rfl⟩⟩
  · have H2 := Hid.mk (And.intro hB (And.intro h1 (And.intro h2 h3)))
    clear hB h1 h2 h3
    go_wp2_with fail
    go_ret2
    exact ⟨H2.out.1, Or.inr ⟨S', v', HR.out.trans H2.out.2.1, rfl, H2.out.2.2.1, H2.out.2.2.2⟩⟩

set_option maxRecDepth 100000 in
set_option maxHeartbeats 4000000 in
theorem rtaped_u {w : World} {base : Nat} {v : Value} {S : List Ord} (h : RsAt w base v S) (hsm : SmR S) (hb : base ≤ w.heap.size) (hn : S.length ≤ 1000000000) (gm om cm : Nat) (M : List UInt8) (hM : Lies w gm om M) (hl : M.length = 19) (hc : 19 ≤ cm) (hcm : cm ≤ 9223372036854775807) (hgm : gm < base) (h0 : byteAt M 0 = 117) :
    Calls Try.prog 68 #[v, .slice (some ⟨gm, om, none⟩) 19 cm] w (RefP (rTaped S 117 (M.drop 7)) base w) := by
  have c0 : w.cell? ⟨gm, om, none⟩ = some (.int .u8 117) := by
    have := hM.cell 0 (by omega)
    have e : M.getD 0 0 = 117 := h0
    rw [e] at this
    exact this
  have HV : Hid (∀ (j n cap t : Nat), j + n ≤ M.length → n ≤ 7 → num ((M.drop j).take n) 0 = t → Calls Try.prog 102 #[.slice (some ⟨gm, om + j, none⟩) n cap] w fun e w' => e = .returned (.int .i64 t) ∧ w' = w) := fun j n cap t h1 h2 h3 => rval_part hM j n cap t h1 h2 h3
  obtain ⟨t, ht⟩ : ∃ t, at_ (M.drop 7) 0 4 = t := ⟨_, rfl⟩
  have HT : Hid (num ((M.drop 7).take 4) 0 = t) := ht
  have HF := Hid.mk (rfnd_any w base v S t h)
  rw [rfi_ixv] at HF
  have HIL : Hid (∀ i, rfind S t = some i → i < S.length) := fun i hi => by
    obtain ⟨o, ho, -⟩ := rfind_some hi
    exact (List.getElem?_eq_some_iff.1 ho).1
  have i4 : (19 : Int) ≤ (cm : Int) := by omega
  have i5 : (cm : Int) ≤ 9223372036854775807 := by omega
  have HR : Hid (rTaped S 117 (M.drop 7) = rOther S (rfind S t) (M.drop 7)) := by rw [← ht]; rfl
  have HG := Hid.mk (rother_any h hsm hb hn (rfind S t) HIL.out gm om cm M hM hl hc hcm hgm)
  generalize rTaped S 117 (M.drop 7) = res at *
  generalize rOther S (rfind S t) (M.drop 7) = res2 at *
  obtain ⟨ra, cap, hv, -, -, -⟩ := h.form
  subst hv
  clear h hM ht
  go_enter Try.func68, Try.ntmps68
  go_wp2_with fail
  refine (HV.out 7 4 _ t (by omega) (by omega) HT.out).mono ?_
  rintro e w' ⟨rfl, hw⟩
  replace hw := hw.symm
  subst hw
  go_wp2_with fail
  refine HF.out.mono ?_
  rintro e w' ⟨rfl, hw⟩
  replace hw := hw.symm
  subst hw
  clear HF
  go_wp2_with fail
  refine HG.out.mono ?_
  rintro e w2 ⟨hB, ⟨h1, rfl⟩ | ⟨S', v', h1, rfl, h2, h3⟩⟩
  · go_wp2_with fail
    go_ret2
    exact ⟨hB, Or.inl ⟨HR.out.trans h1, rfl⟩⟩
  · have H2 := Hid.mk (And.intro hB (And.intro h1 (And.intro h2 h3)))
    clear hB h1 h2 h3
    go_wp2_with fail
    go_ret2
    exact ⟨H2.out.1, Or.inr ⟨S', v', HR.out.trans H2.out.2.1, rfl, H2.out.2.2.1, H2.out.2.2.2⟩⟩

set_option maxRecDepth 100000 in
set_option maxHeartbeats 4000000 in
theorem rtaped_d {w : World} {base : Nat} {v : Value} {S : List Ord} (h : RsAt w base v S) (hsm : SmR S) (hb : base ≤ w.heap.size) (hn : S.length ≤ 1000000000) (gm om cm : Nat) (M : List UInt8) (hM : Lies w gm om M) (hl : M.length = 11) (hc : 11 ≤ cm) (hcm : cm ≤ 9223372036854775807) (_hgm : gm < base) (h0 : byteAt M 0 = 100) :
    Calls Try.prog 68 #[v, .slice (some ⟨gm, om, none⟩) 11 cm] w (RefP (rTaped S 100 (M.drop 7)) base w) := by
  have c0 : w.cell? ⟨gm, om, none⟩ = some (.int .u8 100) := by
    have := hM.cell 0 (by omega)
    have e : M.getD 0 0 = 100 := h0
    rw [e] at this
    exact this
  have HV : Hid (∀ (j n cap t : Nat), j + n ≤ M.length → n ≤ 7 → num ((M.drop j).take n) 0 = t → Calls Try.prog 102 #[.slice (some ⟨gm, om + j, none⟩) n cap] w fun e w' => e = .returned (.int .i64 t) ∧ w' = w) := fun j n cap t h1 h2 h3 => rval_part hM j n cap t h1 h2 h3
  obtain ⟨t, ht⟩ : ∃ t, at_ (M.drop 7) 0 4 = t := ⟨_, rfl⟩
  have HT : Hid (num ((M.drop 7).take 4) 0 = t) := ht
  have HF := Hid.mk (rfnd_any w base v S t h)
  rw [rfi_ixv] at HF
  have HIL : Hid (∀ i, rfind S t = some i → i < S.length) := fun i hi => by
    obtain ⟨o, ho, -⟩ := rfind_some hi
    exact (List.getElem?_eq_some_iff.1 ho).1
  have i4 : (11 : Int) ≤ (cm : Int) := by omega
  have i5 : (cm : Int) ≤ 9223372036854775807 := by omega
  have HR : Hid (rTaped S 100 (M.drop 7) = (rfind S t).map fun i => S.eraseIdx i) := by rw [← ht]; rfl
  generalize rTaped S 100 (M.drop 7) = res at *
  have HH := Hid.mk (And.intro h hsm)
  obtain ⟨ra, cap, hv, -, -, -⟩ := h.form
  subst hv
  clear h hM ht
  go_enter Try.func68, Try.ntmps68
  go_wp2_with fail
  refine (HV.out 7 4 _ t (by omega) (by omega) HT.out).mono ?_
  rintro e w' ⟨rfl, hw⟩
  replace hw := hw.symm
  subst hw
  go_wp2_with fail
  refine HF.out.mono ?_
  rintro e w' ⟨rfl, hw⟩
  replace hw := hw.symm
  subst hw
  clear HF
  cases hf : rfind S t with
  | none =>
    have HE : Hid (res = none) := by have := HR.out; rw [hf] at this; exact this
    have hx : ixv none = -1 := rfl
    rw [hx]
    clear hx hf HR
    go_wp2_with fail
    go_ret2
    exact ⟨Below.refl _ _, Or.inl ⟨HE.out, rfl⟩⟩
  | some i =>
    have HE : Hid (res = some (S.eraseIdx i)) := by have := HR.out; rw [hf] at this; exact this
    have hil := HIL.out i hf
    have hx : ixv (some i) = (i : Int) := rfl
    rw [hx]
    have i3 : ¬ (i : Int) < 0 := by omega
    have HWO := Hid.mk (without_any w base _ S i HH.out.1 hil hn)
    clear hx hf HR
    go_wp2_with fail
    refine HWO.out.mono ?_
    rintro e w2 ⟨v2, rfl, hr2, hb2⟩
    have H2 := Hid.mk (And.intro hr2 hb2)
    clear hr2 hb2
    go_wp2_with fail
    go_ret2
    exact ⟨H2.out.2.mono hb, Or.inr ⟨_, v2, HE.out, rfl, ownsRow_base H2.out.1 hb, HH.out.2.erase i⟩⟩

set_option maxRecDepth 100000 in
set_option maxHeartbeats 4000000 in
theorem rtaped_a {w : World} {base : Nat} {v : Value} {S : List Ord} (h : RsAt w base v S) (hsm : SmR S) (hb : base ≤ w.heap.size) (hn : S.length ≤ 1000000000) (gm om cm : Nat) (M : List UInt8) (hM : Lies w gm om M) (hl : M.length = 17) (hc : 17 ≤ cm) (hcm : cm ≤ 9223372036854775807) (hgm : gm < base) (h0 : byteAt M 0 = 97) :
    Calls Try.prog 68 #[v, .slice (some ⟨gm, om, none⟩) 17 cm] w (RefP (rTaped S 97 (M.drop 7)) base w) := by
  have c0 : w.cell? ⟨gm, om, none⟩ = some (.int .u8 97) := by
    have := hM.cell 0 (by omega)
    have e : M.getD 0 0 = 97 := h0
    rw [e] at this
    exact this
  have HV : Hid (∀ (j n cap t : Nat), j + n ≤ M.length → n ≤ 7 → num ((M.drop j).take n) 0 = t → Calls Try.prog 102 #[.slice (some ⟨gm, om + j, none⟩) n cap] w fun e w' => e = .returned (.int .i64 t) ∧ w' = w) := fun j n cap t h1 h2 h3 => rval_part hM j n cap t h1 h2 h3
  obtain ⟨t, ht⟩ : ∃ t, at_ (M.drop 7) 0 4 = t := ⟨_, rfl⟩
  have HT : Hid (num ((M.drop 7).take 4) 0 = t) := ht
  have HF := Hid.mk (rfnd_any w base v S t h)
  rw [rfi_ixv] at HF
  have HIL : Hid (∀ i, rfind S t = some i → i < S.length) := fun i hi => by
    obtain ⟨o, ho, -⟩ := rfind_some hi
    exact (List.getElem?_eq_some_iff.1 ho).1
  have i4 : (17 : Int) ≤ (cm : Int) := by omega
  have i5 : (cm : Int) ≤ 9223372036854775807 := by omega
  obtain ⟨y, hy⟩ : ∃ y, fOrd (M.drop 7) = y := ⟨_, rfl⟩
  have hyr : t = y.ref := by rw [← hy, ← ht]; rfl
  have HE4 : Hid (num ((M.drop 15).take 2) 0 = y.price) := by rw [← hy]; exact at_drop M 7 8 2
  have HE5 : Hid (num ((M.drop 13).take 2) 0 = y.shares) := by rw [← hy]; exact at_drop M 7 6 2
  have hb7 : ∀ j, byteAt (M.drop 7) j = byteAt M (7 + j) := fun j => by
    unfold byteAt
    rw [List.getD_eq_getElem?_getD, List.getD_eq_getElem?_getD, List.getElem?_drop]
  have c11 : w.cell? ⟨gm, om + 11, none⟩ = some (.int .u8 y.side.toNat) := by
    have := hM.cell 11 (by omega)
    have e : M.getD 11 0 = y.side := by rw [← hy]; exact (hb7 4).symm
    rw [e] at this
    exact this
  have c12 : w.cell? ⟨gm, om + 12, none⟩ = some (.int .u8 y.stock) := by
    have := hM.cell 12 (by omega)
    have e : (M.getD 12 0).toNat = y.stock := by rw [← hy]; exact (congrArg UInt8.toNat (hb7 5)).symm
    rw [e] at this
    exact this
  have HTK : Hid (y.token = 0) := by rw [← hy]; rfl
  have HSM : Hid y.small := by
    rw [← hy]
    exact ⟨at_lt4 _ 0, by show 0 < 4294967296; omega, (byteAt (M.drop 7) 5).toNat_lt, at_lt2 _ 8, at_lt2 _ 6⟩
  have HR : Hid (rTaped S 97 (M.drop 7) = if (rfind S t).isSome ∨ ¬ (y.side = 66 ∨ y.side = 83) ∨ y.shares = 0 then none else some (insO y S)) := by
    rw [← hy, ← ht]
    rfl
  generalize rTaped S 97 (M.drop 7) = res at *
  have HVD : Hid (∀ (W : World) (j n cap : Nat), W.heap[gm]? = w.heap[gm]? → j + n ≤ 17 → n ≤ 7 → Calls Try.prog 102 #[.slice (some ⟨gm, om + j, none⟩) n cap] W fun e w' => e = .returned (.int .i64 (num ((M.drop j).take n) 0 : Nat)) ∧ w' = W) := fun W j n cap h0 h1 h2 => rval_part (hM.keep h0) j n cap _ (by omega) h2 rfl
  have HH := Hid.mk (And.intro h hsm)
  have hyst := HSM.out.stock
  have i6 : (y.stock : Int) < 256 := by omega
  have i10 : IntKind.i64.wrap (y.stock : Int) = (y.stock : Int) := by rw [IntKind.wrap_i64]; omega
  have i7 : (15 : Int) ≤ (cm : Int) := by omega
  have i8 : ¬ cm = 13 := by omega
  have i9 : ¬ cm = 15 := by omega
  obtain ⟨ra, cap, hv, -, -, -⟩ := h.form
  subst hv
  have HML : Hid (M.length = 17) := hl
  have hgw : gm < w.heap.size := Nat.lt_of_lt_of_le hgm hb
  clear h hM ht hy hb7 hl
  subst hyr
  go_enter Try.func68, Try.ntmps68
  go_wp2_with fail
  refine (HV.out 7 4 _ y.ref (by rw [HML.out]; omega) (by omega) HT.out).mono ?_
  rintro e w' ⟨rfl, hw⟩
  replace hw := hw.symm
  subst hw
  go_wp2_with fail
  refine HF.out.mono ?_
  rintro e w' ⟨rfl, hw⟩
  replace hw := hw.symm
  subst hw
  clear HF
  go_wp2_with fail
  go_region_held3 (fun w' => w'.cell? ⟨gm, om + 11, none⟩ = some (.int .u8 y.side.toNat) ∧ w'.cell? ⟨gm, om + 12, none⟩ = some (.int .u8 y.stock)) (first | go_keep)
    ((go_at_call 102; refine (HVD.out _ _ _ _ (by first | rfl | (show (w.alloc _).heap[gm]? = _; rw [heap_alloc, if_neg (by omega)])) (by omega) (by omega)).mono ?_; rintro e w' ⟨rfl, hw⟩; subst hw))
  all_goals
    rw [HE4.out, HE5.out]
    generalize hOb : Obj.cells _ 46 = O
    have hbx : ∀ t x, ([.int .i64 y.ref, .int .i64 0, .int .u8 y.side.toNat, .int .i64 y.stock, .int .i64 y.price, .int .i64 y.shares] : List Value)[t]? = some x → (w.alloc O).drew.cell? ⟨w.heap.size, t, none⟩ = some x := fun t x hx => by rw [← hOb]; exact new_cell _ _ _ t _ (by simpa using hx)
    have hBO : Below base w (w.alloc O).drew := ((Below.refl base w).alloc hb O).drew
    have hSO : RsAt (w.alloc O).drew base (.slice ra S.length cap) S := ownsRow_keep HH.out.1 (fun g' hg' => by show (w.alloc O).heap[g']? = _; rw [heap_alloc, if_neg (by have := (World.ownsRow.lt HH.out.1 g' hg').2; omega)])
    clear hOb
    generalize (w.alloc O).drew = W at hbx hBO hSO ⊢
    have k0 := hbx 0 _ rfl
    have k1 := hbx 1 _ rfl
    have k2 := hbx 2 _ rfl
    have k3 := hbx 3 _ rfl
    have k4 := hbx 4 _ rfl
    have k5 := hbx 5 _ rfl
    have HIN : Hid (Calls Try.prog 104 #[.slice ra S.length cap, .agg #[.int .i64 y.ref, .int .i64 0, .int .u8 y.side.toNat, .int .i64 y.stock, .int .i64 y.price, .int .i64 y.shares]] W fun e w' => ∃ v', e = .returned v' ∧ RsAt w' W.heap.size v' (insO y S) ∧ Below W.heap.size W w') := by
      have := insert_any W base _ S y hSO hn
      unfold Ord.cells at this
      rw [HTK.out] at this
      exact this
    have HBO := Hid.mk hBO
    clear hbx hBO hSO HVD c0 c11 c12
    cases hf : rfind S y.ref with
    | some i =>
      have HE : Hid (res = none) := by have := HR.out; rw [hf, if_pos (Or.inl (show (some i).isSome = true from rfl))] at this; exact this
      have hx : ixv (some i) = (i : Int) := rfl
      rw [hx]
      have b0 : (0 : Int) ≤ (i : Int) := by omega
      clear hx hf HR
      go_wp2_with fail
      go_ret2
      exact ⟨HBO.out, Or.inl ⟨HE.out, rfl⟩⟩
    | none =>
      have hx : ixv none = -1 := rfl
      rw [hx]
      have HR2 : Hid (res = if ¬ (y.side = 66 ∨ y.side = 83) ∨ y.shares = 0 then none else some (insO y S)) := by
        have := HR.out
        rw [hf] at this
        simp only [Option.isSome_none, Bool.false_eq_true, false_or] at this
        exact this
      clear hx hf HR
      have hsides : (y.side = 66 ∧ ((y.side.toNat : Int) == 66) = true ∧ ((y.side.toNat : Int) != 66) = false) ∨ (y.side = 83 ∧ ((y.side.toNat : Int) == 66) = false ∧ ((y.side.toNat : Int) != 66) = true ∧ ((y.side.toNat : Int) == 83) = true ∧ ((y.side.toNat : Int) != 83) = false) ∨ (¬ (y.side = 66 ∨ y.side = 83) ∧ ((y.side.toNat : Int) == 66) = false ∧ ((y.side.toNat : Int) != 66) = true ∧ ((y.side.toNat : Int) == 83) = false ∧ ((y.side.toNat : Int) != 83) = true) := by
        by_cases e1 : y.side = 66
        · left; rw [e1]; exact ⟨rfl, by decide, by decide⟩
        · have n1 : ((y.side.toNat : Int) == 66) = false := by rw [beq_eq_false_iff_ne]; intro e; exact e1 (UInt8.toNat_inj.1 (show y.side.toNat = 66 by omega))
          by_cases e2 : y.side = 83
          · right; left; rw [e2]; exact ⟨rfl, by decide, by decide, by decide, by decide⟩
          · have n2 : ((y.side.toNat : Int) == 83) = false := by rw [beq_eq_false_iff_ne]; intro e; exact e2 (UInt8.toNat_inj.1 (show y.side.toNat = 83 by omega))
            right; right
            exact ⟨fun h => h.elim e1 e2, n1, by rw [bne, n1]; rfl, n2, by rw [bne, n2]; rfl⟩
      rcases hsides with ⟨hsd, s1, s2⟩ | ⟨hsd, s1, s2, s3, s4⟩ | ⟨hsd, s1, s2, s3, s4⟩
      · by_cases hsh : y.shares = 0
        · have b1 : ((y.shares : Int) == 0) = true := by simp [hsh]
          have HE : Hid (res = none) := by have := HR2.out; rw [if_pos (Or.inr hsh)] at this; exact this
          clear hsh hsd HR2
          go_wp2_with fail
          go_ret2
          exact ⟨HBO.out, Or.inl ⟨HE.out, rfl⟩⟩
        · have b1 : ((y.shares : Int) == 0) = false := by rw [beq_eq_false_iff_ne]; omega
          have HE : Hid (res = some (insO y S)) := by have := HR2.out; rw [if_neg (by rintro (hh | hh); exact hh (Or.inl hsd); exact hsh hh)] at this; exact this
          clear hsh hsd HR2
          go_wp2_with fail
          refine HIN.out.mono ?_
          rintro e w2 ⟨v2, rfl, hr2, hb2⟩
          have H2 := Hid.mk (And.intro hr2 hb2)
          clear hr2 hb2
          go_wp2_with fail
          go_ret2
          have hbW := Nat.le_trans hb HBO.out.size
          exact ⟨HBO.out.trans (H2.out.2.mono hbW), Or.inr ⟨_, v2, HE.out, rfl, ownsRow_base H2.out.1 hbW, HH.out.2.ins ⟨HSM.out, HTK.out⟩⟩⟩
      · by_cases hsh : y.shares = 0
        · have b1 : ((y.shares : Int) == 0) = true := by simp [hsh]
          have HE : Hid (res = none) := by have := HR2.out; rw [if_pos (Or.inr hsh)] at this; exact this
          clear hsh hsd HR2
          go_wp2_with fail
          go_ret2
          exact ⟨HBO.out, Or.inl ⟨HE.out, rfl⟩⟩
        · have b1 : ((y.shares : Int) == 0) = false := by rw [beq_eq_false_iff_ne]; omega
          have HE : Hid (res = some (insO y S)) := by have := HR2.out; rw [if_neg (by rintro (hh | hh); exact hh (Or.inr hsd); exact hsh hh)] at this; exact this
          clear hsh hsd HR2
          go_wp2_with fail
          refine HIN.out.mono ?_
          rintro e w2 ⟨v2, rfl, hr2, hb2⟩
          have H2 := Hid.mk (And.intro hr2 hb2)
          clear hr2 hb2
          go_wp2_with fail
          go_ret2
          have hbW := Nat.le_trans hb HBO.out.size
          exact ⟨HBO.out.trans (H2.out.2.mono hbW), Or.inr ⟨_, v2, HE.out, rfl, ownsRow_base H2.out.1 hbW, HH.out.2.ins ⟨HSM.out, HTK.out⟩⟩⟩
      · have HE : Hid (res = none) := by have := HR2.out; rw [if_pos (Or.inl hsd)] at this; exact this
        clear hsd HR2
        go_wp2_with fail
        go_ret2
        exact ⟨HBO.out, Or.inl ⟨HE.out, rfl⟩⟩

end Go.Proofs.Ytphkchjejbffeaa

/- The walks of tapeBytes, follow and Build. -/
namespace Go.Proofs.Ytphkchjejbffeaa
open Go.RowKit
attribute [local go_sem ↓] Go.wp_at_zero Go.wp_at_succ

set_option maxHeartbeats 400000 in
theorem tapeBytes_any (t : UInt8) (w : World) : Calls Try.prog 37 #[.int .u8 t.toNat] w fun e w' => e = .returned (.int .i64 (tSize t : Nat)) ∧ w' = w := by
  have ne : ∀ u : UInt8, t ≠ u → (((t.toNat : Int)) == (u.toNat : Int)) = false := by
    intro u hu
    rw [beq_eq_false_iff_ne]
    intro e
    exact hu (UInt8.toNat_inj.1 (by omega))
  have hall : t = 97 ∨ t = 101 ∨ t = 120 ∨ t = 100 ∨ t = 117 ∨ (t ≠ 97 ∧ t ≠ 101 ∧ t ≠ 120 ∧ t ≠ 100 ∧ t ≠ 117) := by
    by_cases h1 : t = 97
    · exact .inl h1
    · by_cases h2 : t = 101
      · exact .inr (.inl h2)
      · by_cases h3 : t = 120
        · exact .inr (.inr (.inl h3))
        · by_cases h4 : t = 100
          · exact .inr (.inr (.inr (.inl h4)))
          · by_cases h5 : t = 117
            · exact .inr (.inr (.inr (.inr (.inl h5))))
            · exact .inr (.inr (.inr (.inr (.inr ⟨h1, h2, h3, h4, h5⟩))))
  rcases hall with rfl | rfl | rfl | rfl | rfl | ⟨h1, h2, h3, h4, h5⟩
  · go_enter Try.func37, Try.ntmps37
    go_wp2
    go_ret
    exact ⟨rfl, rfl⟩
  · go_enter Try.func37, Try.ntmps37
    go_wp2
    go_ret
    exact ⟨rfl, rfl⟩
  · go_enter Try.func37, Try.ntmps37
    go_wp2
    go_ret
    exact ⟨rfl, rfl⟩
  · go_enter Try.func37, Try.ntmps37
    go_wp2
    go_ret
    exact ⟨rfl, rfl⟩
  · go_enter Try.func37, Try.ntmps37
    go_wp2
    go_ret
    exact ⟨rfl, rfl⟩
  · have e1 : (((t.toNat : Int)) == 97) = false := ne 97 h1
    have e2 : (((t.toNat : Int)) == 101) = false := ne 101 h2
    have e3 : (((t.toNat : Int)) == 120) = false := ne 120 h3
    have e4 : (((t.toNat : Int)) == 100) = false := ne 100 h4
    have e5 : (((t.toNat : Int)) == 117) = false := ne 117 h5
    have HS : Hid (tSize t = 0) := by
      show _ = _
      unfold tSize
      rw [if_neg h1, if_neg h2, if_neg h3, if_neg h4, if_neg h5]
    clear ne h1 h2 h3 h4 h5
    go_enter Try.func37, Try.ntmps37
    go_wp2
    go_ret
    exact ⟨by rw [HS.out]; rfl, rfl⟩

theorem tSize_cases (t : UInt8) : tSize t = 0 ∨ (t = 97 ∧ tSize t = 17) ∨ (t = 101 ∧ tSize t = 17) ∨ (t = 120 ∧ tSize t = 13) ∨ (t = 100 ∧ tSize t = 11) ∨ (t = 117 ∧ tSize t = 19) := by
  by_cases h1 : t = 97
  · subst h1; exact .inr (.inl ⟨rfl, rfl⟩)
  · by_cases h2 : t = 101
    · subst h2; exact .inr (.inr (.inl ⟨rfl, rfl⟩))
    · by_cases h3 : t = 120
      · subst h3; exact .inr (.inr (.inr (.inl ⟨rfl, rfl⟩)))
      · by_cases h4 : t = 100
        · subst h4; exact .inr (.inr (.inr (.inr (.inl ⟨rfl, rfl⟩))))
        · by_cases h5 : t = 117
          · subst h5; exact .inr (.inr (.inr (.inr (.inr ⟨rfl, rfl⟩))))
          · left
            unfold tSize
            rw [if_neg h1, if_neg h2, if_neg h3, if_neg h4, if_neg h5]

set_option maxRecDepth 100000 in
set_option maxHeartbeats 1000000 in
theorem follow_any {w : World} {base r : Nat} {L : List Ord} (h : RbAt w base r L) (hb : base ≤ w.heap.size) (hL : L.length < 4398046511104) (t : UInt8) (g o n cap : Nat) (f : List UInt8) (hf : f.length = n) (hn : n = tSize t - 7) (hz : tSize t ≠ 0) (hc : n ≤ cap) (hc2 : cap ≤ 9223372036854775807) (hl : Lies w g o f) (hg : g < w.heap.size) :
    Calls Try.prog 38 #[.pointer (some ⟨r, 0, none⟩), .int .u8 t.toNat, .slice (some ⟨g, o, none⟩) n cap] w (FolP (fol L t f) base r w) := by
  rcases tSize_cases t with e | ⟨rfl, e⟩ | ⟨rfl, e⟩ | ⟨rfl, e⟩ | ⟨rfl, e⟩ | ⟨rfl, e⟩
  · exact absurd e hz
  · obtain rfl : n = 10 := by rw [hn, e]
    have HX := Hid.mk (rests_tape h hb hL g o cap f hf hc hc2 hl hg)
    clear h hl hn hz e
    go_enter Try.func38, Try.ntmps38
    go_wp2_with fail
    refine HX.out.mono ?_
    rintro e w1 ⟨hB, ⟨h1, rfl⟩ | ⟨L', h1, rfl, h2⟩⟩
    · go_wp2_with fail
      go_ret
      exact ⟨hB, Or.inl ⟨h1, rfl⟩⟩
    · go_wp2_with fail
      go_ret
      exact ⟨hB, Or.inr ⟨L', h1, rfl, h2⟩⟩
  · obtain rfl : n = 10 := by rw [hn, e]
    have HX := Hid.mk (executed_any h hb g o cap f hf hc hc2 hl)
    clear h hl hn hz e
    go_enter Try.func38, Try.ntmps38
    go_wp2_with fail
    refine HX.out.mono ?_
    rintro e w1 ⟨hB, ⟨h1, rfl⟩ | ⟨L', h1, rfl, h2⟩⟩
    · go_wp2_with fail
      go_ret
      exact ⟨hB, Or.inl ⟨h1, rfl⟩⟩
    · go_wp2_with fail
      go_ret
      exact ⟨hB, Or.inr ⟨L', h1, rfl, h2⟩⟩
  · obtain rfl : n = 6 := by rw [hn, e]
    have HX := Hid.mk (lessened_any h hb g o cap f hf hc hc2 hl)
    clear h hl hn hz e
    go_enter Try.func38, Try.ntmps38
    go_wp2_with fail
    refine HX.out.mono ?_
    rintro e w1 ⟨hB, ⟨h1, rfl⟩ | ⟨L', h1, rfl, h2⟩⟩
    · go_wp2_with fail
      go_ret
      exact ⟨hB, Or.inl ⟨h1, rfl⟩⟩
    · go_wp2_with fail
      go_ret
      exact ⟨hB, Or.inr ⟨L', h1, rfl, h2⟩⟩
  · obtain rfl : n = 4 := by rw [hn, e]
    have HX := Hid.mk (gone_any h hb g o cap f hf hc hc2 hl)
    clear h hl hn hz e
    go_enter Try.func38, Try.ntmps38
    go_wp2_with fail
    refine HX.out.mono ?_
    rintro e w1 ⟨hB, ⟨h1, rfl⟩ | ⟨L', h1, rfl, h2⟩⟩
    · go_wp2_with fail
      go_ret
      exact ⟨hB, Or.inl ⟨h1, rfl⟩⟩
    · go_wp2_with fail
      go_ret
      exact ⟨hB, Or.inr ⟨L', h1, rfl, h2⟩⟩
  · obtain rfl : n = 12 := by rw [hn, e]
    have HX := Hid.mk (swapped_any h hb hL g o cap f hf hc hc2 hl)
    clear h hl hn hz e
    go_enter Try.func38, Try.ntmps38
    go_wp2_with fail
    refine HX.out.mono ?_
    rintro e w1 ⟨hB, ⟨h1, rfl⟩ | ⟨L', h1, rfl, h2⟩⟩
    · go_wp2_with fail
      go_ret
      exact ⟨hB, Or.inl ⟨h1, rfl⟩⟩
    · go_wp2_with fail
      go_ret
      exact ⟨hB, Or.inr ⟨L', h1, rfl, h2⟩⟩

end Go.Proofs.Ytphkchjejbffeaa

/- The walk of Build. -/
namespace Go.Proofs.Ytphkchjejbffeaa
open Go.RowKit
attribute [local go_sem ↓] Go.wp_at_zero Go.wp_at_succ

theorem ch_len (t : Nat) (f : Ord → Ord) (L : List Ord) : (chL t f L).length = L.length := by unfold chL; rw [List.length_map]
theorem fol_len {L L' : List Ord} {c : UInt8} {f : List UInt8} (h : fol L c f = some L') : L'.length = L.length ∨ (L'.length = L.length + 1 ∧ 17 ≤ tSize c) := by
  unfold fol at h
  split at h
  · rename_i hc
    unfold fRests at h
    split at h
    · cases h
    · cases h
      right
      exact ⟨by simp, by rw [hc]; decide⟩
  · split at h
    · unfold fExec at h
      split at h
      · cases h
      · cases h
        exact .inl (ch_len _ _ _)
    · split at h
      · unfold fLess at h
        split at h
        · cases h
        · cases h
          exact .inl (ch_len _ _ _)
      · split at h
        · unfold fGone at h
          split at h
          · cases h
          · cases h
            exact .inl (ch_len _ _ _)
        · split at h
          · rename_i hc
            unfold fSwap at h
            split at h
            · cases h
            · split at h
              · cases h
              · split at h
                · cases h
                  exact .inl (ch_len _ _ _)
                · cases h
                  right
                  refine ⟨?_, by rw [hc]; decide⟩
                  rw [List.length_append]
                  show (chL _ _ L).length + 1 = _
                  rw [ch_len]
          · cases h

/-- What Build answers. -/
def BuiltP (w : World) (tape : List UInt8) (e : Ending) (w' : World) : Prop :=
  Below w.heap.size w w' ∧
  ((∃ L v C, (built tape).1 = some L ∧ e = .returned (.tuple #[v, .int .i64 0, .int .i64 0]) ∧ Srt (ltc byB) C ∧ Cls (ltc byB) (L.filter alive) C ∧ w'.ownsRow w.heap.size 46 6 v C.length (C.flatMap Ord.cells)) ∨
   ((built tape).1 = none ∧ e = .returned (.tuple #[.slice none 0 0, .int .i64 ((tape.length : Int) - ((built tape).2.length : Int)), .int .i64 2])))

theorem tb_nil (k : Nat) (L : List Ord) : tb k L [] = (some L, []) := by
  cases k with
  | zero => rfl
  | succ k => rfl
theorem tb_bad {k : Nat} {L : List Ord} {b : List UInt8} (hk : b.length ≤ k) (hb : b ≠ []) (h : tSize (byteAt b 0) = 0 ∨ b.length < tSize (byteAt b 0)) : tb k L b = (none, b) := by
  cases k with
  | zero => exact absurd (List.length_eq_zero_iff.1 (by omega)) hb
  | succ k =>
    show (if _ then _ else _) = _
    rw [if_neg hb, if_pos h]
theorem tb_fol {k : Nat} {L : List Ord} {b : List UInt8} (hk : b.length ≤ k) (hb : b ≠ []) (h : ¬ (tSize (byteAt b 0) = 0 ∨ b.length < tSize (byteAt b 0))) :
    (fol L (byteAt b 0) ((b.take (tSize (byteAt b 0))).drop 7) = none → tb k L b = (none, b)) ∧
    (∀ L', fol L (byteAt b 0) ((b.take (tSize (byteAt b 0))).drop 7) = some L' → ∃ k', (b.drop (tSize (byteAt b 0))).length ≤ k' ∧ tb k L b = tb k' L' (b.drop (tSize (byteAt b 0)))) := by
  cases k with
  | zero => exact absurd (List.length_eq_zero_iff.1 (by omega)) hb
  | succ k =>
    have e : tb (k + 1) L b = match fol L (byteAt b 0) ((b.take (tSize (byteAt b 0))).drop 7) with
      | none => (none, b)
      | some L' => tb k L' (b.drop (tSize (byteAt b 0))) := by
      show (if _ then _ else _) = _
      rw [if_neg hb, if_neg h]
      rfl
    refine ⟨fun h1 => by rw [e, h1], fun L' h1 => ⟨k, ?_, by rw [e, h1]⟩⟩
    rw [List.length_drop]
    omega

theorem rb_new (w : World) : RbAt ((w.alloc (.map #[] 0)).alloc (.cells #[.slice none 0 0, .map (some w.heap.size)] 94)) w.heap.size (w.heap.size + 1) [] := by
  refine ⟨.slice none 0 0, w.heap.size, 0, fun _ => none, RbC.mk' ?_ (World.ownsRow_nil _ _ _ _) ?_ (by omega) (Nat.le_refl _), Ix.nil, Nat.le_refl _, fun o ho => by cases ho⟩
  · rw [heap_alloc, if_pos (by rw [size_alloc])]
  · exact (IsM.new w).keep (by rw [heap_alloc, if_neg (by rw [size_alloc]; omega)])

set_option maxRecDepth 100000 in
set_option maxHeartbeats 4000000 in
theorem build_any (w : World) (v : Value) (tape : List UInt8) (hv : Rd w (fun _ => False) v tape) (hlen : tape.length ≤ 40000000000000) :
    Calls Try.prog 24 #[v] w (BuiltP w tape) := by
  obtain ⟨ra, n0, cap, rfl, hn0, hcap, HL⟩ : ∃ ra n0 cap, v = .slice ra n0 cap ∧ n0 = tape.length ∧ (n0 ≤ cap ∧ cap ≤ 9223372036854775807) ∧ Hid (tape ≠ [] → ∃ g o, ra = some ⟨g, o, none⟩ ∧ Lies w g o tape ∧ g < w.heap.size) := by
    rcases hv with ⟨rfl, rfl⟩ | ⟨g, o, cap, rfl, h1, h2, h3, -, h5⟩
    · exact ⟨none, 0, 0, rfl, rfl, ⟨by omega, by omega⟩, fun h => absurd rfl h⟩
    · exact ⟨_, _, cap, rfl, rfl, ⟨h2, by unfold maxLen at h3; omega⟩, fun _ => ⟨g, o, rfl, h1, h5⟩⟩
  have hmk : (Instr.makeMap 78 none).run Try.prog w = .ok (.map (some w.heap.size)) (w.alloc (.map #[] 0)) := rfl
  have HN0 := Hid.mk hn0
  have hn1 : (n0 : Int) ≤ 40000000000000 := by omega
  have HRB := Hid.mk (rb_new w)
  clear hv hlen hn0
  go_enter Try.func24, Try.ntmps24
  go_wp2_with fail
  have HB0 : Hid (Below w.heap.size w ((w.alloc (.map #[] 0)).alloc (.cells #[.slice none 0 0, .map (some w.heap.size)] 94))) := Below.alloc ((Below.refl _ w).alloc (Nat.le_refl _) _) (by rw [size_alloc]; omega) _
  go_loopw [6] (fun vb wr => ∃ (rb : Option Addr) (nb cb : Nat), vb = .slice rb nb cb ∧ nb ≤ cb ∧ cb ≤ 9223372036854775807 ∧ nb ≤ n0 ∧ Hid (∃ (k : Nat) (b : List UInt8) (L : List Ord), tb k L b = built tape ∧ b.length ≤ k ∧ nb = b.length ∧ (b ≠ [] → ∃ g o, rb = some ⟨g, o, none⟩ ∧ Lies w g o b ∧ g < w.heap.size) ∧ RbAt wr w.heap.size (w.heap.size + 1) L ∧ 17 * L.length + b.length ≤ tape.length ∧ Below w.heap.size w wr)) (fun vb _ => match vb with | .slice _ nb _ => nb | _ => 0)
  case atStart => exact ⟨ra, n0, cap, rfl, hcap.1, hcap.2, Nat.le_refl _, tape.length, tape, [], rfl, Nat.le_refl _, HN0.out, HL.out, HRB.out, by simp, HB0.out⟩
  case round =>
    obtain ⟨rb, nb, cb, rfl, hb1, hb2, hb3, HI⟩ := hrel
    by_cases hz : nb = 0
    · have i1 : ¬ (0 : Int) < (nb : Int) := by omega
      have HX : Hid (∃ L, (built tape).1 = some L ∧ RbAt wr w.heap.size (w.heap.size + 1) L ∧ L.length ≤ 2900000000000 ∧ Below w.heap.size w wr) := by
        obtain ⟨k, b, L, e1, e2, e3, e4, e5, e6, e7⟩ := HI.out
        have hbn : b = [] := List.length_eq_zero_iff.1 (by omega)
        subst hbn
        rw [tb_nil] at e1
        refine ⟨L, by rw [← e1], e5, ?_, e7⟩
        have := HN0.out
        omega
      obtain ⟨L, x1, x2, x3, x4⟩ := HX.out
      have HLI := Hid.mk (list_any x2 x3)
      have HX1 := Hid.mk (And.intro x1 x4)
      clear HI HX x1 x2 x3 x4 hz
      go_wp2_with fail
      refine HLI.out.mono ?_
      rintro e w2 ⟨v2, C, rfl, c1, c2, c3, c4⟩
      have H2 := Hid.mk (And.intro c1 (And.intro c2 (And.intro c3 c4)))
      clear c1 c2 c3 c4
      go_wp2_with fail
      refine bodyPost_ret (v := .tuple #[v2, .int .i64 0, .int .i64 0]) (by simp [results, Try.results24, go_sem]) rfl ?_
      refine ⟨HX1.out.2.trans (H2.out.2.2.2.mono HX1.out.2.size), Or.inl ⟨L, v2, C, HX1.out.1, rfl, H2.out.1, H2.out.2.1, ?_⟩⟩
      exact ownsRow_base H2.out.2.2.1 HX1.out.2.size
    · have i1 : (0 : Int) < (nb : Int) := by omega
      obtain ⟨k, b, L, e1, e2, e3, e4, e5, e6, e7⟩ := HI.out
      have hbne : b ≠ [] := fun e => hz (by rw [e3, e]; rfl)
      obtain ⟨g, o, rfl, hli, hgl⟩ := e4 hbne
      have hlw : Lies wr g o b := hli.keep (e7.block g hgl)
      have c0 : wr.cell? ⟨g, o, none⟩ = some (.int .u8 (byteAt b 0).toNat) := hlw.cell 0 (by omega)
      have HTB := Hid.mk (tapeBytes_any (byteAt b 0) wr)
      obtain ⟨sz, hsz⟩ : ∃ sz, tSize (byteAt b 0) = sz := ⟨_, rfl⟩
      rw [hsz] at HTB
      have hszc : sz = 0 ∨ (11 ≤ sz ∧ sz ≤ 19) := by
        rcases tSize_cases (byteAt b 0) with e | ⟨-, e⟩ | ⟨-, e⟩ | ⟨-, e⟩ | ⟨-, e⟩ | ⟨-, e⟩ <;> omega
      have hgw : g < wr.heap.size := Nat.lt_of_lt_of_le hgl e7.size
      have HE := Hid.mk (And.intro e1 (And.intro e2 (And.intro e3 (And.intro hli (And.intro hlw (And.intro e5 (And.intro e6 (And.intro e7 (And.intro hbne hsz)))))))))
      have HT : Hid ((tape.length : Int) = (n0 : Int) ∧ (b.length : Int) = (nb : Int)) := ⟨by have := HN0.out; omega, by omega⟩
      clear HI e1 e2 e3 e4 e5 e6 e7 hli hlw hbne hsz hz
      have i2 : (nb : Int) ≤ (n0 : Int) := by omega
      have w1 : IntKind.i64.wrap ((n0 : Int) - (nb : Int)) = (n0 : Int) - (nb : Int) := by rw [IntKind.wrap_i64]; omega
      go_wp2_with fail
      refine HTB.out.mono ?_
      rintro e w2 ⟨rfl, hw⟩
      replace hw := hw.symm
      subst hw
      clear HTB
      by_cases hs0 : sz = 0
      · have b0 : ((sz : Int) == 0) = true := by simp [hs0]
        have HR : Hid (built tape = (none, b)) := by
          obtain ⟨e1, e2, e3, -, -, -, -, -, hbne, hsz⟩ := HE.out
          rw [← e1]
          exact tb_bad e2 hbne (Or.inl (by omega))
        clear hs0 hszc c0
        go_wp2_with fail
        refine bodyPost_ret (v := .tuple #[.slice none 0 0, .int .i64 ((n0 : Int) - (nb : Int)), .int .i64 2]) (by simp [results, Try.results24, go_sem]) rfl ?_
        refine ⟨HE.out.2.2.2.2.2.2.2.1, Or.inr ⟨by rw [HR.out], ?_⟩⟩
        rw [HR.out, HT.out.1, HT.out.2]
      · have b0 : ((sz : Int) == 0) = false := by rw [beq_eq_false_iff_ne]; omega
        have hs1 : 11 ≤ sz ∧ sz ≤ 19 := by omega
        by_cases hlt : nb < sz
        · have b1 : (nb : Int) < (sz : Int) := by omega
          have HR : Hid (built tape = (none, b)) := by
            obtain ⟨e1, e2, e3, -, -, -, -, -, hbne, hsz⟩ := HE.out
            rw [← e1]
            exact tb_bad e2 hbne (Or.inr (by omega))
          clear hs0 hszc c0
          go_wp2_with fail
          refine bodyPost_ret (v := .tuple #[.slice none 0 0, .int .i64 ((n0 : Int) - (nb : Int)), .int .i64 2]) (by simp [results, Try.results24, go_sem]) rfl ?_
          refine ⟨HE.out.2.2.2.2.2.2.2.1, Or.inr ⟨by rw [HR.out], ?_⟩⟩
          rw [HR.out, HT.out.1, HT.out.2]
        · have b1 : ¬ (nb : Int) < (sz : Int) := by omega
          have b2 : (7 : Int) ≤ (sz : Int) := by omega
          have b3 : (sz : Int) ≤ (cb : Int) := by omega
          have b4 : ¬ cb = 7 := by omega
          have b5 : (sz : Int) ≤ (nb : Int) := by omega
          have b6 : (nb : Int) ≤ (cb : Int) := by omega
          have HFO : Hid (∀ n7, sz - 7 = n7 → Calls Try.prog 38 #[.pointer (some ⟨w.heap.size + 1, 0, none⟩), .int .u8 (byteAt b 0).toNat, .slice (some ⟨g, o + 7, none⟩) n7 (cb - 7)] wr (FolP (fol L (byteAt b 0) ((b.take sz).drop 7)) w.heap.size (w.heap.size + 1) wr)) := by
            rintro n7 rfl
            obtain ⟨e1, e2, e3, hli, hlw, e5, e6, e7, hbne, hsz⟩ := HE.out
            have hN := HN0.out
            exact follow_any e5 e7.size (by omega) (byteAt b 0) g (o + 7) (sz - 7) (cb - 7) ((b.take sz).drop 7) (by rw [List.length_drop, List.length_take]; omega) (by rw [hsz]) (by omega) (by omega) (by omega) ((hlw.take sz).drop 7) hgw
          have HF2 : Hid ((fol L (byteAt b 0) ((b.take sz).drop 7) = none → built tape = (none, b)) ∧ (∀ L', fol L (byteAt b 0) ((b.take sz).drop 7) = some L' → 17 * L'.length + (b.drop sz).length ≤ tape.length ∧ ∃ k', (b.drop sz).length ≤ k' ∧ tb k' L' (b.drop sz) = built tape)) := by
            obtain ⟨e1, e2, e3, hli, hlw, e5, e6, e7, hbne, hsz⟩ := HE.out
            have := tb_fol (L := L) e2 hbne (by omega)
            rw [hsz, e1] at this
            refine ⟨this.1, fun L' h' => ?_⟩
            obtain ⟨k', x1, x2⟩ := this.2 L' h'
            refine ⟨?_, k', x1, x2.symm⟩
            have hfl := fol_len h'
            rw [hsz] at hfl
            rw [List.length_drop]
            omega
          generalize fol L (byteAt b 0) ((b.take sz).drop 7) = res at *
          clear hs0 hszc
          go_wp2_with fail
          refine (HFO.out _ rfl).mono ?_
          rintro e w2 ⟨hB2, ⟨hr2, rfl⟩ | ⟨L2, hr2, rfl, hR2⟩⟩
          · have H2 := Hid.mk (And.intro hB2 (HF2.out.1 hr2))
            clear hB2 hr2 HFO c0
            go_wp2_with fail
            refine bodyPost_ret (v := .tuple #[.slice none 0 0, .int .i64 ((n0 : Int) - (nb : Int)), .int .i64 2]) (by simp [results, Try.results24, go_sem]) rfl ?_
            refine ⟨HE.out.2.2.2.2.2.2.2.1.trans H2.out.1, Or.inr ⟨by rw [H2.out.2], ?_⟩⟩
            rw [H2.out.2, HT.out.1, HT.out.2]
          · have H2 := Hid.mk (And.intro hB2 (And.intro hR2 (HF2.out.2 L2 hr2)))
            clear hB2 hr2 hR2 HFO c0
            have HNX : Hid (∀ (rb' : Option Addr) (nb' cb' : Nat), nb' = nb - sz → (cb ≠ sz → rb' = some ⟨g, o + sz, none⟩) → ∃ (k : Nat) (b : List UInt8) (L : List Ord), tb k L b = built tape ∧ b.length ≤ k ∧ nb' = b.length ∧ (b ≠ [] → ∃ g o, rb' = some ⟨g, o, none⟩ ∧ Lies w g o b ∧ g < w.heap.size) ∧ RbAt w2 w.heap.size (w.heap.size + 1) L ∧ 17 * L.length + b.length ≤ tape.length ∧ Below w.heap.size w w2) := by
              intro rb' nb' cb' h1 h2
              obtain ⟨e1, e2, e3, hli, hlw, e5, e6, e7, hbne, hsz⟩ := HE.out
              obtain ⟨y1, y2, y3, k', y4, y5⟩ := H2.out
              refine ⟨k', b.drop sz, L2, y5, y4, by rw [List.length_drop]; omega, ?_, y2, y3, e7.trans y1⟩
              intro hne
              have hlen : (b.drop sz).length ≠ 0 := fun e => hne (List.length_eq_zero_iff.1 e)
              rw [List.length_drop] at hlen
              exact ⟨g, o + sz, h2 (by omega), hli.drop sz, hgl⟩
            by_cases hcs : cb = sz
            · subst hcs
              have hnb : nb = cb := by omega
              subst hnb
              go_wp2_with fail
              refine ⟨⟨_, 0, 0, rfl, Nat.le_refl _, by omega, Nat.zero_le _, HNX.out _ 0 0 (by omega) (fun h => absurd rfl h)⟩, ?_⟩
              show 0 < nb
              omega
            · have b7 : ¬ cb = sz := hcs
              go_wp2_with fail
              refine ⟨⟨_, nb - sz, cb - sz, rfl, by omega, by omega, by omega, HNX.out _ (nb - sz) (cb - sz) rfl (fun _ => rfl)⟩, ?_⟩
              show nb - sz < nb
              omega

end Go.Proofs.Ytphkchjejbffeaa

/- The walk of the document's Build. -/
namespace Go.Proofs.Ytphkchjejbffeaa
open Go.RowKit
attribute [local go_sem ↓] Go.wp_at_zero Go.wp_at_succ

theorem rtaped_any {w : World} {base : Nat} {v : Value} {S : List Ord} (h : RsAt w base v S) (hsm : SmR S) (hb : base ≤ w.heap.size) (hn : S.length ≤ 1000000000) (gm om n cm : Nat) (c : UInt8) (M : List UInt8) (hM : Lies w gm om M) (hl : M.length = n) (hnc : n = tSize c) (hz : tSize c ≠ 0) (hc : n ≤ cm) (hcm : cm ≤ 9223372036854775807) (hgm : gm < base) (h0 : byteAt M 0 = c) :
    Calls Try.prog 68 #[v, .slice (some ⟨gm, om, none⟩) n cm] w (RefP (rTaped S c (M.drop 7)) base w) := by
  rcases tSize_cases c with e | ⟨rfl, e⟩ | ⟨rfl, e⟩ | ⟨rfl, e⟩ | ⟨rfl, e⟩ | ⟨rfl, e⟩
  · exact absurd e hz
  · obtain rfl : n = 17 := by rw [hnc, e]
    exact rtaped_a h hsm hb hn gm om cm M hM hl hc hcm hgm h0
  · obtain rfl : n = 17 := by rw [hnc, e]
    exact rtaped_e h hsm hb hn gm om cm M hM hl hc hcm hgm h0
  · obtain rfl : n = 13 := by rw [hnc, e]
    exact rtaped_x h hsm hb hn gm om cm M hM hl hc hcm hgm h0
  · obtain rfl : n = 11 := by rw [hnc, e]
    exact rtaped_d h hsm hb hn gm om cm M hM hl hc hcm hgm h0
  · obtain rfl : n = 19 := by rw [hnc, e]
    exact rtaped_u h hsm hb hn gm om cm M hM hl hc hcm hgm h0

theorem ins_len (o : Ord) (S : List Ord) : (insO o S).length = S.length + 1 := by
  induction S with
  | nil => rfl
  | cons x S ih =>
    unfold insO
    split
    · rw [List.length_cons, ih, List.length_cons]
    · rfl
theorem rtaped_len {S S' : List Ord} {c : UInt8} {f : List UInt8} (h : rTaped S c f = some S') : S'.length ≤ S.length + 1 := by
  have he : ∀ i, (S.eraseIdx i).length ≤ S.length := fun i => by rw [List.length_eraseIdx]; split <;> omega
  have hg : ∀ i n all, rGone S i n all = some S' → S'.length ≤ S.length + 1 := by
    intro i n all h
    unfold rGone at h
    split at h
    · cases h
    · split at h
      · cases h
      · split at h
        · cases h
        · split at h
          · cases h
            exact Nat.le_succ_of_le (he _)
          · cases h
            rw [List.length_set]
            omega
  unfold rTaped at h
  split at h
  · split at h
    · cases h
    · cases h
      rw [ins_len]
      exact Nat.le_refl _
  · split at h
    · exact hg _ _ _ h
    · split at h
      · exact hg _ _ _ h
      · split at h
        · unfold rOther at h
          split at h
          · cases h
          · split at h
            · cases h
            · split at h
              · cases h
              · split at h
                · cases h
                  rw [List.length_set]
                  omega
                · cases h
                  rw [ins_len]
                  exact Nat.succ_le_succ (he _)
        · rw [Option.map_eq_some_iff] at h
          obtain ⟨i, -, rfl⟩ := h
          exact Nat.le_succ_of_le (he _)

theorem rb_nil (k : Nat) (L : List Ord) : rb k L [] = (some L, []) := by
  cases k with
  | zero => rfl
  | succ k => rfl
theorem rb_bad {k : Nat} {L : List Ord} {b : List UInt8} (hk : b.length ≤ k) (hb : b ≠ []) (h : tSize (byteAt b 0) = 0 ∨ b.length < tSize (byteAt b 0)) : rb k L b = (none, b) := by
  cases k with
  | zero => exact absurd (List.length_eq_zero_iff.1 (by omega)) hb
  | succ k =>
    show (if _ then _ else _) = _
    rw [if_neg hb, if_pos h]
theorem rb_fol {k : Nat} {L : List Ord} {b : List UInt8} (hk : b.length ≤ k) (hb : b ≠ []) (h : ¬ (tSize (byteAt b 0) = 0 ∨ b.length < tSize (byteAt b 0))) :
    (rTaped L (byteAt b 0) ((b.take (tSize (byteAt b 0))).drop 7) = none → rb k L b = (none, b)) ∧
    (∀ L', rTaped L (byteAt b 0) ((b.take (tSize (byteAt b 0))).drop 7) = some L' → ∃ k', (b.drop (tSize (byteAt b 0))).length ≤ k' ∧ rb k L b = rb k' L' (b.drop (tSize (byteAt b 0)))) := by
  cases k with
  | zero => exact absurd (List.length_eq_zero_iff.1 (by omega)) hb
  | succ k =>
    have e : rb (k + 1) L b = match rTaped L (byteAt b 0) ((b.take (tSize (byteAt b 0))).drop 7) with
      | none => (none, b)
      | some L' => rb k L' (b.drop (tSize (byteAt b 0))) := by
      show (if _ then _ else _) = _
      rw [if_neg hb, if_neg h]
      rfl
    refine ⟨fun h1 => by rw [e, h1], fun L' h1 => ⟨k, ?_, by rw [e, h1]⟩⟩
    rw [List.length_drop]
    omega

/-- What the document's Build answers. -/
def RBuiltP (w : World) (tape : List UInt8) (e : Ending) (w' : World) : Prop :=
  Below w.heap.size w w' ∧
  ((∃ S v, (rb tape.length [] tape).1 = some S ∧ e = .returned (.tuple #[v, .int .i64 0, .int .i64 0]) ∧ RsAt w' w.heap.size v S) ∨
   ((rb tape.length [] tape).1 = none ∧ e = .returned (.tuple #[.slice none 0 0, .int .i64 ((tape.length : Int) - ((rb tape.length [] tape).2.length : Int)), .int .i64 2])))

set_option maxRecDepth 100000 in
set_option maxHeartbeats 4000000 in
theorem rbuild_any (w : World) (v : Value) (tape : List UInt8) (hv : Rd w (fun _ => False) v tape) (hlen : tape.length ≤ 10000000) :
    Calls Try.prog 42 #[v] w (RBuiltP w tape) := by
  obtain ⟨ra, n0, cap, rfl, hn0, hcap, HL⟩ : ∃ ra n0 cap, v = .slice ra n0 cap ∧ n0 = tape.length ∧ (n0 ≤ cap ∧ cap ≤ 9223372036854775807) ∧ Hid (tape ≠ [] → ∃ g o, ra = some ⟨g, o, none⟩ ∧ Lies w g o tape ∧ g < w.heap.size) := by
    rcases hv with ⟨rfl, rfl⟩ | ⟨g, o, cap, rfl, h1, h2, h3, -, h5⟩
    · exact ⟨none, 0, 0, rfl, rfl, ⟨by omega, by omega⟩, fun h => absurd rfl h⟩
    · exact ⟨_, _, cap, rfl, rfl, ⟨h2, by unfold maxLen at h3; omega⟩, fun _ => ⟨g, o, rfl, h1, h5⟩⟩
  have HN0 := Hid.mk hn0
  have hn1 : (n0 : Int) ≤ 10000000 := by omega
  obtain ⟨R, hR⟩ : ∃ R, rb tape.length [] tape = R := ⟨_, rfl⟩
  have HRR := Hid.mk hR
  clear hv hlen hn0 hR
  go_enter Try.func42, Try.ntmps42
  go_wp2_with fail
  go_loopw [5, 6] (fun vl va wr => ∃ (rl : Option Addr) (nl cl a : Nat), vl = .slice rl nl cl ∧ va = .int .i64 a ∧ a ≤ n0 ∧ Hid (∃ (k : Nat) (S : List Ord), rb k S (tape.drop a) = R ∧ (tape.drop a).length ≤ k ∧ RsAt wr w.heap.size (.slice rl nl cl) S ∧ SmR S ∧ S.length ≤ a ∧ Below w.heap.size w wr)) (fun _ va _ => n0 - (intOf va).toNat)
  case atStart => exact ⟨none, 0, 0, 0, rfl, rfl, Nat.zero_le _, tape.length, [], HRR.out, Nat.le_refl _, World.ownsRow_nil _ _ _ _, fun o ho => (by cases ho), Nat.le_refl _, Below.refl _ _⟩
  case round =>
    obtain ⟨rl, nl, cl, a, rfl, rfl, ha, HI⟩ := hrel
    by_cases hz : a < n0
    · have i1 : (a : Int) < (n0 : Int) := by omega
      have i2 : (0 : Int) ≤ (a : Int) := by omega
      obtain ⟨k, S, e1, e2, e3, e4, e5, e6⟩ := HI.out
      have hbl : (tape.drop a).length = n0 - a := by rw [List.length_drop, HN0.out]
      have hbne : tape.drop a ≠ [] := fun e => by rw [e] at hbl; simp at hbl; omega
      have htne : tape ≠ [] := fun e => by rw [e] at hbne; simp at hbne
      obtain ⟨g, o, rfl, hli, hgl⟩ := HL.out htne
      have hlw : Lies wr g (o + a) (tape.drop a) := (hli.keep (e6.block g hgl)).drop a
      have c0 : wr.cell? ⟨g, o + a, none⟩ = some (.int .u8 (byteAt (tape.drop a) 0).toNat) := hlw.cell 0 (by omega)
      have HTB := Hid.mk (rlong_any (byteAt (tape.drop a) 0) wr)
      obtain ⟨sz, hsz⟩ : ∃ sz, tSize (byteAt (tape.drop a) 0) = sz := ⟨_, rfl⟩
      rw [hsz] at HTB
      have hszc : sz = 0 ∨ (11 ≤ sz ∧ sz ≤ 19) := by
        rcases tSize_cases (byteAt (tape.drop a) 0) with e | ⟨-, e⟩ | ⟨-, e⟩ | ⟨-, e⟩ | ⟨-, e⟩ | ⟨-, e⟩ <;> omega
      have HE := Hid.mk (And.intro e1 (And.intro e2 (And.intro hbl (And.intro hlw (And.intro e3 (And.intro e4 (And.intro e5 (And.intro e6 (And.intro hbne hsz)))))))))
      obtain ⟨b, hb0⟩ : ∃ b, tape.drop a = b := ⟨_, rfl⟩
      rw [hb0] at HE c0 HTB
      have hbd : Hid (b = tape.drop a) := hb0.symm
      clear HI hb0 e1 e2 e3 e4 e5 e6 hli hlw hbne hsz hbl htne
      obtain ⟨z, hz1⟩ : ∃ z, a + sz = z := ⟨_, rfl⟩
      have w1 : IntKind.i64.wrap ((a : Int) + (sz : Int)) = (z : Int) := by rw [IntKind.wrap_i64]; omega
      have w2 : (a : Int) + (sz : Int) = (z : Int) := by omega
      have w3 : wrap64 (z : Int) = (z : Int) := by unfold wrap64; omega
      have HT : Hid ((tape.length : Int) - (b.length : Int) = (a : Int)) := by
        have h1 := HN0.out
        have h2 := HE.out.2.2.1
        show _ = _
        omega
      go_wp2_with fail
      refine HTB.out.mono ?_
      rintro e w' ⟨rfl, hw⟩
      replace hw := hw.symm
      subst hw
      clear HTB
      by_cases hs0 : sz = 0
      · have b0 : ((sz : Int) == 0) = true := by simp [hs0]
        have HR : Hid (R = (none, b)) := by
          obtain ⟨e1, e2, e3, -, -, -, -, -, hbne, hsz⟩ := HE.out
          rw [← e1]
          exact rb_bad e2 hbne (Or.inl (by omega))
        clear hs0 hszc c0
        go_wp2_with fail
        refine bodyPost_ret (v := .tuple #[.slice none 0 0, .int .i64 a, .int .i64 2]) (by simp [results, Try.results42, go_sem]) rfl ?_
        refine ⟨HE.out.2.2.2.2.2.2.2.1, Or.inr ⟨by rw [HRR.out, HR.out], ?_⟩⟩
        rw [HRR.out, HR.out, HT.out]
      · have b0 : ((sz : Int) == 0) = false := by rw [beq_eq_false_iff_ne]; omega
        by_cases hlt : n0 < z
        · have b1 : (n0 : Int) < (z : Int) := by omega
          have HR : Hid (R = (none, b)) := by
            obtain ⟨e1, e2, e3, -, -, -, -, -, hbne, hsz⟩ := HE.out
            rw [← e1]
            exact rb_bad e2 hbne (Or.inr (by omega))
          clear hs0 hszc c0
          go_wp2_with fail
          refine bodyPost_ret (v := .tuple #[.slice none 0 0, .int .i64 a, .int .i64 2]) (by simp [results, Try.results42, go_sem]) rfl ?_
          refine ⟨HE.out.2.2.2.2.2.2.2.1, Or.inr ⟨by rw [HRR.out, HR.out], ?_⟩⟩
          rw [HRR.out, HR.out, HT.out]
        · have b1 : ¬ (n0 : Int) < (z : Int) := by omega
          have b2 : (a : Int) ≤ (z : Int) := by omega
          have b3 : (z : Int) ≤ (cap : Int) := by omega
          have b4 : ¬ cap = a := by omega
          have b5 : (cap : Int) ≤ 9223372036854775807 := by omega
          have hza : z - a = sz := by omega
          have hs1 : 11 ≤ sz := by omega
          have HTA : Hid (Calls Try.prog 68 #[.slice rl nl cl, .slice (some ⟨g, o + a, none⟩) sz (cap - a)] wr (RefP (rTaped S (byteAt b 0) ((b.take sz).drop 7)) w.heap.size wr)) := by
            obtain ⟨e1, e2, e3, hlw, e4, e5, e6, e7, hbne, hsz⟩ := HE.out
            exact rtaped_any e4 e5 e7.size (by omega) g (o + a) sz (cap - a) (byteAt b 0) (b.take sz) (hlw.take sz) (by rw [List.length_take]; omega) hsz.symm (by omega) (by omega) (by omega) hgl (by
              unfold byteAt
              rw [List.getD_eq_getElem?_getD, List.getD_eq_getElem?_getD, List.getElem?_take, if_pos (by omega)])
          have HF2 : Hid ((rTaped S (byteAt b 0) ((b.take sz).drop 7) = none → R = (none, b)) ∧ (∀ S', rTaped S (byteAt b 0) ((b.take sz).drop 7) = some S' → S'.length ≤ z ∧ ∃ k', (b.drop sz).length ≤ k' ∧ rb k' S' (b.drop sz) = R)) := by
            obtain ⟨e1, e2, e3, hlw, e4, e5, e6, e7, hbne, hsz⟩ := HE.out
            have := rb_fol (L := S) e2 hbne (by omega)
            rw [hsz, e1] at this
            refine ⟨this.1, fun L' h' => ?_⟩
            obtain ⟨k', x1, x2⟩ := this.2 L' h'
            have hfl := rtaped_len h'
            exact ⟨by omega, k', x1, x2.symm⟩
          generalize rTaped S (byteAt b 0) ((b.take sz).drop 7) = res at *
          clear hs0 hszc hz1
          go_wp2_with fail
          refine HTA.out.mono ?_
          rintro e w2 ⟨hB2, ⟨hr2, rfl⟩ | ⟨S2, v2, hr2, rfl, hR2, hS2⟩⟩
          · have H2 := Hid.mk (And.intro hB2 (HF2.out.1 hr2))
            clear hB2 hr2 HTA c0
            go_wp2_with fail
            refine bodyPost_ret (v := .tuple #[.slice none 0 0, .int .i64 a, .int .i64 2]) (by simp [results, Try.results42, go_sem]) rfl ?_
            refine ⟨HE.out.2.2.2.2.2.2.2.1.trans H2.out.1, Or.inr ⟨by rw [HRR.out, H2.out.2], ?_⟩⟩
            rw [HRR.out, H2.out.2, HT.out]
          · have H2 := Hid.mk (And.intro hB2 (And.intro hR2 (And.intro hS2 (HF2.out.2 S2 hr2))))
            obtain ⟨r3, c3, hv3, -, -, -⟩ := hR2.form
            subst hv3
            clear hB2 hr2 hR2 hS2 HTA c0
            go_wp2_with fail
            refine ⟨⟨r3, S2.length, c3, z, rfl, rfl, by omega, ?_⟩, ?_⟩
            · obtain ⟨y1, y2, y3, y4, k', y5, y6⟩ := H2.out
              have hdd : tape.drop z = b.drop sz := by rw [hbd.out, List.drop_drop, show a + sz = z by omega]
              show ∃ (k : Nat) (S : List Ord), _
              rw [hdd]
              exact ⟨k', S2, y6, y5, y2, y3, y4, HE.out.2.2.2.2.2.2.2.1.trans y1⟩
            · show n0 - (intOf (.int .i64 z)).toNat < n0 - (intOf (.int .i64 a)).toNat
              simp [intOf]
              omega
    · have i1 : ¬ (a : Int) < (n0 : Int) := by omega
      have HX : Hid (∃ S, R.1 = some S ∧ RsAt wr w.heap.size (.slice rl nl cl) S ∧ Below w.heap.size w wr) := by
        obtain ⟨k, S, e1, e2, e3, e4, e5, e6⟩ := HI.out
        have hbn : tape.drop a = [] := by rw [List.drop_eq_nil_iff]; have := HN0.out; omega
        rw [hbn, rb_nil] at e1
        exact ⟨S, by rw [← e1], e3, e6⟩
      clear HI
      go_wp2_with fail
      refine bodyPost_ret (v := .tuple #[.slice rl nl cl, .int .i64 0, .int .i64 0]) (by simp [results, Try.results42, go_sem]) rfl ?_
      obtain ⟨S, x1, x2, x3⟩ := HX.out
      exact ⟨x3, Or.inl ⟨S, _, by rw [HRR.out]; exact x1, rfl, x2⟩⟩

end Go.Proofs.Ytphkchjejbffeaa

/- string(b). -/
namespace Go.Proofs.Ytphkchjejbffeaa
open Go.RowKit

theorem run_str {w : World} {F : Nat → Prop} {v : Value} {l : List UInt8} (h : Rd w F v l) : (convert 28 9 v).run Try.prog w = .ok (.string ⟨l.toArray⟩) w := by
  rcases h with ⟨rfl, rfl⟩ | ⟨g, o, cap, rfl, hl, -⟩
  · rw [run_convert_bytes_nil w 28 5 Try.underlying28 Try.underlying5 0 0 9 Try.underlying9]
    rfl
  · refine run_convert_bytes_back w 28 9 5 ⟨g, o, none⟩ cap l Try.underlying28 Try.underlying5 Try.underlying9 ?_
    intro j hj
    rw [Addr.add_lit]
    exact hl j _ (List.getElem?_eq_getElem hj)

end Go.Proofs.Ytphkchjejbffeaa
