/- The walks of rebuilt's rests, executed, lessened, gone. -/
import Derived.Test.YtphkchjejbffeaaG21
namespace Go.Proofs.Ytphkchjejbffeaa
open Go.RowKit
attribute [local go_sem ↓] Go.wp_at_zero Go.wp_at_succ
attribute [local go_sem] setCell_drewN drewN_drewN

/-- What a message of the tape does: an answer, and the list behind it. -/
def FolP (res : Option (List Ord)) (base r : Nat) (w : World) (e : Ending) (w' : World) : Prop :=
  Below base w w' ∧ ((res = none ∧ e = .returned (.bool false)) ∨ ∃ L', res = some L' ∧ e = .returned (.bool true) ∧ RbAt w' base r L')

theorem take32v (g o n cap t : Nat) (l : List UInt8) (w : World) (hn : l.length = n) (hl : 4 ≤ n) (hc : n ≤ cap) (hc2 : cap ≤ 9223372036854775807) (h : Lies w g o l) (ht : num (l.take 4) 0 = t) :
    Calls Try.prog 77 #[.slice (some ⟨g, o, none⟩) n cap] w fun e w' => ∃ o', e = .returned (.tuple #[.int .u32 t, .slice (some ⟨g, o', none⟩) (n - 4) (cap - 4)]) ∧ (4 < cap → o' = o + 4) ∧ ∃ n, w' = w.drewN n := by
  subst ht; exact take32n g o n cap l w hn hl hc hc2 h
theorem take16v (g o n cap t : Nat) (l : List UInt8) (w : World) (hn : l.length = n) (hl : 2 ≤ n) (hc : n ≤ cap) (hc2 : cap ≤ 9223372036854775807) (h : Lies w g o l) (ht : num (l.take 2) 0 = t) :
    Calls Try.prog 79 #[.slice (some ⟨g, o, none⟩) n cap] w fun e w' => ∃ o', e = .returned (.tuple #[.int .u16 t, .slice (some ⟨g, o', none⟩) (n - 2) (cap - 2)]) ∧ (2 < cap → o' = o + 2) ∧ ∃ n, w' = w.drewN n := by
  subst ht; exact take16n g o n cap l w hn hl hc hc2 h
theorem take8v (g o n cap t : Nat) (l : List UInt8) (w : World) (hn : l.length = n) (hl : 1 ≤ n) (hc : n ≤ cap) (hc2 : cap ≤ 9223372036854775807) (h : Lies w g o l) (ht : num (l.take 1) 0 = t) :
    Calls Try.prog 78 #[.slice (some ⟨g, o, none⟩) n cap] w fun e w' => ∃ o', e = .returned (.tuple #[.int .u8 t, .slice (some ⟨g, o', none⟩) (n - 1) (cap - 1)]) ∧ (1 < cap → o' = o + 1) ∧ ∃ n, w' = w.drewN n := by
  subst ht; exact take8n g o n cap l w hn hl hc hc2 h
theorem at_lt4 (m : List UInt8) (i : Nat) : at_ m i 4 < 4294967296 := at_lt m i
theorem below_drew {base : Nat} (w : World) (q : Nat) : Below base w (w.drewN q) := below_drewN (Below.refl _ _) q

set_option maxRecDepth 100000 in
set_option maxHeartbeats 1000000 in
theorem executed_any {w : World} {base r : Nat} {L : List Ord} (h : RbAt w base r L) (hb : base ≤ w.heap.size) (g o cap : Nat) (f : List UInt8) (hf : f.length = 10) (hc : 10 ≤ cap) (hc2 : cap ≤ 9223372036854775807) (hl : Lies w g o f) :
    Calls Try.prog 61 #[.pointer (some ⟨r, 0, none⟩), .slice (some ⟨g, o, none⟩) 10 cap] w (FolP (fExec L f) base r w) := by
  have ht := at_lt4 f 0
  have hm := at_lt2 f 4
  have HS : Hid (∀ t m, at_ f 0 4 = t → at_ f 4 2 = m → fExec L f = if m = 0 ∨ leftL L t < m then none else some (lessL t m L)) := by
    rintro t m rfl rfl
    rfl
  obtain ⟨t, hte⟩ : ∃ t, at_ f 0 4 = t := ⟨_, rfl⟩
  obtain ⟨m, hme⟩ : ∃ m, at_ f 4 2 = m := ⟨_, rfl⟩
  have HR : Hid (fExec L f = if m = 0 ∨ leftL L t < m then none else some (lessL t m L)) := HS.out t m hte hme
  have HT : Hid (num (f.take 4) 0 = t) := hte
  have HM : Hid (num ((f.drop 4).take 2) 0 = m) := hme
  rw [hte] at ht
  rw [hme] at hm
  generalize fExec L f = res at *
  have HH := Hid.mk (And.intro h hl)
  clear h hl HS hte hme
  go_enter Try.func61, Try.ntmps61
  go_wp2_with fail
  refine (take32v g o 10 cap t f w hf (by omega) hc hc2 HH.out.2 HT.out).mono ?_
  rintro e w1 ⟨o1, rfl, ho1, q1, rfl⟩
  obtain rfl := ho1 (by omega)
  clear ho1
  go_wp2_with fail
  refine (take16v g (o + 4) 6 (cap - 4) m (f.drop 4) (w.drewN q1) (by rw [List.length_drop, hf]) (by omega) (by omega) (by omega) (Lies.keep (HH.out.2.drop 4) rfl) HM.out).mono ?_
  rintro e w2 ⟨o2, rfl, ho2, q2, rfl⟩
  clear ho2
  have HRB : Hid (RbAt ((w.drewN q1).drewN q2) base r L) := (HH.out.1.drewN q1).drewN q2
  have HB : Hid (Below base w ((w.drewN q1).drewN q2)) := (below_drew w q1).trans (below_drew _ q2)
  generalize (w.drewN q1).drewN q2 = W at *
  have HLF := Hid.mk (left_at HRB.out t ht)
  obtain ⟨lf, hlf⟩ : ∃ lf, leftL L t = lf := ⟨_, rfl⟩
  rw [hlf] at HR HLF
  have HLE := Hid.mk hlf
  clear hlf
  by_cases hm0 : m = 0
  · have b0 : ((m : Int) == 0) = true := by simp [hm0]
    have HE : Hid (res = none) := by have := HR.out; rw [if_pos (Or.inl hm0)] at this; exact this
    clear hm0 HR
    go_wp2_with fail
    go_ret
    exact ⟨HB.out, Or.inl ⟨HE.out, rfl⟩⟩
  · have b0 : ((m : Int) == 0) = false := by rw [beq_eq_false_iff_ne]; omega
    by_cases hlt : lf < m
    · have b1 : (lf : Int) < (m : Int) := by omega
      have HE : Hid (res = none) := by have := HR.out; rw [if_pos (Or.inr hlt)] at this; exact this
      clear hm0 HR hlt
      go_wp2_with fail
      refine HLF.out.mono ?_
      rintro e w3 ⟨rfl, hw⟩
      subst hw
      go_wp2_with fail
      go_ret
      exact ⟨HB.out, Or.inl ⟨HE.out, rfl⟩⟩
    · have b1 : ¬ (lf : Int) < (m : Int) := by omega
      have HE : Hid (res = some (lessL t m L)) := by have := HR.out; rw [if_neg (by omega)] at this; exact this
      obtain ⟨od, hod1, hod2, -⟩ := left_pos (L := L) (t := t) (by rw [HLE.out]; omega)
      have HLS := Hid.mk (lessen_at HRB.out (Nat.le_trans hb HB.out.size) t m od ht hod1 (by have := HLE.out; omega))
      clear hm0 HR hlt hod1 hod2
      go_wp2_with fail
      refine HLF.out.mono ?_
      rintro e w3 ⟨rfl, hw⟩
      subst hw
      go_wp2_with fail
      refine HLS.out.mono ?_
      rintro e w4 ⟨rfl, hr4, hb4⟩
      have H4 := Hid.mk (And.intro hr4 hb4)
      clear hr4 hb4
      go_wp2_with fail
      go_ret
      exact ⟨HB.out.trans H4.out.2, Or.inr ⟨_, HE.out, rfl, H4.out.1⟩⟩

set_option maxRecDepth 100000 in
set_option maxHeartbeats 1000000 in
theorem lessened_any {w : World} {base r : Nat} {L : List Ord} (h : RbAt w base r L) (hb : base ≤ w.heap.size) (g o cap : Nat) (f : List UInt8) (hf : f.length = 6) (hc : 6 ≤ cap) (hc2 : cap ≤ 9223372036854775807) (hl : Lies w g o f) :
    Calls Try.prog 62 #[.pointer (some ⟨r, 0, none⟩), .slice (some ⟨g, o, none⟩) 6 cap] w (FolP (fLess L f) base r w) := by
  have ht := at_lt4 f 0
  have hm := at_lt2 f 4
  have HS : Hid (∀ t m, at_ f 0 4 = t → at_ f 4 2 = m → fLess L f = if m = 0 ∨ leftL L t ≤ m then none else some (lessL t m L)) := by
    rintro t m rfl rfl
    rfl
  obtain ⟨t, hte⟩ : ∃ t, at_ f 0 4 = t := ⟨_, rfl⟩
  obtain ⟨m, hme⟩ : ∃ m, at_ f 4 2 = m := ⟨_, rfl⟩
  have HR : Hid (fLess L f = if m = 0 ∨ leftL L t ≤ m then none else some (lessL t m L)) := HS.out t m hte hme
  have HT : Hid (num (f.take 4) 0 = t) := hte
  have HM : Hid (num ((f.drop 4).take 2) 0 = m) := hme
  rw [hte] at ht
  rw [hme] at hm
  generalize fLess L f = res at *
  have HH := Hid.mk (And.intro h hl)
  clear h hl HS hte hme
  go_enter Try.func62, Try.ntmps62
  go_wp2_with fail
  refine (take32v g o 6 cap t f w hf (by omega) hc hc2 HH.out.2 HT.out).mono ?_
  rintro e w1 ⟨o1, rfl, ho1, q1, rfl⟩
  obtain rfl := ho1 (by omega)
  clear ho1
  go_wp2_with fail
  refine (take16v g (o + 4) 2 (cap - 4) m (f.drop 4) (w.drewN q1) (by rw [List.length_drop, hf]) (by omega) (by omega) (by omega) (Lies.keep (HH.out.2.drop 4) rfl) HM.out).mono ?_
  rintro e w2 ⟨o2, rfl, ho2, q2, rfl⟩
  clear ho2
  have HRB : Hid (RbAt ((w.drewN q1).drewN q2) base r L) := (HH.out.1.drewN q1).drewN q2
  have HB : Hid (Below base w ((w.drewN q1).drewN q2)) := (below_drew w q1).trans (below_drew _ q2)
  generalize (w.drewN q1).drewN q2 = W at *
  have HLF := Hid.mk (left_at HRB.out t ht)
  obtain ⟨lf, hlf⟩ : ∃ lf, leftL L t = lf := ⟨_, rfl⟩
  rw [hlf] at HR HLF
  have HLE := Hid.mk hlf
  clear hlf
  by_cases hm0 : m = 0
  · have b0 : ((m : Int) == 0) = true := by simp [hm0]
    have HE : Hid (res = none) := by have := HR.out; rw [if_pos (Or.inl hm0)] at this; exact this
    clear hm0 HR
    go_wp2_with fail
    go_ret
    exact ⟨HB.out, Or.inl ⟨HE.out, rfl⟩⟩
  · have b0 : ((m : Int) == 0) = false := by rw [beq_eq_false_iff_ne]; omega
    by_cases hlt : lf ≤ m
    · have b1 : (lf : Int) ≤ (m : Int) := by omega
      have HE : Hid (res = none) := by have := HR.out; rw [if_pos (Or.inr hlt)] at this; exact this
      clear hm0 HR hlt
      go_wp2_with fail
      refine HLF.out.mono ?_
      rintro e w3 ⟨rfl, hw⟩
      subst hw
      go_wp2_with fail
      go_ret
      exact ⟨HB.out, Or.inl ⟨HE.out, rfl⟩⟩
    · have b1 : ¬ (lf : Int) ≤ (m : Int) := by omega
      have HE : Hid (res = some (lessL t m L)) := by have := HR.out; rw [if_neg (by omega)] at this; exact this
      obtain ⟨od, hod1, hod2, -⟩ := left_pos (L := L) (t := t) (by rw [HLE.out]; omega)
      have HLS := Hid.mk (lessen_at HRB.out (Nat.le_trans hb HB.out.size) t m od ht hod1 (by have := HLE.out; omega))
      clear hm0 HR hlt hod1 hod2
      go_wp2_with fail
      refine HLF.out.mono ?_
      rintro e w3 ⟨rfl, hw⟩
      subst hw
      go_wp2_with fail
      refine HLS.out.mono ?_
      rintro e w4 ⟨rfl, hr4, hb4⟩
      have H4 := Hid.mk (And.intro hr4 hb4)
      clear hr4 hb4
      go_wp2_with fail
      go_ret
      exact ⟨HB.out.trans H4.out.2, Or.inr ⟨_, HE.out, rfl, H4.out.1⟩⟩

set_option maxRecDepth 100000 in
set_option maxHeartbeats 1000000 in
theorem gone_any {w : World} {base r : Nat} {L : List Ord} (h : RbAt w base r L) (hb : base ≤ w.heap.size) (g o cap : Nat) (f : List UInt8) (hf : f.length = 4) (hc : 4 ≤ cap) (hc2 : cap ≤ 9223372036854775807) (hl : Lies w g o f) :
    Calls Try.prog 63 #[.pointer (some ⟨r, 0, none⟩), .slice (some ⟨g, o, none⟩) 4 cap] w (FolP (fGone L f) base r w) := by
  have ht := at_lt4 f 0
  have HS : Hid (∀ t, at_ f 0 4 = t → fGone L f = if leftL L t = 0 then none else some (lessL t (leftL L t) L)) := by
    rintro t rfl
    rfl
  obtain ⟨t, hte⟩ : ∃ t, at_ f 0 4 = t := ⟨_, rfl⟩
  have HR : Hid (fGone L f = if leftL L t = 0 then none else some (lessL t (leftL L t) L)) := HS.out t hte
  have HT : Hid (num (f.take 4) 0 = t) := hte
  rw [hte] at ht
  generalize fGone L f = res at *
  have HH := Hid.mk (And.intro h hl)
  clear h hl HS hte
  go_enter Try.func63, Try.ntmps63
  go_wp2_with fail
  refine (take32v g o 4 cap t f w hf (by omega) hc hc2 HH.out.2 HT.out).mono ?_
  rintro e w1 ⟨o1, rfl, ho1, q1, rfl⟩
  clear ho1
  have HRB : Hid (RbAt (w.drewN q1) base r L) := HH.out.1.drewN q1
  have HB : Hid (Below base w (w.drewN q1)) := below_drew w q1
  generalize w.drewN q1 = W at *
  have HLF := Hid.mk (left_at HRB.out t ht)
  obtain ⟨lf, hlf⟩ : ∃ lf, leftL L t = lf := ⟨_, rfl⟩
  rw [hlf] at HR HLF
  have HLE := Hid.mk hlf
  clear hlf
  go_wp2_with fail
  refine HLF.out.mono ?_
  rintro e w3 ⟨rfl, hw⟩
  subst hw
  by_cases hm0 : lf = 0
  · have b0 : ((lf : Int) == 0) = true := by simp [hm0]
    have HE : Hid (res = none) := by have := HR.out; rw [if_pos hm0] at this; exact this
    clear hm0 HR
    go_wp2_with fail
    go_ret
    exact ⟨HB.out, Or.inl ⟨HE.out, rfl⟩⟩
  · have b0 : ((lf : Int) == 0) = false := by rw [beq_eq_false_iff_ne]; omega
    have HE : Hid (res = some (lessL t lf L)) := by have := HR.out; rw [if_neg (by omega)] at this; exact this
    obtain ⟨od, hod1, hod2, -⟩ := left_pos (L := L) (t := t) (by rw [HLE.out]; omega)
    have HLS := Hid.mk (lessen_at HRB.out (Nat.le_trans hb HB.out.size) t lf od ht hod1 (by have := HLE.out; omega))
    clear hm0 HR hod1 hod2
    go_wp2_with fail
    refine HLS.out.mono ?_
    rintro e w4 ⟨rfl, hr4, hb4⟩
    have H4 := Hid.mk (And.intro hr4 hb4)
    clear hr4 hb4
    go_wp2_with fail
    go_ret
    exact ⟨HB.out.trans H4.out.2, Or.inr ⟨_, HE.out, rfl, H4.out.1⟩⟩

theorem lies_one {w : World} {g o : Nat} {l : List UInt8} (h : Lies w g o l) (hg : g < w.heap.size) (A : Obj) (n : Nat) : Lies ((w.alloc A).drewN n) g o l :=
  h.keep (by show (w.alloc A).heap[g]? = _; rw [heap_alloc, if_neg (by omega)])

set_option maxRecDepth 100000 in
set_option maxHeartbeats 2000000 in
theorem rests_tape {w : World} {base r : Nat} {L : List Ord} (h : RbAt w base r L) (hb : base ≤ w.heap.size) (hL : L.length < 4398046511104) (g o cap : Nat) (f : List UInt8) (hf : f.length = 10) (hc : 10 ≤ cap) (hc2 : cap ≤ 9223372036854775807) (hl : Lies w g o f) (hg : g < w.heap.size) :
    Calls Try.prog 60 #[.pointer (some ⟨r, 0, none⟩), .slice (some ⟨g, o, none⟩) 10 cap] w (FolP (fRests L f) base r w) := by
  have HH := Hid.mk (And.intro h hl)
  obtain ⟨y, hy⟩ : ∃ y, fOrd f = y := ⟨_, rfl⟩
  have HE1 : Hid (num (f.take 4) 0 = y.ref) := by rw [← hy]; rfl
  have HE2 : Hid (num ((f.drop 4).take 1) 0 = y.side.toNat) := by rw [← hy]; exact num_one f 4 (by omega)
  have HE3 : Hid (num ((f.drop 5).take 1) 0 = y.stock) := by rw [← hy]; exact num_one f 5 (by omega)
  have HE4 : Hid (num ((f.drop 8).take 2) 0 = y.price) := by rw [← hy]; rfl
  have HE5 : Hid (num ((f.drop 6).take 2) 0 = y.shares) := by rw [← hy]; rfl
  have HTK : Hid (y.token = 0) := by rw [← hy]; rfl
  have HSM : Hid y.small := by
    rw [← hy]
    exact ⟨at_lt4 f 0, by show 0 < 4294967296; omega, (byteAt f 5).toNat_lt, at_lt2 f 8, at_lt2 f 6⟩
  have HR : Hid (fRests L f = if leftL L y.ref ≠ 0 ∨ ¬ (y.side = 66 ∨ y.side = 83) ∨ y.shares = 0 then none else some (L ++ [y])) := by
    rw [← hy]
    rfl
  generalize fRests L f = res at *
  clear h hl hy
  go_enter Try.func60, Try.ntmps60
  go_wp2_with fail
  refine (take32n g o 10 cap f _ hf (by decide) hc hc2 (lies_one HH.out.2 hg _ 0)).mono ?_
  rintro e w1 ⟨o1, rfl, ho1, q1, rfl⟩
  obtain rfl := ho1 (by omega)
  clear ho1
  go_wp2_with fail
  refine (take8n g (o + 4) 6 (cap - 4) (f.drop 4) _ (by rw [List.length_drop, hf]) (by decide) (by omega) (by omega) (lies_one (HH.out.2.drop 4) hg _ _)).mono ?_
  rintro e w2 ⟨o2, rfl, ho2, q2, rfl⟩
  obtain rfl := ho2 (by omega)
  clear ho2
  go_wp2_with fail
  refine (take8n g (o + 5) 5 (cap - 5) (f.drop 5) _ (by rw [List.length_drop, hf]) (by decide) (by omega) (by omega) (lies_one (HH.out.2.drop 5) hg _ _)).mono ?_
  rintro e w3 ⟨o3, rfl, ho3, q3, rfl⟩
  obtain rfl := ho3 (by omega)
  clear ho3
  go_wp2_with fail
  refine (take16n g (o + 6) 4 (cap - 6) (f.drop 6) _ (by rw [List.length_drop, hf]) (by decide) (by omega) (by omega) (lies_one (HH.out.2.drop 6) hg _ _)).mono ?_
  rintro e w4 ⟨o4, rfl, ho4, q4, rfl⟩
  obtain rfl := ho4 (by omega)
  clear ho4
  go_wp2_with fail
  refine (take16n g (o + 8) 2 (cap - 8) (f.drop 8) _ (by rw [List.length_drop, hf]) (by decide) (by omega) (by omega) (lies_one (HH.out.2.drop 8) hg _ _)).mono ?_
  rintro e w5 ⟨o5, rfl, ho5, q5, rfl⟩
  clear ho5
  go_wp2_with fail
  rw [HE1.out, HE2.out, HE3.out, HE4.out, HE5.out]
  generalize q1 + q2 + q3 + q4 + q5 = q
  have HRB : Hid (∀ O : Obj, RbAt ((w.alloc O).drewN q) base r L) := fun O => (HH.out.1.alloc O).drewN q
  have HB : Hid (∀ O : Obj, Below base w ((w.alloc O).drewN q)) := fun O => below_drewN ((Below.refl base w).alloc hb O) q
  have HLF : Hid (∀ O : Obj, Calls Try.prog 92 #[.pointer (some ⟨r, 0, none⟩), .int .u32 y.ref] ((w.alloc O).drewN q) fun e w' => e = .returned (.int .u16 (leftL L y.ref)) ∧ w' = ((w.alloc O).drewN q)) := fun O => left_at (HRB.out O) y.ref HSM.out.ref
  obtain ⟨lf, hlf⟩ : ∃ lf, leftL L y.ref = lf := ⟨_, rfl⟩
  rw [hlf] at HLF HR
  have HLE := Hid.mk hlf
  clear hlf HE1 HE2 HE3 HE4 HE5
  refine (HLF.out _).mono ?_
  rintro e w6 ⟨rfl, hw⟩
  subst hw
  by_cases hl0 : lf = 0
  · have b0 : ¬ (0 : Int) < (lf : Int) := by omega
    have HE : Hid (res = if ¬ (y.side = 66 ∨ y.side = 83) ∨ y.shares = 0 then none else some (L ++ [y])) := by
      have := HR.out
      simp only [hl0, ne_eq, not_true_eq_false, false_or] at this
      exact this
    have HL0 := Hid.mk hl0
    clear hl0 HR
    go_wp2_with fail
    by_cases hsd : y.side = 66 ∨ y.side = 83
    · refine (sideMayBe_lit (y.side.toNat : Int) _ (by rcases hsd with h | h <;> rw [h] <;> simp)).mono ?_
      rintro e w7 ⟨rfl, hw⟩
      subst hw
      by_cases hsh : y.shares = 0
      · have b1 : ((y.shares : Int) == 0) = true := by simp [hsh]
        have HE' : Hid (res = none) := by have := HE.out; rw [if_pos (Or.inr hsh)] at this; exact this
        clear hsh hsd HE
        go_wp2_with fail
        go_ret
        exact ⟨HB.out _, Or.inl ⟨HE'.out, rfl⟩⟩
      · have b1 : ((y.shares : Int) == 0) = false := by rw [beq_eq_false_iff_ne]; omega
        have HE' : Hid (res = some (L ++ [y])) := by have := HE.out; rw [if_neg (by intro hh; rcases hh with hh | hh; exact hh hsd; exact hsh hh)] at this; exact this
        have HAD : Hid (∀ O : Obj, Calls Try.prog 94 #[.pointer (some ⟨r, 0, none⟩), .agg #[.int .i64 0, .int .i64 0, .int .u32 y.ref, .int .u32 0, .int .u8 y.side.toNat, .int .u8 y.stock, .int .u16 y.price, .int .u16 y.shares]] ((w.alloc O).drewN q) fun e w' => e = .returned (.tuple #[]) ∧ RbAt w' base r (L ++ [y]) ∧ Below base ((w.alloc O).drewN q) w') := fun O => by
          have := add_at (HRB.out O) (Nat.le_trans hb (HB.out O).size) y HSM.out hsh (by rw [HLE.out]; exact HL0.out) hL
          unfold ordV ordL at this
          rw [HTK.out] at this
          exact this
        clear hsh hsd HE
        go_wp2_with fail
        refine (HAD.out _).mono ?_
        rintro e w8 ⟨rfl, hr8, hb8⟩
        have H8 := Hid.mk (And.intro hr8 hb8)
        clear hr8 hb8
        go_wp2_with fail
        go_ret
        exact ⟨(HB.out _).trans H8.out.2, Or.inr ⟨_, HE'.out, rfl, H8.out.1⟩⟩
    · have HE' : Hid (res = none) := by have := HE.out; rw [if_pos (Or.inl hsd)] at this; exact this
      refine (sideMayBe_no y.side ⟨fun h => hsd (Or.inl h), fun h => hsd (Or.inr h)⟩ _).mono ?_
      rintro e w7 ⟨rfl, hw⟩
      subst hw
      clear hsd HE
      go_wp2_with fail
      go_ret
      exact ⟨HB.out _, Or.inl ⟨HE'.out, rfl⟩⟩
  · have b0 : (0 : Int) < (lf : Int) := by omega
    have HE : Hid (res = none) := by have := HR.out; rw [if_pos (Or.inl hl0)] at this; exact this
    clear hl0 HR
    go_wp2_with fail
    go_ret
    exact ⟨HB.out _, Or.inl ⟨HE.out, rfl⟩⟩

end Go.Proofs.Ytphkchjejbffeaa

/- The walk of rebuilt's swapped. -/
namespace Go.Proofs.Ytphkchjejbffeaa
open Go.RowKit
attribute [local go_sem ↓] Go.wp_at_zero Go.wp_at_succ
attribute [local go_sem] setCell_drewN drewN_drewN

theorem box_new {w : World} {A B : Obj} {y z : Ord} (hA : A = .cells (ordL 0 0 y).toArray 129) (hB : B = .cells (ordL 0 0 z).toArray 129) :
    Box ((w.alloc A).alloc B) w.heap.size 0 0 y ∧ Box ((w.alloc A).alloc B) (w.heap.size + 1) 0 0 z := by
  refine ⟨box_of ?_, box_of ?_⟩
  · rw [heap_alloc, if_neg (by rw [size_alloc]; omega), heap_alloc, if_pos rfl, hA]
  · rw [heap_alloc, if_pos (by rw [size_alloc]), hB]

theorem swap_put {W : World} {base r : Nat} {L : List Ord} {v : Value} {pm n n6 t pl : Nat} {M : Nat → Option Nat} {od y : Ord} (h2 : Ix L M) (h3 : n ≤ L.length) (h4 : ∀ o ∈ L, o.small) (hM : M t = some pl) (hp : L[pl]? = some od) (hy : y.shares ≠ 0) (hs : y.small) (hu : y.ref = t ∨ leftL L y.ref = 0) (hn : n6 + 1 = n)
    (h : RbC W base r ((L.set pl { od with shares := 0 }).set pl y) v pm (if ((updM M t none) y.ref).isSome then n6 else n6 + 1) (updM (updM M t none) y.ref (some pl))) : RbAt W base r (chL t (fun _ => y) L) := by
  obtain ⟨e1, e2, e3⟩ := set_ix h2 hM hp hy hu
  rw [List.set_set, e1] at h
  rw [h2.ch hM hp]
  refine ⟨v, pm, n6 + 1, _, h, e3, by rw [List.length_set]; omega, ?_⟩
  intro x hx
  rcases mem_set hx with rfl | hx
  · exact hs
  · exact h4 x hx
theorem swap_add {W : World} {base r : Nat} {L : List Ord} {v : Value} {pm n n6 t pl : Nat} {M : Nat → Option Nat} {od y : Ord} (h2 : Ix L M) (h3 : n ≤ L.length) (h4 : ∀ o ∈ L, o.small) (hM : M t = some pl) (hp : L[pl]? = some od) (hy : y.shares ≠ 0) (hs : y.small) (hu : y.ref = t ∨ leftL L y.ref = 0) (hn : n6 + 1 = n)
    (h : RbC W base r (L.set pl { od with shares := 0 } ++ [y]) v pm (if ((updM M t none) y.ref).isSome then n6 else n6 + 1) (updM (updM M t none) y.ref (some (L.set pl { od with shares := 0 }).length))) : RbAt W base r (lessL t od.shares L ++ [y]) := by
  obtain ⟨e1, e2, -⟩ := set_ix h2 hM hp hy hu
  have hd := h2.dead hM hp (y := { od with shares := 0 }) rfl
  rw [e1] at h
  have hc : lessL t od.shares L = L.set pl { od with shares := 0 } := by
    unfold lessL
    rw [h2.ch hM hp, Nat.sub_self]
  rw [hc]
  refine ⟨v, pm, n6 + 1, _, h, hd.add e1 hy, by rw [List.length_append, List.length_set]; simp; omega, ?_⟩
  intro x hx
  have ho := h4 od (List.mem_of_getElem? hp)
  rcases List.mem_append.1 hx with hx | hx
  · rcases mem_set hx with rfl | hx
    · exact ⟨ho.ref, ho.token, ho.stock, ho.price, by show 0 < 65536; omega⟩
    · exact h4 x hx
  · simp at hx
    rw [hx]
    exact hs

set_option maxRecDepth 100000 in
set_option maxHeartbeats 4000000 in
theorem swapped_any {w : World} {base r : Nat} {L : List Ord} (h : RbAt w base r L) (hb : base ≤ w.heap.size) (hL : L.length < 4398046511104) (g o cap : Nat) (f : List UInt8) (hf : f.length = 12) (hc : 12 ≤ cap) (hc2 : cap ≤ 9223372036854775807) (hl : Lies w g o f) :
    Calls Try.prog 64 #[.pointer (some ⟨r, 0, none⟩), .slice (some ⟨g, o, none⟩) 12 cap] w (FolP (fSwap L f) base r w) := by
  have ht := at_lt4 f 0
  have hu := at_lt4 f 4
  have hm := at_lt2 f 8
  have hp := at_lt2 f 10
  have HS : Hid (∀ t u m p, at_ f 0 4 = t → at_ f 4 4 = u → at_ f 8 2 = m → at_ f 10 2 = p → fSwap L f = match liv L t with
      | none => none
      | some o => if (u ≠ t ∧ leftL L u ≠ 0) ∨ m = 0 then none else if p = o.price ∧ m ≤ o.shares then some (chL t (fun _ => { ref := u, token := 0, side := o.side, stock := o.stock, price := p, shares := m }) L) else some (lessL t o.shares L ++ [{ ref := u, token := 0, side := o.side, stock := o.stock, price := p, shares := m }])) := by
    rintro t u m p rfl rfl rfl rfl
    rfl
  obtain ⟨t, hte⟩ : ∃ t, at_ f 0 4 = t := ⟨_, rfl⟩
  obtain ⟨u, hue⟩ : ∃ u, at_ f 4 4 = u := ⟨_, rfl⟩
  obtain ⟨m, hme⟩ : ∃ m, at_ f 8 2 = m := ⟨_, rfl⟩
  obtain ⟨p, hpe⟩ : ∃ p, at_ f 10 2 = p := ⟨_, rfl⟩
  have HR := Hid.mk (HS.out t u m p hte hue hme hpe)
  have HT : Hid (num (f.take 4) 0 = t) := hte
  have HU : Hid (num ((f.drop 4).take 4) 0 = u) := hue
  have HM : Hid (num ((f.drop 8).take 2) 0 = m) := hme
  have HP : Hid (num ((f.drop 10).take 2) 0 = p) := hpe
  rw [hte] at ht
  rw [hue] at hu
  rw [hme] at hm
  rw [hpe] at hp
  generalize fSwap L f = res at *
  have HH := Hid.mk (And.intro h hl)
  clear h hl HS hte hue hme hpe
  go_enter Try.func64, Try.ntmps64
  go_wp2_with fail
  refine (take32v g o 12 cap t f w hf (by omega) hc hc2 HH.out.2 HT.out).mono ?_
  rintro e w1 ⟨o1, rfl, ho1, q1, rfl⟩
  obtain rfl := ho1 (by omega)
  clear ho1
  go_wp2_with fail
  refine (take32v g (o + 4) 8 (cap - 4) u (f.drop 4) (w.drewN q1) (by rw [List.length_drop, hf]) (by omega) (by omega) (by omega) (Lies.keep (HH.out.2.drop 4) rfl) HU.out).mono ?_
  rintro e w2 ⟨o2, rfl, ho2, q2, rfl⟩
  obtain rfl := ho2 (by omega)
  clear ho2
  go_wp2_with fail
  refine (take16v g (o + 4 + 4) 4 (cap - 4 - 4) m (f.drop 8) (w.drewN (q1 + q2)) (by rw [List.length_drop, hf]) (by omega) (by omega) (by omega) (Lies.keep (HH.out.2.drop 8) rfl) HM.out).mono ?_
  rintro e w3 ⟨o3, rfl, ho3, q3, rfl⟩
  obtain rfl := ho3 (by omega)
  clear ho3
  go_wp2_with fail
  refine (take16v g (o + 4 + 4 + 2) 2 (cap - 4 - 4 - 2) p (f.drop 10) (w.drewN (q1 + q2 + q3)) (by rw [List.length_drop, hf]) (by omega) (by omega) (by omega) (Lies.keep (HH.out.2.drop 10) rfl) HP.out).mono ?_
  rintro e w4 ⟨o4, rfl, ho4, q4, rfl⟩
  clear ho4
  have HRB : Hid (RbAt ((w.drewN (q1 + q2 + q3)).drewN q4) base r L) := (HH.out.1.drewN _).drewN q4
  have HB : Hid (Below base w ((w.drewN (q1 + q2 + q3)).drewN q4)) := (below_drew w _).trans (below_drew _ q4)
  generalize (w.drewN (q1 + q2 + q3)).drewN q4 = W at *
  have hbW : base ≤ W.heap.size := Nat.le_trans hb HB.out.size
  have HLF := Hid.mk (left_at HRB.out t ht)
  have HLU := Hid.mk (left_at HRB.out u hu)
  obtain ⟨lf, hlf⟩ : ∃ lf, leftL L t = lf := ⟨_, rfl⟩
  obtain ⟨lu, hlu⟩ : ∃ lu, leftL L u = lu := ⟨_, rfl⟩
  rw [hlf] at HLF
  rw [hlu] at HLU HR
  have HLE := Hid.mk (And.intro hlf hlu)
  clear hlf hlu
  go_wp2_with fail
  refine HLF.out.mono ?_
  rintro e w5 ⟨rfl, hw⟩
  replace hw := hw.symm
  subst hw
  clear HLF
  by_cases hl0 : lf = 0
  · have b0 : ((lf : Int) == 0) = true := by simp [hl0]
    have HE : Hid (res = none) := by
      have := HR.out
      cases hv : liv L t with
      | none => rw [hv] at this; exact this
      | some x => have h1 := (liv_ref hv).2.1; have h2 := liv_left hv; have h3 := HLE.out.1; omega
    clear hl0 HR
    go_wp2_with fail
    go_ret
    exact ⟨HB.out, Or.inl ⟨HE.out, rfl⟩⟩
  · have b0 : ((lf : Int) == 0) = false := by rw [beq_eq_false_iff_ne]; omega
    obtain ⟨od, hod1, hod2, -⟩ := left_pos (L := L) (t := t) (by rw [HLE.out.1]; omega)
    have HR2 : Hid (res = if (u ≠ t ∧ lu ≠ 0) ∨ m = 0 then none else if p = od.price ∧ m ≤ od.shares then some (chL t (fun _ => { ref := u, token := 0, side := od.side, stock := od.stock, price := p, shares := m }) L) else some (lessL t od.shares L ++ [{ ref := u, token := 0, side := od.side, stock := od.stock, price := p, shares := m }])) := by
      have := HR.out
      rw [hod1] at this
      exact this
    have HOD := Hid.mk (And.intro hod1 hod2)
    clear HR hl0 hod1 hod2
    by_cases hbad : u ≠ t ∧ lu ≠ 0
    · have b1 : ((u : Int) == (t : Int)) = false := by rw [beq_eq_false_iff_ne]; have := hbad.1; omega
      have b1' : ((u : Int) != (t : Int)) = true := by rw [bne, b1]; rfl
      have b2 : (0 : Int) < (lu : Int) := by have := hbad.2; omega
      have HE : Hid (res = none) := by have := HR2.out; rw [if_pos (Or.inl hbad)] at this; exact this
      clear hbad HR2
      go_wp2_with fail
      refine HLU.out.mono ?_
      rintro e w6 ⟨rfl, hw⟩
      replace hw := hw.symm
      subst hw
      go_wp2_with fail
      go_ret
      exact ⟨HB.out, Or.inl ⟨HE.out, rfl⟩⟩
    · have HRM : Hid (u = t ∨ lu = 0) := by
        by_cases e : u = t
        · exact Or.inl e
        · right
          by_cases e2 : lu = 0
          · exact e2
          · exact absurd ⟨e, e2⟩ hbad
      have HR3 : Hid (res = if m = 0 then none else if p = od.price ∧ m ≤ od.shares then some (chL t (fun _ => { ref := u, token := 0, side := od.side, stock := od.stock, price := p, shares := m }) L) else some (lessL t od.shares L ++ [{ ref := u, token := 0, side := od.side, stock := od.stock, price := p, shares := m }])) := by
        have := HR2.out
        by_cases e : m = 0
        · rw [if_pos (Or.inr e)] at this; rw [if_pos e]; exact this
        · rw [if_neg (by intro hh; rcases hh with hh | hh; exact hbad hh; exact e hh)] at this; rw [if_neg e]; exact this
      clear hbad HR2
      obtain ⟨v, pm, n, M, r1, r2, r3, r4⟩ := HRB.out
      obtain ⟨pl, hM, hpl⟩ := r2.place HOD.out.1
      obtain ⟨g0, g1, -, hrl⟩ := r1.cells
      have hlk0 := r1.map.look t ht
      rw [hM] at hlk0
      have hlk : (Instr.lookup 78 (.map (some pm)) (.int .u32 t) false).run Try.prog W = .ok (.int .i64 (pl : Int)) W := hlk0
      obtain ⟨ra, cap', rfl, hcc1, hcc2, hcs⟩ := r1.row.form
      obtain ⟨gr, rfl, hbg, hgl, hfz, hrg⟩ := hcs pl od hpl
      have t0 : W.cell? ⟨gr, pl * 8, none⟩ = some (.int .i64 0) := hrg 0 _ rfl
      have t1 : W.cell? ⟨gr, pl * 8 + 1, none⟩ = some (.int .i64 0) := hrg 1 _ rfl
      have t2 : W.cell? ⟨gr, pl * 8 + 2, none⟩ = some (.int .u32 od.ref) := hrg 2 _ rfl
      have t3 : W.cell? ⟨gr, pl * 8 + 3, none⟩ = some (.int .u32 od.token) := hrg 3 _ rfl
      have t4 : W.cell? ⟨gr, pl * 8 + 4, none⟩ = some (.int .u8 od.side.toNat) := hrg 4 _ rfl
      have t5 : W.cell? ⟨gr, pl * 8 + 5, none⟩ = some (.int .u8 od.stock) := hrg 5 _ rfl
      have t6 : W.cell? ⟨gr, pl * 8 + 6, none⟩ = some (.int .u16 od.price) := hrg 6 _ rfl
      have t7 : W.cell? ⟨gr, pl * 8 + 7, none⟩ = some (.int .u16 od.shares) := hrg 7 _ rfl
      have hpll := (List.getElem?_eq_some_iff.1 hpl).1
      have i1 : (pl : Int) < (L.length : Int) := by omega
      have i2 : (0 : Int) ≤ (pl : Int) := by omega
      have hpml := r1.map.lt
      have HC := Hid.mk (And.intro r1 (And.intro r2 (And.intro r3 (And.intro r4 (And.intro hM hpl)))))
      clear hlk0 hcs hfz hrg r1 r2 r3 r4 hM hpl
      by_cases hut : u = t
      · have b1 : ((u : Int) == (t : Int)) = true := by simp [hut]
        have b1' : ((u : Int) != (t : Int)) = false := by rw [bne, b1]; rfl
        clear hut
        by_cases hm0 : m = 0
        · have b2 : ((m : Int) == 0) = true := by simp [hm0]
          have HE : Hid (res = none) := by have := HR3.out; rw [if_pos hm0] at this; exact this
          clear hm0 HR3
          go_wp2_with fail
          go_ret
          exact ⟨HB.out, Or.inl ⟨HE.out, rfl⟩⟩
        · have b2 : ((m : Int) == 0) = false := by rw [beq_eq_false_iff_ne]; omega
          have HM0 := Hid.mk hm0
          clear hm0
          go_wp2_with fail
          generalize hWW : (W.alloc _).alloc _ = W2
          have hbx : Box W2 W.heap.size 0 0 od ∧ Box W2 (W.heap.size + 1) 0 0 { ref := u, token := 0, side := od.side, stock := od.stock, price := p, shares := m } := by
            rw [← hWW]
            exact box_new rfl rfl
          have hR2 : RbC W2 base r L (.slice (some ⟨gr, 0, none⟩) L.length cap') pm n M := by
            rw [← hWW]
            exact (HC.out.1.alloc _).alloc _
          have hB2 : Below base W W2 := by
            rw [← hWW]
            exact Below.alloc ((Below.refl base W).alloc hbW _) (by rw [size_alloc]; omega) _
          clear hWW t0 t1 t2 t3 t4 t5 t6 t7 g0 g1 hlk
          have hbW2 : base ≤ W2.heap.size := Nat.le_trans hbW hB2.size
          have hsm := HC.out.2.2.2.1 od (List.mem_of_getElem? HC.out.2.2.2.2.2)
          refine (lessen_all hR2 hbW2 t pl od.shares od ht HC.out.2.2.2.2.1 HC.out.2.2.2.2.2 rfl hsm.shares).mono ?_
          rintro e w6 ⟨rfl, n6, hn6, hR6, hB6, hF6⟩
          obtain ⟨q0, q1', q2', q3', q4', q5', q6', q7'⟩ := hbx.1.fr hF6 (by rintro (e | e); simp [Value.ownBlock] at e; omega; omega)
          have hz6 := hbx.2.fr hF6 (by rintro (e | e); simp [Value.ownBlock] at e; omega; omega)
          have HZ := Hid.mk hz6
          obtain ⟨s0, s1, s2, s3, s4, s5, s6, s7⟩ := hz6
          have H6 := Hid.mk (And.intro hR6 (And.intro hn6 (HB.out.trans (hB2.trans hB6))))
          have HYS : Hid (Ord.small { ref := u, token := 0, side := od.side, stock := od.stock, price := p, shares := m }) := ⟨hu, by show 0 < 4294967296; omega, hsm.stock, hp, hm⟩
          have HYU : Hid (u = t ∨ leftL L u = 0) := by
            rcases HRM.out with e | e
            · exact Or.inl e
            · exact Or.inr (HLE.out.2.trans e)
          clear hbx hR2 hB2 hbW2 hR6 hB6 hF6 hn6 hsm
          go_wp2_with fail
          by_cases hk : p = od.price ∧ m ≤ od.shares
          · have HE : Hid (res = some (chL t (fun _ => { ref := u, token := 0, side := od.side, stock := od.stock, price := p, shares := m }) L)) := by
              have := HR3.out
              rw [if_neg HM0.out, if_pos hk] at this
              exact this
            refine (keepsPlace_yes _ _ _ _ _ _ _ _ _ _ _ _ od.price od.shares p m w6 hk.1 hk.2).mono ?_
            rintro e w7 ⟨rfl, hb7⟩
            have hz7 : Box w7 (W.heap.size + 1) 0 0 { ref := u, token := 0, side := od.side, stock := od.stock, price := p, shares := m } := HZ.out.fr (Fr.of_below hb7 (fun _ => False)) (fun e => e)
            have hR7 := H6.out.1.keep (w' := w7) (fun k _ hk => hb7.block k hk)
            have hB7 : Below base w w7 := H6.out.2.2.trans (hb7.mono (Nat.le_trans hb H6.out.2.2.size))
            have hl6 : (L.set pl { od with shares := 0 })[pl]? = some { od with shares := 0 } := by rw [List.getElem?_set, if_pos rfl, if_pos hpll]
            have HPU : Hid (Calls Try.prog 97 #[.pointer (some ⟨r, 0, none⟩), .int .i64 pl, .agg #[.int .i64 0, .int .i64 0, .int .u32 u, .int .u32 0, .int .u8 od.side.toNat, .int .u8 od.stock, .int .u16 p, .int .u16 m]] w7 _) := put_any hR7 (Nat.le_trans hb hB7.size) pl _ { ref := u, token := 0, side := od.side, stock := od.stock, price := p, shares := m } hl6 hu (by have h1 := H6.out.2.1; have h2 := HC.out.2.2.1; unfold maxLen; omega)
            obtain ⟨y0, y1, y2, y3, y4, y5, y6, y7⟩ := hz7
            have HB7 := Hid.mk hB7
            clear s0 s1 s2 s3 s4 s5 s6 s7 q0 q1' q2' q3' q4' q5' q6' q7' hb7 hR7 hB7 hk hl6 HR3
            go_wp2_with fail
            refine HPU.out.mono ?_
            rintro e w8 ⟨rfl, hR8, hB8⟩
            have H8 := Hid.mk (And.intro hR8 hB8)
            clear hR8 hB8 HPU
            go_wp2_with fail
            go_ret
            exact ⟨HB7.out.trans H8.out.2, Or.inr ⟨_, HE.out, rfl, swap_put HC.out.2.1 HC.out.2.2.1 HC.out.2.2.2.1 HC.out.2.2.2.2.1 HC.out.2.2.2.2.2 HM0.out HYS.out HYU.out H6.out.2.1 H8.out.1⟩⟩
          · have HE : Hid (res = some (lessL t od.shares L ++ [{ ref := u, token := 0, side := od.side, stock := od.stock, price := p, shares := m }])) := by
              have := HR3.out
              rw [if_neg HM0.out, if_neg hk] at this
              exact this
            refine (keepsPlace_no _ _ _ _ _ _ _ _ _ _ _ _ od.price od.shares p m w6 (by by_cases e : p = od.price; right; exact ⟨e, by by_cases e2 : m ≤ od.shares; exact absurd ⟨e, e2⟩ hk; omega⟩; left; exact e)).mono ?_
            rintro e w7 ⟨rfl, hb7⟩
            have hz7 : Box w7 (W.heap.size + 1) 0 0 { ref := u, token := 0, side := od.side, stock := od.stock, price := p, shares := m } := HZ.out.fr (Fr.of_below hb7 (fun _ => False)) (fun e => e)
            have hR7 := H6.out.1.keep (w' := w7) (fun k _ hk => hb7.block k hk)
            have hB7 : Below base w w7 := H6.out.2.2.trans (hb7.mono (Nat.le_trans hb H6.out.2.2.size))
            have HPU : Hid (Calls Try.prog 94 #[.pointer (some ⟨r, 0, none⟩), .agg #[.int .i64 0, .int .i64 0, .int .u32 u, .int .u32 0, .int .u8 od.side.toNat, .int .u8 od.stock, .int .u16 p, .int .u16 m]] w7 _) := add_any hR7 (Nat.le_trans hb hB7.size) { ref := u, token := 0, side := od.side, stock := od.stock, price := p, shares := m } hu (by have h1 := H6.out.2.1; have h2 := HC.out.2.2.1; unfold maxLen; omega) (by rw [List.length_set]; exact hL)
            obtain ⟨y0, y1, y2, y3, y4, y5, y6, y7⟩ := hz7
            have HB7 := Hid.mk hB7
            clear s0 s1 s2 s3 s4 s5 s6 s7 q0 q1' q2' q3' q4' q5' q6' q7' hb7 hR7 hB7 hk HR3
            go_wp2_with fail
            refine HPU.out.mono ?_
            rintro e w8 ⟨rfl, v8, hR8, hB8⟩
            have H8 := Hid.mk (And.intro hR8 hB8)
            clear hR8 hB8 HPU
            go_wp2_with fail
            go_ret
            exact ⟨HB7.out.trans H8.out.2, Or.inr ⟨_, HE.out, rfl, swap_add HC.out.2.1 HC.out.2.2.1 HC.out.2.2.2.1 HC.out.2.2.2.2.1 HC.out.2.2.2.2.2 HM0.out HYS.out HYU.out H6.out.2.1 H8.out.1⟩⟩
      · have b1 : ((u : Int) == (t : Int)) = false := by rw [beq_eq_false_iff_ne]; omega
        have b1' : ((u : Int) != (t : Int)) = true := by rw [bne, b1]; rfl
        have b3 : ¬ (0 : Int) < (lu : Int) := by have := HRM.out; omega
        clear hut
        go_wp2_with fail
        refine HLU.out.mono ?_
        rintro e w6 ⟨rfl, hw⟩
        replace hw := hw.symm
        subst hw
        by_cases hm0 : m = 0
        · have b2 : ((m : Int) == 0) = true := by simp [hm0]
          have HE : Hid (res = none) := by have := HR3.out; rw [if_pos hm0] at this; exact this
          clear hm0 HR3
          go_wp2_with fail
          go_ret
          exact ⟨HB.out, Or.inl ⟨HE.out, rfl⟩⟩
        · have b2 : ((m : Int) == 0) = false := by rw [beq_eq_false_iff_ne]; omega
          have HM0 := Hid.mk hm0
          clear hm0
          go_wp2_with fail
          generalize hWW : (W.alloc _).alloc _ = W2
          have hbx : Box W2 W.heap.size 0 0 od ∧ Box W2 (W.heap.size + 1) 0 0 { ref := u, token := 0, side := od.side, stock := od.stock, price := p, shares := m } := by
            rw [← hWW]
            exact box_new rfl rfl
          have hR2 : RbC W2 base r L (.slice (some ⟨gr, 0, none⟩) L.length cap') pm n M := by
            rw [← hWW]
            exact (HC.out.1.alloc _).alloc _
          have hB2 : Below base W W2 := by
            rw [← hWW]
            exact Below.alloc ((Below.refl base W).alloc hbW _) (by rw [size_alloc]; omega) _
          clear hWW t0 t1 t2 t3 t4 t5 t6 t7 g0 g1 hlk
          have hbW2 : base ≤ W2.heap.size := Nat.le_trans hbW hB2.size
          have hsm := HC.out.2.2.2.1 od (List.mem_of_getElem? HC.out.2.2.2.2.2)
          refine (lessen_all hR2 hbW2 t pl od.shares od ht HC.out.2.2.2.2.1 HC.out.2.2.2.2.2 rfl hsm.shares).mono ?_
          rintro e w6 ⟨rfl, n6, hn6, hR6, hB6, hF6⟩
          obtain ⟨q0, q1', q2', q3', q4', q5', q6', q7'⟩ := hbx.1.fr hF6 (by rintro (e | e); simp [Value.ownBlock] at e; omega; omega)
          have hz6 := hbx.2.fr hF6 (by rintro (e | e); simp [Value.ownBlock] at e; omega; omega)
          have HZ := Hid.mk hz6
          obtain ⟨s0, s1, s2, s3, s4, s5, s6, s7⟩ := hz6
          have H6 := Hid.mk (And.intro hR6 (And.intro hn6 (HB.out.trans (hB2.trans hB6))))
          have HYS : Hid (Ord.small { ref := u, token := 0, side := od.side, stock := od.stock, price := p, shares := m }) := ⟨hu, by show 0 < 4294967296; omega, hsm.stock, hp, hm⟩
          have HYU : Hid (u = t ∨ leftL L u = 0) := by
            rcases HRM.out with e | e
            · exact Or.inl e
            · exact Or.inr (HLE.out.2.trans e)
          clear hbx hR2 hB2 hbW2 hR6 hB6 hF6 hn6 hsm
          go_wp2_with fail
          by_cases hk : p = od.price ∧ m ≤ od.shares
          · have HE : Hid (res = some (chL t (fun _ => { ref := u, token := 0, side := od.side, stock := od.stock, price := p, shares := m }) L)) := by
              have := HR3.out
              rw [if_neg HM0.out, if_pos hk] at this
              exact this
            refine (keepsPlace_yes _ _ _ _ _ _ _ _ _ _ _ _ od.price od.shares p m w6 hk.1 hk.2).mono ?_
            rintro e w7 ⟨rfl, hb7⟩
            have hz7 : Box w7 (W.heap.size + 1) 0 0 { ref := u, token := 0, side := od.side, stock := od.stock, price := p, shares := m } := HZ.out.fr (Fr.of_below hb7 (fun _ => False)) (fun e => e)
            have hR7 := H6.out.1.keep (w' := w7) (fun k _ hk => hb7.block k hk)
            have hB7 : Below base w w7 := H6.out.2.2.trans (hb7.mono (Nat.le_trans hb H6.out.2.2.size))
            have hl6 : (L.set pl { od with shares := 0 })[pl]? = some { od with shares := 0 } := by rw [List.getElem?_set, if_pos rfl, if_pos hpll]
            have HPU : Hid (Calls Try.prog 97 #[.pointer (some ⟨r, 0, none⟩), .int .i64 pl, .agg #[.int .i64 0, .int .i64 0, .int .u32 u, .int .u32 0, .int .u8 od.side.toNat, .int .u8 od.stock, .int .u16 p, .int .u16 m]] w7 _) := put_any hR7 (Nat.le_trans hb hB7.size) pl _ { ref := u, token := 0, side := od.side, stock := od.stock, price := p, shares := m } hl6 hu (by have h1 := H6.out.2.1; have h2 := HC.out.2.2.1; unfold maxLen; omega)
            obtain ⟨y0, y1, y2, y3, y4, y5, y6, y7⟩ := hz7
            have HB7 := Hid.mk hB7
            clear s0 s1 s2 s3 s4 s5 s6 s7 q0 q1' q2' q3' q4' q5' q6' q7' hb7 hR7 hB7 hk hl6 HR3
            go_wp2_with fail
            refine HPU.out.mono ?_
            rintro e w8 ⟨rfl, hR8, hB8⟩
            have H8 := Hid.mk (And.intro hR8 hB8)
            clear hR8 hB8 HPU
            go_wp2_with fail
            go_ret
            exact ⟨HB7.out.trans H8.out.2, Or.inr ⟨_, HE.out, rfl, swap_put HC.out.2.1 HC.out.2.2.1 HC.out.2.2.2.1 HC.out.2.2.2.2.1 HC.out.2.2.2.2.2 HM0.out HYS.out HYU.out H6.out.2.1 H8.out.1⟩⟩
          · have HE : Hid (res = some (lessL t od.shares L ++ [{ ref := u, token := 0, side := od.side, stock := od.stock, price := p, shares := m }])) := by
              have := HR3.out
              rw [if_neg HM0.out, if_neg hk] at this
              exact this
            refine (keepsPlace_no _ _ _ _ _ _ _ _ _ _ _ _ od.price od.shares p m w6 (by by_cases e : p = od.price; right; exact ⟨e, by by_cases e2 : m ≤ od.shares; exact absurd ⟨e, e2⟩ hk; omega⟩; left; exact e)).mono ?_
            rintro e w7 ⟨rfl, hb7⟩
            have hz7 : Box w7 (W.heap.size + 1) 0 0 { ref := u, token := 0, side := od.side, stock := od.stock, price := p, shares := m } := HZ.out.fr (Fr.of_below hb7 (fun _ => False)) (fun e => e)
            have hR7 := H6.out.1.keep (w' := w7) (fun k _ hk => hb7.block k hk)
            have hB7 : Below base w w7 := H6.out.2.2.trans (hb7.mono (Nat.le_trans hb H6.out.2.2.size))
            have HPU : Hid (Calls Try.prog 94 #[.pointer (some ⟨r, 0, none⟩), .agg #[.int .i64 0, .int .i64 0, .int .u32 u, .int .u32 0, .int .u8 od.side.toNat, .int .u8 od.stock, .int .u16 p, .int .u16 m]] w7 _) := add_any hR7 (Nat.le_trans hb hB7.size) { ref := u, token := 0, side := od.side, stock := od.stock, price := p, shares := m } hu (by have h1 := H6.out.2.1; have h2 := HC.out.2.2.1; unfold maxLen; omega) (by rw [List.length_set]; exact hL)
            obtain ⟨y0, y1, y2, y3, y4, y5, y6, y7⟩ := hz7
            have HB7 := Hid.mk hB7
            clear s0 s1 s2 s3 s4 s5 s6 s7 q0 q1' q2' q3' q4' q5' q6' q7' hb7 hR7 hB7 hk HR3
            go_wp2_with fail
            refine HPU.out.mono ?_
            rintro e w8 ⟨rfl, v8, hR8, hB8⟩
            have H8 := Hid.mk (And.intro hR8 hB8)
            clear hR8 hB8 HPU
            go_wp2_with fail
            go_ret
            exact ⟨HB7.out.trans H8.out.2, Or.inr ⟨_, HE.out, rfl, swap_add HC.out.2.1 HC.out.2.2.1 HC.out.2.2.2.1 HC.out.2.2.2.2.1 HC.out.2.2.2.2.2 HM0.out HYS.out HYU.out H6.out.2.1 H8.out.1⟩⟩

end Go.Proofs.Ytphkchjejbffeaa
