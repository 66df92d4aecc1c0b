/- The walk of slices.rotateCmpFunc over orders. -/
import Derived.Test.YtphkchjejbffeaaG18
namespace Go.Proofs.Ytphkchjejbffeaa
open Go.Shelf Go.RowKit Go.Lib Go.Sort
attribute [local go_sem ↓] Go.wp_at_zero Go.wp_at_succ

theorem cut_list {α : Type} (L : List α) (n : Nat) (h : n ≤ L.length) : ∃ A B, L = A ++ B ∧ A.length = n := ⟨L.take n, L.drop n, (List.take_append_drop n L).symm, by rw [List.length_take]; omega⟩

set_option maxRecDepth 100000 in
set_option maxHeartbeats 4000000 in
theorem rotate_gen {P : Program} {k : Nat} (T : SrtT P k) (FG : P.funcs[148]? = some Try.f148) (FS : P.funcs[151]? = some Try.f151) (ES : ∀ args w, (callFunc 151 args).run P w = .ok (.enter 151 args) w)
    (enc : Ord → List Value) (w0 w : World) (g cap len a m b : Nat) (d0 : Array Ord) (fv : Value) (X A B Y : List Ord) (R : RowK enc k w0 g 0 d0) (hlen : (X ++ A ++ B ++ Y).length = len) (hs : d0.size = len) (S : SWL enc k w0 g (X ++ A ++ B ++ Y) w)
    (ha : a = X.length) (hm : m = X.length + A.length) (hb : b = X.length + A.length + B.length) (hA : A ≠ []) (hB : B ≠ []) (hsz : len < 4611686018427387904) :
    Calls P 148 #[.slice (some ⟨g, 0, none⟩) len cap, .int .i64 a, .int .i64 m, .int .i64 b, fv] w fun e w' => e = .returned (.tuple #[]) ∧ SWL enc k w0 g (X ++ B ++ A ++ Y) w' := by
  have HSW := Hid.mk (fun (w : World) (a b n : Nat) (X A M B Y : List Ord) hlen S h1 h2 ha hb => swapRange_list T FS enc w0 w g cap len a b n d0 fv X A M B Y R hlen hs S h1 h2 ha hb hsz)
  have mixed := T.mixed; have t0 := T.t0; have a0 := T.a0; have z0 := T.z0; have v0 := T.v0; have t3 := T.t3; have a3 := T.a3; have z3 := T.z3; have v3 := T.v3; have t4 := T.t4; have a4 := T.a4; have z4 := T.z4; have v4 := T.v4; have t22 := T.t22; have a22 := T.a22; have z22 := T.z22; have v22 := T.v22; have t25 := T.t25; have a25 := T.a25; have z25 := T.z25; have v25 := T.v25; have aE := T.aE; have zE := T.zE
  have hAl : 0 < A.length := List.length_pos_iff.2 hA
  have hBl : 0 < B.length := List.length_pos_iff.2 hB
  have hl2 : X.length + A.length + B.length + Y.length = len := by simp only [List.length_append] at hlen; omega
  have r1 : IntKind.i64.wrap ((m : Int) - (a : Int)) = (m : Int) - (a : Int) := by rw [IntKind.wrap_i64]; omega
  have r2 : IntKind.i64.wrap ((b : Int) - (m : Int)) = (b : Int) - (m : Int) := by rw [IntKind.wrap_i64]; omega
  have e1 : (m : Int) - (a : Int) = (A.length : Int) := by omega
  have e2 : (b : Int) - (m : Int) = (B.length : Int) := by omega
  rw [e1] at r1
  rw [e2] at r2
  have HS0 := Hid.mk S
  have HM := Hid.mk hm
  have hAm : A.length ≤ m := by omega
  have hBm : m + B.length ≤ len := by omega
  clear S T R hs hm ha hb FS
  go_enter FG, Try.ntmps148
  go_wp2_with fail
  go_loopw [10, 11] (fun vi vj wr => ∃ i j : Nat, vi = .int .i64 i ∧ vj = .int .i64 j ∧ 1 ≤ i ∧ 1 ≤ j ∧ i ≤ m ∧ m + j ≤ len ∧ Hid (∃ Pf U V Sf : List Ord, SWL enc k w0 g (Pf ++ U ++ V ++ Sf) wr ∧ Pf.length + i = m ∧ U.length = i ∧ V.length = j ∧ Pf ++ V ++ U ++ Sf = X ++ B ++ A ++ Y))
    (fun vi vj _ => (intOf vi).toNat + (intOf vj).toNat)
  case atStart => exact ⟨A.length, B.length, rfl, rfl, hAl, hBl, hAm, hBm, X, A, B, Y, HS0.out, HM.out.symm, rfl, rfl, rfl⟩
  case round =>
    clear HS0
    obtain ⟨i, j, rfl, rfl, hi1, hj1, him, hjm, HR⟩ := hrel
    clear e1 e2 r1 r2 hA hB
    have hll : ∀ Pf U V Sf : List Ord, Pf ++ V ++ U ++ Sf = X ++ B ++ A ++ Y → Pf.length + V.length + U.length + Sf.length = len := fun Pf U V Sf h => by
      have := congrArg List.length h
      simp only [List.length_append] at this
      omega
    have HLL := Hid.mk hll
    clear hll hlen
    have r1 : IntKind.i64.wrap ((m : Int) - (i : Int)) = (m : Int) - (i : Int) := by rw [IntKind.wrap_i64]; omega
    by_cases hij : i = j
    · subst hij
      have e1 : (m : Int) - (i : Int) = ((m - i : Nat) : Int) := by omega
      have HC : Hid (Calls P 151 #[.slice (some ⟨g, 0, none⟩) len cap, .int .i64 ((m - i : Nat) : Int), .int .i64 m, .int .i64 i, fv] wr fun e w' => e = .returned (.tuple #[]) ∧ SWL enc k w0 g (X ++ B ++ A ++ Y) w') := by
        obtain ⟨Pf, U, V, Sf, h1, h2, h3, h4, h5⟩ := HR.out
        have hl := HLL.out Pf U V Sf h5
        have := HSW.out wr (m - i) m i Pf U [] V Sf (by simp only [List.length_append, List.length_nil]; omega) (by simpa using h1) h3 h4 (by omega) (by simp only [List.length_nil]; omega)
        simp only [List.append_nil] at this
        rw [← h5]
        exact this
      rw [e1] at r1
      go_wp2_with fail
      refine HC.out.mono ?_
      rintro e w2 ⟨rfl, h⟩
      have H2 := Hid.mk h
      clear h HC
      go_wp2_with fail
      go_end0
      exact ⟨rfl, H2.out⟩
    · by_cases hgt : j < i
      · have e1 : (m : Int) - (i : Int) = ((m - i : Nat) : Int) := by omega
        have b1 : ((i : Int) == (j : Int)) = false := by rw [beq_eq_false_iff_ne]; omega
        have b2 : (j : Int) < (i : Int) := by omega
        have r2 : IntKind.i64.wrap ((i : Int) - (j : Int)) = (i : Int) - (j : Int) := by rw [IntKind.wrap_i64]; omega
        have e2 : (i : Int) - (j : Int) = ((i - j : Nat) : Int) := by omega
        have HC : Hid (Calls P 151 #[.slice (some ⟨g, 0, none⟩) len cap, .int .i64 ((m - i : Nat) : Int), .int .i64 m, .int .i64 j, fv] wr fun e w' => e = .returned (.tuple #[]) ∧
            ∃ Pf U V Sf : List Ord, SWL enc k w0 g (Pf ++ U ++ V ++ Sf) w' ∧ Pf.length + (i - j) = m ∧ U.length = i - j ∧ V.length = j ∧ Pf ++ V ++ U ++ Sf = X ++ B ++ A ++ Y) := by
          obtain ⟨Pf, U, V, Sf, h1, h2, h3, h4, h5⟩ := HR.out
          have hl := HLL.out Pf U V Sf h5
          obtain ⟨U1, U2, rfl, hU⟩ := cut_list U j (by omega)
          rw [List.length_append] at h3
          have := HSW.out wr (m - i) m j Pf U1 U2 V Sf (by simp only [List.length_append] at hl ⊢; omega) (by simpa using h1) hU h4 (by omega) (by omega)
          refine this.mono ?_
          rintro e w' ⟨rfl, h⟩
          refine ⟨rfl, Pf ++ V, U2, U1, Sf, by simpa using h, by rw [List.length_append]; omega, by omega, hU, ?_⟩
          rw [← h5]; simp
        rw [e1] at r1
        rw [e2] at r2
        go_wp2_with fail
        refine HC.out.mono ?_
        rintro e w2 ⟨rfl, h⟩
        have H2 := Hid.mk h
        clear h HC
        go_wp2_with fail
        exact ⟨⟨i - j, j, by first | rfl | go_num, rfl, by omega, by omega, by omega, by omega, H2.out⟩, by simp [intOf]; omega⟩
      · have e1 : (m : Int) - (i : Int) = ((m - i : Nat) : Int) := by omega
        have b1 : ((i : Int) == (j : Int)) = false := by rw [beq_eq_false_iff_ne]; omega
        have b2 : ¬ (j : Int) < (i : Int) := by omega
        have r2 : IntKind.i64.wrap ((j : Int) - (i : Int)) = (j : Int) - (i : Int) := by rw [IntKind.wrap_i64]; omega
        have e2 : (j : Int) - (i : Int) = ((j - i : Nat) : Int) := by omega
        have r3 : IntKind.i64.wrap ((m : Int) + (j : Int)) = (m : Int) + (j : Int) := by rw [IntKind.wrap_i64]; omega
        have r4 : IntKind.i64.wrap ((m : Int) + (j : Int) - (i : Int)) = (m : Int) + (j : Int) - (i : Int) := by rw [IntKind.wrap_i64]; omega
        have e4 : (m : Int) + (j : Int) - (i : Int) = ((m + j - i : Nat) : Int) := by omega
        have HC : Hid (Calls P 151 #[.slice (some ⟨g, 0, none⟩) len cap, .int .i64 ((m - i : Nat) : Int), .int .i64 ((m + j - i : Nat) : Int), .int .i64 i, fv] wr fun e w' => e = .returned (.tuple #[]) ∧
            ∃ Pf U V Sf : List Ord, SWL enc k w0 g (Pf ++ U ++ V ++ Sf) w' ∧ Pf.length + i = m ∧ U.length = i ∧ V.length = j - i ∧ Pf ++ V ++ U ++ Sf = X ++ B ++ A ++ Y) := by
          obtain ⟨Pf, U, V, Sf, h1, h2, h3, h4, h5⟩ := HR.out
          have hl := HLL.out Pf U V Sf h5
          obtain ⟨V1, V2, rfl, hV⟩ := cut_list V (j - i) (by omega)
          rw [List.length_append] at h4
          have := HSW.out wr (m - i) (m + j - i) i Pf U V1 V2 Sf (by simp only [List.length_append] at hl ⊢; omega) (by simpa using h1) h3 (by omega) (by omega) (by omega)
          refine this.mono ?_
          rintro e w' ⟨rfl, h⟩
          refine ⟨rfl, Pf, V2, V1, U ++ Sf, by simpa using h, by omega, by omega, hV, ?_⟩
          rw [← h5]; simp
        rw [e1] at r1
        rw [e2] at r2
        rw [e4] at r4
        go_wp2_with fail
        refine HC.out.mono ?_
        rintro e w2 ⟨rfl, h⟩
        have H2 := Hid.mk h
        clear h HC
        go_wp2_with fail
        exact ⟨⟨i, j - i, rfl, by first | rfl | go_num, by omega, by omega, by omega, by omega, H2.out⟩, by simp [intOf]; omega⟩

end Go.Proofs.Ytphkchjejbffeaa

/- The walk of slices.insertionSortCmpFunc over orders. -/
namespace Go.Proofs.Ytphkchjejbffeaa
open Go.Shelf Go.RowKit Go.Lib Go.Sort
attribute [local go_sem ↓] Go.wp_at_zero Go.wp_at_succ

theorem egTest : (∀ args w, (callFunc 151 args).run Try.prog w = .ok (.enter 151 args) w) ∧ Try.prog.funcs[151]? = some Try.f151 := ⟨fun args w => by kernel_rfl, Try.func151⟩

/-- 'less' by a comparison. -/
abbrev ltc (cf : Ord → Ord → Int) : Ord → Ord → Bool := fun x y => decide (cf x y < 0)

/-- One on its way down. -/
structure Ins (lt : Ord → Ord → Bool) (A S1 : List Ord) (x : Ord) (S2 T : List Ord) : Prop where
  srt : Srt lt (S1 ++ S2)
  up : ∀ y ∈ S2, lt x y = true
  cls : Cls lt A (S1 ++ x :: S2 ++ T)
  len : (S1 ++ x :: S2 ++ T).length = A.length
theorem Ins.step {lt : Ord → Ord → Bool} (hw : Swo lt) {A S1 : List Ord} {x z : Ord} {S2 T : List Ord} (h : Ins lt A (S1 ++ [z]) x S2 T) (hz : lt x z = true) : Ins lt A S1 x (z :: S2) T := by
  refine ⟨?_, ?_, ?_, ?_⟩
  · have := h.srt; rwa [List.append_assoc] at this
  · intro y hy
    rcases List.mem_cons.1 hy with rfl | hy
    · exact hz
    · exact h.up y hy
  · have e1 : S1 ++ [z] ++ x :: S2 ++ T = S1 ++ (([z] ++ [x]) ++ (S2 ++ T)) := by simp
    have e2 : S1 ++ x :: (z :: S2) ++ T = S1 ++ (([x] ++ [z]) ++ (S2 ++ T)) := by simp
    rw [e2]
    have hc := h.cls
    rw [e1] at hc
    refine hc.trans ((Cls.refl lt S1).app ((Cls.swap hw ?_).app (Cls.refl lt _)))
    intro u hu v hv
    simp at hu hv
    rw [hu, hv]; exact hz
  · have := h.len; simp at this ⊢; omega
theorem Ins.done {lt : Ord → Ord → Bool} (hw : Swo lt) {A S1 : List Ord} {x : Ord} {S2 T : List Ord} (h : Ins lt A S1 x S2 T) (hz : S1 = [] ∨ ∃ S z, S1 = S ++ [z] ∧ lt x z = false) : Srt lt (S1 ++ x :: S2) := by
  obtain ⟨q1, q2, q3⟩ := srt_append.1 h.srt
  refine srt_append.2 ⟨q1, List.pairwise_cons.2 ⟨fun y hy => hw.asym (h.up y hy), q2⟩, ?_⟩
  intro u hu v hv
  have hux : lt x u = false := by
    rcases hz with rfl | ⟨S, z, rfl, hz⟩
    · cases hu
    · rcases List.mem_append.1 hu with hu | hu
      · exact hw.le_trans ((srt_append.1 q1).2.2 u hu z (by simp)) hz
      · simp at hu; rw [hu]; exact hz
  rcases List.mem_cons.1 hv with rfl | hv
  · exact hux
  · exact q3 u hu v hv

set_option maxRecDepth 100000 in
set_option maxHeartbeats 4000000 in
theorem insertion_gen {P : Program} {k : Nat} (T : SrtT P k) (FG : P.funcs[131]? = some Try.f131)
    (enc : Ord → List Value) (cf : Ord → Ord → Int) (hw : Swo (ltc cf)) (gc : Nat) (eg : ∀ args w, (callFunc gc args).run P w = .ok (.enter gc args) w) (w0 w : World) (g cap len a b : Nat) (d0 : Array Ord) (X A Y : List Ord) (hcmp : CmpLays P gc #[] enc k cf g 0 len w0) (R : RowK enc k w0 g 0 d0)
    (hlen : (X ++ A ++ Y).length = len) (hs : d0.size = len) (S : SWL enc k w0 g (X ++ A ++ Y) w) (ha : a = X.length) (hb : b = X.length + A.length) (hsz : len < 4611686018427387904) :
    Calls P 131 #[.slice (some ⟨g, 0, none⟩) len cap, .int .i64 a, .int .i64 b, .func (.func gc) #[] #[]] w fun e w' => e = .returned (.tuple #[]) ∧ ∃ A', Srt (ltc cf) A' ∧ Cls (ltc cf) A A' ∧ A'.length = A.length ∧ SWL enc k w0 g (X ++ A' ++ Y) w' := by
  have mixed := T.mixed; have t0 := T.t0; have a0 := T.a0; have z0 := T.z0; have v0 := T.v0; have t3 := T.t3; have a3 := T.a3; have z3 := T.z3; have v3 := T.v3; have t4 := T.t4; have a4 := T.a4; have z4 := T.z4; have v4 := T.v4; have t22 := T.t22; have a22 := T.a22; have z22 := T.z22; have v22 := T.v22; have t25 := T.t25; have a25 := T.a25; have z25 := T.z25; have v25 := T.v25; have aE := T.aE; have zE := T.zE
  have u22 := run_underlying T.t22
  have HC : Aside (CmpLays P gc #[] enc k cf g 0 len w0) := hcmp
  have hlX : X.length + A.length + Y.length = len := by simp only [List.length_append] at hlen; omega
  have HS0 := Hid.mk S
  have HXA := Hid.mk (And.intro ha hb)
  have hab : a ≤ b := by omega
  have hbl : b ≤ len := by omega
  clear S T hcmp ha hb
  go_enter FG, Try.ntmps131
  go_wp2_with fail
  go_loopg [8] (b - a) (fun g1 vi wr => ∃ i : Nat, vi = .int .i64 i ∧ a < i ∧ i ≤ b + 1 ∧ b + 1 - i ≤ g1 + 1 ∧ Hid (∃ S T, Srt (ltc cf) S ∧ Cls (ltc cf) A (S ++ T) ∧ (S ++ T).length = A.length ∧ (i ≤ b → X.length + S.length = i) ∧ (b < i → T = []) ∧ SWL enc k w0 g (X ++ (S ++ T) ++ Y) wr))
  case atStart =>
    refine ⟨a + 1, by go_num, by omega, by omega, by omega, ?_⟩
    obtain ⟨ha, hb⟩ := HXA.out
    cases A with
    | nil => exact ⟨[], [], List.Pairwise.nil, Cls.refl _ _, rfl, fun h => by simp at hb; omega, fun _ => rfl, HS0.out⟩
    | cons x A => exact ⟨[x], A, List.pairwise_singleton _ _, Cls.refl _ _, rfl, fun _ => by simp; omega, fun h => by simp at hb; omega, HS0.out⟩
  case round =>
    clear HS0
    obtain ⟨i, rfl, hai, hib, hg1, HR⟩ := hrel
    by_cases hlt : i < b
    · have hltz : (i : Int) < (b : Int) := by omega
      have HR2 : Hid (∃ S1 x S2 T, Ins (ltc cf) A S1 x S2 T ∧ X.length + S1.length = i ∧ (X.length + S1.length + S2.length = i) ∧ SWL enc k w0 g (X ++ (S1 ++ x :: S2 ++ T) ++ Y) wr) := by
        obtain ⟨S, T, h1, h2, h3, h4, -, h6⟩ := HR.out
        have h4 := h4 (by omega)
        cases T with
        | nil => simp at h3; have := HXA.out.2; omega
        | cons x T => exact ⟨S, x, [], T, ⟨by simpa using h1, fun y hy => (by cases hy), by simpa using h2, by simpa using h3⟩, h4, by simpa using h4, by simpa using h6⟩
      clear HR
      go_wp2_with fail
      go_loopg [9] i (fun g2 vj wr2 => ∃ j : Nat, vj = .int .i64 j ∧ a ≤ j ∧ j ≤ i ∧ j ≤ g2 ∧ Hid (∃ S1 x S2 T, Ins (ltc cf) A S1 x S2 T ∧ X.length + S1.length = j ∧ (X.length + S1.length + S2.length = i) ∧ SWL enc k w0 g (X ++ (S1 ++ x :: S2 ++ T) ++ Y) wr2))
      case atStart => exact ⟨i, rfl, by omega, Nat.le_refl _, Nat.le_refl _, HR2.out⟩
      case round =>
        clear HR2
        obtain ⟨j, rfl, haj, hji, hg2, HI⟩ := hrel
        obtain ⟨S1, x, S2, T, hIns, hj1, hj2, hSW⟩ := HI.out
        clear HI
        have OUT : Aside ((S1 = [] ∨ ∃ S z, S1 = S ++ [z] ∧ ltc cf x z = false) → ∀ wq, SWL enc k w0 g (X ++ (S1 ++ x :: S2 ++ T) ++ Y) wq → ∃ S T, Srt (ltc cf) S ∧ Cls (ltc cf) A (S ++ T) ∧ (S ++ T).length = A.length ∧ (i + 1 ≤ b → X.length + S.length = i + 1) ∧ (b < i + 1 → T = []) ∧ SWL enc k w0 g (X ++ (S ++ T) ++ Y) wq) := by
          intro hz wq hq
          refine ⟨S1 ++ x :: S2, T, hIns.done hw hz, hIns.cls, hIns.len, fun _ => by simp; omega, fun h => by omega, hq⟩
        have hlD : (X ++ (S1 ++ x :: S2 ++ T) ++ Y).length = len := by
          have := hIns.len
          simp only [List.length_append] at this ⊢
          omega
        have hzD : (X ++ (S1 ++ x :: S2 ++ T) ++ Y).toArray.size = len := by simpa using hlD
        by_cases hja : a < j
        · have hjaz : (a : Int) < (j : Int) := by omega
          obtain ⟨jp, rfl⟩ : ∃ jp, j = jp + 1 := ⟨j - 1, by omega⟩
          obtain ⟨S', z, rfl⟩ : ∃ S' z, S1 = S' ++ [z] := by
            have hne : S1 ≠ [] := by
              intro e
              have := HXA.out.1
              rw [e] at hj1
              simp at hj1
              omega
            exact ⟨S1.dropLast, S1.getLast hne, (List.dropLast_concat_getLast _).symm⟩
          rw [List.length_append, List.length_singleton] at hj1 hj2
          have hxj : (X ++ (S' ++ [z] ++ x :: S2 ++ T) ++ Y).toArray[jp + 1]! = x := by
            have := get_at (X ++ (S' ++ [z])) (S2 ++ T ++ Y) x (jp + 1) (by simp; omega)
            simpa using this
          have hxp : (X ++ (S' ++ [z] ++ x :: S2 ++ T) ++ Y).toArray[jp]! = z := by
            have := get_at (X ++ S') (x :: S2 ++ T ++ Y) z jp (by simp; omega)
            simpa using this
          have hwp : IntKind.i64.wrap (jp : Int) = (jp : Int) := by rw [IntKind.wrap_i64]; omega
          have jz : (jp : Int) + 1 < (len : Int) := by omega
          have jz1 : (jp : Int) < (len : Int) := by omega
          have p0 : (0 : Int) ≤ (jp : Int) + 1 := by omega
          have hjaz' : (a : Int) < (jp : Int) + 1 := by omega
          have e0 : ((jp : Int) + 1).toNat = jp + 1 := by omega
          have lj : ∀ n' os', Sem.run P (loadCellsFrom ⟨g, (jp + 1) * k, none⟩ 0 k #[]) (grow (wr.drewN n') os') = .ok (enc x).toArray (grow (wr.drewN n') os') := fun n' os' => by
            have := SWK.ld hSW R (by rw [hzD, hs]) P (jp + 1) (by rw [hzD]; omega) n' os'
            rwa [Nat.zero_add, hxj] at this
          have lp : ∀ n' os', Sem.run P (loadCellsFrom ⟨g, jp * k, none⟩ 0 k #[]) (grow (wr.drewN n') os') = .ok (enc z).toArray (grow (wr.drewN n') os') := fun n' os' => by
            have := SWK.ld hSW R (by rw [hzD, hs]) P jp (by rw [hzD]; omega) n' os'
            rwa [Nat.zero_add, hxp] at this
          have hcg : ∀ n' os', Calls P gc #[.agg (enc x).toArray, .agg (enc z).toArray] (grow (wr.drewN n') os') fun e w' => e = .returned (.int .i64 (cf x z)) ∧ ∃ q os'', w' = grow ((grow (wr.drewN n') os').drewN q) os'' := fun n' os' => SWK.cmp hSW HC.out hzD x z n' os'
          have CLS : Hid (∀ n' os', SWL enc k w0 g (X ++ (S' ++ [z] ++ x :: S2 ++ T) ++ Y) (grow (wr.drewN n') os')) := fun n' os' => SWK.grown hSW n' os'
          have HIN := Hid.mk (And.intro hIns (And.intro hj2 (And.intro hxj (And.intro hxp hzD))))
          clear hSW hIns hj2 hxj hxp hzD hlD
          by_cases hlv : cf x z < 0
          · go_wp2_with fail
            go_quiet_grown (first | (go_at_fn gc; refine Calls.grown_of (hcg _ _)))
            go_wp2_with fail
            have hq2 := CLS.out nq osq
            clear lj lp hcg CLS OUT
            generalize grow (wr.drewN nq) osq = wq2 at hq2 ⊢
            obtain ⟨hIns, hj2, hxj, hxp, hzD⟩ := HIN.out
            have SW2 : Aside (SWK enc k w0 g 0 (swp (X ++ (S' ++ [z] ++ x :: S2 ++ T) ++ Y).toArray (jp + 1) jp) ((wq2.drew.setCells g (0 + (jp + 1) * k) (enc (X ++ (S' ++ [z] ++ x :: S2 ++ T) ++ Y).toArray[jp]!)).setCells g (0 + jp * k) (enc (X ++ (S' ++ [z] ++ x :: S2 ++ T) ++ Y).toArray[jp + 1]!))) := SWK.swapped hq2 R (jp + 1) jp (by rw [hzD]; omega) (by rw [hzD]; omega)
            have l1 := SWK.ld1 hq2 R (by rw [hzD, hs]) P (jp + 1) (by rw [hzD]; omega)
            have l2 := SWK.ld1 hq2 R (by rw [hzD, hs]) P jp (by rw [hzD]; omega)
            have s1 := SWK.st1 hq2 R (by rw [hzD, hs]) P (jp + 1) (by rw [hzD]; omega) z
            have s2 := SWK.st2 hq2 R (by rw [hzD, hs]) P (jp + 1) jp (by rw [hzD]; omega) (by rw [hzD]; omega) z x
            rw [hxj, hxp] at SW2
            rw [hxj] at l1
            rw [hxp] at l2
            have hst := hIns.step hw (decide_eq_true hlv)
            have hls : swp (X ++ (S' ++ [z] ++ x :: S2 ++ T) ++ Y).toArray (jp + 1) jp = (X ++ (S' ++ x :: (z :: S2) ++ T) ++ Y).toArray := by
              have := swp_rev (X ++ S') [] (S2 ++ T ++ Y) z x jp (jp + 1) (by simp; omega) (by simp; omega)
              simpa using this
            rw [hls] at SW2
            have n1 : (enc x).length = k := R.hk _
            have n2 : (enc z).length = k := R.hk _
            have HST := Hid.mk (And.intro hst (show X.length + S'.length = jp ∧ X.length + S'.length + (z :: S2).length = i by simp; omega))
            generalize enc x = cI at SW2 l1 s2 n1
            generalize enc z = cJ at SW2 l2 s1 s2 n2
            simp only [Nat.zero_add] at SW2 l1 l2 s1 s2
            clear hq2 hIns hj2 hxj hxp hzD hls hst HIN
            go_big_region_o
            clear l1 l2 s1 s2
            generalize (wq2.drew.setCells g ((jp + 1) * k) cJ).setCells g (jp * k) cI = w5 at SW2 ⊢
            go_wp2
            go_roundg jp
            case measure => omega
            case rel => exact ⟨jp, by first | rfl | go_num, by omega, by omega, Nat.le_refl _, S', x, z :: S2, T, HST.out.1, HST.out.2.1, HST.out.2.2, SW2.out⟩
          · go_wp2_with fail
            go_quiet_grown (first | (go_at_fn gc; refine Calls.grown_of (hcg _ _)))
            go_wp2
            go_roundg (b - (i + 1))
            case measure => omega
            case rel => exact ⟨i + 1, by go_num, by omega, by omega, by omega, OUT.out (.inr ⟨S', z, rfl, decide_eq_false (by omega)⟩) _ (CLS.out nq osq)⟩
        · have hjaz : decide ((j : Int) > (a : Int)) = false := decide_eq_false (by omega)
          have hjaz' : ¬ (a : Int) < (j : Int) := by omega
          have hS1 : S1 = [] := List.length_eq_zero_iff.1 (by have := HXA.out.1; omega)
          have HD : Hid (SWL enc k w0 g (X ++ (S1 ++ x :: S2 ++ T) ++ Y) wr.drew) := SWK.drew hSW
          have HS1 := Hid.mk hS1
          clear hSW hIns hS1 hzD hlD hj1 hj2
          go_wp2_with fail
          go_big_region_o
          all_goals go_wp2
          go_roundg (b - (i + 1))
          case measure => omega
          case rel => exact ⟨i + 1, by go_num, by omega, by omega, by omega, OUT.out (.inl HS1.out) _ HD.out⟩
    · have hltz : ¬ (i : Int) < (b : Int) := by omega
      go_wp2
      go_end0
      obtain ⟨S, T, h1, h2, h3, h4, h5, h6⟩ := HR.out
      have hT : T = [] := by
        by_cases hbi : b < i
        · exact h5 hbi
        · have h4 := h4 (by omega)
          have := HXA.out.2
          rw [List.length_append] at h3
          exact List.length_eq_zero_iff.1 (by omega)
      subst hT
      rw [List.append_nil] at h2 h3 h6
      exact ⟨rfl, S, h1, h2, h3, by simpa using h6⟩

end Go.Proofs.Ytphkchjejbffeaa

/- The walk of slices.symMergeCmpFunc over orders. -/
namespace Go.Proofs.Ytphkchjejbffeaa
open Go.Shelf Go.RowKit Go.Lib Go.Sort
attribute [local go_sem ↓] Go.wp_at_zero Go.wp_at_succ

/-- What was found by halving, in a sorted list: all ahead are less. -/
theorem cut_less {lt : Ord → Ord → Bool} (hw : Swo lt) {B1 B2 : List Ord} {x : Ord} (hB : Srt lt (B1 ++ B2)) (h1 : B1 = [] ∨ ∃ S z, B1 = S ++ [z] ∧ lt z x = true) (h2 : B2 = [] ∨ ∃ z S, B2 = z :: S ∧ lt z x = false) : (∀ y ∈ B1, lt y x = true) ∧ ∀ y ∈ B2, lt y x = false := by
  obtain ⟨b1, b2, -⟩ := srt_append.1 hB
  refine ⟨?_, ?_⟩
  · intro y hy
    rcases h1 with rfl | ⟨S, z, rfl, hz⟩
    · cases hy
    · rcases List.mem_append.1 hy with hy | hy
      · exact hw.le_lt ((srt_append.1 b1).2.2 y hy z (by simp)) hz
      · simp at hy; rw [hy]; exact hz
  · intro y hy
    rcases h2 with rfl | ⟨z, S, rfl, hz⟩
    · cases hy
    · rcases List.mem_cons.1 hy with rfl | hy
      · exact hz
      · exact hw.le_trans hz ((List.pairwise_cons.1 b2).1 y hy) |> fun h => by
          cases hb : lt y x with
          | false => rfl
          | true => rw [hw.le_lt ((List.pairwise_cons.1 b2).1 y hy) hb] at hz; cases hz

/-- What symMerge owes. -/
def Merged (enc : Ord → List Value) (k : Nat) (w0 : World) (g : Nat) (cf : Ord → Ord → Int) (X A B Y : List Ord) (w' : World) : Prop :=
  ∃ C, Srt (ltc cf) C ∧ Cls (ltc cf) (A ++ B) C ∧ C.length = A.length + B.length ∧ SWL enc k w0 g (X ++ C ++ Y) w'

set_option maxRecDepth 100000 in
set_option maxHeartbeats 4000000 in
theorem symMerge_one {P : Program} {k : Nat} (T : SrtT P k) (FG : P.funcs[132]? = some Try.f132)
    (enc : Ord → List Value) (cf : Ord → Ord → Int) (hw : Swo (ltc cf)) (gc : Nat) (eg : ∀ args w, (callFunc gc args).run P w = .ok (.enter gc args) w) (w0 w : World) (g cap len a m b : Nat) (d0 : Array Ord) (X B Y : List Ord) (x : Ord) (hcmp : CmpLays P gc #[] enc k cf g 0 len w0) (R : RowK enc k w0 g 0 d0)
    (hlen : (X ++ x :: B ++ Y).length = len) (hs : d0.size = len) (S : SWL enc k w0 g (X ++ x :: B ++ Y) w) (ha : a = X.length) (hm : m = X.length + 1) (hb : b = X.length + 1 + B.length) (hB : Srt (ltc cf) B) (hsz : len < 4611686018427387904) :
    Calls P 132 #[.slice (some ⟨g, 0, none⟩) len cap, .int .i64 a, .int .i64 m, .int .i64 b, .func (.func gc) #[] #[]] w fun e w' => e = .returned (.tuple #[]) ∧ Merged enc k w0 g cf X [x] B Y w' := by
  have mixed := T.mixed; have t0 := T.t0; have a0 := T.a0; have z0 := T.z0; have v0 := T.v0; have t3 := T.t3; have a3 := T.a3; have z3 := T.z3; have v3 := T.v3; have t4 := T.t4; have a4 := T.a4; have z4 := T.z4; have v4 := T.v4; have t22 := T.t22; have a22 := T.a22; have z22 := T.z22; have v22 := T.v22; have t25 := T.t25; have a25 := T.a25; have z25 := T.z25; have v25 := T.v25; have tu := T.tu; have au := T.au; have zu := T.zu; have vu := T.vu; have aE := T.aE; have zE := T.zE
  have u22 := run_underlying T.t22
  have HC : Aside (CmpLays P gc #[] enc k cf g 0 len w0) := hcmp
  have hlX : X.length + 1 + B.length + Y.length = len := by simp only [List.length_append, List.length_cons] at hlen; omega
  have hma : (m : Int) - (a : Int) = 1 := by omega
  have hzD : (X ++ x :: B ++ Y).toArray.size = len := by simpa using hlen
  have hxa : (X ++ x :: B ++ Y).toArray[a]! = x := by
    have := get_at X (B ++ Y) x a ha
    simpa using this
  have HS0 := Hid.mk (And.intro S (And.intro hB (And.intro hzD (And.intro hxa (And.intro ha (And.intro hm hb))))))
  have hmb : m ≤ b := by omega
  have hbl : b ≤ len := by omega
  have hal : (a : Int) < (len : Int) := by omega
  have ha0 : (0 : Int) ≤ (a : Int) := by omega
  clear S T hcmp hB ha hm hb hzD hxa hlen
  go_enter FG, Try.ntmps132
  go_wp2_with fail
  go_loopw [10, 11] (fun vi vj wr => ∃ i j : Nat, vi = .int .i64 i ∧ vj = .int .i64 j ∧ m ≤ i ∧ i ≤ j ∧ j ≤ b ∧ Hid ((i = m ∨ ltc cf (X ++ x :: B ++ Y).toArray[i - 1]! x = true) ∧ (j = b ∨ ltc cf (X ++ x :: B ++ Y).toArray[j]! x = false) ∧ SWL enc k w0 g (X ++ x :: B ++ Y) wr))
    (fun vi vj _ => (intOf vj).toNat - (intOf vi).toNat)
  case atStart => exact ⟨m, b, rfl, rfl, Nat.le_refl _, hmb, Nat.le_refl _, .inl rfl, .inl rfl, HS0.out.1⟩
  case round =>
    obtain ⟨i, j, rfl, rfl, hmi, hij, hjb, HR⟩ := hrel
    by_cases hlt : i < j
    · have p0 : (i : Int) < (j : Int) := by omega
      have r1 : IntKind.i64.wrap ((i : Int) + (j : Int)) = (i : Int) + (j : Int) := by rw [IntKind.wrap_i64]; omega
      obtain ⟨h, hh1, hh2, hh3⟩ : ∃ h : Nat, ((i : Int) + (j : Int)) / 2 = (h : Int) ∧ i ≤ h ∧ h < j := ⟨(i + j) / 2, by omega, by omega, by omega⟩
      have q1 : (h : Int) < (len : Int) := by omega
      have q0 : (0 : Int) ≤ (h : Int) := by omega
      obtain ⟨y, hy⟩ : ∃ y, (X ++ x :: B ++ Y).toArray[h]! = y := ⟨_, rfl⟩
      have lj : ∀ n' os', Sem.run P (loadCellsFrom ⟨g, h * k, none⟩ 0 k #[]) (grow (wr.drewN n') os') = .ok (enc y).toArray (grow (wr.drewN n') os') := fun n' os' => by
        have := SWK.ld HR.out.2.2 R (by rw [HS0.out.2.2.1, hs]) P h (by rw [HS0.out.2.2.1]; omega) n' os'
        rwa [Nat.zero_add, hy] at this
      have lp : ∀ n' os', Sem.run P (loadCellsFrom ⟨g, a * k, none⟩ 0 k #[]) (grow (wr.drewN n') os') = .ok (enc x).toArray (grow (wr.drewN n') os') := fun n' os' => by
        have := SWK.ld HR.out.2.2 R (by rw [HS0.out.2.2.1, hs]) P a (by rw [HS0.out.2.2.1]; omega) n' os'
        rwa [Nat.zero_add, HS0.out.2.2.2.1] at this
      have hcg : ∀ n' os', Calls P gc #[.agg (enc y).toArray, .agg (enc x).toArray] (grow (wr.drewN n') os') fun e w' => e = .returned (.int .i64 (cf y x)) ∧ ∃ q os'', w' = grow ((grow (wr.drewN n') os').drewN q) os'' := fun n' os' => SWK.cmp HR.out.2.2 HC.out HS0.out.2.2.1 y x n' os'
      have CLS : Hid (∀ n' os', SWL enc k w0 g (X ++ x :: B ++ Y) (grow (wr.drewN n') os')) := fun n' os' => SWK.grown HR.out.2.2 n' os'
      have HY := Hid.mk hy
      clear hy
      by_cases hlv : cf y x < 0
      · go_wp2_with fail
        go_quiet_grown (first | (go_at_fn gc; refine Calls.grown_of (hcg _ _)))
        go_wp2
        exact ⟨⟨h + 1, j, by go_num, rfl, by omega, by omega, by omega, .inr (by rw [Nat.add_sub_cancel, HY.out]; exact decide_eq_true hlv), HR.out.2.1, CLS.out _ _⟩, by simp [intOf]; omega⟩
      · go_wp2_with fail
        go_quiet_grown (first | (go_at_fn gc; refine Calls.grown_of (hcg _ _)))
        go_wp2
        exact ⟨⟨i, h, rfl, by go_num, by omega, by omega, by omega, HR.out.1, .inr (by rw [HY.out]; exact decide_eq_false (by omega)), CLS.out _ _⟩, by simp [intOf]; omega⟩
    · have hije : i = j := by omega
      subst hije
      obtain ⟨B1, B2, hBB, hB1⟩ := cut_list B (i - m) (by have := HS0.out.2.2.2.2.2; omega)
      have HCUT : Hid ((∀ y ∈ B1, ltc cf y x = true) ∧ (∀ y ∈ B2, ltc cf y x = false) ∧ SWL enc k w0 g (X ++ ([] ++ x :: B1) ++ B2 ++ Y) wr) := by
        obtain ⟨hS, hB, hzD, hxa, ha, hm, hb⟩ := HS0.out
        obtain ⟨c1, c2, hq⟩ := HR.out
        subst hBB
        have hc := cut_less (x := x) hw hB (by
          rcases c1 with c1 | c1
          · exact .inl (List.length_eq_zero_iff.1 (by omega))
          · by_cases he : B1 = []
            · exact .inl he
            · refine .inr ⟨B1.dropLast, B1.getLast he, (List.dropLast_concat_getLast he).symm, ?_⟩
              have hne := List.length_pos_iff.2 he
              have := get_at (X ++ x :: B1.dropLast) (B2 ++ Y) (B1.getLast he) (i - 1) (by simp; omega)
              have e : X ++ x :: B1.dropLast ++ B1.getLast he :: (B2 ++ Y) = X ++ x :: (B1 ++ B2) ++ Y := by
                have h2 := List.dropLast_concat_getLast he
                have h3 : B1.dropLast ++ B1.getLast he :: (B2 ++ Y) = B1 ++ (B2 ++ Y) := by
                  conv => rhs; rw [← h2]
                  simp
                simp [h3]
              rw [e] at this
              rw [this] at c1
              exact c1) (by
          rcases c2 with c2 | c2
          · refine .inl (List.length_eq_zero_iff.1 ?_)
            rw [List.length_append] at hb
            omega
          · cases B2 with
            | nil => exact .inl rfl
            | cons z Z =>
              refine .inr ⟨z, Z, rfl, ?_⟩
              have := get_at (X ++ x :: B1) (Z ++ Y) z i (by simp; omega)
              have e : X ++ x :: B1 ++ z :: (Z ++ Y) = X ++ x :: (B1 ++ z :: Z) ++ Y := by simp
              rw [e] at this
              rw [this] at c2
              exact c2)
        exact ⟨hc.1, hc.2, by simpa using hq⟩
      have hiX : X.length + 1 + B1.length = i := by have := HS0.out.2.2.2.2; omega
      have HA0 : Hid (a = X.length) := HS0.out.2.2.2.2.1
      have HBB := Hid.mk hBB
      have HB : Hid (Srt (ltc cf) B) := HS0.out.2.1
      have ri : IntKind.i64.wrap ((i : Int) - 1) = (i : Int) - 1 := by rw [IntKind.wrap_i64]; omega
      have hil : i ≤ len := by omega
      clear HR HS0 hBB
      go_wp2_with fail
      go_loopw [13] (fun v wq => ∃ kk : Nat, v = .int .i64 kk ∧ a ≤ kk ∧ kk + 1 ≤ i ∧ Hid (∃ C1 C2, B1 = C1 ++ C2 ∧ X.length + C1.length = kk ∧ SWL enc k w0 g (X ++ (C1 ++ x :: C2) ++ B2 ++ Y) wq)) (fun v _ => i - (intOf v).toNat)
      case atStart => exact ⟨a, rfl, Nat.le_refl _, by have := HA0.out; omega, [], B1, rfl, by rw [HA0.out]; rfl, HCUT.out.2.2⟩
      case round =>
        obtain ⟨kk, rfl, hak, hki, HK⟩ := hrel
        by_cases hkl : kk + 1 < i
        · have p3 : (kk : Int) < (i : Int) - 1 := by omega
          obtain ⟨C1, C2, hC, hCk, hSW⟩ := HK.out
          obtain ⟨z, C3, rfl⟩ : ∃ z C3, C2 = z :: C3 := by
            cases C2 with
            | nil => rw [List.append_nil] at hC; rw [hC] at hiX; omega
            | cons z C3 => exact ⟨z, C3, rfl⟩
          have hzD : (X ++ (C1 ++ x :: z :: C3) ++ B2 ++ Y).toArray.size = len := by
            have h1 := congrArg List.length hC
            have h2 := congrArg List.length HBB.out
            simp only [List.length_append, List.length_cons, List.size_toArray] at h1 h2 ⊢
            omega
          have e1 : X ++ (C1 ++ x :: z :: C3) ++ B2 ++ Y = (X ++ C1) ++ x :: ([] ++ z :: (C3 ++ B2 ++ Y)) := by simp
          have g1 : (X ++ (C1 ++ x :: z :: C3) ++ B2 ++ Y).toArray[kk]! = x := by rw [e1]; exact get_at _ _ x kk (by simp; omega)
          have g2 : (X ++ (C1 ++ x :: z :: C3) ++ B2 ++ Y).toArray[kk + 1]! = z := by
            have := get_at (X ++ C1 ++ [x]) (C3 ++ B2 ++ Y) z (kk + 1) (by simp; omega)
            rw [e1]; simpa using this
          have SW2 : Aside (SWK enc k w0 g 0 (swp (X ++ (C1 ++ x :: z :: C3) ++ B2 ++ Y).toArray kk (kk + 1)) ((wr.drew.setCells g (0 + kk * k) (enc (X ++ (C1 ++ x :: z :: C3) ++ B2 ++ Y).toArray[kk + 1]!)).setCells g (0 + (kk + 1) * k) (enc (X ++ (C1 ++ x :: z :: C3) ++ B2 ++ Y).toArray[kk]!))) := SWK.swapped hSW R kk (kk + 1) (by rw [hzD]; omega) (by rw [hzD]; omega)
          have l1 := SWK.ld1 hSW R (by rw [hzD, hs]) P kk (by rw [hzD]; omega)
          have l2 := SWK.ld1 hSW R (by rw [hzD, hs]) P (kk + 1) (by rw [hzD]; omega)
          have s1 := SWK.st1 hSW R (by rw [hzD, hs]) P kk (by rw [hzD]; omega) z
          have s2 := SWK.st2 hSW R (by rw [hzD, hs]) P kk (kk + 1) (by rw [hzD]; omega) (by rw [hzD]; omega) z x
          rw [g1, g2] at SW2
          rw [g1] at l1
          rw [g2] at l2
          have hls : swp (X ++ (C1 ++ x :: z :: C3) ++ B2 ++ Y).toArray kk (kk + 1) = (X ++ ((C1 ++ [z]) ++ x :: C3) ++ B2 ++ Y).toArray := by
            rw [e1, swp_at (X ++ C1) [] (C3 ++ B2 ++ Y) x z kk (kk + 1) (by simp; omega) (by simp; omega)]
            simp
          rw [hls] at SW2
          have n1 : (enc x).length = k := R.hk _
          have n2 : (enc z).length = k := R.hk _
          have HST : Hid (B1 = (C1 ++ [z]) ++ C3 ∧ X.length + (C1 ++ [z]).length = kk + 1) := ⟨by rw [hC]; simp, by simp; omega⟩
          generalize enc x = cI at SW2 l1 s2 n1
          generalize enc z = cJ at SW2 l2 s1 s2 n2
          simp only [Nat.zero_add] at SW2 l1 l2 s1 s2
          have q0 : (0 : Int) ≤ (kk : Int) := by omega
          have q1 : (kk : Int) < (len : Int) := by omega
          have q2 : (kk : Int) + 1 < (len : Int) := by omega
          have q3 : (0 : Int) ≤ (kk : Int) + 1 := by omega
          have q4 : ((kk : Int) + 1).toNat = kk + 1 := by omega
          have q5 : IntKind.i64.wrap ((kk : Int) + 1) = (kk : Int) + 1 := by rw [IntKind.wrap_i64]; omega
          clear hSW hC hCk hzD e1 g1 g2 hls HK
          go_wp2_with fail
          go_big_region_o
          clear l1 l2 s1 s2
          generalize (wr.drew.setCells g (kk * k) cJ).setCells g ((kk + 1) * k) cI = w5 at SW2 ⊢
          go_wp2
          exact ⟨⟨kk + 1, by go_num, by omega, by omega, C1 ++ [z], C3, HST.out.1, HST.out.2, SW2.out⟩, by simp [intOf]; omega⟩
        · have p3 : ¬ (kk : Int) < (i : Int) - 1 := by omega
          go_wp2
          refine bodyPost_ret (results_none rfl _ _ _) rfl ?_
          obtain ⟨C1, C2, hC, hCk, hSW⟩ := HK.out
          have hC2 : C2 = [] := by
            have h1 := congrArg List.length hC
            rw [List.length_append] at h1
            exact List.length_eq_zero_iff.1 (by omega)
          subst hC2
          rw [List.append_nil] at hC
          subst hC
          obtain ⟨c1, c2, -⟩ := HCUT.out
          have hB := HB.out
          rw [HBB.out] at hB ⊢
          obtain ⟨b1, b2, -⟩ := srt_append.1 hB
          have hm := merge_cut hw (A1 := []) (A2 := [x]) (B1 := B1) (B2 := B2) (List.pairwise_singleton _ _) hB (fun u hu v hv => by simp at hu; rw [hu]; exact c1 v hv) (fun u hu => (by cases hu)) (P := B1) (Q := x :: B2) b1
            (List.pairwise_cons.2 ⟨c2, b2⟩) (by simpa using Cls.refl _ _) (by simpa using Cls.refl _ _)
          exact ⟨rfl, B1 ++ x :: B2, hm.1, by simpa using hm.2, by simp; omega, by simpa using hSW⟩

end Go.Proofs.Ytphkchjejbffeaa

/- The walk of slices.symMergeCmpFunc over orders, one on the right. -/
namespace Go.Proofs.Ytphkchjejbffeaa
open Go.Shelf Go.RowKit Go.Lib Go.Sort
attribute [local go_sem ↓] Go.wp_at_zero Go.wp_at_succ

theorem cut_more {lt : Ord → Ord → Bool} (hw : Swo lt) {A1 A2 : List Ord} {y : Ord} (hA : Srt lt (A1 ++ A2)) (h1 : A1 = [] ∨ ∃ S z, A1 = S ++ [z] ∧ lt y z = false) (h2 : A2 = [] ∨ ∃ z S, A2 = z :: S ∧ lt y z = true) : (∀ u ∈ A1, lt y u = false) ∧ ∀ u ∈ A2, lt y u = true := by
  obtain ⟨b1, b2, -⟩ := srt_append.1 hA
  refine ⟨?_, ?_⟩
  · intro u hu
    rcases h1 with rfl | ⟨S, z, rfl, hz⟩
    · cases hu
    · rcases List.mem_append.1 hu with hu | hu
      · exact hw.le_trans ((srt_append.1 b1).2.2 u hu z (by simp)) hz
      · simp at hu; rw [hu]; exact hz
  · intro u hu
    rcases h2 with rfl | ⟨z, S, rfl, hz⟩
    · cases hu
    · rcases List.mem_cons.1 hu with rfl | hu
      · exact hz
      · exact hw.lt_le hz ((List.pairwise_cons.1 b2).1 u hu)

set_option maxRecDepth 100000 in
set_option maxHeartbeats 4000000 in
theorem symMerge_two {P : Program} {k : Nat} (T : SrtT P k) (FG : P.funcs[132]? = some Try.f132)
    (enc : Ord → List Value) (cf : Ord → Ord → Int) (hw : Swo (ltc cf)) (gc : Nat) (eg : ∀ args w, (callFunc gc args).run P w = .ok (.enter gc args) w) (w0 w : World) (g cap len a m b : Nat) (d0 : Array Ord) (X A Y : List Ord) (y : Ord) (hcmp : CmpLays P gc #[] enc k cf g 0 len w0) (R : RowK enc k w0 g 0 d0)
    (hlen : (X ++ A ++ y :: Y).length = len) (hs : d0.size = len) (S : SWL enc k w0 g (X ++ A ++ y :: Y) w) (ha : a = X.length) (hm : m = X.length + A.length) (hb : b = X.length + A.length + 1) (hA : Srt (ltc cf) A) (hA2 : 2 ≤ A.length) (hsz : len < 4611686018427387904) :
    Calls P 132 #[.slice (some ⟨g, 0, none⟩) len cap, .int .i64 a, .int .i64 m, .int .i64 b, .func (.func gc) #[] #[]] w fun e w' => e = .returned (.tuple #[]) ∧ Merged enc k w0 g cf X A [y] Y w' := by
  have mixed := T.mixed; have t0 := T.t0; have a0 := T.a0; have z0 := T.z0; have v0 := T.v0; have t3 := T.t3; have a3 := T.a3; have z3 := T.z3; have v3 := T.v3; have t4 := T.t4; have a4 := T.a4; have z4 := T.z4; have v4 := T.v4; have t22 := T.t22; have a22 := T.a22; have z22 := T.z22; have v22 := T.v22; have t25 := T.t25; have a25 := T.a25; have z25 := T.z25; have v25 := T.v25; have tu := T.tu; have au := T.au; have zu := T.zu; have vu := T.vu; have aE := T.aE; have zE := T.zE
  have u22 := run_underlying T.t22
  have HC : Aside (CmpLays P gc #[] enc k cf g 0 len w0) := hcmp
  have hlX : X.length + A.length + 1 + Y.length = len := by simp only [List.length_append, List.length_cons] at hlen; omega
  have hma : ((m : Int) - (a : Int) == 1) = false := by rw [beq_eq_false_iff_ne]; omega
  have rma : IntKind.i64.wrap ((m : Int) - (a : Int)) = (m : Int) - (a : Int) := by rw [IntKind.wrap_i64]; omega
  have hmb1 : (b : Int) - (m : Int) = 1 := by omega
  have hzD : (X ++ A ++ y :: Y).toArray.size = len := by simpa using hlen
  have hym : (X ++ A ++ y :: Y).toArray[m]! = y := get_at (X ++ A) Y y m (by simp; omega)
  have HS0 := Hid.mk (And.intro S (And.intro hA (And.intro hzD (And.intro hym (And.intro ha (And.intro hm hb))))))
  have ham : a ≤ m := by omega
  have hml : m < len := by omega
  have hmlz : (m : Int) < (len : Int) := by omega
  have hm0 : (0 : Int) ≤ (m : Int) := by omega
  clear S T hcmp hA ha hm hb hzD hym hlen hA2
  go_enter FG, Try.ntmps132
  go_wp2_with fail
  go_loopw [14, 15] (fun vi vj wr => ∃ i j : Nat, vi = .int .i64 i ∧ vj = .int .i64 j ∧ a ≤ i ∧ i ≤ j ∧ j ≤ m ∧ Hid ((i = a ∨ ltc cf y (X ++ A ++ y :: Y).toArray[i - 1]! = false) ∧ (j = m ∨ ltc cf y (X ++ A ++ y :: Y).toArray[j]! = true) ∧ SWL enc k w0 g (X ++ A ++ y :: Y) wr))
    (fun vi vj _ => (intOf vj).toNat - (intOf vi).toNat)
  case atStart => exact ⟨a, m, rfl, rfl, Nat.le_refl _, ham, Nat.le_refl _, .inl rfl, .inl rfl, HS0.out.1⟩
  case round =>
    obtain ⟨i, j, rfl, rfl, hmi, hij, hjb, HR⟩ := hrel
    by_cases hlt : i < j
    · have p0 : (i : Int) < (j : Int) := by omega
      have r1 : IntKind.i64.wrap ((i : Int) + (j : Int)) = (i : Int) + (j : Int) := by rw [IntKind.wrap_i64]; omega
      obtain ⟨h, hh1, hh2, hh3⟩ : ∃ h : Nat, ((i : Int) + (j : Int)) / 2 = (h : Int) ∧ i ≤ h ∧ h < j := ⟨(i + j) / 2, by omega, by omega, by omega⟩
      have q1 : (h : Int) < (len : Int) := by omega
      have q0 : (0 : Int) ≤ (h : Int) := by omega
      obtain ⟨z, hz⟩ : ∃ z, (X ++ A ++ y :: Y).toArray[h]! = z := ⟨_, rfl⟩
      have lj : ∀ n' os', Sem.run P (loadCellsFrom ⟨g, h * k, none⟩ 0 k #[]) (grow (wr.drewN n') os') = .ok (enc z).toArray (grow (wr.drewN n') os') := fun n' os' => by
        have := SWK.ld HR.out.2.2 R (by rw [HS0.out.2.2.1, hs]) P h (by rw [HS0.out.2.2.1]; omega) n' os'
        rwa [Nat.zero_add, hz] at this
      have lp : ∀ n' os', Sem.run P (loadCellsFrom ⟨g, m * k, none⟩ 0 k #[]) (grow (wr.drewN n') os') = .ok (enc y).toArray (grow (wr.drewN n') os') := fun n' os' => by
        have := SWK.ld HR.out.2.2 R (by rw [HS0.out.2.2.1, hs]) P m (by rw [HS0.out.2.2.1]; omega) n' os'
        rwa [Nat.zero_add, HS0.out.2.2.2.1] at this
      have hcg : ∀ n' os', Calls P gc #[.agg (enc y).toArray, .agg (enc z).toArray] (grow (wr.drewN n') os') fun e w' => e = .returned (.int .i64 (cf y z)) ∧ ∃ q os'', w' = grow ((grow (wr.drewN n') os').drewN q) os'' := fun n' os' => SWK.cmp HR.out.2.2 HC.out HS0.out.2.2.1 y z n' os'
      have CLS : Hid (∀ n' os', SWL enc k w0 g (X ++ A ++ y :: Y) (grow (wr.drewN n') os')) := fun n' os' => SWK.grown HR.out.2.2 n' os'
      have HZ := Hid.mk hz
      clear hz
      by_cases hlv : cf y z < 0
      · go_wp2_with fail
        go_quiet_grown (first | (go_at_fn gc; refine Calls.grown_of (hcg _ _)))
        go_wp2
        exact ⟨⟨i, h, rfl, by go_num, by omega, by omega, by omega, HR.out.1, .inr (by rw [HZ.out]; exact decide_eq_true hlv), CLS.out _ _⟩, by simp [intOf]; omega⟩
      · have hd : decide (cf y z < 0) = false := decide_eq_false hlv
        have hd2 : ¬ (cf y z < 0) := hlv
        go_wp2_with fail
        go_quiet_grown (first | (go_at_fn gc; refine Calls.grown_of (hcg _ _)))
        go_wp2
        exact ⟨⟨h + 1, j, by go_num, rfl, by omega, by omega, by omega, .inr (by rw [Nat.add_sub_cancel, HZ.out]; exact decide_eq_false (by omega)), HR.out.2.1, CLS.out _ _⟩, by simp [intOf]; omega⟩
    · have hije : i = j := by omega
      subst hije
      obtain ⟨A1, A2, hAA, hA1⟩ := cut_list A (i - a) (by have := HS0.out.2.2.2.2; omega)
      have HCUT : Hid ((∀ u ∈ A1, ltc cf y u = false) ∧ (∀ u ∈ A2, ltc cf y u = true) ∧ SWL enc k w0 g (X ++ A1 ++ (A2 ++ y :: []) ++ Y) wr) := by
        obtain ⟨hS, hA, hzD, hym, ha, hm, hb⟩ := HS0.out
        obtain ⟨c1, c2, hq⟩ := HR.out
        subst hAA
        have hc := cut_more (y := y) hw hA (by
          rcases c1 with c1 | c1
          · exact .inl (List.length_eq_zero_iff.1 (by omega))
          · by_cases he : A1 = []
            · exact .inl he
            · refine .inr ⟨A1.dropLast, A1.getLast he, (List.dropLast_concat_getLast he).symm, ?_⟩
              have hne := List.length_pos_iff.2 he
              have := get_at (X ++ A1.dropLast) (A2 ++ y :: Y) (A1.getLast he) (i - 1) (by simp; omega)
              have e : X ++ A1.dropLast ++ A1.getLast he :: (A2 ++ y :: Y) = X ++ (A1 ++ A2) ++ y :: Y := by
                have h2 := List.dropLast_concat_getLast he
                have h3 : A1.dropLast ++ A1.getLast he :: (A2 ++ y :: Y) = A1 ++ (A2 ++ y :: Y) := by
                  conv => rhs; rw [← h2]
                  simp
                simp [h3]
              rw [e] at this
              rw [this] at c1
              exact c1) (by
          rcases c2 with c2 | c2
          · refine .inl (List.length_eq_zero_iff.1 ?_)
            rw [List.length_append] at hm
            omega
          · cases A2 with
            | nil => exact .inl rfl
            | cons z Z =>
              refine .inr ⟨z, Z, rfl, ?_⟩
              have := get_at (X ++ A1) (Z ++ y :: Y) z i (by simp; omega)
              have e : X ++ A1 ++ z :: (Z ++ y :: Y) = X ++ (A1 ++ z :: Z) ++ y :: Y := by simp
              rw [e] at this
              rw [this] at c2
              exact c2)
        exact ⟨hc.1, hc.2, by simpa using hq⟩
      have hiX : X.length + A1.length = i := by have := HS0.out.2.2.2.2; omega
      have hmX : X.length + A1.length + A2.length = m := by
        have h1 := HS0.out.2.2.2.2.2.1
        rw [hAA, List.length_append] at h1
        omega
      have HAA := Hid.mk hAA
      have HA : Hid (Srt (ltc cf) A) := HS0.out.2.1
      clear HR HS0 hAA
      go_wp2_with fail
      go_loopw [17] (fun v wq => ∃ kk : Nat, v = .int .i64 kk ∧ i ≤ kk ∧ kk ≤ m ∧ Hid (∃ C1 C2, A2 = C1 ++ C2 ∧ X.length + A1.length + C1.length = kk ∧ SWL enc k w0 g (X ++ A1 ++ (C1 ++ y :: C2) ++ Y) wq)) (fun v _ => (intOf v).toNat)
      case atStart => exact ⟨m, rfl, hjb, Nat.le_refl _, A2, [], by simp, hmX, HCUT.out.2.2⟩
      case round =>
        obtain ⟨kk', rfl, hik, hkm, HK⟩ := hrel
        by_cases hkl : i < kk'
        · obtain ⟨kk, rfl⟩ : ∃ kk, kk' = kk + 1 := ⟨kk' - 1, by omega⟩
          have p3 : (i : Int) < (kk : Int) + 1 := by omega
          obtain ⟨C1, C2, hC, hCk, hSW⟩ := HK.out
          obtain ⟨C0, z, rfl⟩ : ∃ C0 z, C1 = C0 ++ [z] := by
            have hne : C1 ≠ [] := by
              intro e
              rw [e] at hCk
              simp at hCk
              omega
            exact ⟨C1.dropLast, C1.getLast hne, (List.dropLast_concat_getLast _).symm⟩
          rw [List.length_append, List.length_singleton] at hCk
          have hzD : (X ++ A1 ++ (C0 ++ [z] ++ y :: C2) ++ Y).toArray.size = len := by
            have h1 := congrArg List.length hC
            have h2 := congrArg List.length HAA.out
            simp only [List.length_append, List.length_cons, List.length_nil, List.size_toArray] at h1 h2 ⊢
            omega
          have e1 : X ++ A1 ++ (C0 ++ [z] ++ y :: C2) ++ Y = (X ++ A1 ++ C0) ++ z :: ([] ++ y :: (C2 ++ Y)) := by simp
          have g1 : (X ++ A1 ++ (C0 ++ [z] ++ y :: C2) ++ Y).toArray[kk]! = z := by rw [e1]; exact get_at _ _ z kk (by simp; omega)
          have g2 : (X ++ A1 ++ (C0 ++ [z] ++ y :: C2) ++ Y).toArray[kk + 1]! = y := by
            have := get_at (X ++ A1 ++ C0 ++ [z]) (C2 ++ Y) y (kk + 1) (by simp; omega)
            rw [e1]; simpa using this
          have SW2 : Aside (SWK enc k w0 g 0 (swp (X ++ A1 ++ (C0 ++ [z] ++ y :: C2) ++ Y).toArray (kk + 1) kk) ((wr.drew.setCells g (0 + (kk + 1) * k) (enc (X ++ A1 ++ (C0 ++ [z] ++ y :: C2) ++ Y).toArray[kk]!)).setCells g (0 + kk * k) (enc (X ++ A1 ++ (C0 ++ [z] ++ y :: C2) ++ Y).toArray[kk + 1]!))) := SWK.swapped hSW R (kk + 1) kk (by rw [hzD]; omega) (by rw [hzD]; omega)
          have l1 := SWK.ld1 hSW R (by rw [hzD, hs]) P (kk + 1) (by rw [hzD]; omega)
          have l2 := SWK.ld1 hSW R (by rw [hzD, hs]) P kk (by rw [hzD]; omega)
          have s1 := SWK.st1 hSW R (by rw [hzD, hs]) P (kk + 1) (by rw [hzD]; omega) z
          have s2 := SWK.st2 hSW R (by rw [hzD, hs]) P (kk + 1) kk (by rw [hzD]; omega) (by rw [hzD]; omega) z y
          rw [g1, g2] at SW2
          rw [g2] at l1
          rw [g1] at l2
          have hls : swp (X ++ A1 ++ (C0 ++ [z] ++ y :: C2) ++ Y).toArray (kk + 1) kk = (X ++ A1 ++ (C0 ++ y :: (z :: C2)) ++ Y).toArray := by
            rw [e1, swp_rev (X ++ A1 ++ C0) [] (C2 ++ Y) z y kk (kk + 1) (by simp; omega) (by simp; omega)]
            simp
          rw [hls] at SW2
          have n1 : (enc y).length = k := R.hk _
          have n2 : (enc z).length = k := R.hk _
          have HST : Hid (A2 = C0 ++ (z :: C2) ∧ X.length + A1.length + C0.length = kk) := ⟨by rw [hC]; simp, by omega⟩
          generalize enc y = cI at SW2 l1 s2 n1
          generalize enc z = cJ at SW2 l2 s1 s2 n2
          simp only [Nat.zero_add] at SW2 l1 l2 s1 s2
          have q0 : (0 : Int) ≤ (kk : Int) := by omega
          have q1 : (kk : Int) < (len : Int) := by omega
          have q2 : (kk : Int) + 1 < (len : Int) := by omega
          have q3 : (0 : Int) ≤ (kk : Int) + 1 := by omega
          have q4 : ((kk : Int) + 1).toNat = kk + 1 := by omega
          have q5 : IntKind.i64.wrap ((kk : Int)) = (kk : Int) := by rw [IntKind.wrap_i64]; omega
          clear hSW hC hCk hzD e1 g1 g2 hls HK
          go_wp2_with fail
          go_big_region_o
          clear l1 l2 s1 s2
          generalize (wr.drew.setCells g ((kk + 1) * k) cJ).setCells g (kk * k) cI = w5 at SW2 ⊢
          go_wp2
          exact ⟨⟨kk, by first | rfl | go_num, by omega, by omega, C0, z :: C2, HST.out.1, HST.out.2, SW2.out⟩, by simp [intOf]⟩
        · have p3 : ¬ (i : Int) < (kk' : Int) := by omega
          go_wp2
          refine bodyPost_ret (results_none rfl _ _ _) rfl ?_
          obtain ⟨C1, C2, hC, hCk, hSW⟩ := HK.out
          have hC1 : C1 = [] := List.length_eq_zero_iff.1 (by omega)
          subst hC1
          rw [List.nil_append] at hC
          subst hC
          obtain ⟨c1, c2, -⟩ := HCUT.out
          have hA := HA.out
          rw [HAA.out] at hA ⊢
          obtain ⟨b1, b2, -⟩ := srt_append.1 hA
          have hm := merge_cut hw (A1 := A1) (A2 := A2) (B1 := [y]) (B2 := []) hA (List.pairwise_singleton _ _) (fun u hu v hv => by simp at hv; rw [hv]; exact c2 u hu) (fun u hu v hv => (by cases hv)) (P := A1 ++ [y]) (Q := A2)
            (srt_append.2 ⟨b1, List.pairwise_singleton _ _, fun u hu v hv => by simp at hv; rw [hv]; exact c1 u hu⟩) b2 (Cls.refl _ _) (by simpa using Cls.refl _ _)
          exact ⟨rfl, A1 ++ [y] ++ A2, hm.1, by simpa using hm.2, by simp; omega, by simpa using hSW⟩

end Go.Proofs.Ytphkchjejbffeaa

/- The walk of slices.symMergeCmpFunc over orders, whole. -/
namespace Go.Proofs.Ytphkchjejbffeaa
open Go.Shelf Go.RowKit Go.Lib Go.Sort
attribute [local go_sem ↓] Go.wp_at_zero Go.wp_at_succ

/-- What halving has found: where both lists are cut. -/
theorem sym_cut {lt : Ord → Ord → Bool} (hw : Swo lt) {X A1 A2 B1 B2 Y : List Ord} {s e : Nat} (hA : Srt lt (A1 ++ A2)) (hB : Srt lt (B1 ++ B2)) (hs : s = X.length + A1.length) (he : e = X.length + (A1 ++ A2).length + B1.length)
    (h1 : A1 = [] ∨ B2 = [] ∨ lt (X ++ (A1 ++ A2) ++ (B1 ++ B2) ++ Y).toArray[e]! (X ++ (A1 ++ A2) ++ (B1 ++ B2) ++ Y).toArray[s - 1]! = false)
    (h2 : A2 = [] ∨ B1 = [] ∨ lt (X ++ (A1 ++ A2) ++ (B1 ++ B2) ++ Y).toArray[e - 1]! (X ++ (A1 ++ A2) ++ (B1 ++ B2) ++ Y).toArray[s]! = true) :
    (∀ x ∈ A2, ∀ y ∈ B1, lt y x = true) ∧ ∀ x ∈ A1, ∀ y ∈ B2, lt y x = false := by
  obtain ⟨a1, a2, -⟩ := srt_append.1 hA
  obtain ⟨b1, b2, -⟩ := srt_append.1 hB
  refine ⟨?_, ?_⟩
  · intro x hx y hy
    rcases h2 with rfl | rfl | h2
    · cases hx
    · cases hy
    · cases A2 with
      | nil => cases hx
      | cons u U =>
        have hne : B1 ≠ [] := by rintro rfl; cases hy
        have hl := List.length_pos_iff.2 hne
        have g1 : (X ++ (A1 ++ u :: U) ++ (B1 ++ B2) ++ Y).toArray[s]! = u := by
          have := get_at (X ++ A1) (U ++ (B1 ++ B2) ++ Y) u s (by simp; omega)
          simpa using this
        have hd := List.dropLast_concat_getLast hne
        have g2 : (X ++ (A1 ++ u :: U) ++ (B1 ++ B2) ++ Y).toArray[e - 1]! = B1.getLast hne := by
          have := get_at (X ++ (A1 ++ u :: U) ++ B1.dropLast) (B2 ++ Y) (B1.getLast hne) (e - 1) (by simp at he ⊢; omega)
          have e2 : X ++ (A1 ++ u :: U) ++ B1.dropLast ++ B1.getLast hne :: (B2 ++ Y) = X ++ (A1 ++ u :: U) ++ (B1 ++ B2) ++ Y := by
            have h3 : B1.dropLast ++ B1.getLast hne :: (B2 ++ Y) = B1 ++ (B2 ++ Y) := by
              conv => rhs; rw [← hd]
              simp
            simp [h3]
          rw [e2] at this
          exact this
        rw [g1, g2] at h2
        have hy' : lt (B1.getLast hne) y = false := by
          rw [← hd] at hy b1
          rcases List.mem_append.1 hy with hy | hy
          · exact (srt_append.1 b1).2.2 y hy _ (by simp)
          · simp at hy; rw [hy]; exact hw.irr _
        have hx' : lt x u = false := by
          rcases List.mem_cons.1 hx with rfl | hx
          · exact hw.irr _
          · exact (List.pairwise_cons.1 a2).1 x hx
        exact hw.lt_le (hw.le_lt hy' h2) hx'
  · intro x hx y hy
    rcases h1 with rfl | rfl | h1
    · cases hx
    · cases hy
    · cases B2 with
      | nil => cases hy
      | cons v V =>
        have hne : A1 ≠ [] := by rintro rfl; cases hx
        have hl := List.length_pos_iff.2 hne
        have hd := List.dropLast_concat_getLast hne
        have g1 : (X ++ (A1 ++ A2) ++ (B1 ++ v :: V) ++ Y).toArray[e]! = v := by
          have := get_at (X ++ (A1 ++ A2) ++ B1) (V ++ Y) v e (by simp at he ⊢; omega)
          simpa using this
        have g2 : (X ++ (A1 ++ A2) ++ (B1 ++ v :: V) ++ Y).toArray[s - 1]! = A1.getLast hne := by
          have := get_at (X ++ A1.dropLast) (A2 ++ (B1 ++ v :: V) ++ Y) (A1.getLast hne) (s - 1) (by simp; omega)
          have e2 : X ++ A1.dropLast ++ A1.getLast hne :: (A2 ++ (B1 ++ v :: V) ++ Y) = X ++ (A1 ++ A2) ++ (B1 ++ v :: V) ++ Y := by
            have h3 : A1.dropLast ++ A1.getLast hne :: (A2 ++ (B1 ++ v :: V) ++ Y) = A1 ++ (A2 ++ (B1 ++ v :: V) ++ Y) := by
              conv => rhs; rw [← hd]
              simp
            rw [List.append_assoc X, h3]
            simp
          rw [e2] at this
          exact this
        rw [g1, g2] at h1
        have hx' : lt (A1.getLast hne) x = false := by
          rw [← hd] at hx a1
          rcases List.mem_append.1 hx with hx | hx
          · exact (srt_append.1 a1).2.2 x hx _ (by simp)
          · simp at hx; rw [hx]; exact hw.irr _
        have hy' : lt y v = false := by
          rcases List.mem_cons.1 hy with rfl | hy
          · exact hw.irr _
          · exact (List.pairwise_cons.1 b2).1 y hy
        exact hw.le_trans hx' (hw.le_trans h1 hy')

end Go.Proofs.Ytphkchjejbffeaa
