/- The walk of slices.symMergeCmpFunc over orders. -/
import Derived.Test.YtphkchjejbffeaaGreatG19
import Derived.Deep.CutBlock
import Derived.Deep.DeepCutAuto
namespace Go.Proofs.YtphkchjejbffeaaGreat
open Go.Shelf Go.RowKit Go.Lib Go.Sort
attribute [local go_sem ↓] Go.wp_at_zero Go.wp_at_succ

/-- What was found by halving, in a sorted list: all ahead are less. -/
theorem cut_less {lt : Ord → Ord → Bool} (hw : Swo lt) {B1 B2 : List Ord} {x : Ord} (hB : Srt lt (B1 ++ B2)) (h1 : B1 = [] ∨ ∃ S z, B1 = S ++ [z] ∧ lt z x = true) (h2 : B2 = [] ∨ ∃ z S, B2 = z :: S ∧ lt z x = false) : (∀ y ∈ B1, lt y x = true) ∧ ∀ y ∈ B2, lt y x = false := by
  obtain ⟨b1, b2, -⟩ := srt_append.1 hB
  refine ⟨?_, ?_⟩
  · intro y hy
    rcases h1 with rfl | ⟨S, z, rfl, hz⟩
    · cases hy
    · rcases List.mem_append.1 hy with hy | hy
      · exact hw.le_lt ((srt_append.1 b1).2.2 y hy z (by simp)) hz
      · simp at hy; rw [hy]; exact hz
  · intro y hy
    rcases h2 with rfl | ⟨z, S, rfl, hz⟩
    · cases hy
    · rcases List.mem_cons.1 hy with rfl | hy
      · exact hz
      · exact hw.le_trans hz ((List.pairwise_cons.1 b2).1 y hy) |> fun h => by
          cases hb : lt y x with
          | false => rfl
          | true => rw [hw.le_lt ((List.pairwise_cons.1 b2).1 y hy) hb] at hz; cases hz

/-- What symMerge owes. -/
def Merged (enc : Ord → List Value) (k : Nat) (w0 : World) (g : Nat) (cf : Ord → Ord → Int) (X A B Y : List Ord) (w' : World) : Prop :=
  ∃ C, Srt (ltc cf) C ∧ Cls (ltc cf) (A ++ B) C ∧ C.length = A.length + B.length ∧ SWL enc k w0 g (X ++ C ++ Y) w'

set_option maxRecDepth 100000 in
set_option maxHeartbeats 4000000 in
theorem symMerge_one {P : Program} {k : Nat} (T : SrtT P k) (FG : P.funcs[103]? = some Tryz.f103)
    (enc : Ord → List Value) (cf : Ord → Ord → Int) (hw : Swo (ltc cf)) (gc : Nat) (eg : ∀ args w, (callFunc gc args).run P w = .ok (.enter gc args) w) (w0 w : World) (g cap len a m b : Nat) (d0 : Array Ord) (X B Y : List Ord) (x : Ord) (hcmp : CmpLays P gc #[] enc k cf g 0 len w0) (R : RowK enc k w0 g 0 d0)
    (hlen : (X ++ x :: B ++ Y).length = len) (hs : d0.size = len) (S : SWL enc k w0 g (X ++ x :: B ++ Y) w) (ha : a = X.length) (hm : m = X.length + 1) (hb : b = X.length + 1 + B.length) (hB : Srt (ltc cf) B) (hsz : len < 4611686018427387904) :
    Calls P 103 #[.slice (some ⟨g, 0, none⟩) len cap, .int .i64 a, .int .i64 m, .int .i64 b, .func (.func gc) #[] #[]] w fun e w' => e = .returned (.tuple #[]) ∧ Merged enc k w0 g cf X [x] B Y w' := by
  have mixed := T.mixed; have t0 := T.t0; have a0 := T.a0; have z0 := T.z0; have v0 := T.v0; have t3 := T.t3; have a3 := T.a3; have z3 := T.z3; have v3 := T.v3; have t4 := T.t4; have a4 := T.a4; have z4 := T.z4; have v4 := T.v4; have t22 := T.t22; have a22 := T.a22; have z22 := T.z22; have v22 := T.v22; have t25 := T.t25; have a25 := T.a25; have z25 := T.z25; have v25 := T.v25; have tu := T.tu; have au := T.au; have zu := T.zu; have vu := T.vu; have aE := T.aE; have zE := T.zE
  have u22 := run_underlying T.t22
  have HC : Aside (CmpLays P gc #[] enc k cf g 0 len w0) := hcmp
  have hlX : X.length + 1 + B.length + Y.length = len := by simp only [List.length_append, List.length_cons] at hlen; omega
  have hma : (m : Int) - (a : Int) = 1 := by omega
  have hzD : (X ++ x :: B ++ Y).toArray.size = len := by simpa using hlen
  have hxa : (X ++ x :: B ++ Y).toArray[a]! = x := by
    have := get_at X (B ++ Y) x a ha
    simpa using this
  have HS0 := Hid.mk (And.intro S (And.intro hB (And.intro hzD (And.intro hxa (And.intro ha (And.intro hm hb))))))
  have hmb : m ≤ b := by omega
  have hbl : b ≤ len := by omega
  have hal : (a : Int) < (len : Int) := by omega
  have ha0 : (0 : Int) ≤ (a : Int) := by omega
  clear S T hcmp hB ha hm hb hzD hxa hlen
  go_enter FG, Tryz.ntmps103
  go_wp2_with fail
  go_loopw [10, 11] (fun vi vj wr => ∃ i j : Nat, vi = .int .i64 i ∧ vj = .int .i64 j ∧ m ≤ i ∧ i ≤ j ∧ j ≤ b ∧ Hid ((i = m ∨ ltc cf (X ++ x :: B ++ Y).toArray[i - 1]! x = true) ∧ (j = b ∨ ltc cf (X ++ x :: B ++ Y).toArray[j]! x = false) ∧ SWL enc k w0 g (X ++ x :: B ++ Y) wr))
    (fun vi vj _ => (intOf vj).toNat - (intOf vi).toNat)
  case atStart => exact ⟨m, b, rfl, rfl, Nat.le_refl _, hmb, Nat.le_refl _, .inl rfl, .inl rfl, HS0.out.1⟩
  case round =>
    obtain ⟨i, j, rfl, rfl, hmi, hij, hjb, HR⟩ := hrel
    by_cases hlt : i < j
    · have p0 : (i : Int) < (j : Int) := by omega
      have r1 : IntKind.i64.wrap ((i : Int) + (j : Int)) = (i : Int) + (j : Int) := by rw [IntKind.wrap_i64]; omega
      obtain ⟨h, hh1, hh2, hh3⟩ : ∃ h : Nat, ((i : Int) + (j : Int)) / 2 = (h : Int) ∧ i ≤ h ∧ h < j := ⟨(i + j) / 2, by omega, by omega, by omega⟩
      have q1 : (h : Int) < (len : Int) := by omega
      have q0 : (0 : Int) ≤ (h : Int) := by omega
      obtain ⟨y, hy⟩ : ∃ y, (X ++ x :: B ++ Y).toArray[h]! = y := ⟨_, rfl⟩
      have lj : ∀ n' os', Sem.run P (loadCellsFrom ⟨g, h * k, none⟩ 0 k #[]) (grow (wr.drewN n') os') = .ok (enc y).toArray (grow (wr.drewN n') os') := fun n' os' => by
        have := SWK.ld HR.out.2.2 R (by rw [HS0.out.2.2.1, hs]) P h (by rw [HS0.out.2.2.1]; omega) n' os'
        rwa [Nat.zero_add, hy] at this
      have lp : ∀ n' os', Sem.run P (loadCellsFrom ⟨g, a * k, none⟩ 0 k #[]) (grow (wr.drewN n') os') = .ok (enc x).toArray (grow (wr.drewN n') os') := fun n' os' => by
        have := SWK.ld HR.out.2.2 R (by rw [HS0.out.2.2.1, hs]) P a (by rw [HS0.out.2.2.1]; omega) n' os'
        rwa [Nat.zero_add, HS0.out.2.2.2.1] at this
      have hcg : ∀ n' os', Calls P gc #[.agg (enc y).toArray, .agg (enc x).toArray] (grow (wr.drewN n') os') fun e w' => e = .returned (.int .i64 (cf y x)) ∧ ∃ q os'', w' = grow ((grow (wr.drewN n') os').drewN q) os'' := fun n' os' => SWK.cmp HR.out.2.2 HC.out HS0.out.2.2.1 y x n' os'
      have CLS : Hid (∀ n' os', SWL enc k w0 g (X ++ x :: B ++ Y) (grow (wr.drewN n') os')) := fun n' os' => SWK.grown HR.out.2.2 n' os'
      have HY := Hid.mk hy
      clear hy
      by_cases hlv : cf y x < 0
      · go_wp2_with fail
        go_quiet_grown (first | (go_at_fn gc; refine Calls.grown_of (hcg _ _)))
        go_wp2
        exact ⟨⟨h + 1, j, by go_num, rfl, by omega, by omega, by omega, .inr (by rw [Nat.add_sub_cancel, HY.out]; exact decide_eq_true hlv), HR.out.2.1, CLS.out _ _⟩, by simp [intOf]; omega⟩
      · go_wp2_with fail
        go_quiet_grown (first | (go_at_fn gc; refine Calls.grown_of (hcg _ _)))
        go_wp2
        exact ⟨⟨i, h, rfl, by go_num, by omega, by omega, by omega, HR.out.1, .inr (by rw [HY.out]; exact decide_eq_false (by omega)), CLS.out _ _⟩, by simp [intOf]; omega⟩
    · have hije : i = j := by omega
      subst hije
      obtain ⟨B1, B2, hBB, hB1⟩ := cut_list B (i - m) (by have := HS0.out.2.2.2.2.2; omega)
      have HCUT : Hid ((∀ y ∈ B1, ltc cf y x = true) ∧ (∀ y ∈ B2, ltc cf y x = false) ∧ SWL enc k w0 g (X ++ ([] ++ x :: B1) ++ B2 ++ Y) wr) := by
        obtain ⟨hS, hB, hzD, hxa, ha, hm, hb⟩ := HS0.out
        obtain ⟨c1, c2, hq⟩ := HR.out
        subst hBB
        have hc := cut_less (x := x) hw hB (by
          rcases c1 with c1 | c1
          · exact .inl (List.length_eq_zero_iff.1 (by omega))
          · by_cases he : B1 = []
            · exact .inl he
            · refine .inr ⟨B1.dropLast, B1.getLast he, (List.dropLast_concat_getLast he).symm, ?_⟩
              have hne := List.length_pos_iff.2 he
              have := get_at (X ++ x :: B1.dropLast) (B2 ++ Y) (B1.getLast he) (i - 1) (by simp; omega)
              have e : X ++ x :: B1.dropLast ++ B1.getLast he :: (B2 ++ Y) = X ++ x :: (B1 ++ B2) ++ Y := by
                have h2 := List.dropLast_concat_getLast he
                have h3 : B1.dropLast ++ B1.getLast he :: (B2 ++ Y) = B1 ++ (B2 ++ Y) := by
                  conv => rhs; rw [← h2]
                  simp
                simp [h3]
              rw [e] at this
              rw [this] at c1
              exact c1) (by
          rcases c2 with c2 | c2
          · refine .inl (List.length_eq_zero_iff.1 ?_)
            rw [List.length_append] at hb
            omega
          · cases B2 with
            | nil => exact .inl rfl
            | cons z Z =>
              refine .inr ⟨z, Z, rfl, ?_⟩
              have := get_at (X ++ x :: B1) (Z ++ Y) z i (by simp; omega)
              have e : X ++ x :: B1 ++ z :: (Z ++ Y) = X ++ x :: (B1 ++ z :: Z) ++ Y := by simp
              rw [e] at this
              rw [this] at c2
              exact c2)
        exact ⟨hc.1, hc.2, by simpa using hq⟩
      have hiX : X.length + 1 + B1.length = i := by have := HS0.out.2.2.2.2; omega
      have HA0 : Hid (a = X.length) := HS0.out.2.2.2.2.1
      have HBB := Hid.mk hBB
      have HB : Hid (Srt (ltc cf) B) := HS0.out.2.1
      have ri : IntKind.i64.wrap ((i : Int) - 1) = (i : Int) - 1 := by rw [IntKind.wrap_i64]; omega
      have hil : i ≤ len := by omega
      clear HR HS0 hBB
      go_wp2_with fail
      go_loopw [13] (fun v wq => ∃ kk : Nat, v = .int .i64 kk ∧ a ≤ kk ∧ kk + 1 ≤ i ∧ Hid (∃ C1 C2, B1 = C1 ++ C2 ∧ X.length + C1.length = kk ∧ SWL enc k w0 g (X ++ (C1 ++ x :: C2) ++ B2 ++ Y) wq)) (fun v _ => i - (intOf v).toNat)
      case atStart => exact ⟨a, rfl, Nat.le_refl _, by have := HA0.out; omega, [], B1, rfl, by rw [HA0.out]; rfl, HCUT.out.2.2⟩
      case round =>
        obtain ⟨kk, rfl, hak, hki, HK⟩ := hrel
        by_cases hkl : kk + 1 < i
        · have p3 : (kk : Int) < (i : Int) - 1 := by omega
          obtain ⟨C1, C2, hC, hCk, hSW⟩ := HK.out
          obtain ⟨z, C3, rfl⟩ : ∃ z C3, C2 = z :: C3 := by
            cases C2 with
            | nil => rw [List.append_nil] at hC; rw [hC] at hiX; omega
            | cons z C3 => exact ⟨z, C3, rfl⟩
          have hzD : (X ++ (C1 ++ x :: z :: C3) ++ B2 ++ Y).toArray.size = len := by
            have h1 := congrArg List.length hC
            have h2 := congrArg List.length HBB.out
            simp only [List.length_append, List.length_cons, List.size_toArray] at h1 h2 ⊢
            omega
          have e1 : X ++ (C1 ++ x :: z :: C3) ++ B2 ++ Y = (X ++ C1) ++ x :: ([] ++ z :: (C3 ++ B2 ++ Y)) := by simp
          have g1 : (X ++ (C1 ++ x :: z :: C3) ++ B2 ++ Y).toArray[kk]! = x := by rw [e1]; exact get_at _ _ x kk (by simp; omega)
          have g2 : (X ++ (C1 ++ x :: z :: C3) ++ B2 ++ Y).toArray[kk + 1]! = z := by
            have := get_at (X ++ C1 ++ [x]) (C3 ++ B2 ++ Y) z (kk + 1) (by simp; omega)
            rw [e1]; simpa using this
          have SW2 : Aside (SWK enc k w0 g 0 (swp (X ++ (C1 ++ x :: z :: C3) ++ B2 ++ Y).toArray kk (kk + 1)) ((wr.drew.setCells g (0 + kk * k) (enc (X ++ (C1 ++ x :: z :: C3) ++ B2 ++ Y).toArray[kk + 1]!)).setCells g (0 + (kk + 1) * k) (enc (X ++ (C1 ++ x :: z :: C3) ++ B2 ++ Y).toArray[kk]!))) := SWK.swapped hSW R kk (kk + 1) (by rw [hzD]; omega) (by rw [hzD]; omega)
          have l1 := SWK.ld1 hSW R (by rw [hzD, hs]) P kk (by rw [hzD]; omega)
          have l2 := SWK.ld1 hSW R (by rw [hzD, hs]) P (kk + 1) (by rw [hzD]; omega)
          have s1 := SWK.st1 hSW R (by rw [hzD, hs]) P kk (by rw [hzD]; omega) z
          have s2 := SWK.st2 hSW R (by rw [hzD, hs]) P kk (kk + 1) (by rw [hzD]; omega) (by rw [hzD]; omega) z x
          rw [g1, g2] at SW2
          rw [g1] at l1
          rw [g2] at l2
          have hls : swp (X ++ (C1 ++ x :: z :: C3) ++ B2 ++ Y).toArray kk (kk + 1) = (X ++ ((C1 ++ [z]) ++ x :: C3) ++ B2 ++ Y).toArray := by
            rw [e1, swp_at (X ++ C1) [] (C3 ++ B2 ++ Y) x z kk (kk + 1) (by simp; omega) (by simp; omega)]
            simp
          rw [hls] at SW2
          have n1 : (enc x).length = k := R.hk _
          have n2 : (enc z).length = k := R.hk _
          have HST : Hid (B1 = (C1 ++ [z]) ++ C3 ∧ X.length + (C1 ++ [z]).length = kk + 1) := ⟨by rw [hC]; simp, by simp; omega⟩
          generalize enc x = cI at SW2 l1 s2 n1
          generalize enc z = cJ at SW2 l2 s1 s2 n2
          simp only [Nat.zero_add] at SW2 l1 l2 s1 s2
          have q0 : (0 : Int) ≤ (kk : Int) := by omega
          have q1 : (kk : Int) < (len : Int) := by omega
          have q2 : (kk : Int) + 1 < (len : Int) := by omega
          have q3 : (0 : Int) ≤ (kk : Int) + 1 := by omega
          have q4 : ((kk : Int) + 1).toNat = kk + 1 := by omega
          have q5 : IntKind.i64.wrap ((kk : Int) + 1) = (kk : Int) + 1 := by rw [IntKind.wrap_i64]; omega
          clear hSW hC hCk hzD e1 g1 g2 hls HK
          go_wp2_with fail
          go_big_region_o
          clear l1 l2 s1 s2
          generalize (wr.drew.setCells g (kk * k) cJ).setCells g ((kk + 1) * k) cI = w5 at SW2 ⊢
          go_wp2
          exact ⟨⟨kk + 1, by go_num, by omega, by omega, C1 ++ [z], C3, HST.out.1, HST.out.2, SW2.out⟩, by simp [intOf]; omega⟩
        · have p3 : ¬ (kk : Int) < (i : Int) - 1 := by omega
          go_wp2
          refine bodyPost_ret (results_none rfl _ _ _) rfl ?_
          obtain ⟨C1, C2, hC, hCk, hSW⟩ := HK.out
          have hC2 : C2 = [] := by
            have h1 := congrArg List.length hC
            rw [List.length_append] at h1
            exact List.length_eq_zero_iff.1 (by omega)
          subst hC2
          rw [List.append_nil] at hC
          subst hC
          obtain ⟨c1, c2, -⟩ := HCUT.out
          have hB := HB.out
          rw [HBB.out] at hB ⊢
          obtain ⟨b1, b2, -⟩ := srt_append.1 hB
          have hm := merge_cut hw (A1 := []) (A2 := [x]) (B1 := B1) (B2 := B2) (List.pairwise_singleton _ _) hB (fun u hu v hv => by simp at hu; rw [hu]; exact c1 v hv) (fun u hu => (by cases hu)) (P := B1) (Q := x :: B2) b1
            (List.pairwise_cons.2 ⟨c2, b2⟩) (by simpa using Cls.refl _ _) (by simpa using Cls.refl _ _)
          exact ⟨rfl, B1 ++ x :: B2, hm.1, by simpa using hm.2, by simp; omega, by simpa using hSW⟩

end Go.Proofs.YtphkchjejbffeaaGreat

/- The walk of slices.symMergeCmpFunc over orders, one on the right. -/
namespace Go.Proofs.YtphkchjejbffeaaGreat
open Go.Shelf Go.RowKit Go.Lib Go.Sort
attribute [local go_sem ↓] Go.wp_at_zero Go.wp_at_succ

theorem cut_more {lt : Ord → Ord → Bool} (hw : Swo lt) {A1 A2 : List Ord} {y : Ord} (hA : Srt lt (A1 ++ A2)) (h1 : A1 = [] ∨ ∃ S z, A1 = S ++ [z] ∧ lt y z = false) (h2 : A2 = [] ∨ ∃ z S, A2 = z :: S ∧ lt y z = true) : (∀ u ∈ A1, lt y u = false) ∧ ∀ u ∈ A2, lt y u = true := by
  obtain ⟨b1, b2, -⟩ := srt_append.1 hA
  refine ⟨?_, ?_⟩
  · intro u hu
    rcases h1 with rfl | ⟨S, z, rfl, hz⟩
    · cases hu
    · rcases List.mem_append.1 hu with hu | hu
      · exact hw.le_trans ((srt_append.1 b1).2.2 u hu z (by simp)) hz
      · simp at hu; rw [hu]; exact hz
  · intro u hu
    rcases h2 with rfl | ⟨z, S, rfl, hz⟩
    · cases hu
    · rcases List.mem_cons.1 hu with rfl | hu
      · exact hz
      · exact hw.lt_le hz ((List.pairwise_cons.1 b2).1 u hu)

set_option maxRecDepth 100000 in
set_option maxHeartbeats 4000000 in
theorem symMerge_two {P : Program} {k : Nat} (T : SrtT P k) (FG : P.funcs[103]? = some Tryz.f103)
    (enc : Ord → List Value) (cf : Ord → Ord → Int) (hw : Swo (ltc cf)) (gc : Nat) (eg : ∀ args w, (callFunc gc args).run P w = .ok (.enter gc args) w) (w0 w : World) (g cap len a m b : Nat) (d0 : Array Ord) (X A Y : List Ord) (y : Ord) (hcmp : CmpLays P gc #[] enc k cf g 0 len w0) (R : RowK enc k w0 g 0 d0)
    (hlen : (X ++ A ++ y :: Y).length = len) (hs : d0.size = len) (S : SWL enc k w0 g (X ++ A ++ y :: Y) w) (ha : a = X.length) (hm : m = X.length + A.length) (hb : b = X.length + A.length + 1) (hA : Srt (ltc cf) A) (hA2 : 2 ≤ A.length) (hsz : len < 4611686018427387904) :
    Calls P 103 #[.slice (some ⟨g, 0, none⟩) len cap, .int .i64 a, .int .i64 m, .int .i64 b, .func (.func gc) #[] #[]] w fun e w' => e = .returned (.tuple #[]) ∧ Merged enc k w0 g cf X A [y] Y w' := by
  have mixed := T.mixed; have t0 := T.t0; have a0 := T.a0; have z0 := T.z0; have v0 := T.v0; have t3 := T.t3; have a3 := T.a3; have z3 := T.z3; have v3 := T.v3; have t4 := T.t4; have a4 := T.a4; have z4 := T.z4; have v4 := T.v4; have t22 := T.t22; have a22 := T.a22; have z22 := T.z22; have v22 := T.v22; have t25 := T.t25; have a25 := T.a25; have z25 := T.z25; have v25 := T.v25; have tu := T.tu; have au := T.au; have zu := T.zu; have vu := T.vu; have aE := T.aE; have zE := T.zE
  have u22 := run_underlying T.t22
  have HC : Aside (CmpLays P gc #[] enc k cf g 0 len w0) := hcmp
  have hlX : X.length + A.length + 1 + Y.length = len := by simp only [List.length_append, List.length_cons] at hlen; omega
  have hma : ((m : Int) - (a : Int) == 1) = false := by rw [beq_eq_false_iff_ne]; omega
  have rma : IntKind.i64.wrap ((m : Int) - (a : Int)) = (m : Int) - (a : Int) := by rw [IntKind.wrap_i64]; omega
  have hmb1 : (b : Int) - (m : Int) = 1 := by omega
  have hzD : (X ++ A ++ y :: Y).toArray.size = len := by simpa using hlen
  have hym : (X ++ A ++ y :: Y).toArray[m]! = y := get_at (X ++ A) Y y m (by simp; omega)
  have HS0 := Hid.mk (And.intro S (And.intro hA (And.intro hzD (And.intro hym (And.intro ha (And.intro hm hb))))))
  have ham : a ≤ m := by omega
  have hml : m < len := by omega
  have hmlz : (m : Int) < (len : Int) := by omega
  have hm0 : (0 : Int) ≤ (m : Int) := by omega
  clear S T hcmp hA ha hm hb hzD hym hlen hA2
  go_enter FG, Tryz.ntmps103
  go_wp2_with fail
  go_loopw [14, 15] (fun vi vj wr => ∃ i j : Nat, vi = .int .i64 i ∧ vj = .int .i64 j ∧ a ≤ i ∧ i ≤ j ∧ j ≤ m ∧ Hid ((i = a ∨ ltc cf y (X ++ A ++ y :: Y).toArray[i - 1]! = false) ∧ (j = m ∨ ltc cf y (X ++ A ++ y :: Y).toArray[j]! = true) ∧ SWL enc k w0 g (X ++ A ++ y :: Y) wr))
    (fun vi vj _ => (intOf vj).toNat - (intOf vi).toNat)
  case atStart => exact ⟨a, m, rfl, rfl, Nat.le_refl _, ham, Nat.le_refl _, .inl rfl, .inl rfl, HS0.out.1⟩
  case round =>
    obtain ⟨i, j, rfl, rfl, hmi, hij, hjb, HR⟩ := hrel
    by_cases hlt : i < j
    · have p0 : (i : Int) < (j : Int) := by omega
      have r1 : IntKind.i64.wrap ((i : Int) + (j : Int)) = (i : Int) + (j : Int) := by rw [IntKind.wrap_i64]; omega
      obtain ⟨h, hh1, hh2, hh3⟩ : ∃ h : Nat, ((i : Int) + (j : Int)) / 2 = (h : Int) ∧ i ≤ h ∧ h < j := ⟨(i + j) / 2, by omega, by omega, by omega⟩
      have q1 : (h : Int) < (len : Int) := by omega
      have q0 : (0 : Int) ≤ (h : Int) := by omega
      obtain ⟨z, hz⟩ : ∃ z, (X ++ A ++ y :: Y).toArray[h]! = z := ⟨_, rfl⟩
      have lj : ∀ n' os', Sem.run P (loadCellsFrom ⟨g, h * k, none⟩ 0 k #[]) (grow (wr.drewN n') os') = .ok (enc z).toArray (grow (wr.drewN n') os') := fun n' os' => by
        have := SWK.ld HR.out.2.2 R (by rw [HS0.out.2.2.1, hs]) P h (by rw [HS0.out.2.2.1]; omega) n' os'
        rwa [Nat.zero_add, hz] at this
      have lp : ∀ n' os', Sem.run P (loadCellsFrom ⟨g, m * k, none⟩ 0 k #[]) (grow (wr.drewN n') os') = .ok (enc y).toArray (grow (wr.drewN n') os') := fun n' os' => by
        have := SWK.ld HR.out.2.2 R (by rw [HS0.out.2.2.1, hs]) P m (by rw [HS0.out.2.2.1]; omega) n' os'
        rwa [Nat.zero_add, HS0.out.2.2.2.1] at this
      have hcg : ∀ n' os', Calls P gc #[.agg (enc y).toArray, .agg (enc z).toArray] (grow (wr.drewN n') os') fun e w' => e = .returned (.int .i64 (cf y z)) ∧ ∃ q os'', w' = grow ((grow (wr.drewN n') os').drewN q) os'' := fun n' os' => SWK.cmp HR.out.2.2 HC.out HS0.out.2.2.1 y z n' os'
      have CLS : Hid (∀ n' os', SWL enc k w0 g (X ++ A ++ y :: Y) (grow (wr.drewN n') os')) := fun n' os' => SWK.grown HR.out.2.2 n' os'
      have HZ := Hid.mk hz
      clear hz
      by_cases hlv : cf y z < 0
      · go_wp2_with fail
        go_quiet_grown (first | (go_at_fn gc; refine Calls.grown_of (hcg _ _)))
        go_wp2
        exact ⟨⟨i, h, rfl, by go_num, by omega, by omega, by omega, HR.out.1, .inr (by rw [HZ.out]; exact decide_eq_true hlv), CLS.out _ _⟩, by simp [intOf]; omega⟩
      · have hd : decide (cf y z < 0) = false := decide_eq_false hlv
        have hd2 : ¬ (cf y z < 0) := hlv
        go_wp2_with fail
        go_quiet_grown (first | (go_at_fn gc; refine Calls.grown_of (hcg _ _)))
        go_wp2
        exact ⟨⟨h + 1, j, by go_num, rfl, by omega, by omega, by omega, .inr (by rw [Nat.add_sub_cancel, HZ.out]; exact decide_eq_false (by omega)), HR.out.2.1, CLS.out _ _⟩, by simp [intOf]; omega⟩
    · have hije : i = j := by omega
      subst hije
      obtain ⟨A1, A2, hAA, hA1⟩ := cut_list A (i - a) (by have := HS0.out.2.2.2.2; omega)
      have HCUT : Hid ((∀ u ∈ A1, ltc cf y u = false) ∧ (∀ u ∈ A2, ltc cf y u = true) ∧ SWL enc k w0 g (X ++ A1 ++ (A2 ++ y :: []) ++ Y) wr) := by
        obtain ⟨hS, hA, hzD, hym, ha, hm, hb⟩ := HS0.out
        obtain ⟨c1, c2, hq⟩ := HR.out
        subst hAA
        have hc := cut_more (y := y) hw hA (by
          rcases c1 with c1 | c1
          · exact .inl (List.length_eq_zero_iff.1 (by omega))
          · by_cases he : A1 = []
            · exact .inl he
            · refine .inr ⟨A1.dropLast, A1.getLast he, (List.dropLast_concat_getLast he).symm, ?_⟩
              have hne := List.length_pos_iff.2 he
              have := get_at (X ++ A1.dropLast) (A2 ++ y :: Y) (A1.getLast he) (i - 1) (by simp; omega)
              have e : X ++ A1.dropLast ++ A1.getLast he :: (A2 ++ y :: Y) = X ++ (A1 ++ A2) ++ y :: Y := by
                have h2 := List.dropLast_concat_getLast he
                have h3 : A1.dropLast ++ A1.getLast he :: (A2 ++ y :: Y) = A1 ++ (A2 ++ y :: Y) := by
                  conv => rhs; rw [← h2]
                  simp
                simp [h3]
              rw [e] at this
              rw [this] at c1
              exact c1) (by
          rcases c2 with c2 | c2
          · refine .inl (List.length_eq_zero_iff.1 ?_)
            rw [List.length_append] at hm
            omega
          · cases A2 with
            | nil => exact .inl rfl
            | cons z Z =>
              refine .inr ⟨z, Z, rfl, ?_⟩
              have := get_at (X ++ A1) (Z ++ y :: Y) z i (by simp; omega)
              have e : X ++ A1 ++ z :: (Z ++ y :: Y) = X ++ (A1 ++ z :: Z) ++ y :: Y := by simp
              rw [e] at this
              rw [this] at c2
              exact c2)
        exact ⟨hc.1, hc.2, by simpa using hq⟩
      have hiX : X.length + A1.length = i := by have := HS0.out.2.2.2.2; omega
      have hmX : X.length + A1.length + A2.length = m := by
        have h1 := HS0.out.2.2.2.2.2.1
        rw [hAA, List.length_append] at h1
        omega
      have HAA := Hid.mk hAA
      have HA : Hid (Srt (ltc cf) A) := HS0.out.2.1
      clear HR HS0 hAA
      go_wp2_with fail
      go_loopw [17] (fun v wq => ∃ kk : Nat, v = .int .i64 kk ∧ i ≤ kk ∧ kk ≤ m ∧ Hid (∃ C1 C2, A2 = C1 ++ C2 ∧ X.length + A1.length + C1.length = kk ∧ SWL enc k w0 g (X ++ A1 ++ (C1 ++ y :: C2) ++ Y) wq)) (fun v _ => (intOf v).toNat)
      case atStart => exact ⟨m, rfl, hjb, Nat.le_refl _, A2, [], by simp, hmX, HCUT.out.2.2⟩
      case round =>
        obtain ⟨kk', rfl, hik, hkm, HK⟩ := hrel
        by_cases hkl : i < kk'
        · obtain ⟨kk, rfl⟩ : ∃ kk, kk' = kk + 1 := ⟨kk' - 1, by omega⟩
          have p3 : (i : Int) < (kk : Int) + 1 := by omega
          obtain ⟨C1, C2, hC, hCk, hSW⟩ := HK.out
          obtain ⟨C0, z, rfl⟩ : ∃ C0 z, C1 = C0 ++ [z] := by
            have hne : C1 ≠ [] := by
              intro e
              rw [e] at hCk
              simp at hCk
              omega
            exact ⟨C1.dropLast, C1.getLast hne, (List.dropLast_concat_getLast _).symm⟩
          rw [List.length_append, List.length_singleton] at hCk
          have hzD : (X ++ A1 ++ (C0 ++ [z] ++ y :: C2) ++ Y).toArray.size = len := by
            have h1 := congrArg List.length hC
            have h2 := congrArg List.length HAA.out
            simp only [List.length_append, List.length_cons, List.length_nil, List.size_toArray] at h1 h2 ⊢
            omega
          have e1 : X ++ A1 ++ (C0 ++ [z] ++ y :: C2) ++ Y = (X ++ A1 ++ C0) ++ z :: ([] ++ y :: (C2 ++ Y)) := by simp
          have g1 : (X ++ A1 ++ (C0 ++ [z] ++ y :: C2) ++ Y).toArray[kk]! = z := by rw [e1]; exact get_at _ _ z kk (by simp; omega)
          have g2 : (X ++ A1 ++ (C0 ++ [z] ++ y :: C2) ++ Y).toArray[kk + 1]! = y := by
            have := get_at (X ++ A1 ++ C0 ++ [z]) (C2 ++ Y) y (kk + 1) (by simp; omega)
            rw [e1]; simpa using this
          have SW2 : Aside (SWK enc k w0 g 0 (swp (X ++ A1 ++ (C0 ++ [z] ++ y :: C2) ++ Y).toArray (kk + 1) kk) ((wr.drew.setCells g (0 + (kk + 1) * k) (enc (X ++ A1 ++ (C0 ++ [z] ++ y :: C2) ++ Y).toArray[kk]!)).setCells g (0 + kk * k) (enc (X ++ A1 ++ (C0 ++ [z] ++ y :: C2) ++ Y).toArray[kk + 1]!))) := SWK.swapped hSW R (kk + 1) kk (by rw [hzD]; omega) (by rw [hzD]; omega)
          have l1 := SWK.ld1 hSW R (by rw [hzD, hs]) P (kk + 1) (by rw [hzD]; omega)
          have l2 := SWK.ld1 hSW R (by rw [hzD, hs]) P kk (by rw [hzD]; omega)
          have s1 := SWK.st1 hSW R (by rw [hzD, hs]) P (kk + 1) (by rw [hzD]; omega) z
          have s2 := SWK.st2 hSW R (by rw [hzD, hs]) P (kk + 1) kk (by rw [hzD]; omega) (by rw [hzD]; omega) z y
          rw [g1, g2] at SW2
          rw [g2] at l1
          rw [g1] at l2
          have hls : swp (X ++ A1 ++ (C0 ++ [z] ++ y :: C2) ++ Y).toArray (kk + 1) kk = (X ++ A1 ++ (C0 ++ y :: (z :: C2)) ++ Y).toArray := by
            rw [e1, swp_rev (X ++ A1 ++ C0) [] (C2 ++ Y) z y kk (kk + 1) (by simp; omega) (by simp; omega)]
            simp
          rw [hls] at SW2
          have n1 : (enc y).length = k := R.hk _
          have n2 : (enc z).length = k := R.hk _
          have HST : Hid (A2 = C0 ++ (z :: C2) ∧ X.length + A1.length + C0.length = kk) := ⟨by rw [hC]; simp, by omega⟩
          generalize enc y = cI at SW2 l1 s2 n1
          generalize enc z = cJ at SW2 l2 s1 s2 n2
          simp only [Nat.zero_add] at SW2 l1 l2 s1 s2
          have q0 : (0 : Int) ≤ (kk : Int) := by omega
          have q1 : (kk : Int) < (len : Int) := by omega
          have q2 : (kk : Int) + 1 < (len : Int) := by omega
          have q3 : (0 : Int) ≤ (kk : Int) + 1 := by omega
          have q4 : ((kk : Int) + 1).toNat = kk + 1 := by omega
          have q5 : IntKind.i64.wrap ((kk : Int)) = (kk : Int) := by rw [IntKind.wrap_i64]; omega
          clear hSW hC hCk hzD e1 g1 g2 hls HK
          go_wp2_with fail
          go_big_region_o
          clear l1 l2 s1 s2
          generalize (wr.drew.setCells g ((kk + 1) * k) cJ).setCells g (kk * k) cI = w5 at SW2 ⊢
          go_wp2
          exact ⟨⟨kk, by first | rfl | go_num, by omega, by omega, C0, z :: C2, HST.out.1, HST.out.2, SW2.out⟩, by simp [intOf]⟩
        · have p3 : ¬ (i : Int) < (kk' : Int) := by omega
          go_wp2
          refine bodyPost_ret (results_none rfl _ _ _) rfl ?_
          obtain ⟨C1, C2, hC, hCk, hSW⟩ := HK.out
          have hC1 : C1 = [] := List.length_eq_zero_iff.1 (by omega)
          subst hC1
          rw [List.nil_append] at hC
          subst hC
          obtain ⟨c1, c2, -⟩ := HCUT.out
          have hA := HA.out
          rw [HAA.out] at hA ⊢
          obtain ⟨b1, b2, -⟩ := srt_append.1 hA
          have hm := merge_cut hw (A1 := A1) (A2 := A2) (B1 := [y]) (B2 := []) hA (List.pairwise_singleton _ _) (fun u hu v hv => by simp at hv; rw [hv]; exact c2 u hu) (fun u hu v hv => (by cases hv)) (P := A1 ++ [y]) (Q := A2)
            (srt_append.2 ⟨b1, List.pairwise_singleton _ _, fun u hu v hv => by simp at hv; rw [hv]; exact c1 u hu⟩) b2 (Cls.refl _ _) (by simpa using Cls.refl _ _)
          exact ⟨rfl, A1 ++ [y] ++ A2, hm.1, by simpa using hm.2, by simp; omega, by simpa using hSW⟩

end Go.Proofs.YtphkchjejbffeaaGreat

/- The walk of slices.symMergeCmpFunc over orders, whole. -/
namespace Go.Proofs.YtphkchjejbffeaaGreat
open Go.Shelf Go.RowKit Go.Lib Go.Sort
attribute [local go_sem ↓] Go.wp_at_zero Go.wp_at_succ

/-- What halving has found: where both lists are cut. -/
theorem sym_cut {lt : Ord → Ord → Bool} (hw : Swo lt) {X A1 A2 B1 B2 Y : List Ord} {s e : Nat} (hA : Srt lt (A1 ++ A2)) (hB : Srt lt (B1 ++ B2)) (hs : s = X.length + A1.length) (he : e = X.length + (A1 ++ A2).length + B1.length)
    (h1 : A1 = [] ∨ B2 = [] ∨ lt (X ++ (A1 ++ A2) ++ (B1 ++ B2) ++ Y).toArray[e]! (X ++ (A1 ++ A2) ++ (B1 ++ B2) ++ Y).toArray[s - 1]! = false)
    (h2 : A2 = [] ∨ B1 = [] ∨ lt (X ++ (A1 ++ A2) ++ (B1 ++ B2) ++ Y).toArray[e - 1]! (X ++ (A1 ++ A2) ++ (B1 ++ B2) ++ Y).toArray[s]! = true) :
    (∀ x ∈ A2, ∀ y ∈ B1, lt y x = true) ∧ ∀ x ∈ A1, ∀ y ∈ B2, lt y x = false := by
  obtain ⟨a1, a2, -⟩ := srt_append.1 hA
  obtain ⟨b1, b2, -⟩ := srt_append.1 hB
  refine ⟨?_, ?_⟩
  · intro x hx y hy
    rcases h2 with rfl | rfl | h2
    · cases hx
    · cases hy
    · cases A2 with
      | nil => cases hx
      | cons u U =>
        have hne : B1 ≠ [] := by rintro rfl; cases hy
        have hl := List.length_pos_iff.2 hne
        have g1 : (X ++ (A1 ++ u :: U) ++ (B1 ++ B2) ++ Y).toArray[s]! = u := by
          have := get_at (X ++ A1) (U ++ (B1 ++ B2) ++ Y) u s (by simp; omega)
          simpa using this
        have hd := List.dropLast_concat_getLast hne
        have g2 : (X ++ (A1 ++ u :: U) ++ (B1 ++ B2) ++ Y).toArray[e - 1]! = B1.getLast hne := by
          have := get_at (X ++ (A1 ++ u :: U) ++ B1.dropLast) (B2 ++ Y) (B1.getLast hne) (e - 1) (by simp at he ⊢; omega)
          have e2 : X ++ (A1 ++ u :: U) ++ B1.dropLast ++ B1.getLast hne :: (B2 ++ Y) = X ++ (A1 ++ u :: U) ++ (B1 ++ B2) ++ Y := by
            have h3 : B1.dropLast ++ B1.getLast hne :: (B2 ++ Y) = B1 ++ (B2 ++ Y) := by
              conv => rhs; rw [← hd]
              simp
            simp [h3]
          rw [e2] at this
          exact this
        rw [g1, g2] at h2
        have hy' : lt (B1.getLast hne) y = false := by
          rw [← hd] at hy b1
          rcases List.mem_append.1 hy with hy | hy
          · exact (srt_append.1 b1).2.2 y hy _ (by simp)
          · simp at hy; rw [hy]; exact hw.irr _
        have hx' : lt x u = false := by
          rcases List.mem_cons.1 hx with rfl | hx
          · exact hw.irr _
          · exact (List.pairwise_cons.1 a2).1 x hx
        exact hw.lt_le (hw.le_lt hy' h2) hx'
  · intro x hx y hy
    rcases h1 with rfl | rfl | h1
    · cases hx
    · cases hy
    · cases B2 with
      | nil => cases hy
      | cons v V =>
        have hne : A1 ≠ [] := by rintro rfl; cases hx
        have hl := List.length_pos_iff.2 hne
        have hd := List.dropLast_concat_getLast hne
        have g1 : (X ++ (A1 ++ A2) ++ (B1 ++ v :: V) ++ Y).toArray[e]! = v := by
          have := get_at (X ++ (A1 ++ A2) ++ B1) (V ++ Y) v e (by simp at he ⊢; omega)
          simpa using this
        have g2 : (X ++ (A1 ++ A2) ++ (B1 ++ v :: V) ++ Y).toArray[s - 1]! = A1.getLast hne := by
          have := get_at (X ++ A1.dropLast) (A2 ++ (B1 ++ v :: V) ++ Y) (A1.getLast hne) (s - 1) (by simp; omega)
          have e2 : X ++ A1.dropLast ++ A1.getLast hne :: (A2 ++ (B1 ++ v :: V) ++ Y) = X ++ (A1 ++ A2) ++ (B1 ++ v :: V) ++ Y := by
            have h3 : A1.dropLast ++ A1.getLast hne :: (A2 ++ (B1 ++ v :: V) ++ Y) = A1 ++ (A2 ++ (B1 ++ v :: V) ++ Y) := by
              conv => rhs; rw [← hd]
              simp
            rw [List.append_assoc X, h3]
            simp
          rw [e2] at this
          exact this
        rw [g1, g2] at h1
        have hx' : lt (A1.getLast hne) x = false := by
          rw [← hd] at hx a1
          rcases List.mem_append.1 hx with hx | hx
          · exact (srt_append.1 a1).2.2 x hx _ (by simp)
          · simp at hx; rw [hx]; exact hw.irr _
        have hy' : lt y v = false := by
          rcases List.mem_cons.1 hy with rfl | hy
          · exact hw.irr _
          · exact (List.pairwise_cons.1 b2).1 y hy
        exact hw.le_trans hx' (hw.le_trans h1 hy')

end Go.Proofs.YtphkchjejbffeaaGreat

/- The walk of slices.symMergeCmpFunc over orders, whole. -/
namespace Go.Proofs.YtphkchjejbffeaaGreat
open Go.Shelf Go.RowKit Go.Lib Go.Sort
attribute [local go_sem ↓] Go.wp_at_zero Go.wp_at_succ

/-- What the merge in place calls. -/
structure SrtF (P : Program) : Prop where
  fm : P.funcs[103]? = some Tryz.f103
  fr : P.funcs[139]? = some Tryz.f139
  fs : P.funcs[159]? = some Tryz.f159
  em : ∀ args w, (callFunc 103 args).run P w = .ok (.enter 103 args) w
  er : ∀ args w, (callFunc 139 args).run P w = .ok (.enter 139 args) w
  es : ∀ args w, (callFunc 159 args).run P w = .ok (.enter 159 args) w

set_option maxRecDepth 100000 in
set_option maxHeartbeats 8000000 in
theorem symMerge_gen {P : Program} {k : Nat} (T : SrtT P k) (F : SrtF P)
    (enc : Ord → List Value) (cf : Ord → Ord → Int) (hw : Swo (ltc cf)) (gc : Nat) (eg : ∀ args w, (callFunc gc args).run P w = .ok (.enter gc args) w) (w0 : World) (g cap len : Nat) (d0 : Array Ord) (hcmp : CmpLays P gc #[] enc k cf g 0 len w0) (R : RowK enc k w0 g 0 d0) (hs : d0.size = len) (hsz : len < 4611686018427387904) :
    ∀ (N : Nat) (w : World) (X A B Y : List Ord) (a m b : Nat), A.length + B.length ≤ N → (X ++ A ++ B ++ Y).length = len → SWL enc k w0 g (X ++ A ++ B ++ Y) w → a = X.length → m = X.length + A.length → b = X.length + A.length + B.length → 1 ≤ A.length → 1 ≤ B.length → Srt (ltc cf) A → Srt (ltc cf) B →
    Calls P 103 #[.slice (some ⟨g, 0, none⟩) len cap, .int .i64 a, .int .i64 m, .int .i64 b, .func (.func gc) #[] #[]] w fun e w' => e = .returned (.tuple #[]) ∧ Merged enc k w0 g cf X A B Y w' := by
  intro N
  induction N with
  | zero => intro w X A B Y a m b h0 _ _ _ _ _ h1; omega
  | succ N IH =>
    intro w X A B Y a m b hN hlen S ha hm hb hA1 hB1 hA hB
    by_cases hone : A.length = 1
    · obtain ⟨x, rfl⟩ := List.length_eq_one_iff.1 hone
      exact symMerge_one T F.fm enc cf hw gc eg w0 w g cap len a m b d0 X B Y x hcmp R (by simpa using hlen) hs (by simpa using S) ha (by simpa using hm) (by simpa using hb) hB hsz
    · by_cases htwo : B.length = 1
      · obtain ⟨y, rfl⟩ := List.length_eq_one_iff.1 htwo
        exact symMerge_two T F.fm enc cf hw gc eg w0 w g cap len a m b d0 X A Y y hcmp R (by simpa using hlen) hs (by simpa using S) ha hm (by simpa using hb) hA (by omega) hsz
      · have FG := F.fm
        have mixed := T.mixed; have t0 := T.t0; have a0 := T.a0; have z0 := T.z0; have v0 := T.v0; have t3 := T.t3; have a3 := T.a3; have z3 := T.z3; have v3 := T.v3; have t4 := T.t4; have a4 := T.a4; have z4 := T.z4; have v4 := T.v4; have t22 := T.t22; have a22 := T.a22; have z22 := T.z22; have v22 := T.v22; have t25 := T.t25; have a25 := T.a25; have z25 := T.z25; have v25 := T.v25; have tu := T.tu; have au := T.au; have zu := T.zu; have vu := T.vu; have aE := T.aE; have zE := T.zE
        have uu := run_underlying T.t22
        have em := F.em
        have er := F.er
        have HROT := Hid.mk (fun (w : World) (a m b : Nat) (X A B Y : List Ord) hlen S ha hm hb hA hB => rotate_gen T F.fr F.fs F.es enc w0 w g cap len a m b d0 (.func (.func gc) #[] #[]) X A B Y R hlen hs S ha hm hb hA hB hsz)
        have HIH := Hid.mk IH
        have HC : Aside (CmpLays P gc #[] enc k cf g 0 len w0) := hcmp
        have hlX : X.length + A.length + B.length + Y.length = len := by simp only [List.length_append] at hlen; omega
        have hzD : (X ++ A ++ B ++ Y).toArray.size = len := by simpa using hlen
        have hma : ((m : Int) - (a : Int) == 1) = false := by rw [beq_eq_false_iff_ne]; omega
        have rma : IntKind.i64.wrap ((m : Int) - (a : Int)) = (m : Int) - (a : Int) := by rw [IntKind.wrap_i64]; omega
        have hbm : ((b : Int) - (m : Int) == 1) = false := by rw [beq_eq_false_iff_ne]; omega
        have rbm : IntKind.i64.wrap ((b : Int) - (m : Int)) = (b : Int) - (m : Int) := by rw [IntKind.wrap_i64]; omega
        have rab : IntKind.i64.wrap ((a : Int) + (b : Int)) = (a : Int) + (b : Int) := by rw [IntKind.wrap_i64]; omega
        obtain ⟨mid, hmid, hm1, hm2⟩ : ∃ mid : Nat, ((a : Int) + (b : Int)) / 2 = (mid : Int) ∧ a + b ≤ 2 * mid + 1 ∧ 2 * mid ≤ a + b := ⟨(a + b) / 2, by omega, by omega, by omega⟩
        have rn : IntKind.i64.wrap ((mid : Int) + (m : Int)) = (mid : Int) + (m : Int) := by rw [IntKind.wrap_i64]; omega
        have HS0 := Hid.mk (And.intro S (And.intro hA (And.intro hB (And.intro hzD (And.intro ha (And.intro hm hb))))))
        have ham : a + 2 ≤ m := by omega
        have hmb : m + 2 ≤ b := by omega
        have hbl : b ≤ len := by omega
        clear S T F IH hcmp hA hB ha hm hb hzD hlen hA1 hB1 hone htwo
        obtain ⟨s0, r0, hsel, hs1, hs2, hs3, hs4⟩ : ∃ s0 r0 : Nat, (((mid : Int) < (m : Int) ∧ (mid : Int) + (m : Int) - (b : Int) = (s0 : Int) ∧ r0 = mid ∧ s0 + b = mid + m) ∨ (¬ (mid : Int) < (m : Int) ∧ s0 = a ∧ r0 = m)) ∧ a ≤ s0 ∧ s0 ≤ r0 ∧ r0 ≤ m ∧ r0 ≤ mid := by
          by_cases h : mid < m
          · exact ⟨mid + m - b, mid, .inl ⟨by omega, by omega, rfl, by omega⟩, by omega, by omega, by omega, by omega⟩
          · exact ⟨a, m, .inr ⟨by omega, rfl, rfl⟩, by omega, by omega, by omega, by omega⟩
        have HSEL := Hid.mk hsel
        have rs0 : IntKind.i64.wrap ((mid : Int) + (m : Int) - (b : Int)) = (mid : Int) + (m : Int) - (b : Int) := by rw [IntKind.wrap_i64]; omega
        have rp : IntKind.i64.wrap ((mid : Int) + (m : Int) - 1) = (mid : Int) + (m : Int) - 1 := by rw [IntKind.wrap_i64]; omega
        have e0 : ∃ nn : Nat, nn = mid + m := ⟨_, rfl⟩
        go_enter FG, Tryz.ntmps103
        go_upto_if 140 with (fail)
        go_cut [20, 21] (fun vs vr wc => vs = .int .i64 s0 ∧ vr = .int .i64 r0 ∧ Hid (wc = w))
        case first => as_aux_lemma =>
          rcases hsel with ⟨k1, k2, k3, k4⟩ | ⟨k1, k2, k3⟩
          · have k3 := Hid.mk k3
            go_wp2_with fail
            go_meet
            case rel => exact ⟨rfl, by rw [k3.out], rfl⟩
          · have k3 := Hid.mk (And.intro k2 k3)
            clear k2
            go_wp2_with fail
            go_meet
            case rel => exact ⟨by rw [k3.out.1], by rw [k3.out.2], rfl⟩
        case rest =>
          obtain ⟨rfl, rfl, HW⟩ := hcut
          rename_i wc
          have HWS : Hid (SWL enc k w0 g (X ++ A ++ B ++ Y) wc) := by
            show SWL _ _ _ _ _ _
            rw [HW.out]
            exact HS0.out.1
          clear hsel HW
          go_wp2_with fail
          go_loopw [20, 21] (fun vs vr wq => ∃ s r : Nat, vs = .int .i64 s ∧ vr = .int .i64 r ∧ s0 ≤ s ∧ s ≤ r ∧ r ≤ r0 ∧ Hid ((s = s0 ∨ ltc cf (X ++ A ++ B ++ Y).toArray[mid + m - s]! (X ++ A ++ B ++ Y).toArray[s - 1]! = false) ∧ (r = r0 ∨ ltc cf (X ++ A ++ B ++ Y).toArray[mid + m - r - 1]! (X ++ A ++ B ++ Y).toArray[r]! = true) ∧ SWL enc k w0 g (X ++ A ++ B ++ Y) wq))
            (fun vs vr _ => (intOf vr).toNat - (intOf vs).toNat)
          case atStart => exact ⟨s0, r0, rfl, rfl, Nat.le_refl _, hs2, Nat.le_refl _, .inl rfl, .inl rfl, HWS.out⟩
          case round =>
            clear HWS
            obtain ⟨s, r, rfl, rfl, hss, hsr, hrr, HR⟩ := hrel
            by_cases hlt : s < r
            · as_aux_lemma =>
              have p0 : (s : Int) < (r : Int) := by omega
              have r1 : IntKind.i64.wrap ((s : Int) + (r : Int)) = (s : Int) + (r : Int) := by rw [IntKind.wrap_i64]; omega
              obtain ⟨c, hc1, hc2, hc3⟩ : ∃ c : Nat, ((s : Int) + (r : Int)) / 2 = (c : Int) ∧ s ≤ c ∧ c < r := ⟨(s + r) / 2, by omega, by omega, by omega⟩
              obtain ⟨q, hq1, hq2⟩ : ∃ q : Nat, (mid : Int) + (m : Int) - 1 - (c : Int) = (q : Int) ∧ q = mid + m - c - 1 := ⟨mid + m - c - 1, by omega, rfl⟩
              have r2 : IntKind.i64.wrap ((mid : Int) + (m : Int) - 1 - (c : Int)) = (mid : Int) + (m : Int) - 1 - (c : Int) := by rw [IntKind.wrap_i64]; omega
              rw [hq1] at r2
              have hql : q < len := by have := HSEL.out; omega
              have z1 : (c : Int) < (len : Int) := by omega
              have z2 : (0 : Int) ≤ (c : Int) := by omega
              have z3' : (q : Int) < (len : Int) := by omega
              have z4' : (0 : Int) ≤ (q : Int) := by omega
              obtain ⟨x, hx⟩ : ∃ x, (X ++ A ++ B ++ Y).toArray[c]! = x := ⟨_, rfl⟩
              obtain ⟨y, hy⟩ : ∃ y, (X ++ A ++ B ++ Y).toArray[q]! = y := ⟨_, rfl⟩
              have lj : ∀ n' os', Sem.run P (loadCellsFrom ⟨g, c * k, none⟩ 0 k #[]) (grow (wr.drewN n') os') = .ok (enc x).toArray (grow (wr.drewN n') os') := fun n' os' => by
                have := SWK.ld HR.out.2.2 R (by rw [HS0.out.2.2.2.1, hs]) P c (by rw [HS0.out.2.2.2.1]; omega) n' os'
                rwa [Nat.zero_add, hx] at this
              have lp : ∀ n' os', Sem.run P (loadCellsFrom ⟨g, q * k, none⟩ 0 k #[]) (grow (wr.drewN n') os') = .ok (enc y).toArray (grow (wr.drewN n') os') := fun n' os' => by
                have := SWK.ld HR.out.2.2 R (by rw [HS0.out.2.2.2.1, hs]) P q (by rw [HS0.out.2.2.2.1]; omega) n' os'
                rwa [Nat.zero_add, hy] at this
              have hcg : ∀ n' os', Calls P gc #[.agg (enc y).toArray, .agg (enc x).toArray] (grow (wr.drewN n') os') fun e w' => e = .returned (.int .i64 (cf y x)) ∧ ∃ q os'', w' = grow ((grow (wr.drewN n') os').drewN q) os'' := fun n' os' => SWK.cmp HR.out.2.2 HC.out HS0.out.2.2.2.1 y x n' os'
              have CLS : Hid (∀ n' os', SWL enc k w0 g (X ++ A ++ B ++ Y) (grow (wr.drewN n') os')) := fun n' os' => SWK.grown HR.out.2.2 n' os'
              have HXY := Hid.mk (And.intro hx (And.intro hy hq2))
              clear hx hy hq2
              by_cases hlv : cf y x < 0
              · go_wp2_with fail
                go_quiet_grown (first | (go_at_fn gc; refine Calls.grown_of (hcg _ _)))
                go_wp2
                exact ⟨⟨s, c, rfl, by go_num, hss, by omega, by omega, HR.out.1, .inr (by rw [← HXY.out.2.2, HXY.out.1, HXY.out.2.1]; exact decide_eq_true hlv), CLS.out _ _⟩, by simp [intOf]; omega⟩
              · have hd : decide (cf y x < 0) = false := decide_eq_false hlv
                have hd2 : ¬ (cf y x < 0) := hlv
                go_wp2_with fail
                go_quiet_grown (first | (go_at_fn gc; refine Calls.grown_of (hcg _ _)))
                go_wp2
                exact ⟨⟨c + 1, r, by go_num, rfl, by omega, by omega, hrr, .inr (by rw [Nat.add_sub_cancel, show mid + m - (c + 1) = q by rw [HXY.out.2.2]; omega, HXY.out.1, HXY.out.2.1]; exact decide_eq_false (by omega)), HR.out.2.1, CLS.out _ _⟩, by simp [intOf]; omega⟩
            · have hsre : s = r := by omega
              subst hsre
              obtain ⟨e, he1, he2, he3, he4, he5⟩ : ∃ e : Nat, (mid : Int) + (m : Int) - (s : Int) = (e : Int) ∧ e + s = mid + m ∧ m ≤ e ∧ e ≤ b ∧ a ≤ s := by
                have := HSEL.out
                exact ⟨mid + m - s, by omega, by omega, by omega, by omega, by omega⟩
              have r3 : IntKind.i64.wrap ((mid : Int) + (m : Int) - (s : Int)) = (mid : Int) + (m : Int) - (s : Int) := by rw [IntKind.wrap_i64]; omega
              rw [he1] at r3
              have hsm : s ≤ m := by omega
              obtain ⟨A1, A2, hAA, hA1⟩ := cut_list A (s - a) (by have := HS0.out.2.2.2.2; omega)
              obtain ⟨B1, B2, hBB, hB1⟩ := cut_list B (e - m) (by have := HS0.out.2.2.2.2; omega)
              have hlA : A1.length + A2.length = A.length := by rw [hAA, List.length_append]
              have hlB : B1.length + B2.length = B.length := by rw [hBB, List.length_append]
              have q1 : a = X.length := HS0.out.2.2.2.2.1
              have q2 : m = X.length + A.length := HS0.out.2.2.2.2.2.1
              have q3 : b = X.length + A.length + B.length := HS0.out.2.2.2.2.2.2
              have HCUT : Hid ((∀ x ∈ A2, ∀ y ∈ B1, ltc cf y x = true) ∧ (∀ x ∈ A1, ∀ y ∈ B2, ltc cf y x = false) ∧ Srt (ltc cf) (A1 ++ A2) ∧ Srt (ltc cf) (B1 ++ B2)) := by
                obtain ⟨c1, c2, hq⟩ := HR.out
                have hA := HS0.out.2.1
                have hB := HS0.out.2.2.1
                have hse := HSEL.out
                rw [hAA] at hA c1 c2
                rw [hBB] at hB c1 c2
                have := sym_cut (X := X) (Y := Y) (s := s) (e := e) hw hA hB (by omega) (by rw [List.length_append]; omega)
                  (by
                    rcases c1 with c1 | c1
                    · rcases hse with hse | hse
                      · right; left; exact List.length_eq_zero_iff.1 (by omega)
                      · left; exact List.length_eq_zero_iff.1 (by omega)
                    · right; right; rw [show mid + m - s = e by omega] at c1; exact c1)
                  (by
                    rcases c2 with c2 | c2
                    · rcases hse with hse | hse
                      · right; left; exact List.length_eq_zero_iff.1 (by omega)
                      · left; exact List.length_eq_zero_iff.1 (by omega)
                    · right; right; rw [show mid + m - s - 1 = e - 1 by omega] at c2; exact c2)
                exact ⟨this.1, this.2, hA, hB⟩
              have HSW : Hid (SWL enc k w0 g (X ++ A1 ++ A2 ++ B1 ++ B2 ++ Y) wr) := by
                have := HR.out.2.2
                rw [hAA, hBB] at this
                show SWL _ _ _ _ _ _
                simpa using this
              have HAB := Hid.mk (And.intro hAA (And.intro hBB (And.intro q1 (And.intro q2 q3))))
              have l1 : X.length + A1.length = s := by omega
              have l2 : A1.length + A2.length + X.length = m := by omega
              have l3 : B1.length + m = e := by omega
              have l4 : e + B2.length = b := by omega
              clear hAA hBB q1 q2 q3 HR HS0 hA1 hB1 HSEL
              have HE2 := Hid.mk (And.intro he2 HAB.out.2.2.1)
              clear he2
              go_upto_region 39 with (fail)
              go_cut [185] (fun v wc => v = .bool (decide (s < m ∧ m < e)) ∧ Hid (SWL enc k w0 g (X ++ A1 ++ A2 ++ B1 ++ B2 ++ Y) wc))
              case first => as_aux_lemma =>
                by_cases g1 : (s : Int) < (m : Int)
                · by_cases g2 : (m : Int) < (e : Int)
                  · go_wp2
                    go_meet
                    case rel => exact ⟨congrArg Value.bool (decide_eq_true (p := s < m ∧ m < e) (by omega)).symm, HSW⟩
                  · go_wp2
                    go_meet
                    case rel => exact ⟨congrArg Value.bool (decide_eq_false (p := s < m ∧ m < e) (by omega)).symm, HSW⟩
                · go_wp2
                  go_meet
                  case rel => exact ⟨congrArg Value.bool (decide_eq_false (p := s < m ∧ m < e) (by omega)).symm, HSW⟩
              case rest =>
                obtain ⟨rfl, HSW1⟩ := hcut
                clear HSW
                go_upto_if 185 with (fail)
                go_cut [] (fun wc => Hid (SWL enc k w0 g (X ++ A1 ++ B1 ++ A2 ++ B2 ++ Y) wc))
                case first => as_aux_lemma =>
                  by_cases hr : s < m ∧ m < e
                  · have hd : decide (s < m ∧ m < e) = true := decide_eq_true hr
                    go_wp2_with fail
                    have he2 := HE2.out
                    refine (HROT.out _ s m e (X ++ A1) A2 B1 (B2 ++ Y) (by simp only [List.length_append]; omega) (by simpa using HSW1.out) (by simp; omega) (by simp; omega) (by simp; omega) (by intro h; rw [h] at l2; simp at l2; omega) (by intro h; rw [h] at l3; simp at l3; omega)).mono ?_
                    rintro e' w2 ⟨rfl, h⟩
                    clear he2
                    have H2 := Hid.mk h
                    clear h
                    go_wp2_with fail
                    go_meet
                    case rel =>
                      show SWL _ _ _ _ _ _
                      simpa using H2.out
                  · have hd : decide (s < m ∧ m < e) = false := decide_eq_false hr
                    go_wp2_with fail
                    go_meet
                    case rel =>
                      have he2 := HE2.out
                      have h0 : A2 = [] ∨ B1 = [] := by
                        by_cases h : s < m
                        · right; exact List.length_eq_zero_iff.1 (by omega)
                        · left; exact List.length_eq_zero_iff.1 (by omega)
                      have h1 := HSW1.out
                      show SWL _ _ _ _ _ _
                      rcases h0 with h0 | h0 <;> (rw [h0] at h1 ⊢; simpa using h1)
                case rest =>
                  have HSW : Hid (SWL enc k w0 g (X ++ A1 ++ B1 ++ A2 ++ B2 ++ Y) _) := hcut
                  clear hcut HSW1
                  try clear he1
                  go_upto_region 41 with (fail)
                  go_cut [199] (fun v wc => v = .bool (decide (a < s ∧ s < mid)) ∧ Hid (SWL enc k w0 g (X ++ A1 ++ B1 ++ A2 ++ B2 ++ Y) wc))
                  case first => as_aux_lemma =>
                    by_cases g1 : (a : Int) < (s : Int)
                    · by_cases g2 : (s : Int) < (mid : Int)
                      · go_wp2
                        go_meet
                        case rel => exact ⟨congrArg Value.bool (decide_eq_true (p := a < s ∧ s < mid) (by omega)).symm, HSW⟩
                      · go_wp2
                        go_meet
                        case rel => exact ⟨congrArg Value.bool (decide_eq_false (p := a < s ∧ s < mid) (by omega)).symm, HSW⟩
                    · go_wp2
                      go_meet
                      case rel => exact ⟨congrArg Value.bool (decide_eq_false (p := a < s ∧ s < mid) (by omega)).symm, HSW⟩
                  case rest =>
                    obtain ⟨rfl, HSW1⟩ := hcut
                    clear HSW
                    go_upto_if 199 with (fail)
                    go_cut [] (fun wc => Hid (∃ Pl, Srt (ltc cf) Pl ∧ Cls (ltc cf) (A1 ++ B1) Pl ∧ Pl.length = A1.length + B1.length ∧ SWL enc k w0 g (X ++ Pl ++ A2 ++ B2 ++ Y) wc))
                    case first => as_aux_lemma =>
                      by_cases hr : a < s ∧ s < mid
                      · have hd : decide (a < s ∧ s < mid) = true := decide_eq_true hr
                        go_wp2_with fail
                        have he2 := HE2.out
                        refine (HIH.out _ X A1 B1 (A2 ++ B2 ++ Y) a s mid (by omega) (by simp only [List.length_append]; omega) (by simpa using HSW1.out) (by omega) (by omega) (by omega) (by omega) (by omega) (srt_append.1 HCUT.out.2.2.1).1 (srt_append.1 HCUT.out.2.2.2).1).mono ?_
                        rintro e' w2 ⟨rfl, h⟩
                        clear he2
                        have H2 := Hid.mk h
                        clear h
                        go_wp2_with fail
                        go_meet
                        case rel =>
                          obtain ⟨C, c1, c2, c3, c4⟩ := H2.out
                          exact ⟨C, c1, c2, c3, by simpa using c4⟩
                      · have hd : decide (a < s ∧ s < mid) = false := decide_eq_false hr
                        go_wp2_with fail
                        go_meet
                        case rel =>
                          have he2 := HE2.out
                          have h0 : A1 = [] ∨ B1 = [] := by
                            by_cases h : a < s
                            · right; exact List.length_eq_zero_iff.1 (by omega)
                            · left; exact List.length_eq_zero_iff.1 (by omega)
                          refine ⟨A1 ++ B1, ?_, Cls.refl _ _, List.length_append, by simpa using HSW1.out⟩
                          rcases h0 with h0 | h0
                          · rw [h0, List.nil_append]; exact (srt_append.1 HCUT.out.2.2.2).1
                          · rw [h0, List.append_nil]; exact (srt_append.1 HCUT.out.2.2.1).1
                    case rest =>
                      have HSW : Hid (∃ Pl, Srt (ltc cf) Pl ∧ Cls (ltc cf) (A1 ++ B1) Pl ∧ Pl.length = A1.length + B1.length ∧ SWL enc k w0 g (X ++ Pl ++ A2 ++ B2 ++ Y) _) := hcut
                      clear hcut HSW1
                      go_upto_region 43 with (fail)
                      go_cut [213] (fun v wc => v = .bool (decide (mid < e ∧ e < b)) ∧ Hid (∃ Pl, Srt (ltc cf) Pl ∧ Cls (ltc cf) (A1 ++ B1) Pl ∧ Pl.length = A1.length + B1.length ∧ SWL enc k w0 g (X ++ Pl ++ A2 ++ B2 ++ Y) wc))
                      case first => as_aux_lemma =>
                        by_cases g1 : (mid : Int) < (e : Int)
                        · by_cases g2 : (e : Int) < (b : Int)
                          · go_wp2
                            go_meet
                            case rel => exact ⟨congrArg Value.bool (decide_eq_true (p := mid < e ∧ e < b) (by omega)).symm, HSW⟩
                          · go_wp2
                            go_meet
                            case rel => exact ⟨congrArg Value.bool (decide_eq_false (p := mid < e ∧ e < b) (by omega)).symm, HSW⟩
                        · go_wp2
                          go_meet
                          case rel => exact ⟨congrArg Value.bool (decide_eq_false (p := mid < e ∧ e < b) (by omega)).symm, HSW⟩
                      case rest =>
                        obtain ⟨rfl, HSW1⟩ := hcut
                        clear HSW
                        obtain ⟨Pl, p1, p2, p3, p4⟩ := HSW1.out
                        have HP := Hid.mk (And.intro p1 (And.intro p2 p4))
                        clear p1 p2 p4 HSW1
                        by_cases hr : mid < e ∧ e < b
                        · as_aux_lemma =>
                          have hd : decide (mid < e ∧ e < b) = true := decide_eq_true hr
                          go_wp2_with fail
                          have he2 := HE2.out
                          refine (HIH.out _ (X ++ Pl) A2 B2 Y mid e b (by omega) (by simp only [List.length_append]; omega) (by simpa using HP.out.2.2) (by simp; omega) (by simp; omega) (by simp; omega) (by omega) (by omega) (srt_append.1 HCUT.out.2.2.1).2.1 (srt_append.1 HCUT.out.2.2.2).2.1).mono ?_
                          rintro e' w2 ⟨rfl, h⟩
                          clear he2
                          have H2 := Hid.mk h
                          clear h
                          go_wp2
                          go_end0
                          obtain ⟨C, c1, c2, c3, c4⟩ := H2.out
                          have hmc := merge_cut hw HCUT.out.2.2.1 HCUT.out.2.2.2 HCUT.out.1 HCUT.out.2.1 HP.out.1 c1 HP.out.2.1 c2
                          refine ⟨rfl, Pl ++ C, hmc.1, ?_, by rw [List.length_append]; omega, by simpa using c4⟩
                          rw [HAB.out.1, HAB.out.2.1]
                          exact hmc.2
                        · as_aux_lemma =>
                          have hd : decide (mid < e ∧ e < b) = false := decide_eq_false hr
                          go_wp2
                          go_end0
                          have he2 := HE2.out
                          have h0 : A2 = [] ∨ B2 = [] := by
                            by_cases h : mid < e
                            · right; exact List.length_eq_zero_iff.1 (by omega)
                            · left; exact List.length_eq_zero_iff.1 (by omega)
                          have hQ : Srt (ltc cf) (A2 ++ B2) := by
                            rcases h0 with h0 | h0
                            · rw [h0, List.nil_append]; exact (srt_append.1 HCUT.out.2.2.2).2.1
                            · rw [h0, List.append_nil]; exact (srt_append.1 HCUT.out.2.2.1).2.1
                          have hmc := merge_cut hw HCUT.out.2.2.1 HCUT.out.2.2.2 HCUT.out.1 HCUT.out.2.1 HP.out.1 hQ HP.out.2.1 (Cls.refl _ _)
                          refine ⟨rfl, Pl ++ (A2 ++ B2), hmc.1, ?_, by simp only [List.length_append]; omega, by simpa using HP.out.2.2⟩
                          rw [HAB.out.1, HAB.out.2.1]
                          exact hmc.2

end Go.Proofs.YtphkchjejbffeaaGreat
