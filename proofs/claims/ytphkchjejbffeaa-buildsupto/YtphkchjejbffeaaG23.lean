/- The walk of slices.symMergeCmpFunc over orders, whole. -/
import Derived.Test.YtphkchjejbffeaaG22
import Derived.Deep.CutBlock
import Derived.Deep.DeepCutAuto
namespace Go.Proofs.Ytphkchjejbffeaa
open Go.Shelf Go.RowKit Go.Lib Go.Sort
attribute [local go_sem ↓] Go.wp_at_zero Go.wp_at_succ

/-- What the merge in place calls. -/
structure SrtF (P : Program) : Prop where
  fm : P.funcs[132]? = some Try.f132
  fr : P.funcs[148]? = some Try.f148
  fs : P.funcs[151]? = some Try.f151
  em : ∀ args w, (callFunc 132 args).run P w = .ok (.enter 132 args) w
  er : ∀ args w, (callFunc 148 args).run P w = .ok (.enter 148 args) w
  es : ∀ args w, (callFunc 151 args).run P w = .ok (.enter 151 args) w

set_option maxRecDepth 100000 in
set_option maxHeartbeats 8000000 in
theorem symMerge_gen {P : Program} {k : Nat} (T : SrtT P k) (F : SrtF P)
    (enc : Ord → List Value) (cf : Ord → Ord → Int) (hw : Swo (ltc cf)) (gc : Nat) (eg : ∀ args w, (callFunc gc args).run P w = .ok (.enter gc args) w) (w0 : World) (g cap len : Nat) (d0 : Array Ord) (hcmp : CmpLays P gc #[] enc k cf g 0 len w0) (R : RowK enc k w0 g 0 d0) (hs : d0.size = len) (hsz : len < 4611686018427387904) :
    ∀ (N : Nat) (w : World) (X A B Y : List Ord) (a m b : Nat), A.length + B.length ≤ N → (X ++ A ++ B ++ Y).length = len → SWL enc k w0 g (X ++ A ++ B ++ Y) w → a = X.length → m = X.length + A.length → b = X.length + A.length + B.length → 1 ≤ A.length → 1 ≤ B.length → Srt (ltc cf) A → Srt (ltc cf) B →
    Calls P 132 #[.slice (some ⟨g, 0, none⟩) len cap, .int .i64 a, .int .i64 m, .int .i64 b, .func (.func gc) #[] #[]] w fun e w' => e = .returned (.tuple #[]) ∧ Merged enc k w0 g cf X A B Y w' := by
  intro N
  induction N with
  | zero => intro w X A B Y a m b h0 _ _ _ _ _ h1; omega
  | succ N IH =>
    intro w X A B Y a m b hN hlen S ha hm hb hA1 hB1 hA hB
    by_cases hone : A.length = 1
    · obtain ⟨x, rfl⟩ := List.length_eq_one_iff.1 hone
      exact symMerge_one T F.fm enc cf hw gc eg w0 w g cap len a m b d0 X B Y x hcmp R (by simpa using hlen) hs (by simpa using S) ha (by simpa using hm) (by simpa using hb) hB hsz
    · by_cases htwo : B.length = 1
      · obtain ⟨y, rfl⟩ := List.length_eq_one_iff.1 htwo
        exact symMerge_two T F.fm enc cf hw gc eg w0 w g cap len a m b d0 X A Y y hcmp R (by simpa using hlen) hs (by simpa using S) ha hm (by simpa using hb) hA (by omega) hsz
      · have FG := F.fm
        have mixed := T.mixed; have t0 := T.t0; have a0 := T.a0; have z0 := T.z0; have v0 := T.v0; have t3 := T.t3; have a3 := T.a3; have z3 := T.z3; have v3 := T.v3; have t4 := T.t4; have a4 := T.a4; have z4 := T.z4; have v4 := T.v4; have t22 := T.t22; have a22 := T.a22; have z22 := T.z22; have v22 := T.v22; have t25 := T.t25; have a25 := T.a25; have z25 := T.z25; have v25 := T.v25; have tu := T.tu; have au := T.au; have zu := T.zu; have vu := T.vu; have aE := T.aE; have zE := T.zE
        have uu := run_underlying T.t22
        have em := F.em
        have er := F.er
        have HROT := Hid.mk (fun (w : World) (a m b : Nat) (X A B Y : List Ord) hlen S ha hm hb hA hB => rotate_gen T F.fr F.fs F.es enc w0 w g cap len a m b d0 (.func (.func gc) #[] #[]) X A B Y R hlen hs S ha hm hb hA hB hsz)
        have HIH := Hid.mk IH
        have HC : Aside (CmpLays P gc #[] enc k cf g 0 len w0) := hcmp
        have hlX : X.length + A.length + B.length + Y.length = len := by simp only [List.length_append] at hlen; omega
        have hzD : (X ++ A ++ B ++ Y).toArray.size = len := by simpa using hlen
        have hma : ((m : Int) - (a : Int) == 1) = false := by rw [beq_eq_false_iff_ne]; omega
        have rma : IntKind.i64.wrap ((m : Int) - (a : Int)) = (m : Int) - (a : Int) := by rw [IntKind.wrap_i64]; omega
        have hbm : ((b : Int) - (m : Int) == 1) = false := by rw [beq_eq_false_iff_ne]; omega
        have rbm : IntKind.i64.wrap ((b : Int) - (m : Int)) = (b : Int) - (m : Int) := by rw [IntKind.wrap_i64]; omega
        have rab : IntKind.i64.wrap ((a : Int) + (b : Int)) = (a : Int) + (b : Int) := by rw [IntKind.wrap_i64]; omega
        obtain ⟨mid, hmid, hm1, hm2⟩ : ∃ mid : Nat, ((a : Int) + (b : Int)) / 2 = (mid : Int) ∧ a + b ≤ 2 * mid + 1 ∧ 2 * mid ≤ a + b := ⟨(a + b) / 2, by omega, by omega, by omega⟩
        have rn : IntKind.i64.wrap ((mid : Int) + (m : Int)) = (mid : Int) + (m : Int) := by rw [IntKind.wrap_i64]; omega
        have HS0 := Hid.mk (And.intro S (And.intro hA (And.intro hB (And.intro hzD (And.intro ha (And.intro hm hb))))))
        have ham : a + 2 ≤ m := by omega
        have hmb : m + 2 ≤ b := by omega
        have hbl : b ≤ len := by omega
        clear S T F IH hcmp hA hB ha hm hb hzD hlen hA1 hB1 hone htwo
        obtain ⟨s0, r0, hsel, hs1, hs2, hs3, hs4⟩ : ∃ s0 r0 : Nat, (((mid : Int) < (m : Int) ∧ (mid : Int) + (m : Int) - (b : Int) = (s0 : Int) ∧ r0 = mid ∧ s0 + b = mid + m) ∨ (¬ (mid : Int) < (m : Int) ∧ s0 = a ∧ r0 = m)) ∧ a ≤ s0 ∧ s0 ≤ r0 ∧ r0 ≤ m ∧ r0 ≤ mid := by
          by_cases h : mid < m
          · exact ⟨mid + m - b, mid, .inl ⟨by omega, by omega, rfl, by omega⟩, by omega, by omega, by omega, by omega⟩
          · exact ⟨a, m, .inr ⟨by omega, rfl, rfl⟩, by omega, by omega, by omega, by omega⟩
        have HSEL := Hid.mk hsel
        have rs0 : IntKind.i64.wrap ((mid : Int) + (m : Int) - (b : Int)) = (mid : Int) + (m : Int) - (b : Int) := by rw [IntKind.wrap_i64]; omega
        have rp : IntKind.i64.wrap ((mid : Int) + (m : Int) - 1) = (mid : Int) + (m : Int) - 1 := by rw [IntKind.wrap_i64]; omega
        have e0 : ∃ nn : Nat, nn = mid + m := ⟨_, rfl⟩
        go_enter FG, Try.ntmps132
        go_upto_if 140 with (fail)
        go_cut [20, 21] (fun vs vr wc => vs = .int .i64 s0 ∧ vr = .int .i64 r0 ∧ Hid (wc = w))
        case first => as_aux_lemma =>
          rcases hsel with ⟨k1, k2, k3, k4⟩ | ⟨k1, k2, k3⟩
          · have k3 := Hid.mk k3
            go_wp2_with fail
            go_meet
            case rel => exact ⟨rfl, by rw [k3.out], rfl⟩
          · have k3 := Hid.mk (And.intro k2 k3)
            clear k2
            go_wp2_with fail
            go_meet
            case rel => exact ⟨by rw [k3.out.1], by rw [k3.out.2], rfl⟩
        case rest =>
          obtain ⟨rfl, rfl, HW⟩ := hcut
          rename_i wc
          have HWS : Hid (SWL enc k w0 g (X ++ A ++ B ++ Y) wc) := by
            show SWL _ _ _ _ _ _
            rw [HW.out]
            exact HS0.out.1
          clear hsel HW
          go_wp2_with fail
          go_loopw [20, 21] (fun vs vr wq => ∃ s r : Nat, vs = .int .i64 s ∧ vr = .int .i64 r ∧ s0 ≤ s ∧ s ≤ r ∧ r ≤ r0 ∧ Hid ((s = s0 ∨ ltc cf (X ++ A ++ B ++ Y).toArray[mid + m - s]! (X ++ A ++ B ++ Y).toArray[s - 1]! = false) ∧ (r = r0 ∨ ltc cf (X ++ A ++ B ++ Y).toArray[mid + m - r - 1]! (X ++ A ++ B ++ Y).toArray[r]! = true) ∧ SWL enc k w0 g (X ++ A ++ B ++ Y) wq))
            (fun vs vr _ => (intOf vr).toNat - (intOf vs).toNat)
          case atStart => exact ⟨s0, r0, rfl, rfl, Nat.le_refl _, hs2, Nat.le_refl _, .inl rfl, .inl rfl, HWS.out⟩
          case round =>
            clear HWS
            obtain ⟨s, r, rfl, rfl, hss, hsr, hrr, HR⟩ := hrel
            by_cases hlt : s < r
            · as_aux_lemma =>
              have p0 : (s : Int) < (r : Int) := by omega
              have r1 : IntKind.i64.wrap ((s : Int) + (r : Int)) = (s : Int) + (r : Int) := by rw [IntKind.wrap_i64]; omega
              obtain ⟨c, hc1, hc2, hc3⟩ : ∃ c : Nat, ((s : Int) + (r : Int)) / 2 = (c : Int) ∧ s ≤ c ∧ c < r := ⟨(s + r) / 2, by omega, by omega, by omega⟩
              obtain ⟨q, hq1, hq2⟩ : ∃ q : Nat, (mid : Int) + (m : Int) - 1 - (c : Int) = (q : Int) ∧ q = mid + m - c - 1 := ⟨mid + m - c - 1, by omega, rfl⟩
              have r2 : IntKind.i64.wrap ((mid : Int) + (m : Int) - 1 - (c : Int)) = (mid : Int) + (m : Int) - 1 - (c : Int) := by rw [IntKind.wrap_i64]; omega
              rw [hq1] at r2
              have hql : q < len := by have := HSEL.out; omega
              have z1 : (c : Int) < (len : Int) := by omega
              have z2 : (0 : Int) ≤ (c : Int) := by omega
              have z3' : (q : Int) < (len : Int) := by omega
              have z4' : (0 : Int) ≤ (q : Int) := by omega
              obtain ⟨x, hx⟩ : ∃ x, (X ++ A ++ B ++ Y).toArray[c]! = x := ⟨_, rfl⟩
              obtain ⟨y, hy⟩ : ∃ y, (X ++ A ++ B ++ Y).toArray[q]! = y := ⟨_, rfl⟩
              have lj : ∀ n' os', Sem.run P (loadCellsFrom ⟨g, c * k, none⟩ 0 k #[]) (grow (wr.drewN n') os') = .ok (enc x).toArray (grow (wr.drewN n') os') := fun n' os' => by
                have := SWK.ld HR.out.2.2 R (by rw [HS0.out.2.2.2.1, hs]) P c (by rw [HS0.out.2.2.2.1]; omega) n' os'
                rwa [Nat.zero_add, hx] at this
              have lp : ∀ n' os', Sem.run P (loadCellsFrom ⟨g, q * k, none⟩ 0 k #[]) (grow (wr.drewN n') os') = .ok (enc y).toArray (grow (wr.drewN n') os') := fun n' os' => by
                have := SWK.ld HR.out.2.2 R (by rw [HS0.out.2.2.2.1, hs]) P q (by rw [HS0.out.2.2.2.1]; omega) n' os'
                rwa [Nat.zero_add, hy] at this
              have hcg : ∀ n' os', Calls P gc #[.agg (enc y).toArray, .agg (enc x).toArray] (grow (wr.drewN n') os') fun e w' => e = .returned (.int .i64 (cf y x)) ∧ ∃ q os'', w' = grow ((grow (wr.drewN n') os').drewN q) os'' := fun n' os' => SWK.cmp HR.out.2.2 HC.out HS0.out.2.2.2.1 y x n' os'
              have CLS : Hid (∀ n' os', SWL enc k w0 g (X ++ A ++ B ++ Y) (grow (wr.drewN n') os')) := fun n' os' => SWK.grown HR.out.2.2 n' os'
              have HXY := Hid.mk (And.intro hx (And.intro hy hq2))
              clear hx hy hq2
              by_cases hlv : cf y x < 0
              · go_wp2_with fail
                go_quiet_grown (first | (go_at_fn gc; refine Calls.grown_of (hcg _ _)))
                go_wp2
                exact ⟨⟨s, c, rfl, by go_num, hss, by omega, by omega, HR.out.1, .inr (by rw [← HXY.out.2.2, HXY.out.1, HXY.out.2.1]; exact decide_eq_true hlv), CLS.out _ _⟩, by simp [intOf]; omega⟩
              · have hd : decide (cf y x < 0) = false := decide_eq_false hlv
                have hd2 : ¬ (cf y x < 0) := hlv
                go_wp2_with fail
                go_quiet_grown (first | (go_at_fn gc; refine Calls.grown_of (hcg _ _)))
                go_wp2
                exact ⟨⟨c + 1, r, by go_num, rfl, by omega, by omega, hrr, .inr (by rw [Nat.add_sub_cancel, show mid + m - (c + 1) = q by rw [HXY.out.2.2]; omega, HXY.out.1, HXY.out.2.1]; exact decide_eq_false (by omega)), HR.out.2.1, CLS.out _ _⟩, by simp [intOf]; omega⟩
            · have hsre : s = r := by omega
              subst hsre
              obtain ⟨e, he1, he2, he3, he4, he5⟩ : ∃ e : Nat, (mid : Int) + (m : Int) - (s : Int) = (e : Int) ∧ e + s = mid + m ∧ m ≤ e ∧ e ≤ b ∧ a ≤ s := by
                have := HSEL.out
                exact ⟨mid + m - s, by omega, by omega, by omega, by omega, by omega⟩
              have r3 : IntKind.i64.wrap ((mid : Int) + (m : Int) - (s : Int)) = (mid : Int) + (m : Int) - (s : Int) := by rw [IntKind.wrap_i64]; omega
              rw [he1] at r3
              have hsm : s ≤ m := by omega
              obtain ⟨A1, A2, hAA, hA1⟩ := cut_list A (s - a) (by have := HS0.out.2.2.2.2; omega)
              obtain ⟨B1, B2, hBB, hB1⟩ := cut_list B (e - m) (by have := HS0.out.2.2.2.2; omega)
              have hlA : A1.length + A2.length = A.length := by rw [hAA, List.length_append]
              have hlB : B1.length + B2.length = B.length := by rw [hBB, List.length_append]
              have q1 : a = X.length := HS0.out.2.2.2.2.1
              have q2 : m = X.length + A.length := HS0.out.2.2.2.2.2.1
              have q3 : b = X.length + A.length + B.length := HS0.out.2.2.2.2.2.2
              have HCUT : Hid ((∀ x ∈ A2, ∀ y ∈ B1, ltc cf y x = true) ∧ (∀ x ∈ A1, ∀ y ∈ B2, ltc cf y x = false) ∧ Srt (ltc cf) (A1 ++ A2) ∧ Srt (ltc cf) (B1 ++ B2)) := by
                obtain ⟨c1, c2, hq⟩ := HR.out
                have hA := HS0.out.2.1
                have hB := HS0.out.2.2.1
                have hse := HSEL.out
                rw [hAA] at hA c1 c2
                rw [hBB] at hB c1 c2
                have := sym_cut (X := X) (Y := Y) (s := s) (e := e) hw hA hB (by omega) (by rw [List.length_append]; omega)
                  (by
                    rcases c1 with c1 | c1
                    · rcases hse with hse | hse
                      · right; left; exact List.length_eq_zero_iff.1 (by omega)
                      · left; exact List.length_eq_zero_iff.1 (by omega)
                    · right; right; rw [show mid + m - s = e by omega] at c1; exact c1)
                  (by
                    rcases c2 with c2 | c2
                    · rcases hse with hse | hse
                      · right; left; exact List.length_eq_zero_iff.1 (by omega)
                      · left; exact List.length_eq_zero_iff.1 (by omega)
                    · right; right; rw [show mid + m - s - 1 = e - 1 by omega] at c2; exact c2)
                exact ⟨this.1, this.2, hA, hB⟩
              have HSW : Hid (SWL enc k w0 g (X ++ A1 ++ A2 ++ B1 ++ B2 ++ Y) wr) := by
                have := HR.out.2.2
                rw [hAA, hBB] at this
                show SWL _ _ _ _ _ _
                simpa using this
              have HAB := Hid.mk (And.intro hAA (And.intro hBB (And.intro q1 (And.intro q2 q3))))
              have l1 : X.length + A1.length = s := by omega
              have l2 : A1.length + A2.length + X.length = m := by omega
              have l3 : B1.length + m = e := by omega
              have l4 : e + B2.length = b := by omega
              clear hAA hBB q1 q2 q3 HR HS0 hA1 hB1 HSEL
              have HE2 := Hid.mk (And.intro he2 HAB.out.2.2.1)
              clear he2
              go_upto_region 39 with (fail)
              go_cut [185] (fun v wc => v = .bool (decide (s < m ∧ m < e)) ∧ Hid (SWL enc k w0 g (X ++ A1 ++ A2 ++ B1 ++ B2 ++ Y) wc))
              case first => as_aux_lemma =>
                by_cases g1 : (s : Int) < (m : Int)
                · by_cases g2 : (m : Int) < (e : Int)
                  · go_wp2
                    go_meet
                    case rel => exact ⟨congrArg Value.bool (decide_eq_true (p := s < m ∧ m < e) (by omega)).symm, HSW⟩
                  · go_wp2
                    go_meet
                    case rel => exact ⟨congrArg Value.bool (decide_eq_false (p := s < m ∧ m < e) (by omega)).symm, HSW⟩
                · go_wp2
                  go_meet
                  case rel => exact ⟨congrArg Value.bool (decide_eq_false (p := s < m ∧ m < e) (by omega)).symm, HSW⟩
              case rest =>
                obtain ⟨rfl, HSW1⟩ := hcut
                clear HSW
                go_upto_if 185 with (fail)
                go_cut [] (fun wc => Hid (SWL enc k w0 g (X ++ A1 ++ B1 ++ A2 ++ B2 ++ Y) wc))
                case first => as_aux_lemma =>
                  by_cases hr : s < m ∧ m < e
                  · have hd : decide (s < m ∧ m < e) = true := decide_eq_true hr
                    go_wp2_with fail
                    have he2 := HE2.out
                    refine (HROT.out _ s m e (X ++ A1) A2 B1 (B2 ++ Y) (by simp only [List.length_append]; omega) (by simpa using HSW1.out) (by simp; omega) (by simp; omega) (by simp; omega) (by intro h; rw [h] at l2; simp at l2; omega) (by intro h; rw [h] at l3; simp at l3; omega)).mono ?_
                    rintro e' w2 ⟨rfl, h⟩
                    clear he2
                    have H2 := Hid.mk h
                    clear h
                    go_wp2_with fail
                    go_meet
                    case rel =>
                      show SWL _ _ _ _ _ _
                      simpa using H2.out
                  · have hd : decide (s < m ∧ m < e) = false := decide_eq_false hr
                    go_wp2_with fail
                    go_meet
                    case rel =>
                      have he2 := HE2.out
                      have h0 : A2 = [] ∨ B1 = [] := by
                        by_cases h : s < m
                        · right; exact List.length_eq_zero_iff.1 (by omega)
                        · left; exact List.length_eq_zero_iff.1 (by omega)
                      have h1 := HSW1.out
                      show SWL _ _ _ _ _ _
                      rcases h0 with h0 | h0 <;> (rw [h0] at h1 ⊢; simpa using h1)
                case rest =>
                  have HSW : Hid (SWL enc k w0 g (X ++ A1 ++ B1 ++ A2 ++ B2 ++ Y) _) := hcut
                  clear hcut HSW1
                  try clear he1
                  go_upto_region 41 with (fail)
                  go_cut [199] (fun v wc => v = .bool (decide (a < s ∧ s < mid)) ∧ Hid (SWL enc k w0 g (X ++ A1 ++ B1 ++ A2 ++ B2 ++ Y) wc))
                  case first => as_aux_lemma =>
                    by_cases g1 : (a : Int) < (s : Int)
                    · by_cases g2 : (s : Int) < (mid : Int)
                      · go_wp2
                        go_meet
                        case rel => exact ⟨congrArg Value.bool (decide_eq_true (p := a < s ∧ s < mid) (by omega)).symm, HSW⟩
                      · go_wp2
                        go_meet
                        case rel => exact ⟨congrArg Value.bool (decide_eq_false (p := a < s ∧ s < mid) (by omega)).symm, HSW⟩
                    · go_wp2
                      go_meet
                      case rel => exact ⟨congrArg Value.bool (decide_eq_false (p := a < s ∧ s < mid) (by omega)).symm, HSW⟩
                  case rest =>
                    obtain ⟨rfl, HSW1⟩ := hcut
                    clear HSW
                    go_upto_if 199 with (fail)
                    go_cut [] (fun wc => Hid (∃ Pl, Srt (ltc cf) Pl ∧ Cls (ltc cf) (A1 ++ B1) Pl ∧ Pl.length = A1.length + B1.length ∧ SWL enc k w0 g (X ++ Pl ++ A2 ++ B2 ++ Y) wc))
                    case first => as_aux_lemma =>
                      by_cases hr : a < s ∧ s < mid
                      · have hd : decide (a < s ∧ s < mid) = true := decide_eq_true hr
                        go_wp2_with fail
                        have he2 := HE2.out
                        refine (HIH.out _ X A1 B1 (A2 ++ B2 ++ Y) a s mid (by omega) (by simp only [List.length_append]; omega) (by simpa using HSW1.out) (by omega) (by omega) (by omega) (by omega) (by omega) (srt_append.1 HCUT.out.2.2.1).1 (srt_append.1 HCUT.out.2.2.2).1).mono ?_
                        rintro e' w2 ⟨rfl, h⟩
                        clear he2
                        have H2 := Hid.mk h
                        clear h
                        go_wp2_with fail
                        go_meet
                        case rel =>
                          obtain ⟨C, c1, c2, c3, c4⟩ := H2.out
                          exact ⟨C, c1, c2, c3, by simpa using c4⟩
                      · have hd : decide (a < s ∧ s < mid) = false := decide_eq_false hr
                        go_wp2_with fail
                        go_meet
                        case rel =>
                          have he2 := HE2.out
                          have h0 : A1 = [] ∨ B1 = [] := by
                            by_cases h : a < s
                            · right; exact List.length_eq_zero_iff.1 (by omega)
                            · left; exact List.length_eq_zero_iff.1 (by omega)
                          refine ⟨A1 ++ B1, ?_, Cls.refl _ _, List.length_append, by simpa using HSW1.out⟩
                          rcases h0 with h0 | h0
                          · rw [h0, List.nil_append]; exact (srt_append.1 HCUT.out.2.2.2).1
                          · rw [h0, List.append_nil]; exact (srt_append.1 HCUT.out.2.2.1).1
                    case rest =>
                      have HSW : Hid (∃ Pl, Srt (ltc cf) Pl ∧ Cls (ltc cf) (A1 ++ B1) Pl ∧ Pl.length = A1.length + B1.length ∧ SWL enc k w0 g (X ++ Pl ++ A2 ++ B2 ++ Y) _) := hcut
                      clear hcut HSW1
                      go_upto_region 43 with (fail)
                      go_cut [213] (fun v wc => v = .bool (decide (mid < e ∧ e < b)) ∧ Hid (∃ Pl, Srt (ltc cf) Pl ∧ Cls (ltc cf) (A1 ++ B1) Pl ∧ Pl.length = A1.length + B1.length ∧ SWL enc k w0 g (X ++ Pl ++ A2 ++ B2 ++ Y) wc))
                      case first => as_aux_lemma =>
                        by_cases g1 : (mid : Int) < (e : Int)
                        · by_cases g2 : (e : Int) < (b : Int)
                          · go_wp2
                            go_meet
                            case rel => exact ⟨congrArg Value.bool (decide_eq_true (p := mid < e ∧ e < b) (by omega)).symm, HSW⟩
                          · go_wp2
                            go_meet
                            case rel => exact ⟨congrArg Value.bool (decide_eq_false (p := mid < e ∧ e < b) (by omega)).symm, HSW⟩
                        · go_wp2
                          go_meet
                          case rel => exact ⟨congrArg Value.bool (decide_eq_false (p := mid < e ∧ e < b) (by omega)).symm, HSW⟩
                      case rest =>
                        obtain ⟨rfl, HSW1⟩ := hcut
                        clear HSW
                        obtain ⟨Pl, p1, p2, p3, p4⟩ := HSW1.out
                        have HP := Hid.mk (And.intro p1 (And.intro p2 p4))
                        clear p1 p2 p4 HSW1
                        by_cases hr : mid < e ∧ e < b
                        · as_aux_lemma =>
                          have hd : decide (mid < e ∧ e < b) = true := decide_eq_true hr
                          go_wp2_with fail
                          have he2 := HE2.out
                          refine (HIH.out _ (X ++ Pl) A2 B2 Y mid e b (by omega) (by simp only [List.length_append]; omega) (by simpa using HP.out.2.2) (by simp; omega) (by simp; omega) (by simp; omega) (by omega) (by omega) (srt_append.1 HCUT.out.2.2.1).2.1 (srt_append.1 HCUT.out.2.2.2).2.1).mono ?_
                          rintro e' w2 ⟨rfl, h⟩
                          clear he2
                          have H2 := Hid.mk h
                          clear h
                          go_wp2
                          go_end0
                          obtain ⟨C, c1, c2, c3, c4⟩ := H2.out
                          have hmc := merge_cut hw HCUT.out.2.2.1 HCUT.out.2.2.2 HCUT.out.1 HCUT.out.2.1 HP.out.1 c1 HP.out.2.1 c2
                          refine ⟨rfl, Pl ++ C, hmc.1, ?_, by rw [List.length_append]; omega, by simpa using c4⟩
                          rw [HAB.out.1, HAB.out.2.1]
                          exact hmc.2
                        · as_aux_lemma =>
                          have hd : decide (mid < e ∧ e < b) = false := decide_eq_false hr
                          go_wp2
                          go_end0
                          have he2 := HE2.out
                          have h0 : A2 = [] ∨ B2 = [] := by
                            by_cases h : mid < e
                            · right; exact List.length_eq_zero_iff.1 (by omega)
                            · left; exact List.length_eq_zero_iff.1 (by omega)
                          have hQ : Srt (ltc cf) (A2 ++ B2) := by
                            rcases h0 with h0 | h0
                            · rw [h0, List.nil_append]; exact (srt_append.1 HCUT.out.2.2.2).2.1
                            · rw [h0, List.append_nil]; exact (srt_append.1 HCUT.out.2.2.1).2.1
                          have hmc := merge_cut hw HCUT.out.2.2.1 HCUT.out.2.2.2 HCUT.out.1 HCUT.out.2.1 HP.out.1 hQ HP.out.2.1 (Cls.refl _ _)
                          refine ⟨rfl, Pl ++ (A2 ++ B2), hmc.1, ?_, by simp only [List.length_append]; omega, by simpa using HP.out.2.2⟩
                          rw [HAB.out.1, HAB.out.2.1]
                          exact hmc.2

end Go.Proofs.Ytphkchjejbffeaa

/- The walk of slices.stableCmpFunc over orders, given the contracts of what it calls. -/
namespace Go.Proofs.Ytphkchjejbffeaa
open Go.Shelf Go.RowKit Go.Lib Go.Sort
attribute [local go_sem ↓] Go.wp_at_zero Go.wp_at_succ

set_option maxRecDepth 100000 in
set_option maxHeartbeats 8000000 in
theorem stable_walk {P : Program} {k : Nat} (T : SrtT P k) (FG : P.funcs[98]? = some Try.f98)
    (ei : ∀ args w, (callFunc 131 args).run P w = .ok (.enter 131 args) w) (em : ∀ args w, (callFunc 132 args).run P w = .ok (.enter 132 args) w)
    (enc : Ord → List Value) (cf : Ord → Ord → Int) (gc : Nat) (w0 w : World) (g cap len : Nat) (L : List Ord)
    (HI : ∀ (w : World) (X A Y : List Ord) (a b : Nat), (X ++ A ++ Y).length = len → SWL enc k w0 g (X ++ A ++ Y) w → a = X.length → b = X.length + A.length → Calls P 131 #[.slice (some ⟨g, 0, none⟩) len cap, .int .i64 a, .int .i64 b, .func (.func gc) #[] #[]] w fun e w' => e = .returned (.tuple #[]) ∧ ∃ A', Srt (ltc cf) A' ∧ Cls (ltc cf) A A' ∧ A'.length = A.length ∧ SWL enc k w0 g (X ++ A' ++ Y) w')
    (HM : ∀ (w : World) (X A B Y : List Ord) (a m b : Nat), (X ++ A ++ B ++ Y).length = len → SWL enc k w0 g (X ++ A ++ B ++ Y) w → a = X.length → m = X.length + A.length → b = X.length + A.length + B.length → 1 ≤ A.length → 1 ≤ B.length → Srt (ltc cf) A → Srt (ltc cf) B → Calls P 132 #[.slice (some ⟨g, 0, none⟩) len cap, .int .i64 a, .int .i64 m, .int .i64 b, .func (.func gc) #[] #[]] w fun e w' => e = .returned (.tuple #[]) ∧ Merged enc k w0 g cf X A B Y w')
    (hL : L.length = len) (S : SWL enc k w0 g L w) (hsz : len < 1152921504606846976) :
    Calls P 98 #[.slice (some ⟨g, 0, none⟩) len cap, .int .i64 len, .func (.func gc) #[] #[]] w fun e w' => e = .returned (.tuple #[]) ∧ ∃ C, Srt (ltc cf) C ∧ Cls (ltc cf) L C ∧ C.length = len ∧ SWL enc k w0 g C w' := by
  have mixed := T.mixed; have t0 := T.t0; have a0 := T.a0; have z0 := T.z0; have v0 := T.v0; have t3 := T.t3; have a3 := T.a3; have z3 := T.z3; have v3 := T.v3; have t4 := T.t4; have a4 := T.a4; have z4 := T.z4; have v4 := T.v4; have t22 := T.t22; have a22 := T.a22; have z22 := T.z22; have v22 := T.v22; have t25 := T.t25; have a25 := T.a25; have z25 := T.z25; have v25 := T.v25; have tu := T.tu; have au := T.au; have zu := T.zu; have vu := T.vu; have aE := T.aE; have zE := T.zE
  have uu := run_underlying T.t22
  have QI := Hid.mk HI
  have QM := Hid.mk HM
  have HS0 := Hid.mk (And.intro hL S)
  clear T HI HM S hL
  go_enter FG, Try.ntmps98
  go_wp2_with fail
  go_loopg [7, 8] len (fun g1 va vb wr => ∃ a b : Nat, va = .int .i64 a ∧ vb = .int .i64 b ∧ b = a + 20 ∧ a ≤ len ∧ len - a ≤ g1 ∧ Hid (PA (ltc cf) L len (fun l => SWL enc k w0 g l wr) a))
  case atStart => exact ⟨0, 20, rfl, rfl, rfl, by omega, by omega, PA.start HS0.out.1 HS0.out.2⟩
  case round =>
    clear HS0
    obtain ⟨a, b, rfl, rfl, hb, ha, hg1, HA⟩ := hrel
    have HB0 := Hid.mk hb
    by_cases hlt : b ≤ len
    · as_aux_lemma =>
      have hz : (b : Int) ≤ (len : Int) := by omega
      obtain ⟨X, A, Y, x1, x2, x3, x4, x5⟩ := HA.out.step (by omega)
      have HX := Hid.mk (And.intro x3 (And.intro x4 (And.intro (show a = X.length by omega) (And.intro (show b = X.length + A.length by omega) x5))))
      have hm : len - b < len - a := by omega
      have rb : IntKind.i64.wrap ((b : Int) + 20) = (b : Int) + 20 := by rw [IntKind.wrap_i64]; omega
      clear x1 x2 x3 x4 x5 HA hb
      go_wp2_with fail
      refine (QI.out _ X A Y a b HX.out.1 HX.out.2.1 HX.out.2.2.1 HX.out.2.2.2.1).mono ?_
      rintro e' w2 ⟨rfl, h⟩
      have H2 := Hid.mk h
      clear h
      go_wp2
      go_roundg (len - b)
      case measure => omega
      case rel =>
        obtain ⟨A', c1, c2, c3, c4⟩ := H2.out
        refine ⟨b, b + 20, by first | rfl | go_num, by go_num, rfl, hlt, Nat.le_refl _, ?_⟩
        have h9 := HX.out.2.2.2.2 (fun l => SWL enc k w0 g l _) A' c1 c2 c3 c4
        rw [← HB0.out] at h9
        exact h9
    · have hz : ¬ (b : Int) ≤ (len : Int) := by omega
      obtain ⟨X, A, x1, x2, x3, x4, x5⟩ := HA.out.last (by omega)
      have HX := Hid.mk (And.intro x3 (And.intro x4 (And.intro (show a = X.length by omega) (And.intro (show len = X.length + A.length by omega) x5))))
      clear x1 x2 x3 x4 x5 HA hb HB0
      go_wp2_with fail
      refine (QI.out _ X A [] a len HX.out.1 HX.out.2.1 HX.out.2.2.1 HX.out.2.2.2.1).mono ?_
      rintro e' w2 ⟨rfl, h⟩
      have HB : Hid (PB (ltc cf) L len (fun l => SWL enc k w0 g l w2) 20) := by
        obtain ⟨A', c1, c2, c3, c4⟩ := h
        exact HX.out.2.2.2.2 (fun l => SWL enc k w0 g l _) A' c1 c2 c3 c4
      clear h HX hg1 hz hlt ha
      go_wp2_with fail
      go_loopg [6, 7, 8] len (fun g2 vk va vb wr => ∃ K x y : Nat, vk = .int .i64 K ∧ va = .int .i64 x ∧ vb = .int .i64 y ∧ 20 ≤ K ∧ len - K ≤ g2 ∧ Hid (PB (ltc cf) L len (fun l => SWL enc k w0 g l wr) K))
      case atStart => exact ⟨20, a, b, rfl, rfl, rfl, by omega, by omega, HB.out⟩
      case round =>
        clear HB
        obtain ⟨K, x, y, rfl, rfl, rfl, hK, hg2, HB⟩ := hrel
        by_cases hKl : K < len
        · have hKz : (K : Int) < (len : Int) := by omega
          obtain ⟨K2, hK2, hK3⟩ : ∃ K2 : Nat, 2 * (K : Int) = (K2 : Int) ∧ K2 = 2 * K := ⟨2 * K, by omega, rfl⟩
          have r2 : IntKind.i64.wrap (2 * (K : Int)) = 2 * (K : Int) := by rw [IntKind.wrap_i64]; omega
          have r2' : IntKind.i64.wrap ((K : Int) * 2) = (K2 : Int) := by rw [IntKind.wrap_i64]; omega
          rw [hK2] at r2
          have HCC := Hid.mk HB.out.open
          have HK3 := Hid.mk hK3
          clear HB hK3
          go_wp2_with fail
          go_loopg [7, 8] len (fun g3 va vb wr => ∃ a b : Nat, va = .int .i64 a ∧ vb = .int .i64 b ∧ b = a + K2 ∧ a ≤ len ∧ len - a ≤ g3 ∧ Hid (PC (ltc cf) L len (fun l => SWL enc k w0 g l wr) K a))
          case atStart => exact ⟨0, K2, rfl, by first | rfl | go_num, by omega, by omega, by omega, HCC.out⟩
          case round =>
            clear HCC
            obtain ⟨a, b, rfl, rfl, hb, ha, hg3, HC⟩ := hrel
            obtain ⟨mm, hm1, hm2⟩ : ∃ mm : Nat, (a : Int) + (K : Int) = (mm : Int) ∧ mm = a + K := ⟨a + K, by omega, rfl⟩
            have rm : IntKind.i64.wrap ((a : Int) + (K : Int)) = (a : Int) + (K : Int) := by have := HK3.out; rw [IntKind.wrap_i64]; omega
            rw [hm1] at rm
            have HB0 := Hid.mk (And.intro hb (And.intro HK3.out hm2))
            by_cases hlt : b ≤ len
            · as_aux_lemma =>
              have hz : (b : Int) ≤ (len : Int) := by omega
              obtain ⟨X, A, B, Y, x1, x2, x3, x4, x5, x6, x7, x8⟩ := HC.out.step (by have := HK3.out; omega)
              have HX := Hid.mk (And.intro x4 (And.intro x7 (And.intro (show a = X.length by omega) (And.intro (show mm = X.length + A.length by omega) (And.intro (show b = X.length + A.length + B.length by have := HK3.out; omega) (And.intro (show 1 ≤ A.length by omega) (And.intro (show 1 ≤ B.length by omega) (And.intro x5 (And.intro x6 x8)))))))))
              have hmz : len - b < len - a := by have := HK3.out; omega
              obtain ⟨b2, hb2, hb3⟩ : ∃ b2 : Nat, (b : Int) + (K2 : Int) = (b2 : Int) ∧ b2 = b + K2 := ⟨b + K2, by omega, rfl⟩
              have rb : IntKind.i64.wrap ((b : Int) + (K2 : Int)) = (b : Int) + (K2 : Int) := by have := HK3.out; rw [IntKind.wrap_i64]; omega
              rw [hb2] at rb
              have HB3 := Hid.mk hb3
              clear x1 x2 x3 x4 x5 x6 x7 x8 HC hb hm2 hb3
              go_wp2_with fail
              refine (QM.out _ X A B Y a mm b HX.out.1 HX.out.2.1 HX.out.2.2.1 HX.out.2.2.2.1 HX.out.2.2.2.2.1 HX.out.2.2.2.2.2.1 HX.out.2.2.2.2.2.2.1 HX.out.2.2.2.2.2.2.2.1 HX.out.2.2.2.2.2.2.2.2.1).mono ?_
              rintro e' w2 ⟨rfl, h⟩
              have H2 := Hid.mk h
              clear h
              go_wp2
              go_roundg (len - b)
              case measure => omega
              case rel =>
                obtain ⟨C, c1, c2, c3, c4⟩ := H2.out
                refine ⟨b, b2, by first | rfl | go_num, by first | rfl | go_num, HB3.out, hlt, Nat.le_refl _, ?_⟩
                have h9 := HX.out.2.2.2.2.2.2.2.2.2 (fun l => SWL enc k w0 g l _) C c1 c2 c3 c4
                rw [← HK3.out, ← HB0.out.1] at h9
                exact h9
            · have hz : ¬ (b : Int) ≤ (len : Int) := by omega
              by_cases hml : mm < len
              · as_aux_lemma =>
                have hmz : (mm : Int) < (len : Int) := by omega
                obtain ⟨X, A, B, x1, x2, x3, x4, x5, x6, x7, x8⟩ := HC.out.tail (by have := HK3.out; omega) (by omega)
                have HX := Hid.mk (And.intro x4 (And.intro x7 (And.intro (show a = X.length by omega) (And.intro (show mm = X.length + A.length by omega) (And.intro (show len = X.length + A.length + B.length by omega) (And.intro (show 1 ≤ A.length by omega) (And.intro (show 1 ≤ B.length by omega) (And.intro x5 (And.intro x6 x8)))))))))
                clear x1 x2 x3 x4 x5 x6 x7 x8 HC hb hm2
                go_wp2_with fail
                refine (QM.out _ X A B [] a mm len HX.out.1 HX.out.2.1 HX.out.2.2.1 HX.out.2.2.2.1 HX.out.2.2.2.2.1 HX.out.2.2.2.2.2.1 HX.out.2.2.2.2.2.2.1 HX.out.2.2.2.2.2.2.2.1 HX.out.2.2.2.2.2.2.2.2.1).mono ?_
                rintro e' w2 ⟨rfl, h⟩
                have H2 := Hid.mk h
                clear h
                go_wp2
                go_roundg (len - K2)
                case measure => have := HK3.out; omega
                case rel =>
                  obtain ⟨C, c1, c2, c3, c4⟩ := H2.out
                  refine ⟨K2, a, b, by first | rfl | go_num, by first | rfl | go_num, by first | rfl | go_num, by have := HK3.out; omega, Nat.le_refl _, ?_⟩
                  have h9 := HX.out.2.2.2.2.2.2.2.2.2 (fun l => SWL enc k w0 g l _) C c1 c2 c3 c4
                  rw [← HK3.out] at h9
                  exact h9
              · as_aux_lemma =>
                have hmz : ¬ (mm : Int) < (len : Int) := by omega
                have h9 := HC.out.none (by omega)
                rw [← HK3.out] at h9
                have H9 := Hid.mk h9
                clear h9
                clear HC hb hm2
                go_wp2
                go_roundg (len - K2)
                case measure => have := HK3.out; omega
                case rel => exact ⟨K2, a, b, by first | rfl | go_num, by first | rfl | go_num, by first | rfl | go_num, by have := HK3.out; omega, Nat.le_refl _, H9.out⟩
        · as_aux_lemma =>
          have hKz : ¬ (K : Int) < (len : Int) := by omega
          go_wp2
          go_end0
          exact ⟨rfl, HB.out.done (by omega)⟩

end Go.Proofs.Ytphkchjejbffeaa

/- slices.SortStableFunc over orders, whole. -/
namespace Go.Proofs.Ytphkchjejbffeaa
open Go.Shelf Go.RowKit Go.Lib Go.Sort
attribute [local go_sem ↓] Go.wp_at_zero Go.wp_at_succ

/-- What the stable sort calls. -/
structure SrtG (P : Program) : Prop extends SrtF P where
  fi : P.funcs[131]? = some Try.f131
  ft : P.funcs[98]? = some Try.f98
  fo : P.funcs[65]? = some Try.f65
  ei : ∀ args w, (callFunc 131 args).run P w = .ok (.enter 131 args) w
  et : ∀ args w, (callFunc 98 args).run P w = .ok (.enter 98 args) w

theorem stable_gen {P : Program} {k : Nat} (T : SrtT P k) (F : SrtG P)
    (enc : Ord → List Value) (cf : Ord → Ord → Int) (hw : Swo (ltc cf)) (gc : Nat) (eg : ∀ args w, (callFunc gc args).run P w = .ok (.enter gc args) w) (w0 w : World) (g cap len : Nat) (d0 : Array Ord) (L : List Ord) (hcmp : CmpLays P gc #[] enc k cf g 0 len w0) (R : RowK enc k w0 g 0 d0) (hs : d0.size = len) (hL : L.length = len) (S : SWL enc k w0 g L w) (hsz : len < 1152921504606846976) :
    Calls P 98 #[.slice (some ⟨g, 0, none⟩) len cap, .int .i64 len, .func (.func gc) #[] #[]] w fun e w' => e = .returned (.tuple #[]) ∧ ∃ C, Srt (ltc cf) C ∧ Cls (ltc cf) L C ∧ C.length = len ∧ SWL enc k w0 g C w' :=
  stable_walk T F.ft F.ei F.em enc cf gc w0 w g cap len L
    (fun w X A Y a b hl hS ha hb => insertion_gen T F.fi enc cf hw gc eg w0 w g cap len a b d0 X A Y hcmp R hl hs hS ha hb (by omega))
    (fun w X A B Y a m b hl hS ha hm hb h1 h2 h3 h4 => symMerge_gen T F.toSrtF enc cf hw gc eg w0 g cap len d0 hcmp R hs (by omega) _ w X A B Y a m b (Nat.le_refl _) hl hS ha hm hb h1 h2 h3 h4)
    hL S hsz

set_option maxRecDepth 100000 in
set_option maxHeartbeats 4000000 in
theorem sortStable_gen {P : Program} {k : Nat} (T : SrtT P k) (F : SrtG P)
    (enc : Ord → List Value) (cf : Ord → Ord → Int) (hw : Swo (ltc cf)) (gc : Nat) (eg : ∀ args w, (callFunc gc args).run P w = .ok (.enter gc args) w) (w0 w : World) (g cap len : Nat) (d0 : Array Ord) (L : List Ord) (hcmp : CmpLays P gc #[] enc k cf g 0 len w0) (R : RowK enc k w0 g 0 d0) (hs : d0.size = len) (hL : L.length = len) (S : SWL enc k w0 g L w) (hsz : len < 1152921504606846976) :
    Calls P 65 #[.slice (some ⟨g, 0, none⟩) len cap, .func (.func gc) #[] #[]] w fun e w' => e = .returned (.tuple #[]) ∧ ∃ C, Srt (ltc cf) C ∧ Cls (ltc cf) L C ∧ C.length = len ∧ SWL enc k w0 g C w' := by
  have FG := F.fo
  have et := F.et
  have Q := Hid.mk (fun (w : World) (S : SWL enc k w0 g L w) => stable_gen T F enc cf hw gc eg w0 w g cap len d0 L hcmp R hs hL S hsz)
  have mixed := T.mixed; have t0 := T.t0; have a0 := T.a0; have z0 := T.z0; have v0 := T.v0; have t3 := T.t3; have a3 := T.a3; have z3 := T.z3; have v3 := T.v3; have t4 := T.t4; have a4 := T.a4; have z4 := T.z4; have v4 := T.v4; have t22 := T.t22; have a22 := T.a22; have z22 := T.z22; have v22 := T.v22; have t25 := T.t25; have a25 := T.a25; have z25 := T.z25; have v25 := T.v25; have tu := T.tu; have au := T.au; have zu := T.zu; have vu := T.vu; have aE := T.aE; have zE := T.zE
  have uu := run_underlying T.t22
  have HS0 := Hid.mk S
  clear T F S hcmp R hs hL
  go_enter FG, Try.ntmps65
  go_wp2_with fail
  refine (Q.out _ HS0.out).mono ?_
  rintro e' w2 ⟨rfl, h⟩
  have H2 := Hid.mk h
  clear h
  go_wp2
  go_end0
  exact ⟨rfl, H2.out⟩

end Go.Proofs.Ytphkchjejbffeaa

/- A list of orders, sorted as the book stands. -/
namespace Go.Proofs.Ytphkchjejbffeaa
open Go.Shelf Go.RowKit Go.Lib Go.Sort

theorem srtG : SrtG Try.prog where
  fm := Try.func132
  fr := Try.func148
  fs := Try.func151
  em := fun args w => by kernel_rfl
  er := fun args w => by kernel_rfl
  es := fun args w => by kernel_rfl
  fi := Try.func131
  ft := Try.func98
  fo := Try.func65
  ei := fun args w => by kernel_rfl
  et := fun args w => by kernel_rfl

/-- The list after the sort: sorted, and those that are alike in the same order. -/
theorem sortBook (w0 w : World) (g cap len : Nat) (d0 : Array Ord) (L : List Ord) (R : RowK Ord.cells 6 w0 g 0 d0) (hs : d0.size = len) (hL : L.length = len) (S : SWL Ord.cells 6 w0 g L w) (hsz : len < 1152921504606846976) :
    Calls Try.prog 65 #[.slice (some ⟨g, 0, none⟩) len cap, .func (.func 66) #[] #[]] w fun e w' => e = .returned (.tuple #[]) ∧ ∃ C, Srt (ltc byB) C ∧ Cls (ltc byB) L C ∧ C.length = len ∧ SWL Ord.cells 6 w0 g C w' :=
  sortStable_gen srtT srtG Ord.cells byB byB_swo 66 (fun args w => by kernel_rfl) w0 w g cap len d0 L (byBook_lays g len w0) R hs hL S hsz

end Go.Proofs.Ytphkchjejbffeaa

/- The sort of no orders. -/
namespace Go.Proofs.Ytphkchjejbffeaa
open Go.Shelf Go.RowKit Go.Lib Go.Sort
attribute [local go_sem ↓] Go.wp_at_zero Go.wp_at_succ

set_option maxRecDepth 100000 in
set_option maxHeartbeats 2000000 in
theorem insertion_none (f : Value) (w : World) : Calls Try.prog 131 #[.slice none 0 0, .int .i64 0, .int .i64 0, f] w fun e w' => e = .returned (.tuple #[]) ∧ w' = w := by
  go_enter Try.func131, Try.ntmps131
  go_wp2_with fail
  go_loopw [8] (fun vi wr => vi = .int .i64 1 ∧ wr = w) (fun _ _ => 0)
  case atStart => exact ⟨by first | rfl | go_num, rfl⟩
  case round =>
    obtain ⟨rfl, rfl⟩ := hrel
    go_wp2
    go_end0
    exact ⟨rfl, rfl⟩

set_option maxRecDepth 100000 in
set_option maxHeartbeats 2000000 in
theorem stable_none (f : Value) (w : World) : Calls Try.prog 98 #[.slice none 0 0, .int .i64 0, f] w fun e w' => e = .returned (.tuple #[]) ∧ w' = w := by
  go_enter Try.func98, Try.ntmps98
  go_wp2_with fail
  go_loopw [7, 8] (fun va vb wr => va = .int .i64 0 ∧ vb = .int .i64 20 ∧ wr = w) (fun _ _ _ => 0)
  case atStart => exact ⟨rfl, rfl, rfl⟩
  case round =>
    obtain ⟨rfl, rfl, rfl⟩ := hrel
    go_wp2_with fail
    refine (insertion_none _ _).mono ?_
    rintro e' w2 ⟨rfl, rfl⟩
    go_wp2_with fail
    go_loopw [6, 7, 8] (fun vk va vb wr => vk = .int .i64 20 ∧ va = .int .i64 0 ∧ vb = .int .i64 20 ∧ wr = w2) (fun _ _ _ _ => 0)
    case atStart => exact ⟨rfl, rfl, rfl, rfl⟩
    case round =>
      obtain ⟨rfl, rfl, rfl, rfl⟩ := hrel
      go_wp2
      go_end0
      exact ⟨rfl, rfl⟩

set_option maxRecDepth 100000 in
set_option maxHeartbeats 2000000 in
theorem sort_none (f : Value) (w : World) : Calls Try.prog 65 #[.slice none 0 0, f] w fun e w' => e = .returned (.tuple #[]) ∧ w' = w := by
  go_enter Try.func65, Try.ntmps65
  go_wp2_with fail
  refine (stable_none _ _).mono ?_
  rintro e' w2 ⟨rfl, rfl⟩
  go_wp2
  go_end0
  exact ⟨rfl, rfl⟩

end Go.Proofs.Ytphkchjejbffeaa

/- The walks of tapeBytes, follow, list. -/
namespace Go.Proofs.Ytphkchjejbffeaa
open Go.Shelf Go.RowKit Go.Lib Go.Sort
attribute [local go_sem ↓] Go.wp_at_zero Go.wp_at_succ

theorem cells_flat_len (l : List Ord) : (l.flatMap Ord.cells).length = l.length * 6 := by
  induction l with
  | nil => rfl
  | cons x l ih =>
    rw [List.flatMap_cons, List.length_append, ih, List.length_cons, Nat.add_mul]
    show 6 + _ = _
    omega
theorem flat_at (C : List Ord) (k : Nat) (h : k < C.length * 6) : (flatK Ord.cells 6 C.toArray)[k]! = (C[k / 6]'(by omega)).cells[k % 6]'(by show k % 6 < 6; omega) := by
  have hi : k / 6 < C.length := by omega
  have hr : k % 6 < (C[k / 6].cells).length := by show k % 6 < 6; omega
  rw [get_flatK _ _ _ _ h]
  have e1 : C.toArray[k / 6]! = C[k / 6] := by rw [getElem!_pos _ _ (by simpa using hi)]; simp
  rw [e1]
  exact getElem!_pos (C[k / 6].cells) (k % 6) hr

theorem holdsK_of_row {w : World} {base g cap n : Nat} {K : List Ord} (h : w.ownsRow base 46 6 (.slice (some ⟨g, 0, none⟩) n cap) n (K.flatMap Ord.cells)) (hK : K.length = n) : HoldsK Ord.cells 6 w g 0 K.toArray := by
  intro j hj
  rw [size_flatK] at hj
  have hj' : j < K.length * 6 := hj
  have hi : j / 6 < K.length := by omega
  have hlen : ∀ x : Ord, x.cells.length = 6 := fun _ => rfl
  have hx : K[j / 6]? = some K[j / 6] := List.getElem?_eq_getElem hi
  have hr : j % 6 < (K[j / 6].cells).length := by rw [hlen]; omega
  have hf := flat_getG Ord.cells 6 hlen K (j / 6) (j % 6) _ (K[j / 6].cells[j % 6]) hx (by omega) (List.getElem?_eq_getElem hr)
  rw [show j / 6 * 6 + j % 6 = j by omega] at hf
  have hc := h.cells (g := g) rfl j _ hf
  rw [Addr.add_lit] at hc
  have e : (flatK Ord.cells 6 K.toArray)[j]! = K[j / 6].cells[j % 6] := by
    rw [get_flatK _ _ _ _ hj]
    have e1 : K.toArray[j / 6]! = K[j / 6] := by rw [getElem!_pos _ _ (by simpa using hi)]; simp
    rw [e1]
    exact getElem!_pos (K[j / 6].cells) (j % 6) hr
  refine ⟨by rw [e]; exact hc, ?_⟩
  rcases h.2 with ⟨h1, -⟩ | ⟨g', cap', cur, h1, h2, h3, -⟩
  · simp at h1
  · simp only [Value.slice.injEq, Option.some.injEq, Addr.mk.injEq] at h1
    obtain ⟨⟨rfl, -, -⟩, -⟩ := h1
    simp [World.frozen?, h3]

theorem row_of_swl {w w' : World} {base g cap n : Nat} {K C : List Ord} (h : w.ownsRow base 46 6 (.slice (some ⟨g, 0, none⟩) n cap) n (K.flatMap Ord.cells)) (hC : C.length = n) (hb : base ≤ w.heap.size) (S : SWL Ord.cells 6 w g C w') :
    w'.ownsRow base 46 6 (.slice (some ⟨g, 0, none⟩) n cap) n (C.flatMap Ord.cells) ∧ Below base w w' := by
  obtain ⟨m, os, rfl⟩ := S
  have hlen : ∀ x : Ord, x.cells.length = 6 := fun _ => rfl
  rcases h.2 with ⟨h1, -⟩ | ⟨g', cap', cur, h1, h2, h3, h4, h5, h6, h7⟩
  · simp at h1
  · simp only [Value.slice.injEq, Option.some.injEq, Addr.mk.injEq] at h1
    obtain ⟨⟨rfl, -, -⟩, -, rfl⟩ := h1
    have hgl : g < w.heap.size := (Array.getElem?_eq_some_iff.1 h3).1
    have hheap : ∀ k, k < w.heap.size → (sortWorldK Ord.cells 6 w g 0 m C.toArray os).heap[k]? = (w.heap.modify g (onCells (putCells id 0 (flatK Ord.cells 6 C.toArray))))[k]? := by
      intro k hk
      show (grow (putRow id (Sort.ahead w m) g 0 (flatK Ord.cells 6 C.toArray)) os).heap[k]? = _
      rw [heap_grow_old _ _ (by rw [Sort.size_putRow]; exact hk)]
      rfl
    have hgg : (sortWorldK Ord.cells 6 w g 0 m C.toArray os).heap[g]? = some (.cells (putCells id 0 (flatK Ord.cells 6 C.toArray) cur) 46 (0, 0)) := by
      rw [hheap g hgl, Array.getElem?_modify, if_pos rfl, h3]
      rfl
    refine ⟨⟨?_, .inr ⟨g, cap, putCells id 0 (flatK Ord.cells 6 C.toArray) cur, rfl, h2, hgg, h4, h5, ?_, ?_⟩⟩, ⟨rfl, rfl, rfl, ?_, ?_⟩⟩
    · rw [cells_flat_len, hC]
    · unfold putCells
      rw [Array.size_mapIdx]
      exact h6
    · refine List.ext_getElem? fun k => ?_
      rw [List.getElem?_take]
      by_cases hk : k < n * 6
      · have hkc : k < cur.size := by rw [h6]; have := Nat.mul_le_mul_right 6 h4; omega
        have hkC : k < C.length * 6 := by rw [hC]; exact hk
        rw [if_pos hk, Array.getElem?_toList]
        unfold putCells
        rw [Array.getElem?_mapIdx, Array.getElem?_eq_getElem hkc, Option.map_some, if_pos ⟨Nat.zero_le _, by rw [Nat.zero_add, size_flatK]; exact hkC⟩, Nat.sub_zero, flat_at C k hkC]
        have hi : k / 6 < C.length := by omega
        have hr : k % 6 < (C[k / 6].cells).length := by rw [hlen]; omega
        have hf := flat_getG Ord.cells 6 hlen C (k / 6) (k % 6) _ (C[k / 6].cells[k % 6]) (List.getElem?_eq_getElem hi) (by omega) (List.getElem?_eq_getElem hr)
        rw [show k / 6 * 6 + k % 6 = k by omega] at hf
        rw [hf]
        rfl
      · rw [if_neg hk, List.getElem?_eq_none (by rw [cells_flat_len, hC]; omega)]
    · exact SWK.le ⟨m, os, rfl⟩
    · intro k hk
      rw [hheap k (by omega), Array.getElem?_modify, if_neg (by omega)]

theorem sort_row {w : World} {base g cap n : Nat} {K : List Ord} (h : w.ownsRow base 46 6 (.slice (some ⟨g, 0, none⟩) n cap) n (K.flatMap Ord.cells)) (hK : K.length = n) (hb : base ≤ w.heap.size) (hsz : n < 1152921504606846976) :
    Calls Try.prog 65 #[.slice (some ⟨g, 0, none⟩) n cap, .func (.func 66) #[] #[]] w fun e w' => e = .returned (.tuple #[]) ∧ ∃ C, Srt (ltc byB) C ∧ Cls (ltc byB) K C ∧ C.length = n ∧ w'.ownsRow base 46 6 (.slice (some ⟨g, 0, none⟩) n cap) n (C.flatMap Ord.cells) ∧ Below base w w' := by
  have hH := holdsK_of_row h hK
  have hgl : g < w.heap.size := (World.ownsRow.lt h g rfl).2
  have R : RowK Ord.cells 6 w g 0 K.toArray := ⟨fun _ => rfl, fun x => cells_ones x, hH, hgl⟩
  refine (sortBook w w g cap n K.toArray K R (by simpa using hK) hK (SWK.start hH) hsz).mono ?_
  rintro e w' ⟨rfl, C, h1, h2, h3, h4⟩
  obtain ⟨r1, r2⟩ := row_of_swl h h3 hb h4
  exact ⟨rfl, C, h1, h2, h3, r1, r2⟩

set_option maxRecDepth 100000 in
set_option maxHeartbeats 2000000 in
theorem list_any {w : World} {base r : Nat} {L : List Ord} (h : RbAt w base r L) (hL : L.length ≤ 2900000000000) :
    Calls Try.prog 39 #[.pointer (some ⟨r, 0, none⟩)] w fun e w' => ∃ v C, e = .returned v ∧ Srt (ltc byB) C ∧ Cls (ltc byB) (L.filter alive) C ∧ w'.ownsRow w.heap.size 46 6 v C.length (C.flatMap Ord.cells) ∧ Below w.heap.size w w' := by
  obtain ⟨v, pm, n, M, h1, -, -, h4⟩ := h
  obtain ⟨g0, -, -, -⟩ := h1.cells
  obtain ⟨ra, cap, rfl, hc1, hc2, hcs⟩ := h1.row.form
  obtain ⟨nl, hnl⟩ : ∃ nl, L.length = nl := ⟨_, rfl⟩
  rw [hnl] at g0 hL hc1
  have HC := Hid.mk hcs
  have HSM := Hid.mk h4
  have HNL := Hid.mk hnl
  clear hcs h4 h1 hnl
  obtain ⟨i0, hi, hz0, hz1, hz2⟩ := info_parts Try.infoApi
  have HI := Hid.mk (And.intro hi (And.intro hz0 (And.intro hz1 hz2)))
  clear hi hz0 hz1 hz2
  go_enter Try.func39, Try.ntmps39
  go_wp2_with fail
  go_loopw [3, 11] (fun v i wr => ∃ j : Nat, j ≤ nl ∧ i = .int .i64 j ∧ Hid (wr.ownsRow w.heap.size 46 6 v ((L.take j).filter alive).length (((L.take j).filter alive).flatMap Ord.cells)) ∧ Hid (Below w.heap.size w wr)) (fun _ i _ => nl - (intOf i).toNat)
  case atStart => exact ⟨0, Nat.zero_le _, rfl, World.ownsRow_nil _ _ _ _, Below.refl _ _⟩
  case round =>
    obtain ⟨j, hj, rfl, hown, hB⟩ := hrel
    by_cases hjl : j < nl
    · have i2 : (j : Int) < (nl : Int) := by omega
      have i3 : (0 : Int) ≤ (j : Int) := by omega
      obtain ⟨x, hx⟩ : ∃ x, L[j]? = some x := ⟨_, List.getElem?_eq_getElem (by rw [HNL.out]; exact hjl)⟩
      obtain ⟨g, rfl, -, hgl, -, hrg⟩ := HC.out j x hx
      have HTK : Hid ((L.take (j + 1)).filter alive = (L.take j).filter alive ++ (if x.shares = 0 then [] else [x])) := by
        show _ = _
        rw [List.take_add_one, hx, List.filter_append]
        congr 1
        by_cases e : x.shares = 0 <;> simp [alive, e]
      have HSX : Hid x.small := HSM.out x (List.mem_of_getElem? hx)
      have cx : ∀ t u, (ordL 0 0 x)[t]? = some u → wr.cell? ⟨g, j * 8 + t, none⟩ = some u := fun t u hu => (hB.out.cell (p := ⟨g, j * 8 + t, none⟩) hgl).trans (hrg t u hu)
      have d0 : wr.cell? ⟨g, j * 8, none⟩ = some (.int .i64 0) := cx 0 _ rfl
      have d1 : wr.cell? ⟨g, j * 8 + 1, none⟩ = some (.int .i64 0) := cx 1 _ rfl
      have d2 : wr.cell? ⟨g, j * 8 + 2, none⟩ = some (.int .u32 x.ref) := cx 2 _ rfl
      have d3 : wr.cell? ⟨g, j * 8 + 3, none⟩ = some (.int .u32 x.token) := cx 3 _ rfl
      have d4 : wr.cell? ⟨g, j * 8 + 4, none⟩ = some (.int .u8 x.side.toNat) := cx 4 _ rfl
      have d5 : wr.cell? ⟨g, j * 8 + 5, none⟩ = some (.int .u8 x.stock) := cx 5 _ rfl
      have d6 : wr.cell? ⟨g, j * 8 + 6, none⟩ = some (.int .u16 x.price) := cx 6 _ rfl
      have d7 : wr.cell? ⟨g, j * 8 + 7, none⟩ = some (.int .u16 x.shares) := cx 7 _ rfl
      clear cx hrg
      have hfl : ((L.take j).filter alive).length ≤ j := by
        have e1 := List.length_filter_le alive (L.take j)
        have e2 : (L.take j).length ≤ j := by rw [List.length_take]; omega
        omega
      generalize (L.take j).filter alive = F at *
      by_cases hs : x.shares = 0
      · have b0 : ¬ (0 : Int) < (x.shares : Int) := by omega
        rw [if_pos hs, List.append_nil] at HTK
        clear hs hx
        go_wp2_with fail
        refine ⟨⟨j + 1, by omega, by go_num, ?_, ?_⟩, by simp [intOf]; omega⟩
        · show World.ownsRow _ _ _ _ _ _ _
          rw [HTK.out]
          exact ownsRow_keep hown.out (fun g hg => by rw [heap_alloc, if_neg (by have := (hown.out.lt g hg).2; omega)])
        · exact hB.out.alloc hB.out.size _
      · have b0 : (0 : Int) < (x.shares : Int) := by omega
        rw [if_neg hs] at HTK
        clear hs hx
        have HPA : Hid (∀ W, Calls Try.prog 59 #[.agg #[.int .i64 0, .int .i64 0, .int .u32 x.ref, .int .u32 x.token, .int .u8 x.side.toNat, .int .u8 x.stock, .int .u16 x.price, .int .u16 x.shares]] W fun e w' => e = .returned (.agg #[.int .i64 x.ref, .int .i64 x.token, .int .u8 x.side.toNat, .int .i64 x.stock, .int .i64 x.price, .int .i64 x.shares]) ∧ Below W.heap.size W w') := fun W => plain_any 0 0 x W HSX.out
        go_wp2_with fail
        refine (HPA.out _).mono ?_
        rintro e w2 ⟨rfl, hb2⟩
        have hB2 : Hid (Below w.heap.size w w2) := (hB.out.alloc hB.out.size _).trans (hb2.mono (by rw [size_alloc]; have := hB.out.size; omega))
        have hown2 : w2.ownsRow w.heap.size 46 6 u3 F.length (F.flatMap Ord.cells) := ownsRow_keep hown.out (fun g hg => by
          have := (hown.out.lt g hg).2
          rw [hb2.block g (by rw [size_alloc]; omega), heap_alloc, if_neg (by omega)])
        have HOA : Hid (∀ Ob : Obj, (w2.alloc Ob).ownsRow w.heap.size 46 6 u3 F.length (F.flatMap Ord.cells)) := fun Ob => ownsRow_keep hown2 (fun g hg => by rw [heap_alloc, if_neg (by have := (hown2.lt g hg).2; omega)])
        have HOX := Hid.mk hown2
        clear hb2 hown2 hown hB d0 d1 d2 d3 d4 d5 d6 d7 HPA hgl
        go_wp2_with (at_builtin; go_must (refine wpList_append_row rfl _ _ 42 rfl w.heap.size 46 i0 _ 6 48 und_api HI.out.1 HI.out.2.1 HI.out.2.2.1 HI.out.2.2.2 rfl (by decide) u3 F.length (F.flatMap Ord.cells) rfl (HOA.out _) (.slice (some ⟨w2.heap.size, 0, none⟩) 1 1) 1 x.cells rfl (rdRow_api w2 x) (cells_ones x) (by unfold maxLen; omega) (by omega) (by rw [size_alloc]; have := hB2.out.size; omega) ?_); intro rb capb w3 hown3 hg3 hv3; have hB3 : Hid (Below w.heap.size w w3) := (hB2.out.alloc hB2.out.size _).grown hg3 (by rw [size_alloc]; have := hB2.out.size; omega) (fun g hg => (HOX.out.lt g hg).1); replace hown3 := Hid.mk hown3; clear hg3 hv3)
        refine ⟨⟨j + 1, by omega, by go_num, ?_, hB3⟩, by simp [intOf]; omega⟩
        show World.ownsRow _ _ _ _ _ _ _
        rw [HTK.out, List.length_append, List.flatMap_append]
        simpa using hown3.out
    · have i2 : ¬ ((j : Int) < (nl : Int)) := by omega
      have : j = nl := by omega
      subst this
      rw [List.take_of_length_le (by rw [HNL.out]; exact Nat.le_refl _)] at hown
      have hfl : (L.filter alive).length ≤ 2900000000000 := by
        have e1 := List.length_filter_le alive L
        have e2 := HNL.out
        omega
      obtain ⟨F, hFe⟩ : ∃ F, L.filter alive = F := ⟨_, rfl⟩
      rw [hFe] at hown hfl
      have HFE := Hid.mk hFe
      clear hFe
      obtain ⟨rb, cb, hu3, -, -⟩ := ownsRow_len hown.out
      rcases hown.out.2 with ⟨hv, h0⟩ | ⟨g, cap', cur, hv, -⟩
      · subst hv
        have hF : F = [] := List.length_eq_zero_iff.1 h0
        clear hu3 h0
        go_wp2_with fail
        refine (sort_none _ _).mono ?_
        rintro e w2 ⟨rfl, hw⟩
        replace hw := hw.symm
        subst hw
        go_wp2_with fail
        go_ret
        subst hF
        exact ⟨_, [], rfl, List.Pairwise.nil, by rw [HFE.out]; exact Cls.refl _ _, World.ownsRow_nil _ _ _ _, hB.out⟩
      · subst hv
        have HSR := Hid.mk (sort_row hown.out rfl hB.out.size (by omega))
        obtain ⟨nF, hnF⟩ : ∃ nF, F.length = nF := ⟨_, rfl⟩
        rw [hnF] at HSR
        have HNF := Hid.mk hnF
        have e0 : Value.slice (some ⟨g, 0, none⟩) F.length cap' = .slice (some ⟨g, 0, none⟩) nF cap' := by rw [hnF]
        rw [e0]
        clear hnF hu3 e0
        go_wp2_with fail
        refine HSR.out.mono ?_
        rintro e w2 ⟨rfl, C, c1, c2, c3, c4, c5⟩
        have H2 := Hid.mk (And.intro c1 (And.intro c2 (And.intro c3 (And.intro c4 c5))))
        clear c1 c2 c3 c4 c5
        go_wp2_with fail
        go_ret
        refine ⟨_, C, rfl, H2.out.1, by rw [HFE.out]; exact H2.out.2.1, ?_, hB.out.trans H2.out.2.2.2.2⟩
        rw [H2.out.2.2.1]
        exact H2.out.2.2.2.1

end Go.Proofs.Ytphkchjejbffeaa
