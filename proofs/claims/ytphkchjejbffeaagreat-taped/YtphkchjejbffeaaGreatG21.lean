/- Blocks of a list, each sorted: what slices.stableCmpFunc keeps. Plain. -/
import Derived.Test.YtphkchjejbffeaaGreatG20
namespace Go.Proofs.YtphkchjejbffeaaGreat

/-- Sorted blocks of one size. -/
def Blk (lt : Ord → Ord → Bool) (K : Nat) (bs : List (List Ord)) : Prop := ∀ c ∈ bs, c.length = K ∧ Srt lt c
theorem Blk.nil (lt : Ord → Ord → Bool) (K : Nat) : Blk lt K [] := fun c h => by cases h
theorem Blk.len {lt : Ord → Ord → Bool} {K : Nat} : ∀ {bs : List (List Ord)}, Blk lt K bs → bs.flatten.length = bs.length * K := by
  intro bs
  induction bs with
  | nil => intro _; simp
  | cons c bs ih =>
    intro h
    rw [List.flatten_cons, List.length_append, ih (fun d hd => h d (List.mem_cons_of_mem _ hd)), (h c (by simp)).1, List.length_cons, Nat.succ_mul, Nat.add_comm]
theorem Blk.snoc {lt : Ord → Ord → Bool} {K : Nat} {bs : List (List Ord)} (h : Blk lt K bs) {c : List Ord} (h1 : c.length = K) (h2 : Srt lt c) : Blk lt K (bs ++ [c]) := by
  intro d hd
  rcases List.mem_append.1 hd with hd | hd
  · exact h d hd
  · simp at hd; rw [hd]; exact ⟨h1, h2⟩
theorem flat_snoc (bs : List (List Ord)) (c : List Ord) : (bs ++ [c]).flatten = bs.flatten ++ c := by simp

/-- The first pass, so far. -/
def PA (lt : Ord → Ord → Bool) (L : List Ord) (len : Nat) (Sw : List Ord → Prop) (a : Nat) : Prop :=
  ∃ bs Y, Blk lt 20 bs ∧ bs.flatten.length = a ∧ (bs.flatten ++ Y).length = len ∧ Cls lt L (bs.flatten ++ Y) ∧ Sw (bs.flatten ++ Y)
/-- Between passes. -/
def PB (lt : Ord → Ord → Bool) (L : List Ord) (len : Nat) (Sw : List Ord → Prop) (K : Nat) : Prop :=
  ∃ bs t, Blk lt K bs ∧ Srt lt t ∧ t.length < K ∧ (bs.flatten ++ t).length = len ∧ Cls lt L (bs.flatten ++ t) ∧ Sw (bs.flatten ++ t)
/-- A later pass, so far. -/
def PC (lt : Ord → Ord → Bool) (L : List Ord) (len : Nat) (Sw : List Ord → Prop) (K a : Nat) : Prop :=
  ∃ bs rs t, Blk lt (2 * K) bs ∧ Blk lt K rs ∧ Srt lt t ∧ t.length < K ∧ bs.flatten.length = a ∧ (bs.flatten ++ (rs.flatten ++ t)).length = len ∧ Cls lt L (bs.flatten ++ (rs.flatten ++ t)) ∧ Sw (bs.flatten ++ (rs.flatten ++ t))

theorem PA.start {lt : Ord → Ord → Bool} {L : List Ord} {len : Nat} {Sw : List Ord → Prop} (h : L.length = len) (hs : Sw L) : PA lt L len Sw 0 :=
  ⟨[], L, Blk.nil _ _, rfl, by simpa using h, Cls.refl _ _, hs⟩
theorem PA.step {lt : Ord → Ord → Bool} {L : List Ord} {len a : Nat} {Sw : List Ord → Prop} (h : PA lt L len Sw a) (ha : a + 20 ≤ len) :
    ∃ X A Y, X.length = a ∧ A.length = 20 ∧ (X ++ A ++ Y).length = len ∧ Sw (X ++ A ++ Y) ∧ ∀ (Sw' : List Ord → Prop) (A' : List Ord), Srt lt A' → Cls lt A A' → A'.length = A.length → Sw' (X ++ A' ++ Y) → PA lt L len Sw' (a + 20) := by
  obtain ⟨bs, Y, h1, h2, h3, h4, h5⟩ := h
  have hY : 20 ≤ Y.length := by rw [List.length_append] at h3; omega
  have e : Y = Y.take 20 ++ Y.drop 20 := (List.take_append_drop 20 Y).symm
  have hl : (Y.take 20).length = 20 := by rw [List.length_take]; omega
  generalize Y.take 20 = A at e hl
  generalize Y.drop 20 = Y' at e
  subst e
  refine ⟨bs.flatten, A, Y', h2, hl, by rw [List.append_assoc]; exact h3, by rw [List.append_assoc]; exact h5, ?_⟩
  intro Sw' A' k1 k2 k3 k4
  refine ⟨bs ++ [A'], Y', h1.snoc (by omega) k1, by rw [flat_snoc, List.length_append]; omega, ?_, ?_, ?_⟩
  · rw [flat_snoc]; simp only [List.length_append] at h3 ⊢; omega
  · rw [flat_snoc, List.append_assoc]; exact h4.trans ((Cls.refl _ _).app (k2.app (Cls.refl _ _)))
  · rw [flat_snoc]; exact k4
theorem PA.last {lt : Ord → Ord → Bool} {L : List Ord} {len a : Nat} {Sw : List Ord → Prop} (h : PA lt L len Sw a) (ha : ¬ a + 20 ≤ len) :
    ∃ X A, X.length = a ∧ X.length + A.length = len ∧ (X ++ A ++ []).length = len ∧ Sw (X ++ A ++ []) ∧ ∀ (Sw' : List Ord → Prop) (A' : List Ord), Srt lt A' → Cls lt A A' → A'.length = A.length → Sw' (X ++ A' ++ []) → PB lt L len Sw' 20 := by
  obtain ⟨bs, Y, h1, h2, h3, h4, h5⟩ := h
  rw [List.length_append] at h3
  refine ⟨bs.flatten, Y, h2, h3, by simp only [List.append_nil, List.length_append]; exact h3, by rw [List.append_nil]; exact h5, ?_⟩
  intro Sw' A' k1 k2 k3 k4
  rw [List.append_nil] at k4
  exact ⟨bs, A', h1, k1, by omega, by rw [List.length_append]; omega, h4.trans ((Cls.refl _ _).app k2), k4⟩
theorem PB.open {lt : Ord → Ord → Bool} {L : List Ord} {len K : Nat} {Sw : List Ord → Prop} (h : PB lt L len Sw K) : PC lt L len Sw K 0 := by
  obtain ⟨bs, t, h1, h2, h3, h4, h5, h6⟩ := h
  exact ⟨[], bs, t, Blk.nil _ _, h1, h2, h3, rfl, by simpa using h4, by simpa using h5, by simpa using h6⟩
theorem PB.done {lt : Ord → Ord → Bool} {L : List Ord} {len K : Nat} {Sw : List Ord → Prop} (h : PB lt L len Sw K) (hK : len ≤ K) : ∃ C, Srt lt C ∧ Cls lt L C ∧ C.length = len ∧ Sw C := by
  obtain ⟨bs, t, h1, h2, h3, h4, h5, h6⟩ := h
  refine ⟨bs.flatten ++ t, ?_, h5, h4, h6⟩
  have hl := h1.len
  rw [List.length_append, hl] at h4
  match bs, h1, h4 with
  | [], _, _ => simpa using h2
  | [c], h1, h4 =>
    have : t = [] := List.length_eq_zero_iff.1 (by simp at h4; omega)
    rw [this]; simpa using (h1 c (by simp)).2
  | c :: d :: bs, h1, h4 =>
    simp only [List.length_cons, Nat.succ_mul] at h4
    omega
theorem PC.step {lt : Ord → Ord → Bool} {L : List Ord} {len K a : Nat} {Sw : List Ord → Prop} (h : PC lt L len Sw K a) (ha : a + 2 * K ≤ len) :
    ∃ X A B Y, X.length = a ∧ A.length = K ∧ B.length = K ∧ (X ++ A ++ B ++ Y).length = len ∧ Srt lt A ∧ Srt lt B ∧ Sw (X ++ A ++ B ++ Y) ∧ ∀ (Sw' : List Ord → Prop) (C : List Ord), Srt lt C → Cls lt (A ++ B) C → C.length = A.length + B.length → Sw' (X ++ C ++ Y) → PC lt L len Sw' K (a + 2 * K) := by
  obtain ⟨bs, rs, t, h1, h2, h3, h4, h5, h6, h7, h8⟩ := h
  have hl := h2.len
  have h6' : a + (rs.length * K + t.length) = len := by rw [← h6, List.length_append, List.length_append, h5, hl]
  match rs, h2, h6, h6', h7, h8 with
  | [], _, _, h6', _, _ => simp at h6'; omega
  | [c], _, _, h6', _, _ => simp at h6'; omega
  | A :: B :: rs, h2, h6, h6', h7, h8 =>
    obtain ⟨a1, a2⟩ := h2 A (by simp)
    obtain ⟨b1, b2⟩ := h2 B (by simp)
    have e : ∀ C : List Ord, bs.flatten ++ C ++ (rs.flatten ++ t) = bs.flatten ++ (C ++ (rs.flatten ++ t)) := fun C => List.append_assoc _ _ _
    have e1 : bs.flatten ++ A ++ B ++ (rs.flatten ++ t) = bs.flatten ++ ((A :: B :: rs).flatten ++ t) := by simp
    refine ⟨bs.flatten, A, B, rs.flatten ++ t, h5, a1, b1, by rw [e1]; exact h6, a2, b2, by rw [e1]; exact h8, ?_⟩
    intro Sw' C k1 k2 k3 k4
    refine ⟨bs ++ [C], rs, t, h1.snoc (by omega) k1, fun d hd => h2 d (by simp [hd]), h3, h4, by rw [flat_snoc, List.length_append]; omega, ?_, ?_, ?_⟩
    · rw [flat_snoc]; rw [← e1] at h6; simp only [List.length_append] at h6 ⊢; omega
    · rw [flat_snoc, e]; rw [← e1, List.append_assoc, List.append_assoc, ← List.append_assoc A] at h7
      exact h7.trans ((Cls.refl _ _).app (k2.app (Cls.refl _ _)))
    · rw [flat_snoc]; exact k4
theorem PC.tail {lt : Ord → Ord → Bool} {L : List Ord} {len K a : Nat} {Sw : List Ord → Prop} (h : PC lt L len Sw K a) (ha : ¬ a + 2 * K ≤ len) (hb : a + K < len) :
    ∃ X A B, X.length = a ∧ A.length = K ∧ a + K + B.length = len ∧ (X ++ A ++ B ++ []).length = len ∧ Srt lt A ∧ Srt lt B ∧ Sw (X ++ A ++ B ++ []) ∧ ∀ (Sw' : List Ord → Prop) (C : List Ord), Srt lt C → Cls lt (A ++ B) C → C.length = A.length + B.length → Sw' (X ++ C ++ []) → PB lt L len Sw' (2 * K) := by
  obtain ⟨bs, rs, t, h1, h2, h3, h4, h5, h6, h7, h8⟩ := h
  have hl := h2.len
  have h6' : a + (rs.length * K + t.length) = len := by rw [← h6, List.length_append, List.length_append, h5, hl]
  match rs, h2, h6, h6', h7, h8 with
  | [], _, _, h6', _, _ => simp at h6'; omega
  | [A], h2, h6, h6', h7, h8 =>
    obtain ⟨a1, a2⟩ := h2 A (by simp)
    have e1 : bs.flatten ++ A ++ t ++ [] = bs.flatten ++ (([A] : List (List Ord)).flatten ++ t) := by simp
    refine ⟨bs.flatten, A, t, h5, a1, by simp at h6'; omega, by rw [e1]; exact h6, a2, h3, by rw [e1]; exact h8, ?_⟩
    intro Sw' C k1 k2 k3 k4
    rw [List.append_nil] at k4
    refine ⟨bs, C, h1, k1, by omega, ?_, ?_, k4⟩
    · rw [← e1] at h6; simp only [List.length_append, List.length_nil] at h6 ⊢; omega
    · rw [← e1, List.append_nil, List.append_assoc] at h7
      exact h7.trans ((Cls.refl _ _).app k2)
  | A :: B :: rs, _, _, h6', _, _ => simp only [List.length_cons, Nat.succ_mul] at h6'; omega
theorem PC.none {lt : Ord → Ord → Bool} {L : List Ord} {len K a : Nat} {Sw : List Ord → Prop} (h : PC lt L len Sw K a) (hb : ¬ a + K < len) : PB lt L len Sw (2 * K) := by
  obtain ⟨bs, rs, t, h1, h2, h3, h4, h5, h6, h7, h8⟩ := h
  have hl := h2.len
  have h6' : a + (rs.length * K + t.length) = len := by rw [← h6, List.length_append, List.length_append, h5, hl]
  match rs, h2, h6, h6', h7, h8 with
  | [], _, h6, h6', h7, h8 => exact ⟨bs, t, h1, h3, by omega, by simpa using h6, by simpa using h7, by simpa using h8⟩
  | [A], h2, h6, h6', h7, h8 =>
    obtain ⟨a1, a2⟩ := h2 A (by simp)
    have ht : t = [] := List.length_eq_zero_iff.1 (by simp at h6'; omega)
    subst ht
    exact ⟨bs, A, h1, a2, by simp at h4; omega, by simpa using h6, by simpa using h7, by simpa using h8⟩
  | A :: B :: rs, _, _, h6', _, _ => simp only [List.length_cons, Nat.succ_mul] at h6'; omega

end Go.Proofs.YtphkchjejbffeaaGreat

/- The walk of slices.stableCmpFunc over orders, given the contracts of what it calls. -/
namespace Go.Proofs.YtphkchjejbffeaaGreat
open Go.Shelf Go.RowKit Go.Lib Go.Sort
attribute [local go_sem ↓] Go.wp_at_zero Go.wp_at_succ

set_option maxRecDepth 100000 in
set_option maxHeartbeats 8000000 in
theorem stable_walk {P : Program} {k : Nat} (T : SrtT P k) (FG : P.funcs[79]? = some Tryz.f79)
    (ei : ∀ args w, (callFunc 102 args).run P w = .ok (.enter 102 args) w) (em : ∀ args w, (callFunc 103 args).run P w = .ok (.enter 103 args) w)
    (enc : Ord → List Value) (cf : Ord → Ord → Int) (gc : Nat) (w0 w : World) (g cap len : Nat) (L : List Ord)
    (HI : ∀ (w : World) (X A Y : List Ord) (a b : Nat), (X ++ A ++ Y).length = len → SWL enc k w0 g (X ++ A ++ Y) w → a = X.length → b = X.length + A.length → Calls P 102 #[.slice (some ⟨g, 0, none⟩) len cap, .int .i64 a, .int .i64 b, .func (.func gc) #[] #[]] w fun e w' => e = .returned (.tuple #[]) ∧ ∃ A', Srt (ltc cf) A' ∧ Cls (ltc cf) A A' ∧ A'.length = A.length ∧ SWL enc k w0 g (X ++ A' ++ Y) w')
    (HM : ∀ (w : World) (X A B Y : List Ord) (a m b : Nat), (X ++ A ++ B ++ Y).length = len → SWL enc k w0 g (X ++ A ++ B ++ Y) w → a = X.length → m = X.length + A.length → b = X.length + A.length + B.length → 1 ≤ A.length → 1 ≤ B.length → Srt (ltc cf) A → Srt (ltc cf) B → Calls P 103 #[.slice (some ⟨g, 0, none⟩) len cap, .int .i64 a, .int .i64 m, .int .i64 b, .func (.func gc) #[] #[]] w fun e w' => e = .returned (.tuple #[]) ∧ Merged enc k w0 g cf X A B Y w')
    (hL : L.length = len) (S : SWL enc k w0 g L w) (hsz : len < 1152921504606846976) :
    Calls P 79 #[.slice (some ⟨g, 0, none⟩) len cap, .int .i64 len, .func (.func gc) #[] #[]] w fun e w' => e = .returned (.tuple #[]) ∧ ∃ C, Srt (ltc cf) C ∧ Cls (ltc cf) L C ∧ C.length = len ∧ SWL enc k w0 g C w' := by
  have mixed := T.mixed; have t0 := T.t0; have a0 := T.a0; have z0 := T.z0; have v0 := T.v0; have t3 := T.t3; have a3 := T.a3; have z3 := T.z3; have v3 := T.v3; have t4 := T.t4; have a4 := T.a4; have z4 := T.z4; have v4 := T.v4; have t22 := T.t22; have a22 := T.a22; have z22 := T.z22; have v22 := T.v22; have t25 := T.t25; have a25 := T.a25; have z25 := T.z25; have v25 := T.v25; have tu := T.tu; have au := T.au; have zu := T.zu; have vu := T.vu; have aE := T.aE; have zE := T.zE
  have uu := run_underlying T.t22
  have QI := Hid.mk HI
  have QM := Hid.mk HM
  have HS0 := Hid.mk (And.intro hL S)
  clear T HI HM S hL
  go_enter FG, Tryz.ntmps79
  go_wp2_with fail
  go_loopg [7, 8] len (fun g1 va vb wr => ∃ a b : Nat, va = .int .i64 a ∧ vb = .int .i64 b ∧ b = a + 20 ∧ a ≤ len ∧ len - a ≤ g1 ∧ Hid (PA (ltc cf) L len (fun l => SWL enc k w0 g l wr) a))
  case atStart => exact ⟨0, 20, rfl, rfl, rfl, by omega, by omega, PA.start HS0.out.1 HS0.out.2⟩
  case round =>
    clear HS0
    obtain ⟨a, b, rfl, rfl, hb, ha, hg1, HA⟩ := hrel
    have HB0 := Hid.mk hb
    by_cases hlt : b ≤ len
    · as_aux_lemma =>
      have hz : (b : Int) ≤ (len : Int) := by omega
      obtain ⟨X, A, Y, x1, x2, x3, x4, x5⟩ := HA.out.step (by omega)
      have HX := Hid.mk (And.intro x3 (And.intro x4 (And.intro (show a = X.length by omega) (And.intro (show b = X.length + A.length by omega) x5))))
      have hm : len - b < len - a := by omega
      have rb : IntKind.i64.wrap ((b : Int) + 20) = (b : Int) + 20 := by rw [IntKind.wrap_i64]; omega
      clear x1 x2 x3 x4 x5 HA hb
      go_wp2_with fail
      refine (QI.out _ X A Y a b HX.out.1 HX.out.2.1 HX.out.2.2.1 HX.out.2.2.2.1).mono ?_
      rintro e' w2 ⟨rfl, h⟩
      have H2 := Hid.mk h
      clear h
      go_wp2
      go_roundg (len - b)
      case measure => omega
      case rel =>
        obtain ⟨A', c1, c2, c3, c4⟩ := H2.out
        refine ⟨b, b + 20, by first | rfl | go_num, by go_num, rfl, hlt, Nat.le_refl _, ?_⟩
        have h9 := HX.out.2.2.2.2 (fun l => SWL enc k w0 g l _) A' c1 c2 c3 c4
        rw [← HB0.out] at h9
        exact h9
    · have hz : ¬ (b : Int) ≤ (len : Int) := by omega
      obtain ⟨X, A, x1, x2, x3, x4, x5⟩ := HA.out.last (by omega)
      have HX := Hid.mk (And.intro x3 (And.intro x4 (And.intro (show a = X.length by omega) (And.intro (show len = X.length + A.length by omega) x5))))
      clear x1 x2 x3 x4 x5 HA hb HB0
      go_wp2_with fail
      refine (QI.out _ X A [] a len HX.out.1 HX.out.2.1 HX.out.2.2.1 HX.out.2.2.2.1).mono ?_
      rintro e' w2 ⟨rfl, h⟩
      have HB : Hid (PB (ltc cf) L len (fun l => SWL enc k w0 g l w2) 20) := by
        obtain ⟨A', c1, c2, c3, c4⟩ := h
        exact HX.out.2.2.2.2 (fun l => SWL enc k w0 g l _) A' c1 c2 c3 c4
      clear h HX hg1 hz hlt ha
      go_wp2_with fail
      go_loopg [6, 7, 8] len (fun g2 vk va vb wr => ∃ K x y : Nat, vk = .int .i64 K ∧ va = .int .i64 x ∧ vb = .int .i64 y ∧ 20 ≤ K ∧ len - K ≤ g2 ∧ Hid (PB (ltc cf) L len (fun l => SWL enc k w0 g l wr) K))
      case atStart => exact ⟨20, a, b, rfl, rfl, rfl, by omega, by omega, HB.out⟩
      case round =>
        clear HB
        obtain ⟨K, x, y, rfl, rfl, rfl, hK, hg2, HB⟩ := hrel
        by_cases hKl : K < len
        · have hKz : (K : Int) < (len : Int) := by omega
          obtain ⟨K2, hK2, hK3⟩ : ∃ K2 : Nat, 2 * (K : Int) = (K2 : Int) ∧ K2 = 2 * K := ⟨2 * K, by omega, rfl⟩
          have r2 : IntKind.i64.wrap (2 * (K : Int)) = 2 * (K : Int) := by rw [IntKind.wrap_i64]; omega
          have r2' : IntKind.i64.wrap ((K : Int) * 2) = (K2 : Int) := by rw [IntKind.wrap_i64]; omega
          rw [hK2] at r2
          have HCC := Hid.mk HB.out.open
          have HK3 := Hid.mk hK3
          clear HB hK3
          go_wp2_with fail
          go_loopg [7, 8] len (fun g3 va vb wr => ∃ a b : Nat, va = .int .i64 a ∧ vb = .int .i64 b ∧ b = a + K2 ∧ a ≤ len ∧ len - a ≤ g3 ∧ Hid (PC (ltc cf) L len (fun l => SWL enc k w0 g l wr) K a))
          case atStart => exact ⟨0, K2, rfl, by first | rfl | go_num, by omega, by omega, by omega, HCC.out⟩
          case round =>
            clear HCC
            obtain ⟨a, b, rfl, rfl, hb, ha, hg3, HC⟩ := hrel
            obtain ⟨mm, hm1, hm2⟩ : ∃ mm : Nat, (a : Int) + (K : Int) = (mm : Int) ∧ mm = a + K := ⟨a + K, by omega, rfl⟩
            have rm : IntKind.i64.wrap ((a : Int) + (K : Int)) = (a : Int) + (K : Int) := by have := HK3.out; rw [IntKind.wrap_i64]; omega
            rw [hm1] at rm
            have HB0 := Hid.mk (And.intro hb (And.intro HK3.out hm2))
            by_cases hlt : b ≤ len
            · as_aux_lemma =>
              have hz : (b : Int) ≤ (len : Int) := by omega
              obtain ⟨X, A, B, Y, x1, x2, x3, x4, x5, x6, x7, x8⟩ := HC.out.step (by have := HK3.out; omega)
              have HX := Hid.mk (And.intro x4 (And.intro x7 (And.intro (show a = X.length by omega) (And.intro (show mm = X.length + A.length by omega) (And.intro (show b = X.length + A.length + B.length by have := HK3.out; omega) (And.intro (show 1 ≤ A.length by omega) (And.intro (show 1 ≤ B.length by omega) (And.intro x5 (And.intro x6 x8)))))))))
              have hmz : len - b < len - a := by have := HK3.out; omega
              obtain ⟨b2, hb2, hb3⟩ : ∃ b2 : Nat, (b : Int) + (K2 : Int) = (b2 : Int) ∧ b2 = b + K2 := ⟨b + K2, by omega, rfl⟩
              have rb : IntKind.i64.wrap ((b : Int) + (K2 : Int)) = (b : Int) + (K2 : Int) := by have := HK3.out; rw [IntKind.wrap_i64]; omega
              rw [hb2] at rb
              have HB3 := Hid.mk hb3
              clear x1 x2 x3 x4 x5 x6 x7 x8 HC hb hm2 hb3
              go_wp2_with fail
              refine (QM.out _ X A B Y a mm b HX.out.1 HX.out.2.1 HX.out.2.2.1 HX.out.2.2.2.1 HX.out.2.2.2.2.1 HX.out.2.2.2.2.2.1 HX.out.2.2.2.2.2.2.1 HX.out.2.2.2.2.2.2.2.1 HX.out.2.2.2.2.2.2.2.2.1).mono ?_
              rintro e' w2 ⟨rfl, h⟩
              have H2 := Hid.mk h
              clear h
              go_wp2
              go_roundg (len - b)
              case measure => omega
              case rel =>
                obtain ⟨C, c1, c2, c3, c4⟩ := H2.out
                refine ⟨b, b2, by first | rfl | go_num, by first | rfl | go_num, HB3.out, hlt, Nat.le_refl _, ?_⟩
                have h9 := HX.out.2.2.2.2.2.2.2.2.2 (fun l => SWL enc k w0 g l _) C c1 c2 c3 c4
                rw [← HK3.out, ← HB0.out.1] at h9
                exact h9
            · have hz : ¬ (b : Int) ≤ (len : Int) := by omega
              by_cases hml : mm < len
              · as_aux_lemma =>
                have hmz : (mm : Int) < (len : Int) := by omega
                obtain ⟨X, A, B, x1, x2, x3, x4, x5, x6, x7, x8⟩ := HC.out.tail (by have := HK3.out; omega) (by omega)
                have HX := Hid.mk (And.intro x4 (And.intro x7 (And.intro (show a = X.length by omega) (And.intro (show mm = X.length + A.length by omega) (And.intro (show len = X.length + A.length + B.length by omega) (And.intro (show 1 ≤ A.length by omega) (And.intro (show 1 ≤ B.length by omega) (And.intro x5 (And.intro x6 x8)))))))))
                clear x1 x2 x3 x4 x5 x6 x7 x8 HC hb hm2
                go_wp2_with fail
                refine (QM.out _ X A B [] a mm len HX.out.1 HX.out.2.1 HX.out.2.2.1 HX.out.2.2.2.1 HX.out.2.2.2.2.1 HX.out.2.2.2.2.2.1 HX.out.2.2.2.2.2.2.1 HX.out.2.2.2.2.2.2.2.1 HX.out.2.2.2.2.2.2.2.2.1).mono ?_
                rintro e' w2 ⟨rfl, h⟩
                have H2 := Hid.mk h
                clear h
                go_wp2
                go_roundg (len - K2)
                case measure => have := HK3.out; omega
                case rel =>
                  obtain ⟨C, c1, c2, c3, c4⟩ := H2.out
                  refine ⟨K2, a, b, by first | rfl | go_num, by first | rfl | go_num, by first | rfl | go_num, by have := HK3.out; omega, Nat.le_refl _, ?_⟩
                  have h9 := HX.out.2.2.2.2.2.2.2.2.2 (fun l => SWL enc k w0 g l _) C c1 c2 c3 c4
                  rw [← HK3.out] at h9
                  exact h9
              · as_aux_lemma =>
                have hmz : ¬ (mm : Int) < (len : Int) := by omega
                have h9 := HC.out.none (by omega)
                rw [← HK3.out] at h9
                have H9 := Hid.mk h9
                clear h9
                clear HC hb hm2
                go_wp2
                go_roundg (len - K2)
                case measure => have := HK3.out; omega
                case rel => exact ⟨K2, a, b, by first | rfl | go_num, by first | rfl | go_num, by first | rfl | go_num, by have := HK3.out; omega, Nat.le_refl _, H9.out⟩
        · as_aux_lemma =>
          have hKz : ¬ (K : Int) < (len : Int) := by omega
          go_wp2
          go_end0
          exact ⟨rfl, HB.out.done (by omega)⟩

end Go.Proofs.YtphkchjejbffeaaGreat

/- slices.SortStableFunc over orders, whole. -/
namespace Go.Proofs.YtphkchjejbffeaaGreat
open Go.Shelf Go.RowKit Go.Lib Go.Sort
attribute [local go_sem ↓] Go.wp_at_zero Go.wp_at_succ

/-- What the stable sort calls. -/
structure SrtG (P : Program) : Prop extends SrtF P where
  fi : P.funcs[102]? = some Tryz.f102
  ft : P.funcs[79]? = some Tryz.f79
  fo : P.funcs[55]? = some Tryz.f55
  ei : ∀ args w, (callFunc 102 args).run P w = .ok (.enter 102 args) w
  et : ∀ args w, (callFunc 79 args).run P w = .ok (.enter 79 args) w

theorem stable_gen {P : Program} {k : Nat} (T : SrtT P k) (F : SrtG P)
    (enc : Ord → List Value) (cf : Ord → Ord → Int) (hw : Swo (ltc cf)) (gc : Nat) (eg : ∀ args w, (callFunc gc args).run P w = .ok (.enter gc args) w) (w0 w : World) (g cap len : Nat) (d0 : Array Ord) (L : List Ord) (hcmp : CmpLays P gc #[] enc k cf g 0 len w0) (R : RowK enc k w0 g 0 d0) (hs : d0.size = len) (hL : L.length = len) (S : SWL enc k w0 g L w) (hsz : len < 1152921504606846976) :
    Calls P 79 #[.slice (some ⟨g, 0, none⟩) len cap, .int .i64 len, .func (.func gc) #[] #[]] w fun e w' => e = .returned (.tuple #[]) ∧ ∃ C, Srt (ltc cf) C ∧ Cls (ltc cf) L C ∧ C.length = len ∧ SWL enc k w0 g C w' :=
  stable_walk T F.ft F.ei F.em enc cf gc w0 w g cap len L
    (fun w X A Y a b hl hS ha hb => insertion_gen T F.fi enc cf hw gc eg w0 w g cap len a b d0 X A Y hcmp R hl hs hS ha hb (by omega))
    (fun w X A B Y a m b hl hS ha hm hb h1 h2 h3 h4 => symMerge_gen T F.toSrtF enc cf hw gc eg w0 g cap len d0 hcmp R hs (by omega) _ w X A B Y a m b (Nat.le_refl _) hl hS ha hm hb h1 h2 h3 h4)
    hL S hsz

set_option maxRecDepth 100000 in
set_option maxHeartbeats 4000000 in
theorem sortStable_gen {P : Program} {k : Nat} (T : SrtT P k) (F : SrtG P)
    (enc : Ord → List Value) (cf : Ord → Ord → Int) (hw : Swo (ltc cf)) (gc : Nat) (eg : ∀ args w, (callFunc gc args).run P w = .ok (.enter gc args) w) (w0 w : World) (g cap len : Nat) (d0 : Array Ord) (L : List Ord) (hcmp : CmpLays P gc #[] enc k cf g 0 len w0) (R : RowK enc k w0 g 0 d0) (hs : d0.size = len) (hL : L.length = len) (S : SWL enc k w0 g L w) (hsz : len < 1152921504606846976) :
    Calls P 55 #[.slice (some ⟨g, 0, none⟩) len cap, .func (.func gc) #[] #[]] w fun e w' => e = .returned (.tuple #[]) ∧ ∃ C, Srt (ltc cf) C ∧ Cls (ltc cf) L C ∧ C.length = len ∧ SWL enc k w0 g C w' := by
  have FG := F.fo
  have et := F.et
  have Q := Hid.mk (fun (w : World) (S : SWL enc k w0 g L w) => stable_gen T F enc cf hw gc eg w0 w g cap len d0 L hcmp R hs hL S hsz)
  have mixed := T.mixed; have t0 := T.t0; have a0 := T.a0; have z0 := T.z0; have v0 := T.v0; have t3 := T.t3; have a3 := T.a3; have z3 := T.z3; have v3 := T.v3; have t4 := T.t4; have a4 := T.a4; have z4 := T.z4; have v4 := T.v4; have t22 := T.t22; have a22 := T.a22; have z22 := T.z22; have v22 := T.v22; have t25 := T.t25; have a25 := T.a25; have z25 := T.z25; have v25 := T.v25; have tu := T.tu; have au := T.au; have zu := T.zu; have vu := T.vu; have aE := T.aE; have zE := T.zE
  have uu := run_underlying T.t22
  have HS0 := Hid.mk S
  clear T F S hcmp R hs hL
  go_enter FG, Tryz.ntmps55
  go_wp2_with fail
  refine (Q.out _ HS0.out).mono ?_
  rintro e' w2 ⟨rfl, h⟩
  have H2 := Hid.mk h
  clear h
  go_wp2
  go_end0
  exact ⟨rfl, H2.out⟩

end Go.Proofs.YtphkchjejbffeaaGreat

/- cmp.Compare over ints and bytes. -/
namespace Go.Proofs.YtphkchjejbffeaaGreat
open Go.Shelf Go.RowKit Go.Lib Go.Sort
attribute [local go_sem ↓] Go.wp_at_zero Go.wp_at_succ

/-- How two numbers stand. -/
def cmpI (x y : Int) : Int := if x < y then -1 else if y < x then 1 else 0

set_option maxHeartbeats 400000 in
theorem isNaN_int (x : Int) (w : World) : Calls Tryz.prog 104 #[.int .i64 x] w fun e w' => e = .returned (.bool false) ∧ w' = w := by
  have hx : (x != x) = false := by simp
  go_enter Tryz.func104, Tryz.ntmps104
  go_wp2_with fail
  go_ret
  exact ⟨by simp, rfl⟩
set_option maxHeartbeats 400000 in
theorem isNaN_byte (x : Int) (w : World) : Calls Tryz.prog 105 #[.int .u8 x] w fun e w' => e = .returned (.bool false) ∧ w' = w := by
  have hx : (x != x) = false := by simp
  go_enter Tryz.func105, Tryz.ntmps105
  go_wp2_with fail
  go_ret
  exact ⟨by simp, rfl⟩

set_option maxHeartbeats 1000000 in
theorem compare_int (x y : Int) (w : World) : Calls Tryz.prog 80 #[.int .i64 x, .int .i64 y] w fun e w' => e = .returned (.int .i64 (cmpI x y)) ∧ w' = w := by
  by_cases h1 : x < y
  · have e1 : cmpI x y = -1 := by simp [cmpI, h1]
    rw [e1]
    clear e1
    go_enter Tryz.func80, Tryz.ntmps80
    go_wp2_with fail
    refine (isNaN_int _ _).mono ?_
    rintro e' w2 ⟨rfl, rfl⟩
    go_wp2_with fail
    refine (isNaN_int _ _).mono ?_
    rintro e' w2 ⟨rfl, rfl⟩
    go_wp2_with fail
    go_ret
    exact ⟨rfl, rfl⟩
  · by_cases h2 : y < x
    · have e1 : cmpI x y = 1 := by simp [cmpI, h1, h2]
      rw [e1]
      clear e1
      have h3 : x > y := h2
      go_enter Tryz.func80, Tryz.ntmps80
      go_wp2_with fail
      refine (isNaN_int _ _).mono ?_
      rintro e' w2 ⟨rfl, rfl⟩
      go_wp2_with fail
      refine (isNaN_int _ _).mono ?_
      rintro e' w2 ⟨rfl, rfl⟩
      go_wp2_with fail
      go_ret
      exact ⟨rfl, rfl⟩
    · have e1 : cmpI x y = 0 := by simp [cmpI, h1, h2]
      rw [e1]
      clear e1
      have h3 : ¬ x > y := h2
      go_enter Tryz.func80, Tryz.ntmps80
      go_wp2_with fail
      refine (isNaN_int _ _).mono ?_
      rintro e' w2 ⟨rfl, rfl⟩
      go_wp2_with fail
      refine (isNaN_int _ _).mono ?_
      rintro e' w2 ⟨rfl, rfl⟩
      go_wp2_with fail
      go_ret
      exact ⟨rfl, rfl⟩

set_option maxHeartbeats 1000000 in
theorem compare_byte (x y : Int) (w : World) : Calls Tryz.prog 82 #[.int .u8 x, .int .u8 y] w fun e w' => e = .returned (.int .i64 (cmpI x y)) ∧ w' = w := by
  by_cases h1 : x < y
  · have e1 : cmpI x y = -1 := by simp [cmpI, h1]
    rw [e1]
    clear e1
    go_enter Tryz.func82, Tryz.ntmps82
    go_wp2_with fail
    refine (isNaN_byte _ _).mono ?_
    rintro e' w2 ⟨rfl, rfl⟩
    go_wp2_with fail
    refine (isNaN_byte _ _).mono ?_
    rintro e' w2 ⟨rfl, rfl⟩
    go_wp2_with fail
    go_ret
    exact ⟨rfl, rfl⟩
  · by_cases h2 : y < x
    · have e1 : cmpI x y = 1 := by simp [cmpI, h1, h2]
      rw [e1]
      clear e1
      have h3 : x > y := h2
      go_enter Tryz.func82, Tryz.ntmps82
      go_wp2_with fail
      refine (isNaN_byte _ _).mono ?_
      rintro e' w2 ⟨rfl, rfl⟩
      go_wp2_with fail
      refine (isNaN_byte _ _).mono ?_
      rintro e' w2 ⟨rfl, rfl⟩
      go_wp2_with fail
      go_ret
      exact ⟨rfl, rfl⟩
    · have e1 : cmpI x y = 0 := by simp [cmpI, h1, h2]
      rw [e1]
      clear e1
      have h3 : ¬ x > y := h2
      go_enter Tryz.func82, Tryz.ntmps82
      go_wp2_with fail
      refine (isNaN_byte _ _).mono ?_
      rintro e' w2 ⟨rfl, rfl⟩
      go_wp2_with fail
      refine (isNaN_byte _ _).mono ?_
      rintro e' w2 ⟨rfl, rfl⟩
      go_wp2_with fail
      go_ret
      exact ⟨rfl, rfl⟩

end Go.Proofs.YtphkchjejbffeaaGreat

/- cmp.Or over three ints. -/
namespace Go.Proofs.YtphkchjejbffeaaGreat
open Go.Shelf Go.RowKit Go.Lib Go.Sort
attribute [local go_sem ↓] Go.wp_at_zero Go.wp_at_succ

/-- The first that is not 0. -/
def or3 (x y z : Int) : Int := if x = 0 then (if y = 0 then z else y) else x

set_option maxHeartbeats 2000000 in
theorem or_int (b : Nat) (x y z : Int) (w : World) (h0 : w.cell? ⟨b, 0, none⟩ = some (.int .i64 x)) (h1 : w.cell? ⟨b, 1, none⟩ = some (.int .i64 y)) (h2 : w.cell? ⟨b, 2, none⟩ = some (.int .i64 z)) :
    Calls Tryz.prog 81 #[.slice (some ⟨b, 0, none⟩) 3 3] w fun e w' => e = .returned (.int .i64 (or3 x y z)) ∧ w' = w := by
  go_enter Tryz.func81, Tryz.ntmps81
  go_wp2_with fail
  go_loopw [8] (fun vi wr => ∃ i : Nat, vi = .int .i64 i ∧ i ≤ 3 ∧ Hid ((0 < i → x = 0) ∧ (1 < i → y = 0) ∧ (2 < i → z = 0)) ∧ wr = w) (fun vi _ => 3 - (intOf vi).toNat)
  case atStart => exact ⟨0, rfl, by omega, ⟨by omega, by omega, by omega⟩, rfl⟩
  case round =>
    obtain ⟨i, rfl, hi, HZ, rfl⟩ := hrel
    match i, hi, HZ with
    | 0, _, HZ =>
      by_cases hx : x = 0
      · have hxb : (x != 0) = false := by simp [hx]
        have HX := Hid.mk hx
        clear hx
        go_wp2
        exact ⟨⟨1, by first | rfl | go_num, by omega, ⟨fun _ => HX.out, by omega, by omega⟩, by first | trivial | rfl⟩, by simp [intOf]⟩
      · have hxb : (x != 0) = true := by simp [hx]
        go_wp2
        go_ret
        exact ⟨by simp [or3, hx], rfl⟩
    | 1, _, HZ =>
      by_cases hy : y = 0
      · have hyb : (y != 0) = false := by simp [hy]
        have HY := Hid.mk hy
        clear hy
        go_wp2
        exact ⟨⟨2, by first | rfl | go_num, by omega, ⟨fun _ => HZ.out.1 (by omega), fun _ => HY.out, by omega⟩, by first | trivial | rfl⟩, by simp [intOf]⟩
      · have hyb : (y != 0) = true := by simp [hy]
        go_wp2
        go_ret
        exact ⟨by simp [or3, hy, HZ.out.1 (by omega)], rfl⟩
    | 2, _, HZ =>
      by_cases hz : z = 0
      · have hzb : (z != 0) = false := by simp [hz]
        have HY := Hid.mk hz
        clear hz
        go_wp2
        exact ⟨⟨3, by first | rfl | go_num, by omega, ⟨fun _ => HZ.out.1 (by omega), fun _ => HZ.out.2.1 (by omega), fun _ => HY.out⟩, by first | trivial | rfl⟩, by simp [intOf]⟩
      · have hzb : (z != 0) = true := by simp [hz]
        go_wp2
        go_ret
        exact ⟨by simp [or3, HZ.out.1 (by omega), HZ.out.2.1 (by omega)], rfl⟩
    | 3, _, HZ =>
      go_wp2
      go_ret
      exact ⟨by simp [or3, HZ.out.1 (by omega), HZ.out.2.1 (by omega), HZ.out.2.2 (by omega)], rfl⟩
    | i + 4, hi, _ => omega

end Go.Proofs.YtphkchjejbffeaaGreat

/- byBook. -/
namespace Go.Proofs.YtphkchjejbffeaaGreat
open Go.Shelf Go.RowKit Go.Lib Go.Sort
attribute [local go_sem ↓] Go.wp_at_zero Go.wp_at_succ

/-- By stocks, to buy ahead of to sell, the better prices first. -/
def byB (x y : Ord) : Int := or3 (cmpI x.stock y.stock) (cmpI x.side.toNat y.side.toNat) (if x.side = 66 then - cmpI x.price y.price else cmpI x.price y.price)

theorem new_cell (w : World) (cs : Array Value) (t : TypeId) (i : Nat) (v : Value) (h : cs[i]? = some v) : (w.alloc (.cells cs t)).cell? ⟨w.heap.size, i, none⟩ = some v := by
  have hb : (w.alloc (.cells cs t)).heap[w.heap.size]? = some (.cells cs t) := by
    show (w.heap.push (.cells cs t))[w.heap.size]? = _
    exact Array.getElem?_push_size
  exact (cell_of_row _ _ i _ _ (0, 0) hb).trans h
theorem new_two (w : World) (c1 c2 : Array Value) (t1 t2 : TypeId) (i : Nat) (v : Value) :
    (c1[i]? = some v → ((w.alloc (.cells c1 t1)).alloc (.cells c2 t2)).cell? ⟨w.heap.size, i, none⟩ = some v) ∧ (c2[i]? = some v → ((w.alloc (.cells c1 t1)).alloc (.cells c2 t2)).cell? ⟨w.heap.size + 1, i, none⟩ = some v) := by
  refine ⟨fun h => ?_, fun h => ?_⟩
  · have := new_cell w c1 t1 i v h
    rw [World.cell?_alloc_some _ _ _ (by rw [this]; rfl)]
    exact this
  · have := new_cell (w.alloc (.cells c1 t1)) c2 t2 i v h
    rwa [show (w.alloc (.cells c1 t1)).heap.size = w.heap.size + 1 from Array.size_push _] at this
theorem grown3 {w W : World} (h : ∃ os, W = grow w os) (o : Obj) : ∃ q os', (W.alloc o).drew = grow (w.drewN q) os' := by
  obtain ⟨os, rfl⟩ := h
  exact ⟨1, os ++ #[o], by rw [alloc_eq_grow, grow_grow]; rfl⟩
theorem cmpI_range (x y : Int) : -1 ≤ cmpI x y ∧ cmpI x y ≤ 1 := by unfold cmpI; split <;> (try split) <;> omega

set_option maxRecDepth 100000 in
set_option maxHeartbeats 4000000 in
theorem byBook_any (x y : Ord) (w : World) : Calls Tryz.prog 56 #[.agg x.cells.toArray, .agg y.cells.toArray] w fun e w' => e = .returned (.int .i64 (byB x y)) ∧ ∃ q os', w' = grow (w.drewN q) os' := by
  have hn : wrap64 (- cmpI x.price y.price) = - cmpI x.price y.price := by
    have := cmpI_range x.price y.price
    first | (show IntKind.i64.wrap _ = _; rw [IntKind.wrap_i64]; omega) | (unfold wrap64; omega)
  unfold Ord.cells
  go_enter Tryz.func56, Tryz.ntmps56
  go_wp2_with fail
  refine (compare_int _ _ _).mono ?_
  rintro e' w2 ⟨rfl, rfl⟩
  by_cases hs : x.side = 66
  · have hsb : ((x.side.toNat : Int) == 66) = true := by simp [hs]
    have HS := Hid.mk hs
    clear hs
    go_wp2_with fail
    generalize hW : (w.alloc _).alloc _ = W
    have c2 : W.cell? ⟨w.heap.size, 2, none⟩ = some (.int .u8 x.side.toNat) := by rw [← hW]; exact (new_two _ _ _ _ _ _ _).1 rfl
    have c3 : W.cell? ⟨w.heap.size, 3, none⟩ = some (.int .i64 x.stock) := by rw [← hW]; exact (new_two _ _ _ _ _ _ _).1 rfl
    have d2 : W.cell? ⟨w.heap.size + 1, 2, none⟩ = some (.int .u8 y.side.toNat) := by rw [← hW]; exact (new_two _ _ _ _ _ _ _).2 rfl
    have d3 : W.cell? ⟨w.heap.size + 1, 3, none⟩ = some (.int .i64 y.stock) := by rw [← hW]; exact (new_two _ _ _ _ _ _ _).2 rfl
    have HG : Hid (∃ os, W = grow w os) := Hid.mk ⟨_, by rw [← hW, alloc_eq_grow, alloc_eq_grow, grow_grow]⟩
    clear hW
    go_region_held3 (fun w' => w'.cell? ⟨w.heap.size, 2, none⟩ = some (.int .u8 x.side.toNat) ∧ w'.cell? ⟨w.heap.size, 3, none⟩ = some (.int .i64 x.stock) ∧ w'.cell? ⟨w.heap.size + 1, 2, none⟩ = some (.int .u8 y.side.toNat) ∧ w'.cell? ⟨w.heap.size + 1, 3, none⟩ = some (.int .i64 y.stock)) (first | go_keep)
      (first
        | (go_at_call 80; refine (compare_int _ _ _).mono ?_; rintro e1 w3 ⟨rfl, rfl⟩)
        | (go_at_call 82; refine (compare_byte _ _ _).mono ?_; rintro e2 w4 ⟨rfl, rfl⟩)
        | (go_at_call 81; refine (or_int W.heap.size _ _ _ _ (by exact new_cell W _ _ 0 _ rfl) (by exact new_cell W _ _ 1 _ rfl) (by exact new_cell W _ _ 2 _ rfl)).mono ?_; rintro e3 w5 ⟨rfl, rfl⟩))
    go_wp2
    go_ret
    refine ⟨?_, grown3 HG.out _⟩
    have hv : byB x y = or3 (cmpI x.stock y.stock) (cmpI x.side.toNat y.side.toNat) (- cmpI x.price y.price) := by
      unfold byB
      rw [if_pos HS.out]
    rw [hv]
    first | rfl | (rw [← hn]; rfl)
  · have hsb : ((x.side.toNat : Int) == 66) = false := by rw [beq_eq_false_iff_ne]; intro h; exact hs (UInt8.toNat_inj.1 (show x.side.toNat = 66 by omega))
    have HS := Hid.mk hs
    clear hs
    go_wp2_with fail
    generalize hW : (w.alloc _).alloc _ = W
    have c2 : W.cell? ⟨w.heap.size, 2, none⟩ = some (.int .u8 x.side.toNat) := by rw [← hW]; exact (new_two _ _ _ _ _ _ _).1 rfl
    have c3 : W.cell? ⟨w.heap.size, 3, none⟩ = some (.int .i64 x.stock) := by rw [← hW]; exact (new_two _ _ _ _ _ _ _).1 rfl
    have d2 : W.cell? ⟨w.heap.size + 1, 2, none⟩ = some (.int .u8 y.side.toNat) := by rw [← hW]; exact (new_two _ _ _ _ _ _ _).2 rfl
    have d3 : W.cell? ⟨w.heap.size + 1, 3, none⟩ = some (.int .i64 y.stock) := by rw [← hW]; exact (new_two _ _ _ _ _ _ _).2 rfl
    have HG : Hid (∃ os, W = grow w os) := Hid.mk ⟨_, by rw [← hW, alloc_eq_grow, alloc_eq_grow, grow_grow]⟩
    clear hW
    go_region_held3 (fun w' => w'.cell? ⟨w.heap.size, 2, none⟩ = some (.int .u8 x.side.toNat) ∧ w'.cell? ⟨w.heap.size, 3, none⟩ = some (.int .i64 x.stock) ∧ w'.cell? ⟨w.heap.size + 1, 2, none⟩ = some (.int .u8 y.side.toNat) ∧ w'.cell? ⟨w.heap.size + 1, 3, none⟩ = some (.int .i64 y.stock)) (first | go_keep)
      (first
        | (go_at_call 80; refine (compare_int _ _ _).mono ?_; rintro e1 w3 ⟨rfl, rfl⟩)
        | (go_at_call 82; refine (compare_byte _ _ _).mono ?_; rintro e2 w4 ⟨rfl, rfl⟩)
        | (go_at_call 81; refine (or_int W.heap.size _ _ _ _ (by exact new_cell W _ _ 0 _ rfl) (by exact new_cell W _ _ 1 _ rfl) (by exact new_cell W _ _ 2 _ rfl)).mono ?_; rintro e3 w5 ⟨rfl, rfl⟩))
    go_wp2
    go_ret
    refine ⟨?_, grown3 HG.out _⟩
    have hv : byB x y = or3 (cmpI x.stock y.stock) (cmpI x.side.toNat y.side.toNat) (cmpI x.price y.price) := by
      unfold byB
      rw [if_neg HS.out]
    rw [hv]
    first | rfl | (rw [← hn]; rfl)

theorem byBook_lays (g len : Nat) (w0 : World) : CmpLays Tryz.prog 56 #[] Ord.cells 6 byB g 0 len w0 := fun _ _ _ _ x y => byBook_any x y _

end Go.Proofs.YtphkchjejbffeaaGreat

/- The order of byBook is one. -/
namespace Go.Proofs.YtphkchjejbffeaaGreat
open Go.Shelf Go.RowKit Go.Lib Go.Sort

theorem byB_lt (x y : Ord) : ltc byB x y = true ↔ x.stock < y.stock ∨ (x.stock = y.stock ∧ (x.side.toNat < y.side.toNat ∨ (x.side.toNat = y.side.toNat ∧ ((x.side.toNat = 66 ∧ y.price < x.price) ∨ (x.side.toNat ≠ 66 ∧ x.price < y.price))))) := by
  have h66 : x.side = 66 ↔ x.side.toNat = 66 := ⟨fun h => by rw [h]; rfl, fun h => UInt8.toNat_inj.1 h⟩
  unfold ltc byB or3 cmpI
  simp only [decide_eq_true_eq]
  by_cases hs : x.side = 66
  · have h := h66.1 hs
    rw [if_pos hs]
    repeat' split
    all_goals omega
  · have h : ¬ x.side.toNat = 66 := fun h => hs (h66.2 h)
    rw [if_neg hs]
    repeat' split
    all_goals omega
theorem byB_swo : Swo (ltc byB) := by
  have e : ∀ x y, ltc byB x y = false ↔ ¬ ltc byB x y = true := fun x y => by cases ltc byB x y <;> simp
  refine ⟨fun x => ?_, fun x y z => ?_, fun x y z => ?_⟩
  · rw [e, byB_lt]; omega
  · rw [byB_lt, byB_lt, byB_lt]; omega
  · rw [byB_lt, byB_lt, byB_lt]; omega

end Go.Proofs.YtphkchjejbffeaaGreat

/- A list of orders, sorted as the book stands. -/
namespace Go.Proofs.YtphkchjejbffeaaGreat
open Go.Shelf Go.RowKit Go.Lib Go.Sort

theorem srtG : SrtG Tryz.prog where
  fm := Tryz.func103
  fr := Tryz.func139
  fs := Tryz.func159
  em := fun args w => by kernel_rfl
  er := fun args w => by kernel_rfl
  es := fun args w => by kernel_rfl
  fi := Tryz.func102
  ft := Tryz.func79
  fo := Tryz.func55
  ei := fun args w => by kernel_rfl
  et := fun args w => by kernel_rfl

/-- The list after the sort: sorted, and those that are alike in the same order. -/
theorem sortBook (w0 w : World) (g cap len : Nat) (d0 : Array Ord) (L : List Ord) (R : RowK Ord.cells 6 w0 g 0 d0) (hs : d0.size = len) (hL : L.length = len) (S : SWL Ord.cells 6 w0 g L w) (hsz : len < 1152921504606846976) :
    Calls Tryz.prog 55 #[.slice (some ⟨g, 0, none⟩) len cap, .func (.func 56) #[] #[]] w fun e w' => e = .returned (.tuple #[]) ∧ ∃ C, Srt (ltc byB) C ∧ Cls (ltc byB) L C ∧ C.length = len ∧ SWL Ord.cells 6 w0 g C w' :=
  sortStable_gen srtT srtG Ord.cells byB byB_swo 56 (fun args w => by kernel_rfl) w0 w g cap len d0 L (byBook_lays g len w0) R hs hL S hsz

end Go.Proofs.YtphkchjejbffeaaGreat

/- The sort of no orders. -/
namespace Go.Proofs.YtphkchjejbffeaaGreat
open Go.Shelf Go.RowKit Go.Lib Go.Sort
attribute [local go_sem ↓] Go.wp_at_zero Go.wp_at_succ

set_option maxRecDepth 100000 in
set_option maxHeartbeats 2000000 in
theorem insertion_none (f : Value) (w : World) : Calls Tryz.prog 102 #[.slice none 0 0, .int .i64 0, .int .i64 0, f] w fun e w' => e = .returned (.tuple #[]) ∧ w' = w := by
  go_enter Tryz.func102, Tryz.ntmps102
  go_wp2_with fail
  go_loopw [8] (fun vi wr => vi = .int .i64 1 ∧ wr = w) (fun _ _ => 0)
  case atStart => exact ⟨by first | rfl | go_num, rfl⟩
  case round =>
    obtain ⟨rfl, rfl⟩ := hrel
    go_wp2
    go_end0
    exact ⟨rfl, rfl⟩

set_option maxRecDepth 100000 in
set_option maxHeartbeats 2000000 in
theorem stable_none (f : Value) (w : World) : Calls Tryz.prog 79 #[.slice none 0 0, .int .i64 0, f] w fun e w' => e = .returned (.tuple #[]) ∧ w' = w := by
  go_enter Tryz.func79, Tryz.ntmps79
  go_wp2_with fail
  go_loopw [7, 8] (fun va vb wr => va = .int .i64 0 ∧ vb = .int .i64 20 ∧ wr = w) (fun _ _ _ => 0)
  case atStart => exact ⟨rfl, rfl, rfl⟩
  case round =>
    obtain ⟨rfl, rfl, rfl⟩ := hrel
    go_wp2_with fail
    refine (insertion_none _ _).mono ?_
    rintro e' w2 ⟨rfl, rfl⟩
    go_wp2_with fail
    go_loopw [6, 7, 8] (fun vk va vb wr => vk = .int .i64 20 ∧ va = .int .i64 0 ∧ vb = .int .i64 20 ∧ wr = w2) (fun _ _ _ _ => 0)
    case atStart => exact ⟨rfl, rfl, rfl, rfl⟩
    case round =>
      obtain ⟨rfl, rfl, rfl, rfl⟩ := hrel
      go_wp2
      go_end0
      exact ⟨rfl, rfl⟩

set_option maxRecDepth 100000 in
set_option maxHeartbeats 2000000 in
theorem sort_none (f : Value) (w : World) : Calls Tryz.prog 55 #[.slice none 0 0, f] w fun e w' => e = .returned (.tuple #[]) ∧ w' = w := by
  go_enter Tryz.func55, Tryz.ntmps55
  go_wp2_with fail
  refine (stable_none _ _).mono ?_
  rintro e' w2 ⟨rfl, rfl⟩
  go_wp2
  go_end0
  exact ⟨rfl, rfl⟩

end Go.Proofs.YtphkchjejbffeaaGreat
