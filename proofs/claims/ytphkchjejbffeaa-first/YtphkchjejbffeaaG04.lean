/- The law Uncrossed, out of what the calls do. -/
import Derived.Test.YtphkchjejbffeaaG03
namespace Go.Proofs.Ytphkchjejbffeaa
open Go.RowKit

theorem all3 (st : St) (h : st.stocks = 3) : st.all = st.book 0 ++ (st.book 1 ++ st.book 2) := by
  unfold St.all
  rw [h]
  simp [List.range_succ]

theorem Good.book {p n : Nat} {x : Run} (h : Good p n x) (s : Nat) (hs : s < 3) : BookOk s (x.st.book s) ∧ (x.st.book s).length ≤ 1000 := by
  refine ⟨⟨?_, ?_⟩, ?_⟩
  · intro i y hy
    have := book_each h.inv s y (List.mem_of_getElem? hy)
    rw [h.levels] at this
    exact this
  · intro i f q y hf hq hy
    exact book_pair h.inv s i f q y hf hq hy
  · have h1 := h.inv.room
    have h2 := h.inv.pool
    unfold St.resting at h1
    rw [all3 _ h.stocks] at h1
    simp only [List.length_append] at h1
    have : s = 0 ∨ s = 1 ∨ s = 2 := by omega
    rcases this with rfl | rfl | rfl <;> omega

theorem rests_good {At : World → Nat → (Nat → Prop) → St → Prop} (api : Api At) {hb b : Nat} {G : Nat → Prop} {vo vt : Value} {x : Run} {p n : Nat} (w : World)
    (hh : HouseOf At w hb b G vo vt x) (hg : Good p n x) :
    Calls Try.prog 19 #[.pointer (some ⟨hb, 0, none⟩)] w fun e w' => ∃ v, e = .returned (.tuple #[v, .bool true]) ∧
      w'.ownsRow w.heap.size 46 6 v x.st.resting (x.st.all.flatMap Ord.cells) ∧ Below w.heap.size w w' :=
  rests_any api hb b G vo vt x.st w hh.cell hh.at_ hg.stocks (fun s hs => (hg.book s hs).1) (fun s hs => (hg.book s hs).2)

theorem House.below {At : World → Nat → (Nat → Prop) → St → Prop} (api : Api At) {w w' : World} {hb b : Nat} {G : Nat → Prop} {vo vt : Value} {x : Run}
    (h : HouseOf At w hb b G vo vt x) (hB : Below w.heap.size w w') : HouseOf At w' hb b G vo vt x :=
  House.step h (api.below h.at_ hB) (Fr.of_below hB G) (fun _k hk => .inl hk)

set_option maxHeartbeats 1000000 in
theorem uncrossed_any {At : World → Nat → (Nat → Prop) → St → Prop} (api : Api At) (pool : Int) (v : Value) (l : List Act) (w : World) (h1 : -9223372036854775808 ≤ pool) (h2 : pool ≤ 9223372036854775807)
    (hl : ActsAt w v l) (hn : l.length ≤ 2600000000000) :
    Calls Try.prog 6 #[.int .i64 pool, v] w fun e w' => e = .returned (.bool true) ∧ Below w.heap.size w w' := by
  have HO := Hid.mk (open_any api pool w h1 h2)
  have hpk := pick_lt pool 64 (by omega)
  rcases hl with ⟨ra, rc, rfl, rfl⟩ | ⟨g, o, cap, rfl, hg, hlen, hcs⟩
  · go_enter Try.func6, Try.ntmps6
    go_wp2_with fail
    refine HO.out.mono ?_
    rintro e w1 ⟨hb, b, G, vo, vt, rfl, hh, hF, hB⟩
    have HN := Hid.mk hB
    clear hh hF hB
    go_wp2_with fail
    go_loopw [6, 7] (fun ok i wr => ok = .bool true ∧ i = .int .i64 0 ∧ wr = w1) (fun _ _ _ => 0)
    case atStart => exact ⟨rfl, rfl, rfl⟩
    case round =>
      obtain ⟨rfl, rfl, rfl⟩ := hrel
      go_wp2_with fail
      go_ret
      exact ⟨rfl, HN.out⟩
  · go_enter Try.func6, Try.ntmps6
    go_wp2_with fail
    refine HO.out.mono ?_
    rintro e w1 ⟨hb, b, G, vo, vt, rfl, hh, hF, hB⟩
    go_wp2_with fail
    go_loopw [6, 7] (fun ok i wr => ∃ (k : Nat) (G' : Nat → Prop) (vo' vt' : Value), k ≤ l.length ∧ ok = .bool true ∧ i = .int .i64 k ∧ HouseOf At wr hb b G' vo' vt' ((started pool).acts (l.take k)) ∧ (∀ j, HF hb G' vo' vt' j → w.heap.size ≤ j) ∧ Below w.heap.size w wr) (fun _ i _ => l.length - (intOf i).toNat)
    case atStart => exact ⟨0, G, vo, vt, Nat.zero_le _, rfl, rfl, hh, hF, hB⟩
    case round =>
      clear hh hF hB
      obtain ⟨k, G', vo', vt', hk, rfl, rfl, hh, hF, hB⟩ := hrel
      by_cases hlt : k < l.length
      · obtain ⟨a, hka⟩ : ∃ a, l[k]? = some a := ⟨_, List.getElem?_eq_getElem hlt⟩
        obtain ⟨hok, hca⟩ := hcs k a hka
        obtain ⟨d0, d1, d2, d3, d4, d5, d6⟩ := act_cells a (w := wr) (g := g) (o := o + k * 7) (fun j u hu => (hB.cell (p := ⟨g, o + k * 7 + j, none⟩) hg).trans (hca j u hu))
        have HS := Hid.mk ((started pool).acts_snoc l k a hka)
        have gd := Good.acts (l.take (k + 1)) (good_started pool)
        rw [HS.out] at gd
        have hls := gd.lens
        have hll : (l.take (k + 1)).length ≤ l.length := by simp; omega
        have hbig : big = 70368744177664 := rfl
        have HA := Hid.mk (act_any api hb b G' vo' vt' _ a wr hh hok (by rw [hbig]; omega) (by rw [hbig]; omega))
        have HN := Hid.mk (And.intro hh (And.intro hF hB))
        have HG := Hid.mk gd
        clear hh hF hB hcs hca hls hll hbig gd
        have i1 : (0 : Int) ≤ (k : Int) := by omega
        have i2 : (k : Int) < (l.length : Int) := by omega
        go_wp2_with fail
        refine HA.out.mono ?_
        rintro e w2 ⟨G2, vo2, vt2, rfl, hh2, hF2, hfr⟩
        obtain ⟨hh, hF, hB⟩ := HN.out
        have hF3 : ∀ j, HF hb G2 vo2 vt2 j → w.heap.size ≤ j := fun j hj => by
          rcases hF2 j hj with h | h
          · exact hF j h
          · have := hB.size; omega
        have hB3 : Below w.heap.size w w2 := hB.trans (hfr.below hB.size hF)
        have HP := Hid.mk (And.intro hh2 (And.intro hF3 hB3))
        clear hh2 hF2 hfr hh hF hB hF3 hB3
        go_wp2_with fail
        refine (rests_good api w2 HP.out.1 HG.out).mono ?_
        rintro e w3 ⟨vr, rfl, hown, hb3⟩
        obtain ⟨ra, capr, rfl, -, -⟩ := ownsRow_len hown
        have hh3 := House.below api HP.out.1 hb3
        obtain ⟨c0, -⟩ := cells3 hh3.cell
        have HQ := Hid.mk (And.intro hh3 hb3)
        clear hown hh3 hb3
        go_wp2_with fail
        refine (api.look b G2 _ w3 HQ.out.1.at_).mono ?_
        rintro e w4 ⟨rfl, hb4⟩
        rw [viewOf]
        have hrm : (((started pool).acts (l.take k)).act a).st.resting ≤ 1 + pick pool 64 := by
          have h3 := HG.out.inv.room
          rw [HG.out.pool] at h3
          exact h3
        have HR := Hid.mk (And.intro HQ.out.2 hb4)
        have HPP := Hid.mk (And.intro (HS.out ▸ (House.below api HQ.out.1 hb4)) HP.out.2)
        clear hb4 HQ HG HS HP
        generalize (((started pool).acts (l.take k)).act a).st.resting = r at *
        generalize (((started pool).acts (l.take k)).act a).st.time = tm at *
        generalize (((started pool).acts (l.take k)).act a).st.opn = on at *
        generalize (((started pool).acts (l.take k)).act a).st.part.length = pl at *
        have hr1 : (r : Int) ≤ 1 + (pick pool 64 : Nat) := by omega
        go_wp2_with (go_at_call 11; refine (pick_any _ _ _ h1 h2 (by decide) (by decide)).mono ?_; rintro e w' ⟨rfl, rfl⟩)
        obtain ⟨hh5, hF5, hB5⟩ := HPP.out
        obtain ⟨hb3, hb4⟩ := HR.out
        refine ⟨⟨k + 1, G2, vo2, vt2, by omega, rfl, by go_num, House.below api hh5 (Below.alloc (Below.refl _ _) (Nat.le_refl _) _), hF5, ?_⟩, by simp [intOf]; omega⟩
        have s3 := hb3.size
        have s4 := hb4.size
        have s5 := hB5.size
        exact ((hB5.trans (hb3.mono (by omega))).trans (hb4.mono (by omega))).alloc (by omega) _
      · have HN := Hid.mk hB
        clear hh hF hB hcs
        go_wp2_with fail
        go_ret
        exact ⟨rfl, HN.out⟩

end Go.Proofs.Ytphkchjejbffeaa

/- The law Shut, out of what the calls do. -/
namespace Go.Proofs.Ytphkchjejbffeaa
open Go.RowKit
attribute [local go_sem ↓] Go.wp_at_zero Go.wp_at_succ

theorem feed_closed (l : List UInt8) : ∀ st : St, st.opn = false → st.feed l = st := by
  induction l with
  | nil => intro st _; rfl
  | cons c l ih =>
    intro st h
    have : st.step c = st := by
      unfold St.step
      rw [if_neg (by rw [h]; decide)]
    show (st.step c).feed l = st
    rw [this]
    exact ih st h

/-- Closed. -/
def St.shutAt (st : St) : St := st.shut.told
theorem feed_letter (st : St) (c : UInt8) (ho : st.opn = true) (hp : st.part = []) (h1 : c ≠ 69) (h2 : c ≠ 82) (h3 : c ≠ 67) : st.feed [c] = st.shut := by
  have hs : sizeOf c = 1 := by unfold sizeOf; rw [if_neg h1, if_neg h2, if_neg h3]
  rw [feed_whole [c] st ho hp (by show 1 = sizeOf c; rw [hs]) (by simp)]
  unfold St.act
  have e : byteAt [c] 0 = c := rfl
  rw [e, if_neg h1, if_neg h2, if_neg h3]

theorem shut_ans (st : St) (h : st.ans = []) : st.shut.ans = 90 :: enc st.time 6 := by
  show st.ans ++ (90 :: enc st.time 6) = _
  rw [h]; rfl

theorem view_shut (st : St) (hp : st.part = []) : viewOf st.shut.told.told.taped = .agg #[.int .i64 st.time, .int .i64 st.resting, .bool false, .int .i64 0] := by
  show Value.agg #[.int .i64 st.time, .int .i64 st.resting, .bool false, .int .i64 st.part.length] = _
  rw [hp]; rfl

theorem rests_inv {At : World → Nat → (Nat → Prop) → St → Prop} (api : Api At) {hb b : Nat} {G : Nat → Prop} {vo vt : Value} {st : St} {out tape : List UInt8} (w : World)
    (hh : House At w hb b G vo vt st out tape) (hi : Inv st) (hs : st.stocks = 3) (hl : st.levels = 10) :
    Calls Try.prog 19 #[.pointer (some ⟨hb, 0, none⟩)] w fun e w' => ∃ v, e = .returned (.tuple #[v, .bool true]) ∧
      w'.ownsRow w.heap.size 46 6 v st.resting (st.all.flatMap Ord.cells) ∧ Below w.heap.size w w' := by
  have hbook : ∀ s, s < 3 → BookOk s (st.book s) ∧ (st.book s).length ≤ 1000 := by
    intro s hs'
    refine ⟨⟨?_, ?_⟩, ?_⟩
    · intro i y hy
      have := book_each hi s y (List.mem_of_getElem? hy)
      rw [hl] at this
      exact this
    · intro i f q y hf hq hy
      exact book_pair hi s i f q y hf hq hy
    · have h1 := hi.room
      have h2 := hi.pool
      unfold St.resting at h1
      rw [all3 _ hs] at h1
      simp only [List.length_append] at h1
      have : s = 0 ∨ s = 1 ∨ s = 2 := by omega
      rcases this with rfl | rfl | rfl <;> omega
  exact rests_any api hb b G vo vt st w hh.cell hh.at_ hs (fun s hs => (hbook s hs).1) (fun s hs => (hbook s hs).2)

theorem House.below' {At : World → Nat → (Nat → Prop) → St → Prop} (api : Api At) {w w' : World} {hb b : Nat} {G : Nat → Prop} {vo vt : Value} {st : St} {out tape : List UInt8}
    (h : House At w hb b G vo vt st out tape) (hB : Below w.heap.size w w') : House At w' hb b G vo vt st out tape :=
  h.step (api.below h.at_ hB) (Fr.of_below hB G) (fun _ hk => .inl hk)

/-- Acts in memory, in one form. -/
theorem ActsAt.form {w : World} {v : Value} {l : List Act} (h : ActsAt w v l) : ∃ ra rc, v = .slice ra l.length rc ∧ l.length ≤ 9223372036854775807 ∧
    ∀ (i : Nat) (a : Act), l[i]? = some a → a.ok ∧ ∃ g o, ra = some ⟨g, o, none⟩ ∧ g < w.heap.size ∧ ∀ (j : Nat) (u : Value), a.cells[j]? = some u → w.cell? ⟨g, o + i * 7 + j, none⟩ = some u := by
  rcases h with ⟨ra, rc, rfl, rfl⟩ | ⟨g, o, cap, rfl, h1, h2, h3⟩
  · exact ⟨ra, rc, rfl, by simp, fun i a h => by simp at h⟩
  · exact ⟨_, cap, rfl, h2, fun i a hi => ⟨(h3 i a hi).1, g, o, rfl, h1, (h3 i a hi).2⟩⟩

set_option maxRecDepth 100000 in
set_option maxHeartbeats 4000000 in
theorem shut_any {At : World → Nat → (Nat → Prop) → St → Prop} (api : Api At) (pool : Int) (v : Value) (l : List Act) (letter c : UInt8) (vm : Value) (more : List Act) (w : World) (h1 : -9223372036854775808 ≤ pool) (h2 : pool ≤ 9223372036854775807)
    (hl : ActsAt w v l) (hn : l.length ≤ 2600000000000) (hm : ActsAt w vm more)
    (hsel : (letter = 69 ∧ c = 101) ∨ (letter = 82 ∧ c = 101) ∨ (letter = 67 ∧ c = 101) ∨ ((letter ≠ 69 ∧ letter ≠ 82 ∧ letter ≠ 67) ∧ c = letter)) :
    Calls Try.prog 5 #[.int .i64 pool, v, .int .u8 letter.toNat, vm] w fun e w' => e = .returned (.bool true) ∧ Below w.heap.size w w' := by
  have gd := Good.acts l (good_started pool)
  rw [Nat.zero_add] at gd
  have hls := gd.lens
  have hbig : big = 70368744177664 := rfl
  have HA := Hid.mk (acts_any api pool v l w h1 h2 hl (by rw [hbig]; omega) (by rw [hbig]; omega))
  have hc : c ≠ 69 ∧ c ≠ 82 ∧ c ≠ 67 := by
    rcases hsel with ⟨-, rfl⟩ | ⟨-, rfl⟩ | ⟨-, rfl⟩ | ⟨h, rfl⟩
    · decide
    · decide
    · decide
    · exact h
  have HC := Hid.mk hc
  have HG := Hid.mk gd
  have HM := Hid.mk hm
  clear hl hn hls hbig gd hc hm
  generalize hX : (started pool).acts l = x at *
  have HX := Hid.mk hX
  clear hX
  have hbit : ∀ u : UInt8, letter ≠ u → (((letter.toNat : Int)) == (u.toNat : Int)) = false := by
    intro u hu
    rw [beq_eq_false_iff_ne]
    intro e
    exact hu (UInt8.toNat_inj.1 (by omega))
  have hsel' : (letter = 69 ∧ c = 101) ∨ (letter = 82 ∧ c = 101) ∨ (letter = 67 ∧ c = 101) ∨ ((((letter.toNat : Int)) == 69) = false ∧ (((letter.toNat : Int)) == 82) = false ∧ (((letter.toNat : Int)) == 67) = false ∧ c = letter) := by
    rcases hsel with h | h | h | ⟨h, h'⟩
    · exact .inl h
    · exact .inr (.inl h)
    · exact .inr (.inr (.inl h))
    · exact .inr (.inr (.inr ⟨hbit 69 h.1, hbit 82 h.2.1, hbit 67 h.2.2, h'⟩))
  clear hsel hbit
  have hcv : ∃ cv : Int, cv = (c.toNat : Int) ∧ ((letter = 69 ∧ cv = 101) ∨ (letter = 82 ∧ cv = 101) ∨ (letter = 67 ∧ cv = 101) ∨ ((((letter.toNat : Int)) == 69) = false ∧ (((letter.toNat : Int)) == 82) = false ∧ (((letter.toNat : Int)) == 67) = false ∧ cv = letter.toNat)) := by
    refine ⟨_, rfl, ?_⟩
    rcases hsel' with ⟨h, rfl⟩ | ⟨h, rfl⟩ | ⟨h, rfl⟩ | ⟨n1, n2, n3, rfl⟩
    · exact .inl ⟨h, rfl⟩
    · exact .inr (.inl ⟨h, rfl⟩)
    · exact .inr (.inr (.inl ⟨h, rfl⟩))
    · exact .inr (.inr (.inr ⟨n1, n2, n3, rfl⟩))
  obtain ⟨cv, hcv, hsel2⟩ := hcv
  have HCV := Hid.mk hcv
  clear hcv hsel'
  rcases hsel2 with ⟨rfl, rfl⟩ | ⟨rfl, rfl⟩ | ⟨rfl, rfl⟩ | ⟨n1, n2, n3, rfl⟩
  all_goals
    go_enter Try.func5, Try.ntmps5
    go_wp2_with fail
    refine HA.out.mono ?_
    rintro e w1 ⟨hb, b, G, vo, vt, rfl, hh, hF, hB⟩
    have HN := Hid.mk (And.intro hh (And.intro hF hB))
    clear hh hF hB
    go_wp2_with fail
    refine (rests_good api w1 HN.out.1 HG.out).mono ?_
    rintro e w2 ⟨vw, rfl, how, hb2⟩
    obtain ⟨rw_, cw, rfl, -, -⟩ := ownsRow_len how
    have hh2 := House.below api HN.out.1 hb2
    obtain ⟨d0, -⟩ := cells3 hh2.cell
    have HW := Hid.mk (And.intro how hb2)
    have HH2 := Hid.mk hh2
    clear how hb2 hh2
    have hbl : hb < w2.heap.size := (Array.getElem?_eq_some_iff.1 HH2.out.cell).1
    have hfl : x.st.feed [c] = x.st.shut := feed_letter x.st c HG.out.opn HG.out.part HC.out.1 HC.out.2.1 HC.out.2.2
    have hsa : x.st.shut.ans = 90 :: enc x.st.time 6 := shut_ans x.st HG.out.ans
    have hst : x.st.shut.tape = [] := HG.out.tape
    go_wp2_with fail
    have hbA := fun o : Obj => Below.alloc (Below.refl w2.heap.size w2) (Nat.le_refl _) o
    have hh2' := fun o : Obj => House.below' api HH2.out (hbA o)
    have hGl := api.lt HH2.out.at_
    refine (api.feed b G x.st _ [c] _ (hh2' _).at_ (rd_one w2 c _ HCV.out G (fun h => by have := hGl _ h; omega)) (by rw [hfl, hsa]; simp [enc_length, big]) (by rw [hfl, hst]; simp [big])).mono ?_
    rintro e w3 ⟨G3, rfl, hat3, hG3, hfr3⟩
    rw [hfl] at hat3
    have hh3 := (hh2' _).step hat3 hfr3 hG3
    obtain ⟨d1, -⟩ := cells3 hh3.cell
    have HS3 := Hid.mk (And.intro hh3 (And.intro hG3 (And.intro hfr3 hbA)))
    have HSA := Hid.mk (And.intro hsa hst)
    clear hh2' hGl hat3 hG3 hfr3 hh3 d0 hfl hsa hst hbA
    go_wp2_with fail
    refine (api.answers b G3 _ w3 HS3.out.1.at_).mono ?_
    rintro e w4 ⟨va, G4, rfl, hoa, hat4, hG4, hva, hfr4⟩
    have hh4 := HS3.out.1.step hat4 hfr4 hG4
    obtain ⟨d2, -⟩ := cells3 hh4.cell
    obtain ⟨ra, ca, rfl, -, -⟩ := hoa.len
    have HS4 := Hid.mk (And.intro hh4 (And.intro hG4 (And.intro hfr4 (And.intro hoa hva))))
    clear hat4 hG4 hfr4 hh4 hoa hva d1
    rw [show x.st.shut.ans.length = 7 from by rw [HSA.out.1]; simp [enc_length]]
    obtain ⟨rm, cm, rfl, hml, hmc⟩ := HM.out.form
    have HMC := Hid.mk hmc
    have hGw : ∀ k, G4 k → w.heap.size ≤ k := by
      intro k hk
      obtain ⟨-, hF, hB⟩ := HN.out
      obtain ⟨-, hb2⟩ := HW.out
      obtain ⟨-, hG3, hfr3, hbA⟩ := HS3.out
      have y1 := hB.size
      have y2 := hb2.size
      have y3 := hfr3.size
      rw [size_alloc] at y3 hG3
      rcases HS4.out.2.1 k hk with h | h
      · rcases hG3 k h with h | h
        · exact hF k (.inr (.inl h))
        · omega
      · omega
    have hBw4 : Below w.heap.size w w4 := by
      obtain ⟨-, hF, hB⟩ := HN.out
      obtain ⟨-, hb2⟩ := HW.out
      obtain ⟨-, hG3, hfr3, hbA⟩ := HS3.out
      obtain ⟨-, hG4, hfr4, -⟩ := HS4.out
      have y1 := hB.size
      have y2 := hb2.size
      have y3 := hfr3.size
      rw [size_alloc] at y3 hG3
      have a1 : Below w.heap.size w w2 := hB.trans (hb2.mono y1)
      have a3 : Below w.heap.size w w3 := Below.trans (a1.trans ((hbA _).mono (by omega))) (hfr3.below (by rw [size_alloc]; omega) (fun k h => hF k (.inr (.inl h))))
      refine a3.trans (hfr4.below (by omega) (fun k h => ?_))
      rcases hG3 k h with h | h
      · exact hF k (.inr (.inl h))
      · omega
    have HGW := Hid.mk (And.intro hGw hBw4)
    clear hmc hGw hBw4 HM HX d2
    go_wp2_with fail
    go_loopw [14] (fun i wr => ∃ (j : Nat) (G' : Nat → Prop), j ≤ more.length ∧ i = .int .i64 j ∧ House At wr hb b G' vo vt x.st.shut.told x.out x.tape ∧ (∀ k, G' k → G4 k ∨ w4.heap.size ≤ k) ∧ Fr G4 w4 wr) (fun i _ => more.length - (intOf i).toNat)
    case atStart => exact ⟨0, G4, Nat.zero_le _, rfl, HS4.out.1, fun k h => .inl h, Fr.refl _ _⟩
    case round =>
      obtain ⟨j, G', hj, rfl, hh, hG', hfr⟩ := hrel
      by_cases hlt : j < more.length
      · obtain ⟨a, hka⟩ : ∃ a, more[j]? = some a := ⟨_, List.getElem?_eq_getElem hlt⟩
        obtain ⟨hok, g, o, rfl, hg, hcs⟩ := HMC.out j a hka
        have hBr : Below w.heap.size w wr := HGW.out.2.trans (hfr.below HGW.out.2.size HGW.out.1)
        obtain ⟨d0, d1, d2, d3, d4, d5, d6⟩ := act_cells a (w := wr) (g := g) (o := o + j * 7) (fun t u hu => (hBr.cell (p := ⟨g, o + j * 7 + t, none⟩) hg).trans (hcs t u hu))
        obtain ⟨dh, -⟩ := cells3 hh.cell
        have hbr : hb < wr.heap.size := (Array.getElem?_eq_some_iff.1 hh.cell).1
        have hgr : g < wr.heap.size := Nat.lt_of_lt_of_le hg hBr.size
        have i1 : (0 : Int) ≤ (j : Int) := by omega
        have i2 : (j : Int) < (more.length : Int) := by omega
        have hcl : x.st.shut.told.feed a.message = x.st.shut.told := feed_closed _ _ rfl
        have hmsg := fun w => message_any a w hok
        generalize a.message = M at *
        obtain ⟨kind, token, other, side, stock, price, shares⟩ := a
        simp only [Act.cells] at *
        have HMsg := Hid.mk hmsg
        have nG : ¬ G' g := fun h => by
          rcases hG' g h with h | h
          · have := HGW.out.1 g h; omega
          · have := HGW.out.2.size; omega
        have nH := hh.hG
        have hat := api.keep (w' := wr.drew) hh.at_ (fun k hk => rfl)
        have ltG := api.lt hh.at_
        have HL := Hid.mk (And.intro hh (And.intro hG' (And.intro hfr hcl)))
        clear hmsg hh hG' hfr hcl hBr hcs hka
        go_wp2_with fail
        go_region_held3 (fun w' => w'.cell? ⟨hb, 0, none⟩ = some (.pointer (some ⟨b, 0, none⟩)) ∧ w'.cell? ⟨g, o + j * 7, none⟩ = some (.int .i64 kind) ∧ w'.cell? ⟨g, o + j * 7 + 1, none⟩ = some (.int .i64 token) ∧ w'.cell? ⟨g, o + j * 7 + 2, none⟩ = some (.int .i64 other) ∧ w'.cell? ⟨g, o + j * 7 + 3, none⟩ = some (.int .i64 side) ∧ w'.cell? ⟨g, o + j * 7 + 4, none⟩ = some (.int .i64 stock) ∧ w'.cell? ⟨g, o + j * 7 + 5, none⟩ = some (.int .i64 price) ∧ w'.cell? ⟨g, o + j * 7 + 6, none⟩ = some (.int .i64 shares))
          (first | exact m1 | exact p1 | go_keep)
          (first
            | (go_at_call 21; refine (HMsg.out _).mono ?_; rintro e w5 ⟨v5, rfl, hov, hb5⟩; have p1 : w5.cell? ⟨hb, 0, none⟩ = some (.pointer (some ⟨b, 0, none⟩)) ∧ w5.cell? ⟨g, o + j * 7, none⟩ = some (.int .i64 kind) ∧ w5.cell? ⟨g, o + j * 7 + 1, none⟩ = some (.int .i64 token) ∧ w5.cell? ⟨g, o + j * 7 + 2, none⟩ = some (.int .i64 other) ∧ w5.cell? ⟨g, o + j * 7 + 3, none⟩ = some (.int .i64 side) ∧ w5.cell? ⟨g, o + j * 7 + 4, none⟩ = some (.int .i64 stock) ∧ w5.cell? ⟨g, o + j * 7 + 5, none⟩ = some (.int .i64 price) ∧ w5.cell? ⟨g, o + j * 7 + 6, none⟩ = some (.int .i64 shares) := ⟨(hb5.cell (p := ⟨hb, 0, none⟩) hbr).trans dh, (hb5.cell (p := ⟨g, o + j * 7, none⟩) hgr).trans d0, (hb5.cell (p := ⟨g, o + j * 7 + 1, none⟩) hgr).trans d1, (hb5.cell (p := ⟨g, o + j * 7 + 2, none⟩) hgr).trans d2, (hb5.cell (p := ⟨g, o + j * 7 + 3, none⟩) hgr).trans d3, (hb5.cell (p := ⟨g, o + j * 7 + 4, none⟩) hgr).trans d4, (hb5.cell (p := ⟨g, o + j * 7 + 5, none⟩) hgr).trans d5, (hb5.cell (p := ⟨g, o + j * 7 + 6, none⟩) hgr).trans d6⟩; have hat5 := api.below hat hb5)
            | (go_at_call 12; refine (api.feed b G' _ v5 M _ hat5 (hov.rd (fun g hg h => by have := ltG _ h; have := (hov.lt g hg).1; change wr.heap.size ≤ g at this; omega)) (by rw [HL.out.2.2.2]; exact Nat.zero_le _) (by rw [HL.out.2.2.2]; show x.st.shut.tape.length ≤ big; rw [HSA.out.2]; exact Nat.zero_le _)).mono ?_; rintro e w6 ⟨G6, rfl, hat6, hG6, hfr6⟩; have m1 : w6.cell? ⟨hb, 0, none⟩ = some (.pointer (some ⟨b, 0, none⟩)) ∧ w6.cell? ⟨g, o + j * 7, none⟩ = some (.int .i64 kind) ∧ w6.cell? ⟨g, o + j * 7 + 1, none⟩ = some (.int .i64 token) ∧ w6.cell? ⟨g, o + j * 7 + 2, none⟩ = some (.int .i64 other) ∧ w6.cell? ⟨g, o + j * 7 + 3, none⟩ = some (.int .i64 side) ∧ w6.cell? ⟨g, o + j * 7 + 4, none⟩ = some (.int .i64 stock) ∧ w6.cell? ⟨g, o + j * 7 + 5, none⟩ = some (.int .i64 price) ∧ w6.cell? ⟨g, o + j * 7 + 6, none⟩ = some (.int .i64 shares) := ⟨hfr6.cell p1.1 nH, hfr6.cell p1.2.1 nG, hfr6.cell p1.2.2.1 nG, hfr6.cell p1.2.2.2.1 nG, hfr6.cell p1.2.2.2.2.1 nG, hfr6.cell p1.2.2.2.2.2.1 nG, hfr6.cell p1.2.2.2.2.2.2.1 nG, hfr6.cell p1.2.2.2.2.2.2.2 nG⟩))
        obtain ⟨hh, hG', hfr, hcl⟩ := HL.out
        rw [hcl] at hat6
        have hF6 : Fr G' wr w6 := ((Fr.drew G' wr).then (Fr.of_below hb5 G')).then hfr6
        have z5 : wr.heap.size ≤ w5.heap.size := hb5.size
        have z4 := hfr.size
        have hh6 := hh.step hat6 hF6 (fun k hk => by
          rcases hG6 k hk with h | h
          · exact .inl h
          · right; omega)
        have hG7 : ∀ k, G6 k → G4 k ∨ w4.heap.size ≤ k := fun k hk => by
          rcases hG6 k hk with h | h
          · exact hG' k h
          · right; omega
        have hF7 : Fr G4 w4 w6 := hfr.trans hF6 (fun k hk h => by
          rcases hG' k h with h | h
          · exact h
          · omega)
        have HP := Hid.mk (And.intro hh6 (And.intro hG7 hF7))
        clear hh hG' hfr hcl hat6 hF6 z5 z4 hh6 hG7 hF7 hG6 hfr6 hat5 hb5 hov hat ltG nG nH HL HMsg d0 d1 d2 d3 d4 d5 d6 dh p1 m1
        go_wp2_with fail
        exact ⟨⟨j + 1, G6, by omega, by go_num, HP.out.1, HP.out.2.1, HP.out.2.2⟩, by simp [intOf]; omega⟩
      · obtain ⟨dh, -⟩ := cells3 hh.cell
        have HL := Hid.mk (And.intro hh (And.intro hG' hfr))
        clear hh hG' hfr
        go_wp2_with fail
        refine (api.answers b G' _ wr HL.out.1.at_).mono ?_
        rintro e w5 ⟨v5, G5, rfl, ho5, hat5, hG5, hv5, hfr5⟩
        have hh5 := HL.out.1.step hat5 hfr5 hG5
        obtain ⟨d5, -⟩ := cells3 hh5.cell
        obtain ⟨r5, c5, rfl, -, -⟩ := ho5.len
        rw [show x.st.shut.told.ans.length = 0 from rfl]
        have HL5 := Hid.mk (And.intro hh5 (And.intro hG5 hfr5))
        clear ho5 hat5 hG5 hv5 hfr5 hh5 dh
        go_wp2_with fail
        refine (api.tape b G5 _ w5 HL5.out.1.at_).mono ?_
        rintro e w6 ⟨v6, G6, rfl, ho6, hat6, hG6, hv6, hfr6⟩
        have hh6 := HL5.out.1.step hat6 hfr6 hG6
        obtain ⟨r6, c6, rfl, -, -⟩ := ho6.len
        rw [show x.st.shut.told.told.tape.length = 0 from by show x.st.shut.tape.length = 0; rw [HSA.out.2]; rfl]
        have HL6 := Hid.mk (And.intro hh6 (And.intro hG6 hfr6))
        clear ho6 hat6 hG6 hv6 hfr6 hh6 d5
        go_wp2_with fail
        have hinv : Inv x.st.shut.told.told.taped := (((HG.out.inv.of_q (st' := x.st.shut) rfl rfl rfl rfl (fun _ h => h) HG.out.inv.refs HG.out.inv.mats HG.out.inv.time).told).told).taped
        refine (rests_inv api w6 HL6.out.1 hinv HG.out.stocks HG.out.levels).mono ?_
        rintro e w7 ⟨v7, rfl, ho7, hb7⟩
        obtain ⟨r7, c7, rfl, -, -⟩ := ownsRow_len ho7
        rw [show x.st.shut.told.told.taped.resting = x.st.all.length from rfl]
        have hh7 := House.below' api HL6.out.1 hb7
        obtain ⟨d7, -⟩ := cells3 hh7.cell
        have HL7 := Hid.mk (And.intro hh7 (And.intro ho7 hb7))
        clear ho7 hb7 hh7 hinv
        go_wp2_with fail
        refine (api.look b G6 _ w7 HL7.out.1.at_).mono ?_
        rintro e w8 ⟨rfl, hb8⟩
        rw [view_shut x.st HG.out.part]
        have htm : x.st.time < 281474976710656 := HG.out.inv.time
        have HNum : Hid (num (enc x.st.time 6) 0 = x.st.time) := by
          show _ = _
          rw [num_enc]; exact Nat.mod_eq_of_lt htm
        have keep : ∀ k, k < w4.heap.size → ¬ G4 k → w8.heap[k]? = w4.heap[k]? := by
          intro k hk hn
          obtain ⟨-, hG', hfr⟩ := HL.out
          obtain ⟨-, hG5, hfr5⟩ := HL5.out
          obtain ⟨-, hG6, hfr6⟩ := HL6.out
          obtain ⟨-, -, hb7⟩ := HL7.out
          have y1 := hfr.size
          have y2 := hfr5.size
          have y3 := hfr6.size
          have y4 := hb7.size
          have n1 : ¬ G' k := fun h => by
            rcases hG' k h with h | h
            · exact hn h
            · omega
          have n2 : ¬ G5 k := fun h => by
            rcases hG5 k h with h | h
            · exact n1 h
            · omega
          rw [hb8.block k (by omega), hb7.block k (by omega), hfr6.block k (by omega) n2, hfr5.block k (by omega) n1, hfr.block k hk hn]
        have hsz8 : w4.heap.size ≤ w8.heap.size := by
          obtain ⟨-, -, hfr⟩ := HL.out
          obtain ⟨-, -, hfr5⟩ := HL5.out
          obtain ⟨-, -, hfr6⟩ := HL6.out
          obtain ⟨-, -, hb7⟩ := HL7.out
          have y1 := hfr.size
          have y2 := hfr5.size
          have y3 := hfr6.size
          have y4 := hb7.size
          have y5 := hb8.size
          omega
        obtain ⟨ga, hra, hgal, hAl⟩ : ∃ ga, ra = some ⟨ga, 0, none⟩ ∧ ga < w8.heap.size ∧ Lies w8 ga 0 (90 :: enc x.st.time 6) := by
          obtain ⟨-, -, -, hoa, hva⟩ := HS4.out
          have hoa8 : Own w8 0 (.slice ra x.st.shut.ans.length ca) x.st.shut.ans := hoa.keep (fun g hg => keep g (hoa.lt g hg).2 (hva g hg).2)
          rcases hoa8.rd (F := fun _ => False) (fun _ _ h => h) with ⟨-, h⟩ | ⟨g, o, cap, h, hl, -, -, -, hgl⟩
          · rw [HSA.out.1] at h; cases h
          · rcases hoa8.2 with ⟨-, h'⟩ | ⟨g', cap', cur', h', -⟩
            · rw [HSA.out.1] at h'; simp at h'
            · simp only [Value.slice.injEq] at h h'
              rw [h'.1] at h
              simp only [Option.some.injEq, Addr.mk.injEq] at h
              obtain ⟨⟨rfl, rfl, -⟩, -⟩ := h
              rw [HSA.out.1] at hl
              exact ⟨_, h'.1, hgl, hl⟩
        subst hra
        have hca : 7 ≤ ca := by
          obtain ⟨-, -, -, hoa, -⟩ := HS4.out
          rcases hoa.2 with ⟨h', -⟩ | ⟨g', cap', cur', h', -, -, hle, -⟩
          · simp at h'
          · simp only [Value.slice.injEq] at h'
            rw [← h'.2.2, HSA.out.1] at hle
            simpa [enc_length] using hle
        have hwas : w8.ownsRow 0 46 6 (.slice rw_ x.st.resting cw) x.st.resting (x.st.all.flatMap Ord.cells) := by
          obtain ⟨how, hb2⟩ := HW.out
          obtain ⟨-, hG3, hfr3, -⟩ := HS3.out
          obtain ⟨-, hG4, hfr4, -⟩ := HS4.out
          obtain ⟨hh1, -, -⟩ := HN.out
          rw [size_alloc] at hG3
          have y3 := hfr3.size
          rw [size_alloc] at y3
          have y4 := hfr4.size
          refine ownsRow_base (ownsRow_keep how (fun g hg => ?_)) (Nat.zero_le _)
          obtain ⟨hg1, hg2⟩ := how.lt g hg
          have n0 : ¬ G g := fun h => by have := api.lt hh1.at_ g h; omega
          have n3 : ¬ G3 g := fun h => by
            rcases hG3 g h with h | h
            · exact n0 h
            · omega
          have n4 : ¬ G4 g := fun h => by
            rcases hG4 g h with h | h
            · exact n3 h
            · omega
          rw [keep g (by omega) n4, hfr4.block g (by omega) n3, hfr3.block g (by rw [size_alloc]; omega) n0, heap_alloc, if_neg (by omega)]
        have his : w8.ownsRow 0 46 6 (.slice r7 x.st.resting c7) x.st.resting (x.st.all.flatMap Ord.cells) := by
          obtain ⟨-, ho7, hb7⟩ := HL7.out
          exact ownsRow_base (ownsRow_keep ho7 (fun g hg => hb8.block g (ho7.lt g hg).2)) (Nat.zero_le _)
        have hBw : Below w.heap.size w w8 := by
          obtain ⟨hGw, hBw4⟩ := HGW.out
          obtain ⟨-, hG', hfr⟩ := HL.out
          obtain ⟨-, hG5, hfr5⟩ := HL5.out
          obtain ⟨-, hG6, hfr6⟩ := HL6.out
          obtain ⟨-, -, hb7⟩ := HL7.out
          have y0 := hBw4.size
          have y1 := hfr.size
          have y2 := hfr5.size
          have y3 := hfr6.size
          have y4 := hb7.size
          have g1 : ∀ k, G' k → w.heap.size ≤ k := fun k h => by
            rcases hG' k h with h | h
            · exact hGw k h
            · omega
          have g2 : ∀ k, G5 k → w.heap.size ≤ k := fun k h => by
            rcases hG5 k h with h | h
            · exact g1 k h
            · omega
          exact ((((hBw4.trans (hfr.below y0 hGw)).trans (hfr5.below (by omega) g1)).trans (hfr6.below (by omega) g2)).trans (hb7.mono (by omega))).trans (hb8.mono (by omega))
        have HF8 := Hid.mk (And.intro hwas (And.intro his hBw))
        have a0 : w8.cell? ⟨ga, 0, none⟩ = some (.int .u8 90) := hAl 0 90 rfl
        have HAl := Hid.mk hAl
        clear keep hsz8 hAl hwas his hBw hb8 d7 htm
        generalize x.st.time = tm at *
        have hLl : x.st.all.length ≤ 64 := by
          have q1 := HG.out.inv.room
          have q2 := HG.out.inv.pool
          unfold St.resting at q1
          omega
        rw [show x.st.resting = x.st.all.length from rfl] at *
        have HF9 : Hid (w8.ownsRow 0 46 6 (.slice rw_ x.st.all.length cw) x.st.all.length (x.st.all.flatMap Ord.cells) ∧ w8.ownsRow 0 46 6 (.slice r7 x.st.all.length c7) x.st.all.length (x.st.all.flatMap Ord.cells) ∧ Below w.heap.size w w8) := HF8
        clear HF8 HW HL7 HL6 HL5 HL HS4 HS3 HH2 HN HA HMC HGW
        generalize x.st.all = L at *
        go_wp2_with fail
        have hval : ∀ n, Calls Try.prog 16 #[.slice (some ⟨ga, 1, none⟩) 6 (ca - 1)] (((w8.alloc (.cells #[.int .i64 tm, .int .i64 L.length, .bool false, .int .i64 0] 37))).drewN n) fun e w' => e = .returned (.int .i64 tm) ∧ w' = ((w8.alloc (.cells #[.int .i64 tm, .int .i64 L.length, .bool false, .int .i64 0] 37))).drewN n := by
          intro n
          have hl : Lies (((w8.alloc (.cells #[.int .i64 tm, .int .i64 L.length, .bool false, .int .i64 0] 37))).drewN n) ga 1 (enc tm 6) := by
            have h1 := (HAl.out.drop 1).keep (w' := ((w8.alloc (.cells #[.int .i64 tm, .int .i64 L.length, .bool false, .int .i64 0] 37))).drewN n) (by
              show (w8.alloc _).heap[ga]? = _
              rw [heap_alloc, if_neg (by omega)])
            exact h1
          have := val_any ga 1 (ca - 1) (enc tm 6) _ (by rw [enc_length]; omega) hl
          rw [enc_length, HNum.out] at this
          exact this
        have HVal := Hid.mk hval
        clear hval
        have j1 : (1 : Int) ≤ 7 := by omega
        have j2 : (7 : Int) ≤ (ca : Int) := by omega
        go_quiet ((go_at_call 16; exact Calls.quiet_of_same (HVal.out _)))
        go_wp2_with fail
        go_loopw [20] (fun i w9 => ∃ k : Nat, k ≤ L.length ∧ i = .int .i64 k ∧ Below w8.heap.size w8 w9) (fun i _ => L.length - (intOf i).toNat)
        case atStart => exact ⟨0, Nat.zero_le _, rfl, below_drewN ((Below.refl _ _).alloc (Nat.le_refl _) _) _⟩
        case round =>
          obtain ⟨k, hk, rfl, hB9⟩ := hrel
          by_cases hkl : k < L.length
          · obtain ⟨hw1, hw2, -⟩ := HF9.out
            obtain ⟨g1, rfl, hg1, hc1⟩ := row_orders hw1 (by omega)
            obtain ⟨g2, rfl, hg2, hc2⟩ := row_orders hw2 (by omega)
            obtain ⟨y, hy⟩ : ∃ y, L[k]? = some y := ⟨_, List.getElem?_eq_getElem hkl⟩
            obtain ⟨b0, b1, b2, b3, b4, b5⟩ := ord_cells y hB9 hg1 (hc1 k y hy)
            obtain ⟨e0, e1, e2, e3, e4, e5⟩ := ord_cells y hB9 hg2 (hc2 k y hy)
            obtain ⟨ref, token, side, stock, price, shares⟩ := y
            simp only at b0 b1 b2 b3 b4 b5 e0 e1 e2 e3 e4 e5
            have i3 : (0 : Int) ≤ (k : Int) := by omega
            have i4 : (k : Int) < (L.length : Int) := by omega
            have HB9 := Hid.mk hB9
            clear hw1 hw2 hc1 hc2 hy hB9
            go_wp2_with fail
            go_quiet (fail)
            go_wp2_with fail
            exact ⟨⟨k + 1, by omega, by go_num, below_drewN HB9.out _⟩, by simp [intOf]; omega⟩
          · have HB9 := Hid.mk hB9
            clear hB9
            go_wp2_with fail
            go_ret
            exact ⟨rfl, HF9.out.2.2.trans (HB9.out.mono HF9.out.2.2.size)⟩

end Go.Proofs.Ytphkchjejbffeaa

/- Orders of one share of one side of one book, and one that takes all: what the document does. -/
namespace Go.Proofs.Ytphkchjejbffeaa

/-- The places that an order of the other side reaches, the best first. -/
def reachCo (st : St) (o : Ord) : List Co := ((List.range st.levels).map fun r => (o.stock, other o.side, st.ranked (other o.side) r)).filter fun c => reaches o c.2.2
/-- All that it meets, in order. -/
def metList (st : St) (o : Ord) : List Ord := (reachCo st o).flatMap st.get

theorem nodup_reachCo (st : St) (o : Ord) : (reachCo st o).Nodup := by
  refine List.Nodup.sublist List.filter_sublist ?_
  refine nodup_map_inj _ _ List.nodup_range (fun a ha b hb h => ?_)
  simp only [List.mem_range] at ha hb
  have := congrArg (fun c : Co => c.2.2) h
  simp only [St.ranked] at this
  split at this <;> omega

theorem head_flat {α β : Type} (g : α → List β) (l : List α) : (l.flatMap g).head? = l.findSome? (fun a => (g a).head?) := by
  induction l with
  | nil => rfl
  | cons a l ih =>
    rw [List.flatMap_cons, List.findSome?_cons, List.head?_append]
    cases h : (g a).head? with
    | none => simp [ih]
    | some x => simp
theorem findSome_filter {α β : Type} (g : α → Option β) (p : α → Bool) (l : List α) : (l.filter p).findSome? g = l.findSome? (fun a => if p a then g a else none) := by
  induction l with
  | nil => rfl
  | cons a l ih =>
    rw [List.filter_cons, List.findSome?_cons]
    by_cases h : p a = true
    · rw [if_pos h, if_pos h, List.findSome?_cons, ih]
    · rw [if_neg h, if_neg h, ih]

theorem meets_head (st : St) (o : Ord) : st.meets o = (metList st o).head? := by
  unfold metList reachCo
  rw [head_flat, findSome_filter, List.findSome?_map]
  rfl

theorem flat_head {α β : Type} (g : α → List β) (l : List α) (f : β) (t : List β) (h : l.flatMap g = f :: t) : ∃ l1 c l2 u, l = l1 ++ c :: l2 ∧ (∀ a ∈ l1, g a = []) ∧ g c = f :: u ∧ t = u ++ l2.flatMap g := by
  induction l with
  | nil => simp at h
  | cons a l ih =>
    rw [List.flatMap_cons] at h
    cases hg : g a with
    | nil =>
      rw [hg, List.nil_append] at h
      obtain ⟨l1, c, l2, u, h1, h2, h3, h4⟩ := ih h
      exact ⟨a :: l1, c, l2, u, by rw [h1]; rfl, fun b hb => by rcases List.mem_cons.1 hb with rfl | hb; exact hg; exact h2 b hb, h3, h4⟩
    | cons x u =>
      rw [hg, List.cons_append, List.cons.injEq] at h
      obtain ⟨rfl, rfl⟩ := h
      exact ⟨[], a, l, u, rfl, fun b hb => by simp at hb, hg, rfl⟩

/-- One of those that it meets is gone. -/
theorem met_step {st : St} (hi : Inv st) (o f : Ord) (t : List Ord) (h : metList st o = f :: t) (h1 : f.shares = 1) (n : Nat) (hn : 1 ≤ n) (k : Nat) : metList (st.execute o f n) { o with shares := k } = t := by
  obtain ⟨l1, c, l2, u, e1, e2, e3, e4⟩ := flat_head _ _ _ _ h
  have hnd := nodup_reachCo st o
  have hc : c = (f.stock, f.side, f.price) := by
    obtain ⟨a, b, p⟩ := c
    have := hi.ord a b p f (by have : f ∈ st.get (a, b, p) := by rw [e3]; simp
                               exact this)
    rw [this.stock, this.side, this.price]
  have hco : reachCo (st.execute o f n) { o with shares := k } = reachCo st o := rfl
  unfold metList
  rw [hco, e1, List.flatMap_append, List.flatMap_cons]
  rw [e1, List.nodup_append, List.nodup_cons] at hnd
  have hg : ∀ c', (st.execute o f n).get c' = if c' = (f.stock, f.side, f.price) then redO f.token n (st.q f.stock f.side f.price) else st.get c' := fun c' => upd_get _ _ _ _ _ _
  have f1 : l1.flatMap (st.execute o f n).get = [] := by
    rw [List.flatMap_eq_nil_iff]
    intro a ha
    rw [hg, if_neg (fun e => hnd.2.2 a ha c (by simp) (by rw [hc]; exact e))]
    exact e2 a ha
  have f2 : l2.flatMap (st.execute o f n).get = l2.flatMap st.get := flatMap_congr_mem _ _ _ (fun a ha => by
    rw [hg, if_neg (fun e => hnd.2.1.1 (by rw [hc, ← e]; exact ha))])
  have f3 : (st.execute o f n).get c = u := by
    rw [hg, if_pos hc]
    have : st.q f.stock f.side f.price = f :: u := by rw [← e3, hc]; rfl
    rw [this]
    simp only [redO, if_true]
    rw [if_pos (by omega)]
  rw [f1, f2, f3, e4]
  rfl

/-- What is told of those that are met, one share each. -/
def fills (hd : List UInt8) (tok : Nat) : Nat → List Ord → List UInt8
  | _, [] => []
  | m, f :: t => (hd ++ enc f.token 4 ++ enc 1 2 ++ enc f.price 2 ++ enc ((m + 1) % 4294967296) 4) ++ (hd ++ enc tok 4 ++ enc 1 2 ++ enc f.price 2 ++ enc ((m + 1) % 4294967296) 4) ++ fills hd tok ((m + 1) % 4294967296) t

theorem fills_len (hd : List UInt8) (h : hd.length = 7) (tok : Nat) (l : List Ord) : ∀ m, (fills hd tok m l).length = 38 * l.length := by
  induction l with
  | nil => intro m; rfl
  | cons f t ih => intro m; simp only [fills, List.length_append, ih, enc_length, h, List.length_cons]; omega

theorem meet_all (k : Nat) : ∀ (st : St) (o : Ord), Inv st → (∀ f ∈ metList st o, f.shares = 1) → (metList st o).length < k → (metList st o).length < o.shares →
    (st.meet k o).2 = { o with shares := o.shares - (metList st o).length } ∧ (st.meet k o).1.ans = st.ans ++ fills (st.head 70) o.token st.mats (metList st o) ∧
    (st.meet k o).1.resting + (metList st o).length = st.resting ∧ (st.meet k o).1.time = st.time := by
  induction k with
  | zero => intro st o _ _ h; omega
  | succ k ih =>
    intro st o hi h1 hk hs
    have hm := meets_head st o
    cases hl : metList st o with
    | nil =>
      rw [hl] at hm
      have e : st.meet (k + 1) o = (st, o) := by
        unfold St.meet
        rw [if_neg (by omega), hm]
        rfl
      rw [e]
      simp [fills]
    | cons f t =>
      rw [hl] at hm
      have hm' : st.meets o = some f := hm
      have f1 := h1 f (by rw [hl]; simp)
      rw [hl, List.length_cons] at hk hs
      have e : st.meet (k + 1) o = (st.execute o f 1).meet k { o with shares := o.shares - 1 } := by
        show (if o.shares = 0 then (st, o) else _) = _
        rw [if_neg (by omega), hm']
        show St.meet k (st.execute o f (min o.shares f.shares)) { o with shares := o.shares - min o.shares f.shares } = _
        rw [f1, show min o.shares 1 = 1 by omega]
      have hst := met_step hi o f t hl f1 1 (Nat.le_refl _) (o.shares - 1)
      obtain ⟨hi', -, hr⟩ := execute_ok hi hm' 1
      have hr := hr (by omega)
      obtain ⟨r1, r2, r3, r4⟩ := ih (st.execute o f 1) { o with shares := o.shares - 1 } hi' (by rw [hst]; exact fun x hx => h1 x (by rw [hl]; simp [hx])) (by rw [hst]; omega) (by rw [hst]; simp only; omega)
      rw [hst] at r1 r2 r3
      rw [e, r1, r2]
      refine ⟨?_, ?_, ?_, ?_⟩
      · simp only [List.length_cons, Ord.mk.injEq, true_and]; omega
      · have e1 : (st.execute o f 1).ans = st.ans ++ (st.head 70 ++ enc f.token 4 ++ enc 1 2 ++ enc f.price 2 ++ enc ((st.mats + 1) % 4294967296) 4) ++ (st.head 70 ++ enc o.token 4 ++ enc 1 2 ++ enc f.price 2 ++ enc ((st.mats + 1) % 4294967296) 4) := rfl
        have e2 : (st.execute o f 1).mats = (st.mats + 1) % 4294967296 := rfl
        have e3 : (st.execute o f 1).head 70 = st.head 70 := rfl
        rw [e1, e2, e3]
        simp only [fills, List.append_assoc]
      · rw [List.length_cons]; omega
      · exact r4

end Go.Proofs.Ytphkchjejbffeaa

/- The law First, by the document alone: orders of one share each, and one that takes all that it crosses. -/
namespace Go.Proofs.Ytphkchjejbffeaa

structure Fst (dd : UInt8) (pr : Nat → Nat) (n : Nat) (st : St) : Prop where
  inv : Inv st
  stocks : st.stocks = 3
  levels : st.levels = 10
  pool : st.pool = 64
  opn : st.opn = true
  part : st.part = []
  used : ∀ t ∈ st.used, t < n ∨ t = 1000 ∨ t = 1001
  toks : ∀ p, (st.q 1 dd p).map (·.token) = (List.range n).filter (fun i => pr i == p)
  ones : ∀ p x, x ∈ st.q 1 dd p → x.shares = 1
  els : ∀ s d p, ¬ (s = 1 ∧ d = dd) → st.q s d p = []
  rest : st.resting = n
  ans : st.ans.length ≤ 22 * n
  tape : st.tape.length ≤ 17 * n

theorem resting_told (st : St) : st.told.taped.resting = st.resting := rfl
theorem fst_start (dd : UInt8) (pr : Nat → Nat) : Fst dd pr 0 (openSt 64) := by
  obtain ⟨s1, s2, s3⟩ := same_openSt 64
  obtain ⟨u1, u2, u3⟩ := open_used 64 (by decide) (by decide)
  have hi := inv_openSt 64 (by decide) (by decide)
  have hr : (openSt 64).resting = 0 := by
    unfold openSt
    rw [resting_told]
    exact (open_ok 64 (by decide) (by decide)).2.1
  have hall : (openSt 64).all = [] := List.length_eq_zero_iff.1 hr
  have hq : ∀ s d p, (openSt 64).q s d p = [] := by
    intro s d p
    rw [List.eq_nil_iff_forall_not_mem]
    intro x hx
    have hne : (openSt 64).q s d p ≠ [] := fun e => by rw [e] at hx; cases hx
    obtain ⟨v1, v2, v3, v4⟩ := hi.ok s d p hne
    have : x ∈ (openSt 64).all := (mem_all _ _).2 ⟨s, d, p, v1, v2, v3, v4, hx⟩
    rw [hall] at this
    cases this
  refine ⟨hi, s1, s2, s3, u3, u2, ?_, ?_, ?_, fun s d p _ => hq s d p, hr, by rw [show (openSt 64).ans = [] from told_ans _]; simp, by rw [show (openSt 64).tape = [] from told_tape' _]; simp⟩
  · rw [u1]; intro t ht; simp at ht; omega
  · intro p; rw [hq]; rfl
  · intro p x hx; rw [hq] at hx; cases hx

theorem meets_empty (st : St) (o : Ord) (h : ∀ p, st.q o.stock (other o.side) p = []) : st.meets o = none := by
  unfold St.meets
  rw [List.findSome?_eq_none_iff]
  intro r _
  rw [h]
  simp

theorem fst_step {dd : UInt8} {pr : Nat → Nat} {n : Nat} {st : St} (h : Fst dd pr n st) (hd : dd = 66 ∨ dd = 83) (hn : n < 40) (h1 : 1 ≤ pr n) (h2 : pr n ≤ 10) :
    Fst dd pr (n + 1) (st.feed (enterMsg n dd 1 (pr n) 1 68)) := by
  have hf : st.feed (enterMsg n dd 1 (pr n) 1 68) = st.enter n dd 1 (pr n) 1 68 := by
    rw [feed_whole _ st h.opn h.part (enterMsg_ok _ _ _ _ _ _).1 (enterMsg_ok _ _ _ _ _ _).2, enterMsg_act st n dd 1 (pr n) 1 68 (by omega) (by omega) (by omega)]
    rfl
  have hw : st.why n dd 1 (pr n) 1 68 = none := by
    unfold St.why
    rw [if_neg (fun hu => by have := h.used n hu; omega), if_neg (by rcases hd with rfl | rfl <;> decide), if_neg (by rw [h.stocks]; omega), if_neg (by rw [h.levels]; omega), if_neg (by omega), if_neg (by decide),
      if_neg (by rw [h.pool, h.rest]; omega)]
  have hod : other dd ≠ dd := by rcases hd with rfl | rfl <;> decide
  have he : st.enter n dd 1 (pr n) 1 68 = (st.accept { ref := (st.refs + 1) % 4294967296, token := n, side := dd, stock := 1, price := pr n, shares := 1 } 68).rest { ref := (st.refs + 1) % 4294967296, token := n, side := dd, stock := 1, price := pr n, shares := 1 } := by
    unfold St.enter
    rw [hw]
    simp only
    have hm : ∀ k, (st.accept { ref := (st.refs + 1) % 4294967296, token := n, side := dd, stock := 1, price := pr n, shares := 1 } 68).meet (k + 1) { ref := (st.refs + 1) % 4294967296, token := n, side := dd, stock := 1, price := pr n, shares := 1 } =
        (st.accept { ref := (st.refs + 1) % 4294967296, token := n, side := dd, stock := 1, price := pr n, shares := 1 } 68, { ref := (st.refs + 1) % 4294967296, token := n, side := dd, stock := 1, price := pr n, shares := 1 }) := by
      intro k
      unfold St.meet
      rw [if_neg (by simp), meets_empty _ _ (fun p => h.els 1 (other dd) p (fun e => hod e.2))]
    rw [hm 64]
    rfl
  have hinv : Inv (st.feed (enterMsg n dd 1 (pr n) 1 68)) := by rw [hf]; exact h.inv.enter n dd 1 (pr n) 1 68 (by omega)
  rw [hf, he] at *
  generalize ho : ({ ref := (st.refs + 1) % 4294967296, token := n, side := dd, stock := 1, price := pr n, shares := 1 } : Ord) = o at *
  have hq : ∀ s d p, ((st.accept o 68).rest o).q s d p = if s = 1 ∧ d = dd ∧ p = pr n then st.q 1 dd (pr n) ++ [o] else st.q s d p := by
    intro s d p
    subst ho
    rfl
  refine ⟨hinv, h.stocks, h.levels, h.pool, h.opn, h.part, ?_, ?_, ?_, ?_, ?_, ?_, ?_⟩
  · intro t ht
    have : t ∈ n :: st.used := by subst ho; exact ht
    rcases List.mem_cons.1 this with rfl | ht
    · omega
    · have := h.used t ht; omega
  · intro p
    rw [hq, List.range_succ, List.filter_append]
    by_cases hp : p = pr n
    · subst hp
      rw [if_pos ⟨rfl, rfl, rfl⟩, List.map_append, h.toks]
      simp [← ho]
    · rw [if_neg (fun e => hp e.2.2), h.toks]
      have : (pr n == p) = false := by simpa using fun e => hp e.symm
      simp [this]
  · intro p x hx
    rw [hq] at hx
    split at hx
    · rcases List.mem_append.1 hx with hx | hx
      · exact h.ones _ _ hx
      · simp at hx; rw [hx, ← ho]
    · exact h.ones _ _ hx
  · intro s d p hn
    rw [hq, if_neg (fun e => hn ⟨e.1, e.2.1⟩)]
    exact h.els s d p hn
  · obtain ⟨A, B, e1, e2⟩ := all_upd (st.accept o 68) o.stock o.side o.price (by rw [← ho]; exact ⟨by show 1 < st.stocks; rw [h.stocks]; omega, hd, h1, by show _ ≤ st.levels; rw [h.levels]; exact h2⟩)
    have e2 := e2 (· ++ [o])
    have e3 : ((st.accept o 68).rest o).all = ((st.accept o 68).upd o.stock o.side o.price (· ++ [o])).all := rfl
    have e4 : st.all = (st.accept o 68).all := rfl
    have hr := h.rest
    unfold St.resting at hr ⊢
    rw [e4, e1] at hr
    rw [e3, e2]
    simp only [List.length_append, List.length_cons, List.length_nil] at hr ⊢
    omega
  · have := h.ans
    show (st.ans ++ _).length ≤ _
    simp only [List.length_append, head_len, enc_length, List.length_cons, List.length_nil]
    omega
  · have := h.tape
    show (st.tape ++ _).length ≤ _
    simp only [List.length_append, head_len, enc_length, List.length_cons, List.length_nil]
    omega

theorem Fst.told {dd : UInt8} {pr : Nat → Nat} {n : Nat} {st : St} (h : Fst dd pr n st) : Fst dd pr n st.told :=
  ⟨h.inv.told, h.stocks, h.levels, h.pool, h.opn, h.part, h.used, h.toks, h.ones, h.els, h.rest, Nat.zero_le _, h.tape⟩

/-- Those that are met, by price, and of one price as they came: by token and price. -/
def firstPrice (dd : UInt8) (k : Nat) : Nat := if dd = 66 then 10 - k else k + 1
def firstIn (dd : UInt8) (lim p : Nat) : Bool := if dd = 66 then lim ≤ p else p ≤ lim
def firstAt (dd : UInt8) (pr : Nat → Nat) (lim n k : Nat) : List (Nat × Nat) :=
  if firstIn dd lim (firstPrice dd k) then ((List.range n).filter (fun i => pr i == firstPrice dd k)).map (fun i => (i, firstPrice dd k)) else []
def firstAll (dd : UInt8) (pr : Nat → Nat) (lim n : Nat) : List (Nat × Nat) := (List.range 10).flatMap (firstAt dd pr lim n)

theorem filter_flat {α β γ : Type} (f : α → β) (p : β → Bool) (g : β → List γ) (l : List α) : ((l.map f).filter p).flatMap g = l.flatMap (fun a => if p (f a) then g (f a) else []) := by
  induction l with
  | nil => rfl
  | cons a l ih =>
    rw [List.map_cons, List.filter_cons, List.flatMap_cons]
    by_cases h : p (f a) = true
    · rw [if_pos h, if_pos h, List.flatMap_cons, ih]
    · rw [if_neg h, if_neg h, ih]; rfl
theorem flat_if_len {α γ : Type} (p : α → Bool) (g : α → List γ) (l : List α) : (l.flatMap (fun a => if p a then g a else [])).length ≤ (l.flatMap g).length := by
  induction l with
  | nil => simp
  | cons a l ih =>
    rw [List.flatMap_cons, List.flatMap_cons, List.length_append, List.length_append]
    split
    · omega
    · rw [List.length_nil]; omega

theorem met_first {dd : UInt8} {pr : Nat → Nat} {n : Nat} {st : St} (h : Fst dd pr n st) (hd : dd = 66 ∨ dd = 83) (o : Ord) (h1 : o.stock = 1) (h2 : o.side = other dd) :
    (metList st o).map (fun x => (x.token, x.price)) = firstAll dd pr o.price n ∧ (∀ f ∈ metList st o, f.shares = 1) ∧ (metList st o).length ≤ n := by
  have hod : other o.side = dd := by rw [h2]; rcases hd with rfl | rfl <;> rfl
  have e : metList st o = (List.range 10).flatMap (fun r => if reaches o (st.ranked dd r) then st.q 1 dd (st.ranked dd r) else []) := by
    unfold metList reachCo
    rw [filter_flat, h.levels, hod, h1]
    rfl
  refine ⟨?_, ?_, ?_⟩
  · rw [e, List.map_flatMap]
    unfold firstAll
    refine flatMap_congr_mem _ _ _ (fun r _ => ?_)
    have ep : st.ranked dd r = firstPrice dd r := by unfold St.ranked firstPrice; rw [h.levels]
    have er : reaches o (st.ranked dd r) = firstIn dd o.price (firstPrice dd r) := by
      rw [ep]
      unfold reaches firstIn
      rw [h2]
      rcases hd with rfl | rfl <;> rfl
    unfold firstAt
    rw [er]
    split
    · have hq : (st.q 1 dd (st.ranked dd r)).map (fun x => (x.token, x.price)) = ((st.q 1 dd (st.ranked dd r)).map (·.token)).map (fun i => (i, firstPrice dd r)) := by
        rw [List.map_map]
        refine List.map_congr_left fun x hx => ?_
        have := (h.inv.ord _ _ _ x hx).price
        simp only [Function.comp_apply]
        rw [this, ep]
      rw [hq, h.toks, ep]
    · rfl
  · rw [e]
    intro f hf
    obtain ⟨r, -, hf⟩ := List.mem_flatMap.1 hf
    split at hf
    · exact h.ones _ _ hf
    · cases hf
  · rw [e]
    have hr := h.rest
    have h3 : st.all = st.book 0 ++ (st.book 1 ++ st.book 2) := by
      unfold St.all
      rw [h.stocks]
      simp [List.range_succ]
    unfold St.resting at hr
    rw [h3] at hr
    have hb : ((List.range 10).flatMap fun r => st.q 1 dd (st.ranked dd r)).length ≤ (st.book 1).length := by
      unfold St.book St.bids St.asks
      rw [List.length_append, h.levels]
      rcases hd with rfl | rfl
      · have : (fun r => st.q 1 66 (st.ranked 66 r)) = fun r => st.q 1 66 (10 - r) := by funext r; unfold St.ranked; rw [h.levels]; rfl
        rw [this]; omega
      · have : (fun r => st.q 1 83 (st.ranked 83 r)) = fun r => st.q 1 83 (r + 1) := rfl
        rw [this]; omega
    have := flat_if_len (fun r => reaches o (st.ranked dd r)) (fun r => st.q 1 dd (st.ranked dd r)) (List.range 10)
    simp only [List.length_append] at hr
    omega

/-- What goes back of the one that takes all. -/
theorem first_last {dd : UInt8} {pr : Nat → Nat} {n : Nat} {st : St} (h : Fst dd pr n st) (hd : dd = 66 ∨ dd = 83) (hn : n ≤ 40) (lim : Nat) (l1 : 1 ≤ lim) (l2 : lim ≤ 10) (ha : st.ans = []) :
    ∃ (A : List UInt8) (L : List Ord) (m : Nat), A.length = 22 ∧ L.map (fun x => (x.token, x.price)) = firstAll dd pr lim n ∧ L.length ≤ n ∧
      (st.feed (enterMsg 500 (other dd) 1 lim 9999 73)).ans = A ++ fills (st.head 70) 500 m L ++ (st.head 88 ++ enc 500 4 ++ enc (9999 - L.length) 2 ++ [73]) ∧
      (st.feed (enterMsg 500 (other dd) 1 lim 9999 73)).resting + L.length = n ∧ (st.feed (enterMsg 500 (other dd) 1 lim 9999 73)).tape.length ≤ 5000 := by
  have hf : st.feed (enterMsg 500 (other dd) 1 lim 9999 73) = st.enter 500 (other dd) 1 lim 9999 73 := by
    rw [feed_whole _ st h.opn h.part (enterMsg_ok _ _ _ _ _ _).1 (enterMsg_ok _ _ _ _ _ _).2, enterMsg_act st 500 (other dd) 1 lim 9999 73 (by omega) (by omega) (by omega)]
    rfl
  have hw : st.why 500 (other dd) 1 lim 9999 73 = none := by
    unfold St.why
    rw [if_neg (fun hu => by have := h.used 500 hu; omega), if_neg (by rcases hd with rfl | rfl <;> decide), if_neg (by rw [h.stocks]; omega), if_neg (by rw [h.levels]; omega), if_neg (by omega), if_neg (by decide), if_neg (fun e => absurd e.1 (by decide))]
  have hg := grew_enter st 500 (other dd) 1 lim 9999 73
  rw [hf]
  have htape : (st.enter 500 (other dd) 1 lim 9999 73).tape.length ≤ 5000 := by
    have := h.tape
    rcases hg with hg | hg
    · have := hg.1.tape; omega
    · have := hg.1.tape; omega
  generalize ho : ({ ref := (st.refs + 1) % 4294967296, token := 500, side := other dd, stock := 1, price := lim, shares := 9999 } : Ord) = o
  have hsh : o.shares = 9999 := by rw [← ho]
  have hacc : Inv (st.accept o 73) := h.inv.of_q (st' := st.accept o 73) rfl rfl rfl rfl (fun t ht => List.mem_cons_of_mem _ ht) (by rw [← ho]; exact Nat.mod_lt _ (by decide)) h.inv.mats h.inv.time
  obtain ⟨m1, m2, m3⟩ := met_first h hd o (by rw [← ho]) (by rw [← ho])
  have hml : metList (st.accept o 73) o = metList st o := rfl
  obtain ⟨r1, r2, r3, r4⟩ := meet_all 65 (st.accept o 73) o hacc (by rw [hml]; exact m2) (by rw [hml]; omega) (by rw [hml, hsh]; omega)
  have he : st.enter 500 (other dd) 1 lim 9999 73 = ((st.accept o 73).meet 65 o).1.cancelled 500 (9999 - (metList st o).length) 73 := by
    unfold St.enter
    rw [hw]
    simp only [ho]
    rw [r1, hml]
    simp only [hsh]
    rw [if_neg (by omega), if_neg (by decide)]
  refine ⟨st.head 65 ++ enc o.token 4 ++ [o.side, UInt8.ofNat o.stock] ++ enc o.price 2 ++ enc o.shares 2 ++ [73] ++ enc o.ref 4, metList st o, st.mats, ?_, ?_, m3, ?_, ?_, htape⟩
  · simp [head_len, enc_length]
  · rw [m1, ← ho]
  · rw [he]
    show ((st.accept o 73).meet 65 o).1.ans ++ (((st.accept o 73).meet 65 o).1.head 88 ++ _ ++ _ ++ _) = _
    have hh : ((st.accept o 73).meet 65 o).1.head 88 = st.head 88 := by unfold St.head; rw [r4]; rfl
    rw [hh, r2, hml]
    have e1 : (st.accept o 73).ans = st.head 65 ++ enc o.token 4 ++ [o.side, UInt8.ofNat o.stock] ++ enc o.price 2 ++ enc o.shares 2 ++ [73] ++ enc o.ref 4 := by
      show st.ans ++ _ = _
      rw [ha, List.nil_append]
    have e2 : o.token = 500 := by rw [← ho]
    rw [e1]
    rw [show fills ((st.accept o 73).head 70) o.token (st.accept o 73).mats (metList st o) = fills (st.head 70) 500 st.mats (metList st o) by rw [e2]; rfl]
  · rw [he]
    have : (((st.accept o 73).meet 65 o).1.cancelled 500 (9999 - (metList st o).length) 73).resting = ((st.accept o 73).meet 65 o).1.resting := rfl
    rw [this]
    rw [hml] at r3
    have e : (st.accept o 73).resting = st.resting := rfl
    rw [e, h.rest] at r3
    exact r3

/-- Where each of those met stands in what goes back. -/
theorem fills_at (hd : List UInt8) (h : hd.length = 7) (tok : Nat) (l : List Ord) : ∀ (m j : Nat) (f : Ord), l[j]? = some f →
    ∃ x y rest, (fills hd tok m l).drop (38 * j) = hd ++ enc f.token 4 ++ enc 1 2 ++ enc f.price 2 ++ enc x 4 ++ hd ++ enc tok 4 ++ enc 1 2 ++ enc f.price 2 ++ enc y 4 ++ rest := by
  induction l with
  | nil => intro m j f hf; simp at hf
  | cons g t ih =>
    intro m j f hf
    cases j with
    | zero =>
      simp at hf
      subst hf
      exact ⟨(m + 1) % 4294967296, (m + 1) % 4294967296, fills hd tok ((m + 1) % 4294967296) t, by simp [fills]⟩
    | succ j =>
      simp at hf
      obtain ⟨x, y, rest, e⟩ := ih ((m + 1) % 4294967296) j f hf
      refine ⟨x, y, rest, ?_⟩
      rw [← e]
      simp only [fills]
      rw [show 38 * (j + 1) = 38 + 38 * j by omega, ← List.drop_drop]
      congr 1
      exact List.drop_left' (by simp [enc_length, h])

/-- How many of them stand ahead of the i-th order at the k-th price. -/
def firstPre (dd : UInt8) (pr : Nat → Nat) (lim n k i : Nat) : List (Nat × Nat) := (List.range k).flatMap (firstAt dd pr lim n) ++ firstAt dd pr lim i k
theorem firstPre_zero (dd : UInt8) (pr : Nat → Nat) (lim n k : Nat) : firstPre dd pr lim n k 0 = (List.range k).flatMap (firstAt dd pr lim n) := by
  unfold firstPre firstAt
  simp
theorem firstPre_next (dd : UInt8) (pr : Nat → Nat) (lim n k : Nat) : firstPre dd pr lim n (k + 1) 0 = firstPre dd pr lim n k n := by
  rw [firstPre_zero]
  unfold firstPre
  rw [List.range_succ, List.flatMap_append]
  simp
theorem firstPre_skip (dd : UInt8) (pr : Nat → Nat) (lim n k i : Nat) (h : ¬ (firstIn dd lim (firstPrice dd k) = true ∧ pr i = firstPrice dd k)) : firstPre dd pr lim n k (i + 1) = firstPre dd pr lim n k i := by
  unfold firstPre
  congr 1
  unfold firstAt
  split
  · rename_i h1
    rw [List.range_succ, List.filter_append, List.map_append]
    have : (pr i == firstPrice dd k) = false := by simpa using fun e => h ⟨h1, e⟩
    simp [this]
  · rfl
theorem firstPre_take (dd : UInt8) (pr : Nat → Nat) (lim n k i : Nat) (h : firstIn dd lim (firstPrice dd k) = true) (h2 : pr i = firstPrice dd k) : firstPre dd pr lim n k (i + 1) = firstPre dd pr lim n k i ++ [(i, firstPrice dd k)] := by
  unfold firstPre
  rw [List.append_assoc]
  congr 1
  unfold firstAt
  rw [if_pos h, if_pos h, List.range_succ, List.filter_append, List.map_append]
  simp [h2]
theorem firstPre_prefix (dd : UInt8) (pr : Nat → Nat) (lim n k i : Nat) (hk : k < 10) (hi : i ≤ n) : firstPre dd pr lim n k i <+: firstAll dd pr lim n := by
  have h1 : firstPre dd pr lim n k i <+: firstPre dd pr lim n k n := by
    unfold firstPre
    refine (List.prefix_append_right_inj _).2 ?_
    unfold firstAt
    split
    · obtain ⟨c, rfl⟩ : ∃ c, n = i + c := ⟨n - i, by omega⟩
      rw [List.range_add, List.filter_append, List.map_append]
      exact List.prefix_append _ _
    · exact List.prefix_refl _
  refine h1.trans ?_
  rw [← firstPre_next, firstPre_zero]
  unfold firstAll
  obtain ⟨c, hc⟩ : ∃ c, 10 = k + 1 + c := ⟨10 - (k + 1), by omega⟩
  have e : List.range 10 = List.range (k + 1) ++ (List.range c).map (fun x => k + 1 + x) := by rw [hc]; exact List.range_add
  rw [e, List.flatMap_append]
  exact List.prefix_append _ _
theorem firstPre_get (dd : UInt8) (pr : Nat → Nat) (lim n k i : Nat) (hk : k < 10) (hi : i < n) (h : firstIn dd lim (firstPrice dd k) = true) (h2 : pr i = firstPrice dd k) :
    (firstAll dd pr lim n)[(firstPre dd pr lim n k i).length]? = some (i, firstPrice dd k) := by
  obtain ⟨t, ht⟩ := firstPre_prefix dd pr lim n k (i + 1) hk hi
  rw [← ht, firstPre_take dd pr lim n k i h h2, List.append_assoc, List.getElem?_append_right (Nat.le_refl _), Nat.sub_self]
  rfl
theorem firstPre_end (dd : UInt8) (pr : Nat → Nat) (lim n : Nat) : firstPre dd pr lim n 10 0 = firstAll dd pr lim n := firstPre_zero _ _ _ _ _

end Go.Proofs.Ytphkchjejbffeaa
