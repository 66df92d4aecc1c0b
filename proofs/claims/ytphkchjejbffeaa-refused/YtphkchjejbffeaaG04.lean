/- The law Uncrossed, out of what the calls do. -/
import Derived.Test.YtphkchjejbffeaaG03
import Derived.RegionTactic
import Derived.Orders
namespace Go.Proofs.Ytphkchjejbffeaa
open Go.RowKit

theorem all3 (st : St) (h : st.stocks = 3) : st.all = st.book 0 ++ (st.book 1 ++ st.book 2) := by
  unfold St.all
  rw [h]
  simp [List.range_succ]

theorem Good.book {p n : Nat} {x : Run} (h : Good p n x) (s : Nat) (hs : s < 3) : BookOk s (x.st.book s) ∧ (x.st.book s).length ≤ 1000 := by
  refine ⟨⟨?_, ?_⟩, ?_⟩
  · intro i y hy
    have := book_each h.inv s y (List.mem_of_getElem? hy)
    rw [h.levels] at this
    exact this
  · intro i f q y hf hq hy
    exact book_pair h.inv s i f q y hf hq hy
  · have h1 := h.inv.room
    have h2 := h.inv.pool
    unfold St.resting at h1
    rw [all3 _ h.stocks] at h1
    simp only [List.length_append] at h1
    have : s = 0 ∨ s = 1 ∨ s = 2 := by omega
    rcases this with rfl | rfl | rfl <;> omega

theorem rests_good {At : World → Nat → (Nat → Prop) → St → Prop} (api : Api At) {hb b : Nat} {G : Nat → Prop} {vo vt : Value} {x : Run} {p n : Nat} (w : World)
    (hh : HouseOf At w hb b G vo vt x) (hg : Good p n x) :
    Calls Try.prog 19 #[.pointer (some ⟨hb, 0, none⟩)] w fun e w' => ∃ v, e = .returned (.tuple #[v, .bool true]) ∧
      w'.ownsRow w.heap.size 46 6 v x.st.resting (x.st.all.flatMap Ord.cells) ∧ Below w.heap.size w w' :=
  rests_any api hb b G vo vt x.st w hh.cell hh.at_ hg.stocks (fun s hs => (hg.book s hs).1) (fun s hs => (hg.book s hs).2)

theorem House.below {At : World → Nat → (Nat → Prop) → St → Prop} (api : Api At) {w w' : World} {hb b : Nat} {G : Nat → Prop} {vo vt : Value} {x : Run}
    (h : HouseOf At w hb b G vo vt x) (hB : Below w.heap.size w w') : HouseOf At w' hb b G vo vt x :=
  House.step h (api.below h.at_ hB) (Fr.of_below hB G) (fun _k hk => .inl hk)

set_option maxHeartbeats 1000000 in
theorem uncrossed_any {At : World → Nat → (Nat → Prop) → St → Prop} (api : Api At) (pool : Int) (v : Value) (l : List Act) (w : World) (h1 : -9223372036854775808 ≤ pool) (h2 : pool ≤ 9223372036854775807)
    (hl : ActsAt w v l) (hn : l.length ≤ 2600000000000) :
    Calls Try.prog 6 #[.int .i64 pool, v] w fun e w' => e = .returned (.bool true) ∧ Below w.heap.size w w' := by
  have HO := Hid.mk (open_any api pool w h1 h2)
  have hpk := pick_lt pool 64 (by omega)
  rcases hl with ⟨ra, rc, rfl, rfl⟩ | ⟨g, o, cap, rfl, hg, hlen, hcs⟩
  · go_enter Try.func6, Try.ntmps6
    go_wp2_with fail
    refine HO.out.mono ?_
    rintro e w1 ⟨hb, b, G, vo, vt, rfl, hh, hF, hB⟩
    have HN := Hid.mk hB
    clear hh hF hB
    go_wp2_with fail
    go_loopw [6, 7] (fun ok i wr => ok = .bool true ∧ i = .int .i64 0 ∧ wr = w1) (fun _ _ _ => 0)
    case atStart => exact ⟨rfl, rfl, rfl⟩
    case round =>
      obtain ⟨rfl, rfl, rfl⟩ := hrel
      go_wp2_with fail
      go_ret
      exact ⟨rfl, HN.out⟩
  · go_enter Try.func6, Try.ntmps6
    go_wp2_with fail
    refine HO.out.mono ?_
    rintro e w1 ⟨hb, b, G, vo, vt, rfl, hh, hF, hB⟩
    go_wp2_with fail
    go_loopw [6, 7] (fun ok i wr => ∃ (k : Nat) (G' : Nat → Prop) (vo' vt' : Value), k ≤ l.length ∧ ok = .bool true ∧ i = .int .i64 k ∧ HouseOf At wr hb b G' vo' vt' ((started pool).acts (l.take k)) ∧ (∀ j, HF hb G' vo' vt' j → w.heap.size ≤ j) ∧ Below w.heap.size w wr) (fun _ i _ => l.length - (intOf i).toNat)
    case atStart => exact ⟨0, G, vo, vt, Nat.zero_le _, rfl, rfl, hh, hF, hB⟩
    case round =>
      clear hh hF hB
      obtain ⟨k, G', vo', vt', hk, rfl, rfl, hh, hF, hB⟩ := hrel
      by_cases hlt : k < l.length
      · obtain ⟨a, hka⟩ : ∃ a, l[k]? = some a := ⟨_, List.getElem?_eq_getElem hlt⟩
        obtain ⟨hok, hca⟩ := hcs k a hka
        obtain ⟨d0, d1, d2, d3, d4, d5, d6⟩ := act_cells a (w := wr) (g := g) (o := o + k * 7) (fun j u hu => (hB.cell (p := ⟨g, o + k * 7 + j, none⟩) hg).trans (hca j u hu))
        have HS := Hid.mk ((started pool).acts_snoc l k a hka)
        have gd := Good.acts (l.take (k + 1)) (good_started pool)
        rw [HS.out] at gd
        have hls := gd.lens
        have hll : (l.take (k + 1)).length ≤ l.length := by simp; omega
        have hbig : big = 70368744177664 := rfl
        have HA := Hid.mk (act_any api hb b G' vo' vt' _ a wr hh hok (by rw [hbig]; omega) (by rw [hbig]; omega))
        have HN := Hid.mk (And.intro hh (And.intro hF hB))
        have HG := Hid.mk gd
        clear hh hF hB hcs hca hls hll hbig gd
        have i1 : (0 : Int) ≤ (k : Int) := by omega
        have i2 : (k : Int) < (l.length : Int) := by omega
        go_wp2_with fail
        refine HA.out.mono ?_
        rintro e w2 ⟨G2, vo2, vt2, rfl, hh2, hF2, hfr⟩
        obtain ⟨hh, hF, hB⟩ := HN.out
        have hF3 : ∀ j, HF hb G2 vo2 vt2 j → w.heap.size ≤ j := fun j hj => by
          rcases hF2 j hj with h | h
          · exact hF j h
          · have := hB.size; omega
        have hB3 : Below w.heap.size w w2 := hB.trans (hfr.below hB.size hF)
        have HP := Hid.mk (And.intro hh2 (And.intro hF3 hB3))
        clear hh2 hF2 hfr hh hF hB hF3 hB3
        go_wp2_with fail
        refine (rests_good api w2 HP.out.1 HG.out).mono ?_
        rintro e w3 ⟨vr, rfl, hown, hb3⟩
        obtain ⟨ra, capr, rfl, -, -⟩ := ownsRow_len hown
        have hh3 := House.below api HP.out.1 hb3
        obtain ⟨c0, -⟩ := cells3 hh3.cell
        have HQ := Hid.mk (And.intro hh3 hb3)
        clear hown hh3 hb3
        go_wp2_with fail
        refine (api.look b G2 _ w3 HQ.out.1.at_).mono ?_
        rintro e w4 ⟨rfl, hb4⟩
        rw [viewOf]
        have hrm : (((started pool).acts (l.take k)).act a).st.resting ≤ 1 + pick pool 64 := by
          have h3 := HG.out.inv.room
          rw [HG.out.pool] at h3
          exact h3
        have HR := Hid.mk (And.intro HQ.out.2 hb4)
        have HPP := Hid.mk (And.intro (HS.out ▸ (House.below api HQ.out.1 hb4)) HP.out.2)
        clear hb4 HQ HG HS HP
        generalize (((started pool).acts (l.take k)).act a).st.resting = r at *
        generalize (((started pool).acts (l.take k)).act a).st.time = tm at *
        generalize (((started pool).acts (l.take k)).act a).st.opn = on at *
        generalize (((started pool).acts (l.take k)).act a).st.part.length = pl at *
        have hr1 : (r : Int) ≤ 1 + (pick pool 64 : Nat) := by omega
        go_wp2_with (go_at_call 11; refine (pick_any _ _ _ h1 h2 (by decide) (by decide)).mono ?_; rintro e w' ⟨rfl, rfl⟩)
        obtain ⟨hh5, hF5, hB5⟩ := HPP.out
        obtain ⟨hb3, hb4⟩ := HR.out
        refine ⟨⟨k + 1, G2, vo2, vt2, by omega, rfl, by go_num, House.below api hh5 (Below.alloc (Below.refl _ _) (Nat.le_refl _) _), hF5, ?_⟩, by simp [intOf]; omega⟩
        have s3 := hb3.size
        have s4 := hb4.size
        have s5 := hB5.size
        exact ((hB5.trans (hb3.mono (by omega))).trans (hb4.mono (by omega))).alloc (by omega) _
      · have HN := Hid.mk hB
        clear hh hF hB hcs
        go_wp2_with fail
        go_ret
        exact ⟨rfl, HN.out⟩

end Go.Proofs.Ytphkchjejbffeaa

/- The law Shut, out of what the calls do. -/
namespace Go.Proofs.Ytphkchjejbffeaa
open Go.RowKit
attribute [local go_sem ↓] Go.wp_at_zero Go.wp_at_succ

theorem feed_closed (l : List UInt8) : ∀ st : St, st.opn = false → st.feed l = st := by
  induction l with
  | nil => intro st _; rfl
  | cons c l ih =>
    intro st h
    have : st.step c = st := by
      unfold St.step
      rw [if_neg (by rw [h]; decide)]
    show (st.step c).feed l = st
    rw [this]
    exact ih st h

/-- Closed. -/
def St.shutAt (st : St) : St := st.shut.told
theorem feed_letter (st : St) (c : UInt8) (ho : st.opn = true) (hp : st.part = []) (h1 : c ≠ 69) (h2 : c ≠ 82) (h3 : c ≠ 67) : st.feed [c] = st.shut := by
  have hs : sizeOf c = 1 := by unfold sizeOf; rw [if_neg h1, if_neg h2, if_neg h3]
  rw [feed_whole [c] st ho hp (by show 1 = sizeOf c; rw [hs]) (by simp)]
  unfold St.act
  have e : byteAt [c] 0 = c := rfl
  rw [e, if_neg h1, if_neg h2, if_neg h3]

theorem shut_ans (st : St) (h : st.ans = []) : st.shut.ans = 90 :: enc st.time 6 := by
  show st.ans ++ (90 :: enc st.time 6) = _
  rw [h]; rfl

theorem view_shut (st : St) (hp : st.part = []) : viewOf st.shut.told.told.taped = .agg #[.int .i64 st.time, .int .i64 st.resting, .bool false, .int .i64 0] := by
  show Value.agg #[.int .i64 st.time, .int .i64 st.resting, .bool false, .int .i64 st.part.length] = _
  rw [hp]; rfl

theorem rests_inv {At : World → Nat → (Nat → Prop) → St → Prop} (api : Api At) {hb b : Nat} {G : Nat → Prop} {vo vt : Value} {st : St} {out tape : List UInt8} (w : World)
    (hh : House At w hb b G vo vt st out tape) (hi : Inv st) (hs : st.stocks = 3) (hl : st.levels = 10) :
    Calls Try.prog 19 #[.pointer (some ⟨hb, 0, none⟩)] w fun e w' => ∃ v, e = .returned (.tuple #[v, .bool true]) ∧
      w'.ownsRow w.heap.size 46 6 v st.resting (st.all.flatMap Ord.cells) ∧ Below w.heap.size w w' := by
  have hbook : ∀ s, s < 3 → BookOk s (st.book s) ∧ (st.book s).length ≤ 1000 := by
    intro s hs'
    refine ⟨⟨?_, ?_⟩, ?_⟩
    · intro i y hy
      have := book_each hi s y (List.mem_of_getElem? hy)
      rw [hl] at this
      exact this
    · intro i f q y hf hq hy
      exact book_pair hi s i f q y hf hq hy
    · have h1 := hi.room
      have h2 := hi.pool
      unfold St.resting at h1
      rw [all3 _ hs] at h1
      simp only [List.length_append] at h1
      have : s = 0 ∨ s = 1 ∨ s = 2 := by omega
      rcases this with rfl | rfl | rfl <;> omega
  exact rests_any api hb b G vo vt st w hh.cell hh.at_ hs (fun s hs => (hbook s hs).1) (fun s hs => (hbook s hs).2)

theorem House.below' {At : World → Nat → (Nat → Prop) → St → Prop} (api : Api At) {w w' : World} {hb b : Nat} {G : Nat → Prop} {vo vt : Value} {st : St} {out tape : List UInt8}
    (h : House At w hb b G vo vt st out tape) (hB : Below w.heap.size w w') : House At w' hb b G vo vt st out tape :=
  h.step (api.below h.at_ hB) (Fr.of_below hB G) (fun _ hk => .inl hk)

/-- Acts in memory, in one form. -/
theorem ActsAt.form {w : World} {v : Value} {l : List Act} (h : ActsAt w v l) : ∃ ra rc, v = .slice ra l.length rc ∧ l.length ≤ 9223372036854775807 ∧
    ∀ (i : Nat) (a : Act), l[i]? = some a → a.ok ∧ ∃ g o, ra = some ⟨g, o, none⟩ ∧ g < w.heap.size ∧ ∀ (j : Nat) (u : Value), a.cells[j]? = some u → w.cell? ⟨g, o + i * 7 + j, none⟩ = some u := by
  rcases h with ⟨ra, rc, rfl, rfl⟩ | ⟨g, o, cap, rfl, h1, h2, h3⟩
  · exact ⟨ra, rc, rfl, by simp, fun i a h => by simp at h⟩
  · exact ⟨_, cap, rfl, h2, fun i a hi => ⟨(h3 i a hi).1, g, o, rfl, h1, (h3 i a hi).2⟩⟩

set_option maxRecDepth 100000 in
set_option maxHeartbeats 4000000 in
theorem shut_any {At : World → Nat → (Nat → Prop) → St → Prop} (api : Api At) (pool : Int) (v : Value) (l : List Act) (letter c : UInt8) (vm : Value) (more : List Act) (w : World) (h1 : -9223372036854775808 ≤ pool) (h2 : pool ≤ 9223372036854775807)
    (hl : ActsAt w v l) (hn : l.length ≤ 2600000000000) (hm : ActsAt w vm more)
    (hsel : (letter = 69 ∧ c = 101) ∨ (letter = 82 ∧ c = 101) ∨ (letter = 67 ∧ c = 101) ∨ ((letter ≠ 69 ∧ letter ≠ 82 ∧ letter ≠ 67) ∧ c = letter)) :
    Calls Try.prog 5 #[.int .i64 pool, v, .int .u8 letter.toNat, vm] w fun e w' => e = .returned (.bool true) ∧ Below w.heap.size w w' := by
  have gd := Good.acts l (good_started pool)
  rw [Nat.zero_add] at gd
  have hls := gd.lens
  have hbig : big = 70368744177664 := rfl
  have HA := Hid.mk (acts_any api pool v l w h1 h2 hl (by rw [hbig]; omega) (by rw [hbig]; omega))
  have hc : c ≠ 69 ∧ c ≠ 82 ∧ c ≠ 67 := by
    rcases hsel with ⟨-, rfl⟩ | ⟨-, rfl⟩ | ⟨-, rfl⟩ | ⟨h, rfl⟩
    · decide
    · decide
    · decide
    · exact h
  have HC := Hid.mk hc
  have HG := Hid.mk gd
  have HM := Hid.mk hm
  clear hl hn hls hbig gd hc hm
  generalize hX : (started pool).acts l = x at *
  have HX := Hid.mk hX
  clear hX
  have hbit : ∀ u : UInt8, letter ≠ u → (((letter.toNat : Int)) == (u.toNat : Int)) = false := by
    intro u hu
    rw [beq_eq_false_iff_ne]
    intro e
    exact hu (UInt8.toNat_inj.1 (by omega))
  have hsel' : (letter = 69 ∧ c = 101) ∨ (letter = 82 ∧ c = 101) ∨ (letter = 67 ∧ c = 101) ∨ ((((letter.toNat : Int)) == 69) = false ∧ (((letter.toNat : Int)) == 82) = false ∧ (((letter.toNat : Int)) == 67) = false ∧ c = letter) := by
    rcases hsel with h | h | h | ⟨h, h'⟩
    · exact .inl h
    · exact .inr (.inl h)
    · exact .inr (.inr (.inl h))
    · exact .inr (.inr (.inr ⟨hbit 69 h.1, hbit 82 h.2.1, hbit 67 h.2.2, h'⟩))
  clear hsel hbit
  have hcv : ∃ cv : Int, cv = (c.toNat : Int) ∧ ((letter = 69 ∧ cv = 101) ∨ (letter = 82 ∧ cv = 101) ∨ (letter = 67 ∧ cv = 101) ∨ ((((letter.toNat : Int)) == 69) = false ∧ (((letter.toNat : Int)) == 82) = false ∧ (((letter.toNat : Int)) == 67) = false ∧ cv = letter.toNat)) := by
    refine ⟨_, rfl, ?_⟩
    rcases hsel' with ⟨h, rfl⟩ | ⟨h, rfl⟩ | ⟨h, rfl⟩ | ⟨n1, n2, n3, rfl⟩
    · exact .inl ⟨h, rfl⟩
    · exact .inr (.inl ⟨h, rfl⟩)
    · exact .inr (.inr (.inl ⟨h, rfl⟩))
    · exact .inr (.inr (.inr ⟨n1, n2, n3, rfl⟩))
  obtain ⟨cv, hcv, hsel2⟩ := hcv
  have HCV := Hid.mk hcv
  clear hcv hsel'
  rcases hsel2 with ⟨rfl, rfl⟩ | ⟨rfl, rfl⟩ | ⟨rfl, rfl⟩ | ⟨n1, n2, n3, rfl⟩
  all_goals
    go_enter Try.func5, Try.ntmps5
    go_wp2_with fail
    refine HA.out.mono ?_
    rintro e w1 ⟨hb, b, G, vo, vt, rfl, hh, hF, hB⟩
    have HN := Hid.mk (And.intro hh (And.intro hF hB))
    clear hh hF hB
    go_wp2_with fail
    refine (rests_good api w1 HN.out.1 HG.out).mono ?_
    rintro e w2 ⟨vw, rfl, how, hb2⟩
    obtain ⟨rw_, cw, rfl, -, -⟩ := ownsRow_len how
    have hh2 := House.below api HN.out.1 hb2
    obtain ⟨d0, -⟩ := cells3 hh2.cell
    have HW := Hid.mk (And.intro how hb2)
    have HH2 := Hid.mk hh2
    clear how hb2 hh2
    have hbl : hb < w2.heap.size := (Array.getElem?_eq_some_iff.1 HH2.out.cell).1
    have hfl : x.st.feed [c] = x.st.shut := feed_letter x.st c HG.out.opn HG.out.part HC.out.1 HC.out.2.1 HC.out.2.2
    have hsa : x.st.shut.ans = 90 :: enc x.st.time 6 := shut_ans x.st HG.out.ans
    have hst : x.st.shut.tape = [] := HG.out.tape
    go_wp2_with fail
    have hbA := fun o : Obj => Below.alloc (Below.refl w2.heap.size w2) (Nat.le_refl _) o
    have hh2' := fun o : Obj => House.below' api HH2.out (hbA o)
    have hGl := api.lt HH2.out.at_
    refine (api.feed b G x.st _ [c] _ (hh2' _).at_ (rd_one w2 c _ HCV.out G (fun h => by have := hGl _ h; omega)) (by rw [hfl, hsa]; simp [enc_length, big]) (by rw [hfl, hst]; simp [big])).mono ?_
    rintro e w3 ⟨G3, rfl, hat3, hG3, hfr3⟩
    rw [hfl] at hat3
    have hh3 := (hh2' _).step hat3 hfr3 hG3
    obtain ⟨d1, -⟩ := cells3 hh3.cell
    have HS3 := Hid.mk (And.intro hh3 (And.intro hG3 (And.intro hfr3 hbA)))
    have HSA := Hid.mk (And.intro hsa hst)
    clear hh2' hGl hat3 hG3 hfr3 hh3 d0 hfl hsa hst hbA
    go_wp2_with fail
    refine (api.answers b G3 _ w3 HS3.out.1.at_).mono ?_
    rintro e w4 ⟨va, G4, rfl, hoa, hat4, hG4, hva, hfr4⟩
    have hh4 := HS3.out.1.step hat4 hfr4 hG4
    obtain ⟨d2, -⟩ := cells3 hh4.cell
    obtain ⟨ra, ca, rfl, -, -⟩ := hoa.len
    have HS4 := Hid.mk (And.intro hh4 (And.intro hG4 (And.intro hfr4 (And.intro hoa hva))))
    clear hat4 hG4 hfr4 hh4 hoa hva d1
    rw [show x.st.shut.ans.length = 7 from by rw [HSA.out.1]; simp [enc_length]]
    obtain ⟨rm, cm, rfl, hml, hmc⟩ := HM.out.form
    have HMC := Hid.mk hmc
    have hGw : ∀ k, G4 k → w.heap.size ≤ k := by
      intro k hk
      obtain ⟨-, hF, hB⟩ := HN.out
      obtain ⟨-, hb2⟩ := HW.out
      obtain ⟨-, hG3, hfr3, hbA⟩ := HS3.out
      have y1 := hB.size
      have y2 := hb2.size
      have y3 := hfr3.size
      rw [size_alloc] at y3 hG3
      rcases HS4.out.2.1 k hk with h | h
      · rcases hG3 k h with h | h
        · exact hF k (.inr (.inl h))
        · omega
      · omega
    have hBw4 : Below w.heap.size w w4 := by
      obtain ⟨-, hF, hB⟩ := HN.out
      obtain ⟨-, hb2⟩ := HW.out
      obtain ⟨-, hG3, hfr3, hbA⟩ := HS3.out
      obtain ⟨-, hG4, hfr4, -⟩ := HS4.out
      have y1 := hB.size
      have y2 := hb2.size
      have y3 := hfr3.size
      rw [size_alloc] at y3 hG3
      have a1 : Below w.heap.size w w2 := hB.trans (hb2.mono y1)
      have a3 : Below w.heap.size w w3 := Below.trans (a1.trans ((hbA _).mono (by omega))) (hfr3.below (by rw [size_alloc]; omega) (fun k h => hF k (.inr (.inl h))))
      refine a3.trans (hfr4.below (by omega) (fun k h => ?_))
      rcases hG3 k h with h | h
      · exact hF k (.inr (.inl h))
      · omega
    have HGW := Hid.mk (And.intro hGw hBw4)
    clear hmc hGw hBw4 HM HX d2
    go_wp2_with fail
    go_loopw [14] (fun i wr => ∃ (j : Nat) (G' : Nat → Prop), j ≤ more.length ∧ i = .int .i64 j ∧ House At wr hb b G' vo vt x.st.shut.told x.out x.tape ∧ (∀ k, G' k → G4 k ∨ w4.heap.size ≤ k) ∧ Fr G4 w4 wr) (fun i _ => more.length - (intOf i).toNat)
    case atStart => exact ⟨0, G4, Nat.zero_le _, rfl, HS4.out.1, fun k h => .inl h, Fr.refl _ _⟩
    case round =>
      obtain ⟨j, G', hj, rfl, hh, hG', hfr⟩ := hrel
      by_cases hlt : j < more.length
      · obtain ⟨a, hka⟩ : ∃ a, more[j]? = some a := ⟨_, List.getElem?_eq_getElem hlt⟩
        obtain ⟨hok, g, o, rfl, hg, hcs⟩ := HMC.out j a hka
        have hBr : Below w.heap.size w wr := HGW.out.2.trans (hfr.below HGW.out.2.size HGW.out.1)
        obtain ⟨d0, d1, d2, d3, d4, d5, d6⟩ := act_cells a (w := wr) (g := g) (o := o + j * 7) (fun t u hu => (hBr.cell (p := ⟨g, o + j * 7 + t, none⟩) hg).trans (hcs t u hu))
        obtain ⟨dh, -⟩ := cells3 hh.cell
        have hbr : hb < wr.heap.size := (Array.getElem?_eq_some_iff.1 hh.cell).1
        have hgr : g < wr.heap.size := Nat.lt_of_lt_of_le hg hBr.size
        have i1 : (0 : Int) ≤ (j : Int) := by omega
        have i2 : (j : Int) < (more.length : Int) := by omega
        have hcl : x.st.shut.told.feed a.message = x.st.shut.told := feed_closed _ _ rfl
        have hmsg := fun w => message_any a w hok
        generalize a.message = M at *
        obtain ⟨kind, token, other, side, stock, price, shares⟩ := a
        simp only [Act.cells] at *
        have HMsg := Hid.mk hmsg
        have nG : ¬ G' g := fun h => by
          rcases hG' g h with h | h
          · have := HGW.out.1 g h; omega
          · have := HGW.out.2.size; omega
        have nH := hh.hG
        have hat := api.keep (w' := wr.drew) hh.at_ (fun k hk => rfl)
        have ltG := api.lt hh.at_
        have HL := Hid.mk (And.intro hh (And.intro hG' (And.intro hfr hcl)))
        clear hmsg hh hG' hfr hcl hBr hcs hka
        go_wp2_with fail
        go_region_held3 (fun w' => w'.cell? ⟨hb, 0, none⟩ = some (.pointer (some ⟨b, 0, none⟩)) ∧ w'.cell? ⟨g, o + j * 7, none⟩ = some (.int .i64 kind) ∧ w'.cell? ⟨g, o + j * 7 + 1, none⟩ = some (.int .i64 token) ∧ w'.cell? ⟨g, o + j * 7 + 2, none⟩ = some (.int .i64 other) ∧ w'.cell? ⟨g, o + j * 7 + 3, none⟩ = some (.int .i64 side) ∧ w'.cell? ⟨g, o + j * 7 + 4, none⟩ = some (.int .i64 stock) ∧ w'.cell? ⟨g, o + j * 7 + 5, none⟩ = some (.int .i64 price) ∧ w'.cell? ⟨g, o + j * 7 + 6, none⟩ = some (.int .i64 shares))
          (first | exact m1 | exact p1 | go_keep)
          (first
            | (go_at_call 21; refine (HMsg.out _).mono ?_; rintro e w5 ⟨v5, rfl, hov, hb5⟩; have p1 : w5.cell? ⟨hb, 0, none⟩ = some (.pointer (some ⟨b, 0, none⟩)) ∧ w5.cell? ⟨g, o + j * 7, none⟩ = some (.int .i64 kind) ∧ w5.cell? ⟨g, o + j * 7 + 1, none⟩ = some (.int .i64 token) ∧ w5.cell? ⟨g, o + j * 7 + 2, none⟩ = some (.int .i64 other) ∧ w5.cell? ⟨g, o + j * 7 + 3, none⟩ = some (.int .i64 side) ∧ w5.cell? ⟨g, o + j * 7 + 4, none⟩ = some (.int .i64 stock) ∧ w5.cell? ⟨g, o + j * 7 + 5, none⟩ = some (.int .i64 price) ∧ w5.cell? ⟨g, o + j * 7 + 6, none⟩ = some (.int .i64 shares) := ⟨(hb5.cell (p := ⟨hb, 0, none⟩) hbr).trans dh, (hb5.cell (p := ⟨g, o + j * 7, none⟩) hgr).trans d0, (hb5.cell (p := ⟨g, o + j * 7 + 1, none⟩) hgr).trans d1, (hb5.cell (p := ⟨g, o + j * 7 + 2, none⟩) hgr).trans d2, (hb5.cell (p := ⟨g, o + j * 7 + 3, none⟩) hgr).trans d3, (hb5.cell (p := ⟨g, o + j * 7 + 4, none⟩) hgr).trans d4, (hb5.cell (p := ⟨g, o + j * 7 + 5, none⟩) hgr).trans d5, (hb5.cell (p := ⟨g, o + j * 7 + 6, none⟩) hgr).trans d6⟩; have hat5 := api.below hat hb5)
            | (go_at_call 12; refine (api.feed b G' _ v5 M _ hat5 (hov.rd (fun g hg h => by have := ltG _ h; have := (hov.lt g hg).1; change wr.heap.size ≤ g at this; omega)) (by rw [HL.out.2.2.2]; exact Nat.zero_le _) (by rw [HL.out.2.2.2]; show x.st.shut.tape.length ≤ big; rw [HSA.out.2]; exact Nat.zero_le _)).mono ?_; rintro e w6 ⟨G6, rfl, hat6, hG6, hfr6⟩; have m1 : w6.cell? ⟨hb, 0, none⟩ = some (.pointer (some ⟨b, 0, none⟩)) ∧ w6.cell? ⟨g, o + j * 7, none⟩ = some (.int .i64 kind) ∧ w6.cell? ⟨g, o + j * 7 + 1, none⟩ = some (.int .i64 token) ∧ w6.cell? ⟨g, o + j * 7 + 2, none⟩ = some (.int .i64 other) ∧ w6.cell? ⟨g, o + j * 7 + 3, none⟩ = some (.int .i64 side) ∧ w6.cell? ⟨g, o + j * 7 + 4, none⟩ = some (.int .i64 stock) ∧ w6.cell? ⟨g, o + j * 7 + 5, none⟩ = some (.int .i64 price) ∧ w6.cell? ⟨g, o + j * 7 + 6, none⟩ = some (.int .i64 shares) := ⟨hfr6.cell p1.1 nH, hfr6.cell p1.2.1 nG, hfr6.cell p1.2.2.1 nG, hfr6.cell p1.2.2.2.1 nG, hfr6.cell p1.2.2.2.2.1 nG, hfr6.cell p1.2.2.2.2.2.1 nG, hfr6.cell p1.2.2.2.2.2.2.1 nG, hfr6.cell p1.2.2.2.2.2.2.2 nG⟩))
        obtain ⟨hh, hG', hfr, hcl⟩ := HL.out
        rw [hcl] at hat6
        have hF6 : Fr G' wr w6 := ((Fr.drew G' wr).then (Fr.of_below hb5 G')).then hfr6
        have z5 : wr.heap.size ≤ w5.heap.size := hb5.size
        have z4 := hfr.size
        have hh6 := hh.step hat6 hF6 (fun k hk => by
          rcases hG6 k hk with h | h
          · exact .inl h
          · right; omega)
        have hG7 : ∀ k, G6 k → G4 k ∨ w4.heap.size ≤ k := fun k hk => by
          rcases hG6 k hk with h | h
          · exact hG' k h
          · right; omega
        have hF7 : Fr G4 w4 w6 := hfr.trans hF6 (fun k hk h => by
          rcases hG' k h with h | h
          · exact h
          · omega)
        have HP := Hid.mk (And.intro hh6 (And.intro hG7 hF7))
        clear hh hG' hfr hcl hat6 hF6 z5 z4 hh6 hG7 hF7 hG6 hfr6 hat5 hb5 hov hat ltG nG nH HL HMsg d0 d1 d2 d3 d4 d5 d6 dh p1 m1
        go_wp2_with fail
        exact ⟨⟨j + 1, G6, by omega, by go_num, HP.out.1, HP.out.2.1, HP.out.2.2⟩, by simp [intOf]; omega⟩
      · obtain ⟨dh, -⟩ := cells3 hh.cell
        have HL := Hid.mk (And.intro hh (And.intro hG' hfr))
        clear hh hG' hfr
        go_wp2_with fail
        refine (api.answers b G' _ wr HL.out.1.at_).mono ?_
        rintro e w5 ⟨v5, G5, rfl, ho5, hat5, hG5, hv5, hfr5⟩
        have hh5 := HL.out.1.step hat5 hfr5 hG5
        obtain ⟨d5, -⟩ := cells3 hh5.cell
        obtain ⟨r5, c5, rfl, -, -⟩ := ho5.len
        rw [show x.st.shut.told.ans.length = 0 from rfl]
        have HL5 := Hid.mk (And.intro hh5 (And.intro hG5 hfr5))
        clear ho5 hat5 hG5 hv5 hfr5 hh5 dh
        go_wp2_with fail
        refine (api.tape b G5 _ w5 HL5.out.1.at_).mono ?_
        rintro e w6 ⟨v6, G6, rfl, ho6, hat6, hG6, hv6, hfr6⟩
        have hh6 := HL5.out.1.step hat6 hfr6 hG6
        obtain ⟨r6, c6, rfl, -, -⟩ := ho6.len
        rw [show x.st.shut.told.told.tape.length = 0 from by show x.st.shut.tape.length = 0; rw [HSA.out.2]; rfl]
        have HL6 := Hid.mk (And.intro hh6 (And.intro hG6 hfr6))
        clear ho6 hat6 hG6 hv6 hfr6 hh6 d5
        go_wp2_with fail
        have hinv : Inv x.st.shut.told.told.taped := (((HG.out.inv.of_q (st' := x.st.shut) rfl rfl rfl rfl (fun _ h => h) HG.out.inv.refs HG.out.inv.mats HG.out.inv.time).told).told).taped
        refine (rests_inv api w6 HL6.out.1 hinv HG.out.stocks HG.out.levels).mono ?_
        rintro e w7 ⟨v7, rfl, ho7, hb7⟩
        obtain ⟨r7, c7, rfl, -, -⟩ := ownsRow_len ho7
        rw [show x.st.shut.told.told.taped.resting = x.st.all.length from rfl]
        have hh7 := House.below' api HL6.out.1 hb7
        obtain ⟨d7, -⟩ := cells3 hh7.cell
        have HL7 := Hid.mk (And.intro hh7 (And.intro ho7 hb7))
        clear ho7 hb7 hh7 hinv
        go_wp2_with fail
        refine (api.look b G6 _ w7 HL7.out.1.at_).mono ?_
        rintro e w8 ⟨rfl, hb8⟩
        rw [view_shut x.st HG.out.part]
        have htm : x.st.time < 281474976710656 := HG.out.inv.time
        have HNum : Hid (num (enc x.st.time 6) 0 = x.st.time) := by
          show _ = _
          rw [num_enc]; exact Nat.mod_eq_of_lt htm
        have keep : ∀ k, k < w4.heap.size → ¬ G4 k → w8.heap[k]? = w4.heap[k]? := by
          intro k hk hn
          obtain ⟨-, hG', hfr⟩ := HL.out
          obtain ⟨-, hG5, hfr5⟩ := HL5.out
          obtain ⟨-, hG6, hfr6⟩ := HL6.out
          obtain ⟨-, -, hb7⟩ := HL7.out
          have y1 := hfr.size
          have y2 := hfr5.size
          have y3 := hfr6.size
          have y4 := hb7.size
          have n1 : ¬ G' k := fun h => by
            rcases hG' k h with h | h
            · exact hn h
            · omega
          have n2 : ¬ G5 k := fun h => by
            rcases hG5 k h with h | h
            · exact n1 h
            · omega
          rw [hb8.block k (by omega), hb7.block k (by omega), hfr6.block k (by omega) n2, hfr5.block k (by omega) n1, hfr.block k hk hn]
        have hsz8 : w4.heap.size ≤ w8.heap.size := by
          obtain ⟨-, -, hfr⟩ := HL.out
          obtain ⟨-, -, hfr5⟩ := HL5.out
          obtain ⟨-, -, hfr6⟩ := HL6.out
          obtain ⟨-, -, hb7⟩ := HL7.out
          have y1 := hfr.size
          have y2 := hfr5.size
          have y3 := hfr6.size
          have y4 := hb7.size
          have y5 := hb8.size
          omega
        obtain ⟨ga, hra, hgal, hAl⟩ : ∃ ga, ra = some ⟨ga, 0, none⟩ ∧ ga < w8.heap.size ∧ Lies w8 ga 0 (90 :: enc x.st.time 6) := by
          obtain ⟨-, -, -, hoa, hva⟩ := HS4.out
          have hoa8 : Own w8 0 (.slice ra x.st.shut.ans.length ca) x.st.shut.ans := hoa.keep (fun g hg => keep g (hoa.lt g hg).2 (hva g hg).2)
          rcases hoa8.rd (F := fun _ => False) (fun _ _ h => h) with ⟨-, h⟩ | ⟨g, o, cap, h, hl, -, -, -, hgl⟩
          · rw [HSA.out.1] at h; cases h
          · rcases hoa8.2 with ⟨-, h'⟩ | ⟨g', cap', cur', h', -⟩
            · rw [HSA.out.1] at h'; simp at h'
            · simp only [Value.slice.injEq] at h h'
              rw [h'.1] at h
              simp only [Option.some.injEq, Addr.mk.injEq] at h
              obtain ⟨⟨rfl, rfl, -⟩, -⟩ := h
              rw [HSA.out.1] at hl
              exact ⟨_, h'.1, hgl, hl⟩
        subst hra
        have hca : 7 ≤ ca := by
          obtain ⟨-, -, -, hoa, -⟩ := HS4.out
          rcases hoa.2 with ⟨h', -⟩ | ⟨g', cap', cur', h', -, -, hle, -⟩
          · simp at h'
          · simp only [Value.slice.injEq] at h'
            rw [← h'.2.2, HSA.out.1] at hle
            simpa [enc_length] using hle
        have hwas : w8.ownsRow 0 46 6 (.slice rw_ x.st.resting cw) x.st.resting (x.st.all.flatMap Ord.cells) := by
          obtain ⟨how, hb2⟩ := HW.out
          obtain ⟨-, hG3, hfr3, -⟩ := HS3.out
          obtain ⟨-, hG4, hfr4, -⟩ := HS4.out
          obtain ⟨hh1, -, -⟩ := HN.out
          rw [size_alloc] at hG3
          have y3 := hfr3.size
          rw [size_alloc] at y3
          have y4 := hfr4.size
          refine ownsRow_base (ownsRow_keep how (fun g hg => ?_)) (Nat.zero_le _)
          obtain ⟨hg1, hg2⟩ := how.lt g hg
          have n0 : ¬ G g := fun h => by have := api.lt hh1.at_ g h; omega
          have n3 : ¬ G3 g := fun h => by
            rcases hG3 g h with h | h
            · exact n0 h
            · omega
          have n4 : ¬ G4 g := fun h => by
            rcases hG4 g h with h | h
            · exact n3 h
            · omega
          rw [keep g (by omega) n4, hfr4.block g (by omega) n3, hfr3.block g (by rw [size_alloc]; omega) n0, heap_alloc, if_neg (by omega)]
        have his : w8.ownsRow 0 46 6 (.slice r7 x.st.resting c7) x.st.resting (x.st.all.flatMap Ord.cells) := by
          obtain ⟨-, ho7, hb7⟩ := HL7.out
          exact ownsRow_base (ownsRow_keep ho7 (fun g hg => hb8.block g (ho7.lt g hg).2)) (Nat.zero_le _)
        have hBw : Below w.heap.size w w8 := by
          obtain ⟨hGw, hBw4⟩ := HGW.out
          obtain ⟨-, hG', hfr⟩ := HL.out
          obtain ⟨-, hG5, hfr5⟩ := HL5.out
          obtain ⟨-, hG6, hfr6⟩ := HL6.out
          obtain ⟨-, -, hb7⟩ := HL7.out
          have y0 := hBw4.size
          have y1 := hfr.size
          have y2 := hfr5.size
          have y3 := hfr6.size
          have y4 := hb7.size
          have g1 : ∀ k, G' k → w.heap.size ≤ k := fun k h => by
            rcases hG' k h with h | h
            · exact hGw k h
            · omega
          have g2 : ∀ k, G5 k → w.heap.size ≤ k := fun k h => by
            rcases hG5 k h with h | h
            · exact g1 k h
            · omega
          exact ((((hBw4.trans (hfr.below y0 hGw)).trans (hfr5.below (by omega) g1)).trans (hfr6.below (by omega) g2)).trans (hb7.mono (by omega))).trans (hb8.mono (by omega))
        have HF8 := Hid.mk (And.intro hwas (And.intro his hBw))
        have a0 : w8.cell? ⟨ga, 0, none⟩ = some (.int .u8 90) := hAl 0 90 rfl
        have HAl := Hid.mk hAl
        clear keep hsz8 hAl hwas his hBw hb8 d7 htm
        generalize x.st.time = tm at *
        have hLl : x.st.all.length ≤ 64 := by
          have q1 := HG.out.inv.room
          have q2 := HG.out.inv.pool
          unfold St.resting at q1
          omega
        rw [show x.st.resting = x.st.all.length from rfl] at *
        have HF9 : Hid (w8.ownsRow 0 46 6 (.slice rw_ x.st.all.length cw) x.st.all.length (x.st.all.flatMap Ord.cells) ∧ w8.ownsRow 0 46 6 (.slice r7 x.st.all.length c7) x.st.all.length (x.st.all.flatMap Ord.cells) ∧ Below w.heap.size w w8) := HF8
        clear HF8 HW HL7 HL6 HL5 HL HS4 HS3 HH2 HN HA HMC HGW
        generalize x.st.all = L at *
        go_wp2_with fail
        have hval : ∀ n, Calls Try.prog 16 #[.slice (some ⟨ga, 1, none⟩) 6 (ca - 1)] (((w8.alloc (.cells #[.int .i64 tm, .int .i64 L.length, .bool false, .int .i64 0] 37))).drewN n) fun e w' => e = .returned (.int .i64 tm) ∧ w' = ((w8.alloc (.cells #[.int .i64 tm, .int .i64 L.length, .bool false, .int .i64 0] 37))).drewN n := by
          intro n
          have hl : Lies (((w8.alloc (.cells #[.int .i64 tm, .int .i64 L.length, .bool false, .int .i64 0] 37))).drewN n) ga 1 (enc tm 6) := by
            have h1 := (HAl.out.drop 1).keep (w' := ((w8.alloc (.cells #[.int .i64 tm, .int .i64 L.length, .bool false, .int .i64 0] 37))).drewN n) (by
              show (w8.alloc _).heap[ga]? = _
              rw [heap_alloc, if_neg (by omega)])
            exact h1
          have := val_any ga 1 (ca - 1) (enc tm 6) _ (by rw [enc_length]; omega) hl
          rw [enc_length, HNum.out] at this
          exact this
        have HVal := Hid.mk hval
        clear hval
        have j1 : (1 : Int) ≤ 7 := by omega
        have j2 : (7 : Int) ≤ (ca : Int) := by omega
        go_quiet ((go_at_call 16; exact Calls.quiet_of_same (HVal.out _)))
        go_wp2_with fail
        go_loopw [20] (fun i w9 => ∃ k : Nat, k ≤ L.length ∧ i = .int .i64 k ∧ Below w8.heap.size w8 w9) (fun i _ => L.length - (intOf i).toNat)
        case atStart => exact ⟨0, Nat.zero_le _, rfl, below_drewN ((Below.refl _ _).alloc (Nat.le_refl _) _) _⟩
        case round =>
          obtain ⟨k, hk, rfl, hB9⟩ := hrel
          by_cases hkl : k < L.length
          · obtain ⟨hw1, hw2, -⟩ := HF9.out
            obtain ⟨g1, rfl, hg1, hc1⟩ := row_orders hw1 (by omega)
            obtain ⟨g2, rfl, hg2, hc2⟩ := row_orders hw2 (by omega)
            obtain ⟨y, hy⟩ : ∃ y, L[k]? = some y := ⟨_, List.getElem?_eq_getElem hkl⟩
            obtain ⟨b0, b1, b2, b3, b4, b5⟩ := ord_cells y hB9 hg1 (hc1 k y hy)
            obtain ⟨e0, e1, e2, e3, e4, e5⟩ := ord_cells y hB9 hg2 (hc2 k y hy)
            obtain ⟨ref, token, side, stock, price, shares⟩ := y
            simp only at b0 b1 b2 b3 b4 b5 e0 e1 e2 e3 e4 e5
            have i3 : (0 : Int) ≤ (k : Int) := by omega
            have i4 : (k : Int) < (L.length : Int) := by omega
            have HB9 := Hid.mk hB9
            clear hw1 hw2 hc1 hc2 hy hB9
            go_wp2_with fail
            go_quiet (fail)
            go_wp2_with fail
            exact ⟨⟨k + 1, by omega, by go_num, below_drewN HB9.out _⟩, by simp [intOf]; omega⟩
          · have HB9 := Hid.mk hB9
            clear hB9
            go_wp2_with fail
            go_ret
            exact ⟨rfl, HF9.out.2.2.trans (HB9.out.mono HF9.out.2.2.size)⟩

end Go.Proofs.Ytphkchjejbffeaa

/- Orders that may not be: what the document answers. -/
namespace Go.Proofs.Ytphkchjejbffeaa

theorem does_used (st : St) (a : Act) (t : Nat) (h : t ∈ st.used) : t ∈ (st.does a).used := by
  rcases grew_does st a with ⟨-, e⟩ | ⟨u, -, -, e, -⟩
  · rw [e]; exact h
  · rw [e]; exact List.mem_cons_of_mem _ h
theorem run_act_used {p n : Nat} {x : Run} (g : Good p n x) (a : Act) (t : Nat) (h : t ∈ x.st.used) : t ∈ (x.act a).st.used := by
  unfold Run.act
  split
  · exact h
  · show t ∈ (x.st.feed a.message).used
    rw [feed_message x.st a g.opn g.part]
    exact does_used _ _ _ h
theorem acts_used {p : Nat} (l : List Act) : ∀ {n : Nat} {x : Run}, Good p n x → ∀ t ∈ x.st.used, t ∈ (x.acts l).st.used := by
  induction l with
  | nil => intro n x _ t h; exact h
  | cons a l ih =>
    intro n x g t h
    show t ∈ ((x.act a).acts l).st.used
    exact ih (g.act a) t (run_act_used g a t h)
theorem started_used (pool : Int) : (started pool).st.used = [1001, 1000] := by
  have := pick_lt pool 64 (by omega)
  exact (open_used (1 + pick pool 64) (by omega) (by omega)).1

/-- Why the order is rejected. -/
def wrongQ (T : Nat) (sd : UInt8) (stk p sh : Nat) (kd : UInt8) : UInt8 :=
  if T ≠ 2000 then 68 else if sd ≠ 66 ∧ sd ≠ 83 then 66 else if 3 ≤ stk then 83 else if p < 1 ∨ 10 < p then 80 else if sh < 1 ∨ 9999 < sh then 81 else if kd ≠ 68 ∧ kd ≠ 73 then 75 else 0

theorem why_wrong {p n : Nat} {x : Run} (g : Good p n x) (h1 : 1000 ∈ x.st.used) (h2 : 1001 ∈ x.st.used) (T : Nat) (sd : UInt8) (stk pr sh : Nat) (kd : UInt8) (hT : T = 2000 ∨ T = 1000 ∨ T = 1001)
    (h0 : wrongQ T sd stk pr sh kd ≠ 0) : x.st.why T sd stk pr sh kd = some (wrongQ T sd stk pr sh kd) := by
  unfold St.why wrongQ at *
  rw [g.stocks, g.levels]
  have hn : 2000 ∉ x.st.used := fun h => by have := g.tok _ h; unfold Tok at this; omega
  rcases hT with rfl | rfl | rfl
  · have e2 : ¬ ((2000 : Nat) ≠ 2000) := fun h => h rfl
    rw [if_neg e2] at h0
    rw [if_neg hn, if_neg e2]
    split
    · rfl
    · split
      · rfl
      · split
        · rfl
        · split
          · rfl
          · split
            · rfl
            · rename_i a1 a2 a3 a4 a5
              rw [if_neg a1, if_neg a2, if_neg a3, if_neg a4, if_neg a5] at h0
              exact absurd rfl h0
  · rw [if_pos h1, if_pos (by decide)]
  · rw [if_pos h2, if_pos (by decide)]

theorem refused_feed {p n : Nat} {x : Run} (g : Good p n x) (h1 : 1000 ∈ x.st.used) (h2 : 1001 ∈ x.st.used) (T : Nat) (sd : UInt8) (stk pr sh : Nat) (kd : UInt8) (hT : T = 2000 ∨ T = 1000 ∨ T = 1001)
    (hk : stk < 256) (hp : pr < 65536) (hs : sh < 65536)
    (h0 : wrongQ T sd stk pr sh kd ≠ 0) : x.st.feed (enterMsg T sd (UInt8.ofNat stk) pr sh kd) = x.st.reject T (wrongQ T sd stk pr sh kd) := by
  rw [feed_whole _ x.st g.opn g.part (enterMsg_ok _ _ _ _ _ _).1 (enterMsg_ok _ _ _ _ _ _).2, enterMsg_act x.st T sd (UInt8.ofNat stk) pr sh kd (by omega) hp hs,
    show (UInt8.ofNat stk).toNat = stk by simp; omega]
  unfold St.enter
  rw [why_wrong g h1 h2 T sd stk pr sh kd hT h0]

end Go.Proofs.Ytphkchjejbffeaa

/- A region that draws its order, by what each of its operations yields: whatever the order, one proof for each operation. -/
namespace Go.Proofs.Ytphkchjejbffeaa

/-- The i-th operation writes the i-th place behind lo, asks no guard, and waits for earlier ones alone. -/
def rgOne (lo i : Nat) (o : Oper) : Bool := o.dst == some (lo + i) && o.guard.isNone && o.after.all fun e => decide (e.on < i) && Region.binds .any e
/-- Every operation but the last has a later one that waits for it. -/
def rgNext (ops : Array Oper) (j : Nat) : Bool := (List.range ops.size).any fun s => decide (j < s) && ((ops[s]?).map fun o => o.after.any fun e => e.on == j).getD false
def rgShape (lo : Nat) (ops : Array Oper) : Bool :=
  (List.range ops.size).all (fun i => ((ops[i]?).map (rgOne lo i)).getD true) && (List.range (ops.size - 1)).all (rgNext ops)

theorem rg_one {lo : Nat} {ops : Array Oper} (h : rgShape lo ops = true) {i : Nat} {o : Oper} (ho : ops[i]? = some o) :
    o.dst = some (lo + i) ∧ o.guard = none ∧ ∀ e ∈ o.after, e.on < i ∧ Region.binds .any e = true := by
  have hlt : i < ops.size := (Array.getElem?_eq_some_iff.1 ho).1
  unfold rgShape at h
  rw [Bool.and_eq_true, List.all_eq_true] at h
  have h1 := h.1 i (List.mem_range.2 hlt)
  rw [ho] at h1
  simp only [Option.map_some, Option.getD_some, rgOne, Bool.and_eq_true, beq_iff_eq, Option.isNone_iff_eq_none, Array.all_eq_true_iff_forall_mem, decide_eq_true_eq] at h1
  exact ⟨h1.1.1, h1.1.2, h1.2⟩
theorem rg_next {lo : Nat} {ops : Array Oper} (h : rgShape lo ops = true) {j : Nat} (hj : j + 1 < ops.size) : ∃ s o, j < s ∧ ops[s]? = some o ∧ ∃ e ∈ o.after, e.on = j := by
  unfold rgShape at h
  rw [Bool.and_eq_true, List.all_eq_true, List.all_eq_true] at h
  have h1 := h.2 j (List.mem_range.2 (by omega))
  unfold rgNext at h1
  rw [List.any_eq_true] at h1
  obtain ⟨s, hs, h2⟩ := h1
  rw [Bool.and_eq_true, decide_eq_true_eq] at h2
  have hlt := List.mem_range.1 hs
  rw [Array.getElem?_eq_getElem hlt] at h2
  simp only [Option.map_some, Option.getD_some, Array.any_eq_true', beq_iff_eq] at h2
  obtain ⟨e, he, hej⟩ := h2.2
  exact ⟨s, ops[s], h2.1, Array.getElem?_eq_getElem hlt, e, he, hej⟩

/-- A frame: what lies ahead of the region's places, what they hold, what lies behind. -/
def RgFrame (pre vals suf : List Value) (df : List Deferred) : Go.Act := ⟨(pre ++ vals ++ suf).toArray, df⟩
theorem RgFrame.put (pre vals suf : List Value) (df : List Deferred) (i : Nat) (v : Value) (h : i < vals.length) : (RgFrame pre vals suf df).put (some (pre.length + i)) v = RgFrame pre (vals.set i v) suf df := by
  unfold RgFrame Go.Act.put
  simp only [List.setIfInBounds_toArray, Go.Act.mk.injEq, and_true]
  rw [List.append_assoc, List.set_append_right _ _ (by omega), Nat.add_sub_cancel_left, List.set_append_left _ _ h, List.append_assoc]

theorem rg_wanted {o : Oper} (h : o.guard = none) (f : Nat → Option Bool) : Region.wanted o f = true := by unfold Region.wanted; rw [h]

/-- How many have not come up. -/
def rgLeft (n : Nat) (listed : Array Bool) : Nat := ((List.range n).filter fun i => !listed.getD i true).length
theorem rgLeft_step (n : Nat) (listed : Array Bool) (i : Nat) (hi : i < n) (h : listed.getD i true = false) : rgLeft n (listed.setIfInBounds i true) < rgLeft n listed := by
  unfold rgLeft
  have hsub : ((List.range n).filter fun j => !(listed.setIfInBounds i true).getD j true).length < ((List.range n).filter fun j => !listed.getD j true).length := by
    rw [← List.countP_eq_length_filter, ← List.countP_eq_length_filter]
    have : ∀ l : List Nat, (∀ j ∈ l, j ≠ i) → l.countP (fun j => !(listed.setIfInBounds i true).getD j true) = l.countP (fun j => !listed.getD j true) := by
      intro l hl
      refine List.countP_congr fun j hj => ?_
      rw [getD_set_ne true (fun e => hl j hj e.symm)]
    have hsplit : List.range n = List.range i ++ i :: (List.range' (i + 1) (n - i - 1)) := by
      rw [List.range_eq_range', List.range_eq_range']
      have : n = i + (1 + (n - i - 1)) := by omega
      rw [this, ← List.range'_append_1, Nat.zero_add, show 1 + (n - i - 1) = (n - i - 1) + 1 by omega, List.range'_succ]
      congr 3
      omega
    rw [hsplit, List.countP_append, List.countP_append, List.countP_cons, List.countP_cons,
      this _ (fun j hj => by have := List.mem_range.1 hj; omega), this _ (fun j hj => by have := (List.mem_range'_1.1 hj).1; omega)]
    have e1 : (listed.setIfInBounds i true).getD i true = true := by
      rw [Array.getD_eq_getD_getElem?, Array.getElem?_setIfInBounds]
      split
      · split <;> rfl
      · rename_i hh; exact absurd rfl hh
    rw [e1, h]
    simp
  exact hsub

theorem wpAny_inv {P : Program} {ops : Array Oper} {Q : Exit → Go.Act → World → Prop} (I : Array Bool → Go.Act → World → Prop)
    (done : ∀ listed a w, I listed a w → Region.ready .any ops listed = [] → Q .normal a w)
    (step : ∀ listed a w, I listed a w → ∀ i ∈ Region.ready .any ops listed, wpOp P ops Q i (fun a' w' => I (listed.setIfInBounds i true) a' w') a w) :
    ∀ fuel listed a w, rgLeft ops.size listed ≤ fuel → I listed a w → wpAny P .any ops Q fuel listed a w := by
  intro fuel
  induction fuel with
  | zero =>
    intro listed a w hf hi
    have hr : Region.ready .any ops listed = [] := by
      rw [List.eq_nil_iff_forall_not_mem]
      intro j hj
      obtain ⟨h0, o, ho, -⟩ := mem_ready.1 hj
      have hlt : j < ops.size := (Array.getElem?_eq_some_iff.1 ho).1
      have := rgLeft_step ops.size listed j hlt h0
      omega
    exact ⟨hr, done _ _ _ hi hr⟩
  | succ fuel ih =>
    intro listed a w hf hi
    refine ⟨fun hr => done _ _ _ hi hr, fun i hr => ?_⟩
    refine wpOp_mono ?_ (step listed a w hi i hr)
    intro a' w' hi'
    obtain ⟨h0, o, ho, -⟩ := mem_ready.1 hr
    have hlt : i < ops.size := (Array.getElem?_eq_some_iff.1 ho).1
    have := rgLeft_step ops.size listed i hlt h0
    exact ih _ _ _ (by omega) hi'

theorem wp_region_vals {P : Program} {id : Nat} {ops : Array Oper} {Q : Exit → Go.Act → World → Prop} {pre suf vals0 : List Value} {df : List Deferred} {w : World}
    (hm : P.follows .mixedOrders = true) (hs : rgShape pre.length ops = true) (n : Nat) (hn : ops.size = n + 1) (V : Nat → Value → World → Prop) (R : World → Prop) (hv0 : vals0.length = n + 1) (hR : R w.drew)
    (step : ∀ i o, i < n → ops[i]? = some o → ∀ vals w, vals.length = n + 1 → R w → (∀ e ∈ o.after, V e.on (vals.getD e.on undef) w) →
      ∀ K : Go.Act → World → Prop, (∀ v w', V i v w' → R w' → (∀ j u, V j u w → V j u w') → K (RgFrame pre (vals.set i v) suf df) w') → o.wp P (RgFrame pre vals suf df) w K Q)
    (last : ∀ o, ops[n]? = some o → ∀ vals w, vals.length = n + 1 → R w → (∀ j, j < n → V j (vals.getD j undef) w) →
      ∀ K : Go.Act → World → Prop, (∀ a' w', Q .normal a' w' → K a' w') → o.wp P (RgFrame pre vals suf df) w K Q) :
    (Code.region id ops true).wp P Q (RgFrame pre vals0 suf df) w := by
  refine wp_region_any hm ?_
  refine wpAny_inv (fun listed a w => listed.size = n + 1 ∧ (∀ i o, ops[i]? = some o → listed.getD i false = true → ∀ e ∈ o.after, listed.getD e.on false = true) ∧
      ((listed.getD n false = true ∧ Q .normal a w) ∨ (listed.getD n false = false ∧ R w ∧ ∃ vals, vals.length = n + 1 ∧ a = RgFrame pre vals suf df ∧ ∀ j, listed.getD j false = true → V j (vals.getD j undef) w))) ?_ ?_ _ _ _ _ ?_ ?_
  · rintro listed a w ⟨hsz, hcl, h⟩ hr
    have hall : ∀ k, k < n + 1 → ∀ j, j ≤ k → listed.getD j false = true := by
      intro k
      induction k with
      | zero =>
        intro hk j hj
        rcases hb : listed.getD j false with _ | _
        · exfalso
          have hjn : j < ops.size := by omega
          have : j ∈ Region.ready .any ops listed := mem_ready.2 ⟨by
            rw [Array.getD_eq_getD_getElem?, Array.getElem?_eq_getElem (by omega)] at hb ⊢
            exact hb, ops[j], Array.getElem?_eq_getElem hjn, fun e he _ => by
            have := ((rg_one hs (Array.getElem?_eq_getElem hjn)).2.2 e he).1
            omega⟩
          rw [hr] at this
          cases this
        · rfl
      | succ k ih =>
        intro hk j hj
        rcases Nat.lt_or_ge j (k + 1) with h' | h'
        · exact ih (by omega) j (by omega)
        · have hjk : j = k + 1 := by omega
          subst hjk
          rcases hb : listed.getD (k + 1) false with _ | _
          · exfalso
            have hjn : k + 1 < ops.size := by omega
            have : k + 1 ∈ Region.ready .any ops listed := mem_ready.2 ⟨by
              rw [Array.getD_eq_getD_getElem?, Array.getElem?_eq_getElem (by omega)] at hb ⊢
              exact hb, ops[k + 1], Array.getElem?_eq_getElem hjn, fun e he _ => by
              have := ((rg_one hs (Array.getElem?_eq_getElem hjn)).2.2 e he).1
              exact ih (by omega) e.on (by omega)⟩
            rw [hr] at this
            cases this
          · rfl
    rcases h with ⟨-, h⟩ | ⟨h, -⟩
    · exact h
    · rw [hall n (by omega) n (Nat.le_refl _)] at h; cases h
  · rintro listed a w ⟨hsz, hcl, h⟩ i hr
    obtain ⟨h0, o, ho, hdep⟩ := mem_ready.1 hr
    have hlt : i < n + 1 := by have := (Array.getElem?_eq_some_iff.1 ho).1; omega
    obtain ⟨hdst, hg, haf⟩ := rg_one hs ho
    have h0' : listed.getD i false = false := by
      rw [Array.getD_eq_getD_getElem?, Array.getElem?_eq_getElem (by omega)] at h0 ⊢
      exact h0
    have hcl' : ∀ i' o', ops[i']? = some o' → (listed.setIfInBounds i true).getD i' false = true → ∀ e ∈ o'.after, (listed.setIfInBounds i true).getD e.on false = true := by
      intro i' o' ho' hl e he
      refine getD_set_true ?_
      by_cases hii : i = i'
      · subst hii
        rw [ho] at ho'
        cases ho'
        exact hdep e he (haf e he).2
      · rw [getD_set_ne false hii] at hl
        exact hcl i' o' ho' hl e he
    rcases h with ⟨hl, -⟩ | ⟨hl, hRw, vals, hvl, rfl, hV⟩
    · exfalso
      have hall : ∀ k j, j + k = n → listed.getD j false = true := by
        intro k
        induction k using Nat.strongRecOn with
        | ind k ih =>
          intro j hjk
          rcases Nat.eq_zero_or_pos k with rfl | hk
          · rw [show j = n by omega]; exact hl
          · obtain ⟨s, os, hjs, hos, e, he, hej⟩ := rg_next hs (j := j) (by omega)
            have hsn : s < n + 1 := by have := (Array.getElem?_eq_some_iff.1 hos).1; omega
            have := hcl s os hos (ih (n - s) (by omega) s (by omega)) e he
            rw [hej] at this
            exact this
      rw [hall (n - i) i (by omega)] at h0'
      cases h0'
    · refine wpOp_step ho fun K' hK' => ?_
      rw [if_pos (rg_wanted hg _)]
      by_cases hin : i = n
      · subst hin
        refine last o ho vals w hvl hRw ?_ K' ?_
        · intro j hj
          refine hV j ?_
          have hall : ∀ k j, j + k = i → j < i → listed.getD j false = true := by
            intro k
            induction k using Nat.strongRecOn with
            | ind k ih =>
              intro j hjk hji
              obtain ⟨s, os, hjs, hos, e, he, hej⟩ := rg_next hs (j := j) (by omega)
              have hsn : s < i + 1 := by have := (Array.getElem?_eq_some_iff.1 hos).1; omega
              by_cases hsi : s = i
              · subst hsi
                rw [ho] at hos
                cases hos
                have := hdep e he (haf e he).2
                rw [hej] at this
                exact this
              · have := hcl s os hos (ih (i - s) (by omega) s (by omega) (by omega)) e he
                rw [hej] at this
                exact this
          exact hall (i - j) j (by omega) hj
        · intro a' w' hq
          refine hK' a' w' ⟨by simpa using hsz, hcl', .inl ⟨?_, hq⟩⟩
          rw [Array.getD_eq_getD_getElem?, Array.getElem?_setIfInBounds, if_pos rfl, if_pos (by omega)]
          rfl
      · refine step i o (by omega) ho vals w hvl hRw (fun e he => hV e.on (hdep e he (haf e he).2)) K' ?_
        intro v w' hv hR' hst
        refine hK' _ w' ⟨by simpa using hsz, hcl', .inr ⟨?_, hR', vals.set i v, by simpa using hvl, rfl, ?_⟩⟩
        · rw [getD_set_ne false hin]; exact hl
        · intro j hj
          by_cases hij : i = j
          · subst hij
            rw [List.getD_eq_getElem?_getD, List.getElem?_set_self (by omega)]
            exact hv
          · rw [getD_set_ne false hij] at hj
            rw [List.getD_eq_getElem?_getD, List.getElem?_set_ne hij, ← List.getD_eq_getElem?_getD]
            exact hst j _ (hV j hj)
  · have := List.length_filter_le (fun i => !(Array.replicate ops.size false).getD i true) (List.range ops.size)
    unfold rgLeft
    rw [List.length_range] at this
    exact this
  · have hz : ∀ j, (Array.replicate ops.size false).getD j false = false := by
      intro j
      rw [Array.getD_eq_getD_getElem?, Array.getElem?_replicate]
      split <;> rfl
    refine ⟨by simp [hn], ?_, .inr ⟨hz n, hR, vals0, hv0, rfl, ?_⟩⟩
    · intro i o _ hl
      rw [hz i] at hl
      cases hl
    · intro j hj
      rw [hz j] at hj
      cases hj

end Go.Proofs.Ytphkchjejbffeaa

/- What the operations yield of a region that makes a message and hands it in. -/
namespace Go.Proofs.Ytphkchjejbffeaa
open Go.RowKit

inductive RgK where
  | val (x : Value)
  | bytes (l : List UInt8)
  | rows (l : List UInt8) (n : Nat)
  | own (l : List UInt8)

/-- What is said of a value: behind the block B0. -/
def RgK.holds (B0 : Nat) : RgK → Value → World → Prop
  | .val x, v, _ => v = x
  | .bytes l, v, w => ∃ g, v = .slice (some ⟨g, 0, none⟩) l.length l.length ∧ w.heap[g]? = some (.cells (l.map B).toArray 5)
  | .rows l n, v, w => ∃ bl ps, v = .slice (some ⟨bl, 0, none⟩) n n ∧ ps.length = n ∧ w.heap[bl]? = some (.cells (ps.map Piece.val).toArray 28) ∧
      (∀ p ∈ ps, p.o = 0 ∧ w.heap[p.b]? = some (.cells (p.l.map B).toArray 5)) ∧ cat ps = l
  | .own l, v, w => Own w B0 v l

theorem heap_lt {w : World} {g : Nat} {o : Obj} (h : w.heap[g]? = some o) : g < w.heap.size := (Array.getElem?_eq_some_iff.1 h).1
theorem RgK.keep {B0 : Nat} {k : RgK} {v : Value} {w w' : World} (h : k.holds B0 v w) (hb : Below w.heap.size w w') : k.holds B0 v w' := by
  cases k with
  | val x => exact h
  | bytes l =>
    obtain ⟨g, h1, h2⟩ := h
    exact ⟨g, h1, (hb.block g (heap_lt h2)).trans h2⟩
  | rows l n =>
    obtain ⟨bl, ps, h1, h2, h3, h4, h5⟩ := h
    exact ⟨bl, ps, h1, h2, (hb.block bl (heap_lt h3)).trans h3, fun p hp => ⟨(h4 p hp).1, (hb.block p.b (heap_lt (h4 p hp).2)).trans (h4 p hp).2⟩, h5⟩
  | own l => exact Own.below h hb

def rgV (B0 : Nat) (ks : List RgK) (j : Nat) (v : Value) (w : World) : Prop := ∀ k, ks[j]? = some k → k.holds B0 v w
theorem rgV_keep {B0 : Nat} {ks : List RgK} {w w' : World} (hb : Below w.heap.size w w') (j : Nat) (u : Value) (h : rgV B0 ks j u w) : rgV B0 ks j u w' := fun k hk => RgK.keep (h k hk) hb
theorem rgV_mk {B0 : Nat} {ks : List RgK} {j : Nat} {k : RgK} {v : Value} {w : World} (hk : ks[j]? = some k) (h : k.holds B0 v w) : rgV B0 ks j v w := fun k' hk' => by
  rw [hk] at hk'
  cases hk'
  exact h

/-- A frame that is written out, parted. -/
theorem wp_region_parted {P : Program} {id : Nat} {ops : Array Oper} {Q : Exit → Go.Act → World → Prop} (lo n : Nat) (A : List Value) {df : List Deferred} {w : World}
    (h : (Code.region id ops true).wp P Q (RgFrame (A.take lo) ((A.drop lo).take (n + 1)) (A.drop (lo + (n + 1))) df) w) : (Code.region id ops true).wp P Q ⟨A.toArray, df⟩ w := by
  have e : RgFrame (A.take lo) ((A.drop lo).take (n + 1)) (A.drop (lo + (n + 1))) df = ⟨A.toArray, df⟩ := by
    unfold RgFrame
    rw [List.append_assoc, ← List.drop_drop, List.take_append_drop, List.take_append_drop]
  rw [← e]
  exact h

end Go.Proofs.Ytphkchjejbffeaa
