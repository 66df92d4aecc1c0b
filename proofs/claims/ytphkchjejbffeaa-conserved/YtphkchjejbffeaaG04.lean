/- The law Uncrossed, out of what the calls do. -/
import Derived.Test.YtphkchjejbffeaaG03
import Derived.Laws.IdiomStrings
import Derived.Laws.BytesArg
namespace Go.Proofs.Ytphkchjejbffeaa
open Go.RowKit

theorem all3 (st : St) (h : st.stocks = 3) : st.all = st.book 0 ++ (st.book 1 ++ st.book 2) := by
  unfold St.all
  rw [h]
  simp [List.range_succ]

theorem Good.book {p n : Nat} {x : Run} (h : Good p n x) (s : Nat) (hs : s < 3) : BookOk s (x.st.book s) ∧ (x.st.book s).length ≤ 1000 := by
  refine ⟨⟨?_, ?_⟩, ?_⟩
  · intro i y hy
    have := book_each h.inv s y (List.mem_of_getElem? hy)
    rw [h.levels] at this
    exact this
  · intro i f q y hf hq hy
    exact book_pair h.inv s i f q y hf hq hy
  · have h1 := h.inv.room
    have h2 := h.inv.pool
    unfold St.resting at h1
    rw [all3 _ h.stocks] at h1
    simp only [List.length_append] at h1
    have : s = 0 ∨ s = 1 ∨ s = 2 := by omega
    rcases this with rfl | rfl | rfl <;> omega

theorem rests_good {At : World → Nat → (Nat → Prop) → St → Prop} (api : Api At) {hb b : Nat} {G : Nat → Prop} {vo vt : Value} {x : Run} {p n : Nat} (w : World)
    (hh : HouseOf At w hb b G vo vt x) (hg : Good p n x) :
    Calls Try.prog 19 #[.pointer (some ⟨hb, 0, none⟩)] w fun e w' => ∃ v, e = .returned (.tuple #[v, .bool true]) ∧
      w'.ownsRow w.heap.size 46 6 v x.st.resting (x.st.all.flatMap Ord.cells) ∧ Below w.heap.size w w' :=
  rests_any api hb b G vo vt x.st w hh.cell hh.at_ hg.stocks (fun s hs => (hg.book s hs).1) (fun s hs => (hg.book s hs).2)

theorem House.below {At : World → Nat → (Nat → Prop) → St → Prop} (api : Api At) {w w' : World} {hb b : Nat} {G : Nat → Prop} {vo vt : Value} {x : Run}
    (h : HouseOf At w hb b G vo vt x) (hB : Below w.heap.size w w') : HouseOf At w' hb b G vo vt x :=
  House.step h (api.below h.at_ hB) (Fr.of_below hB G) (fun _k hk => .inl hk)

set_option maxHeartbeats 1000000 in
theorem uncrossed_any {At : World → Nat → (Nat → Prop) → St → Prop} (api : Api At) (pool : Int) (v : Value) (l : List Act) (w : World) (h1 : -9223372036854775808 ≤ pool) (h2 : pool ≤ 9223372036854775807)
    (hl : ActsAt w v l) (hn : l.length ≤ 2600000000000) :
    Calls Try.prog 6 #[.int .i64 pool, v] w fun e w' => e = .returned (.bool true) ∧ Below w.heap.size w w' := by
  have HO := Hid.mk (open_any api pool w h1 h2)
  have hpk := pick_lt pool 64 (by omega)
  rcases hl with ⟨ra, rc, rfl, rfl⟩ | ⟨g, o, cap, rfl, hg, hlen, hcs⟩
  · go_enter Try.func6, Try.ntmps6
    go_wp2_with fail
    refine HO.out.mono ?_
    rintro e w1 ⟨hb, b, G, vo, vt, rfl, hh, hF, hB⟩
    have HN := Hid.mk hB
    clear hh hF hB
    go_wp2_with fail
    go_loopw [6, 7] (fun ok i wr => ok = .bool true ∧ i = .int .i64 0 ∧ wr = w1) (fun _ _ _ => 0)
    case atStart => exact ⟨rfl, rfl, rfl⟩
    case round =>
      obtain ⟨rfl, rfl, rfl⟩ := hrel
      go_wp2_with fail
      go_ret
      exact ⟨rfl, HN.out⟩
  · go_enter Try.func6, Try.ntmps6
    go_wp2_with fail
    refine HO.out.mono ?_
    rintro e w1 ⟨hb, b, G, vo, vt, rfl, hh, hF, hB⟩
    go_wp2_with fail
    go_loopw [6, 7] (fun ok i wr => ∃ (k : Nat) (G' : Nat → Prop) (vo' vt' : Value), k ≤ l.length ∧ ok = .bool true ∧ i = .int .i64 k ∧ HouseOf At wr hb b G' vo' vt' ((started pool).acts (l.take k)) ∧ (∀ j, HF hb G' vo' vt' j → w.heap.size ≤ j) ∧ Below w.heap.size w wr) (fun _ i _ => l.length - (intOf i).toNat)
    case atStart => exact ⟨0, G, vo, vt, Nat.zero_le _, rfl, rfl, hh, hF, hB⟩
    case round =>
      clear hh hF hB
      obtain ⟨k, G', vo', vt', hk, rfl, rfl, hh, hF, hB⟩ := hrel
      by_cases hlt : k < l.length
      · obtain ⟨a, hka⟩ : ∃ a, l[k]? = some a := ⟨_, List.getElem?_eq_getElem hlt⟩
        obtain ⟨hok, hca⟩ := hcs k a hka
        obtain ⟨d0, d1, d2, d3, d4, d5, d6⟩ := act_cells a (w := wr) (g := g) (o := o + k * 7) (fun j u hu => (hB.cell (p := ⟨g, o + k * 7 + j, none⟩) hg).trans (hca j u hu))
        have HS := Hid.mk ((started pool).acts_snoc l k a hka)
        have gd := Good.acts (l.take (k + 1)) (good_started pool)
        rw [HS.out] at gd
        have hls := gd.lens
        have hll : (l.take (k + 1)).length ≤ l.length := by simp; omega
        have hbig : big = 70368744177664 := rfl
        have HA := Hid.mk (act_any api hb b G' vo' vt' _ a wr hh hok (by rw [hbig]; omega) (by rw [hbig]; omega))
        have HN := Hid.mk (And.intro hh (And.intro hF hB))
        have HG := Hid.mk gd
        clear hh hF hB hcs hca hls hll hbig gd
        have i1 : (0 : Int) ≤ (k : Int) := by omega
        have i2 : (k : Int) < (l.length : Int) := by omega
        go_wp2_with fail
        refine HA.out.mono ?_
        rintro e w2 ⟨G2, vo2, vt2, rfl, hh2, hF2, hfr⟩
        obtain ⟨hh, hF, hB⟩ := HN.out
        have hF3 : ∀ j, HF hb G2 vo2 vt2 j → w.heap.size ≤ j := fun j hj => by
          rcases hF2 j hj with h | h
          · exact hF j h
          · have := hB.size; omega
        have hB3 : Below w.heap.size w w2 := hB.trans (hfr.below hB.size hF)
        have HP := Hid.mk (And.intro hh2 (And.intro hF3 hB3))
        clear hh2 hF2 hfr hh hF hB hF3 hB3
        go_wp2_with fail
        refine (rests_good api w2 HP.out.1 HG.out).mono ?_
        rintro e w3 ⟨vr, rfl, hown, hb3⟩
        obtain ⟨ra, capr, rfl, -, -⟩ := ownsRow_len hown
        have hh3 := House.below api HP.out.1 hb3
        obtain ⟨c0, -⟩ := cells3 hh3.cell
        have HQ := Hid.mk (And.intro hh3 hb3)
        clear hown hh3 hb3
        go_wp2_with fail
        refine (api.look b G2 _ w3 HQ.out.1.at_).mono ?_
        rintro e w4 ⟨rfl, hb4⟩
        rw [viewOf]
        have hrm : (((started pool).acts (l.take k)).act a).st.resting ≤ 1 + pick pool 64 := by
          have h3 := HG.out.inv.room
          rw [HG.out.pool] at h3
          exact h3
        have HR := Hid.mk (And.intro HQ.out.2 hb4)
        have HPP := Hid.mk (And.intro (HS.out ▸ (House.below api HQ.out.1 hb4)) HP.out.2)
        clear hb4 HQ HG HS HP
        generalize (((started pool).acts (l.take k)).act a).st.resting = r at *
        generalize (((started pool).acts (l.take k)).act a).st.time = tm at *
        generalize (((started pool).acts (l.take k)).act a).st.opn = on at *
        generalize (((started pool).acts (l.take k)).act a).st.part.length = pl at *
        have hr1 : (r : Int) ≤ 1 + (pick pool 64 : Nat) := by omega
        go_wp2_with (go_at_call 11; refine (pick_any _ _ _ h1 h2 (by decide) (by decide)).mono ?_; rintro e w' ⟨rfl, rfl⟩)
        obtain ⟨hh5, hF5, hB5⟩ := HPP.out
        obtain ⟨hb3, hb4⟩ := HR.out
        refine ⟨⟨k + 1, G2, vo2, vt2, by omega, rfl, by go_num, House.below api hh5 (Below.alloc (Below.refl _ _) (Nat.le_refl _) _), hF5, ?_⟩, by simp [intOf]; omega⟩
        have s3 := hb3.size
        have s4 := hb4.size
        have s5 := hB5.size
        exact ((hB5.trans (hb3.mono (by omega))).trans (hb4.mono (by omega))).alloc (by omega) _
      · have HN := Hid.mk hB
        clear hh hF hB hcs
        go_wp2_with fail
        go_ret
        exact ⟨rfl, HN.out⟩

end Go.Proofs.Ytphkchjejbffeaa

/- The law Shut, out of what the calls do. -/
namespace Go.Proofs.Ytphkchjejbffeaa
open Go.RowKit
attribute [local go_sem ↓] Go.wp_at_zero Go.wp_at_succ

theorem feed_closed (l : List UInt8) : ∀ st : St, st.opn = false → st.feed l = st := by
  induction l with
  | nil => intro st _; rfl
  | cons c l ih =>
    intro st h
    have : st.step c = st := by
      unfold St.step
      rw [if_neg (by rw [h]; decide)]
    show (st.step c).feed l = st
    rw [this]
    exact ih st h

/-- Closed. -/
def St.shutAt (st : St) : St := st.shut.told
theorem feed_letter (st : St) (c : UInt8) (ho : st.opn = true) (hp : st.part = []) (h1 : c ≠ 69) (h2 : c ≠ 82) (h3 : c ≠ 67) : st.feed [c] = st.shut := by
  have hs : sizeOf c = 1 := by unfold sizeOf; rw [if_neg h1, if_neg h2, if_neg h3]
  rw [feed_whole [c] st ho hp (by show 1 = sizeOf c; rw [hs]) (by simp)]
  unfold St.act
  have e : byteAt [c] 0 = c := rfl
  rw [e, if_neg h1, if_neg h2, if_neg h3]

theorem shut_ans (st : St) (h : st.ans = []) : st.shut.ans = 90 :: enc st.time 6 := by
  show st.ans ++ (90 :: enc st.time 6) = _
  rw [h]; rfl

theorem view_shut (st : St) (hp : st.part = []) : viewOf st.shut.told.told.taped = .agg #[.int .i64 st.time, .int .i64 st.resting, .bool false, .int .i64 0] := by
  show Value.agg #[.int .i64 st.time, .int .i64 st.resting, .bool false, .int .i64 st.part.length] = _
  rw [hp]; rfl

theorem rests_inv {At : World → Nat → (Nat → Prop) → St → Prop} (api : Api At) {hb b : Nat} {G : Nat → Prop} {vo vt : Value} {st : St} {out tape : List UInt8} (w : World)
    (hh : House At w hb b G vo vt st out tape) (hi : Inv st) (hs : st.stocks = 3) (hl : st.levels = 10) :
    Calls Try.prog 19 #[.pointer (some ⟨hb, 0, none⟩)] w fun e w' => ∃ v, e = .returned (.tuple #[v, .bool true]) ∧
      w'.ownsRow w.heap.size 46 6 v st.resting (st.all.flatMap Ord.cells) ∧ Below w.heap.size w w' := by
  have hbook : ∀ s, s < 3 → BookOk s (st.book s) ∧ (st.book s).length ≤ 1000 := by
    intro s hs'
    refine ⟨⟨?_, ?_⟩, ?_⟩
    · intro i y hy
      have := book_each hi s y (List.mem_of_getElem? hy)
      rw [hl] at this
      exact this
    · intro i f q y hf hq hy
      exact book_pair hi s i f q y hf hq hy
    · have h1 := hi.room
      have h2 := hi.pool
      unfold St.resting at h1
      rw [all3 _ hs] at h1
      simp only [List.length_append] at h1
      have : s = 0 ∨ s = 1 ∨ s = 2 := by omega
      rcases this with rfl | rfl | rfl <;> omega
  exact rests_any api hb b G vo vt st w hh.cell hh.at_ hs (fun s hs => (hbook s hs).1) (fun s hs => (hbook s hs).2)

theorem House.below' {At : World → Nat → (Nat → Prop) → St → Prop} (api : Api At) {w w' : World} {hb b : Nat} {G : Nat → Prop} {vo vt : Value} {st : St} {out tape : List UInt8}
    (h : House At w hb b G vo vt st out tape) (hB : Below w.heap.size w w') : House At w' hb b G vo vt st out tape :=
  h.step (api.below h.at_ hB) (Fr.of_below hB G) (fun _ hk => .inl hk)

/-- Acts in memory, in one form. -/
theorem ActsAt.form {w : World} {v : Value} {l : List Act} (h : ActsAt w v l) : ∃ ra rc, v = .slice ra l.length rc ∧ l.length ≤ 9223372036854775807 ∧
    ∀ (i : Nat) (a : Act), l[i]? = some a → a.ok ∧ ∃ g o, ra = some ⟨g, o, none⟩ ∧ g < w.heap.size ∧ ∀ (j : Nat) (u : Value), a.cells[j]? = some u → w.cell? ⟨g, o + i * 7 + j, none⟩ = some u := by
  rcases h with ⟨ra, rc, rfl, rfl⟩ | ⟨g, o, cap, rfl, h1, h2, h3⟩
  · exact ⟨ra, rc, rfl, by simp, fun i a h => by simp at h⟩
  · exact ⟨_, cap, rfl, h2, fun i a hi => ⟨(h3 i a hi).1, g, o, rfl, h1, (h3 i a hi).2⟩⟩

set_option maxRecDepth 100000 in
set_option maxHeartbeats 4000000 in
theorem shut_any {At : World → Nat → (Nat → Prop) → St → Prop} (api : Api At) (pool : Int) (v : Value) (l : List Act) (letter c : UInt8) (vm : Value) (more : List Act) (w : World) (h1 : -9223372036854775808 ≤ pool) (h2 : pool ≤ 9223372036854775807)
    (hl : ActsAt w v l) (hn : l.length ≤ 2600000000000) (hm : ActsAt w vm more)
    (hsel : (letter = 69 ∧ c = 101) ∨ (letter = 82 ∧ c = 101) ∨ (letter = 67 ∧ c = 101) ∨ ((letter ≠ 69 ∧ letter ≠ 82 ∧ letter ≠ 67) ∧ c = letter)) :
    Calls Try.prog 5 #[.int .i64 pool, v, .int .u8 letter.toNat, vm] w fun e w' => e = .returned (.bool true) ∧ Below w.heap.size w w' := by
  have gd := Good.acts l (good_started pool)
  rw [Nat.zero_add] at gd
  have hls := gd.lens
  have hbig : big = 70368744177664 := rfl
  have HA := Hid.mk (acts_any api pool v l w h1 h2 hl (by rw [hbig]; omega) (by rw [hbig]; omega))
  have hc : c ≠ 69 ∧ c ≠ 82 ∧ c ≠ 67 := by
    rcases hsel with ⟨-, rfl⟩ | ⟨-, rfl⟩ | ⟨-, rfl⟩ | ⟨h, rfl⟩
    · decide
    · decide
    · decide
    · exact h
  have HC := Hid.mk hc
  have HG := Hid.mk gd
  have HM := Hid.mk hm
  clear hl hn hls hbig gd hc hm
  generalize hX : (started pool).acts l = x at *
  have HX := Hid.mk hX
  clear hX
  have hbit : ∀ u : UInt8, letter ≠ u → (((letter.toNat : Int)) == (u.toNat : Int)) = false := by
    intro u hu
    rw [beq_eq_false_iff_ne]
    intro e
    exact hu (UInt8.toNat_inj.1 (by omega))
  have hsel' : (letter = 69 ∧ c = 101) ∨ (letter = 82 ∧ c = 101) ∨ (letter = 67 ∧ c = 101) ∨ ((((letter.toNat : Int)) == 69) = false ∧ (((letter.toNat : Int)) == 82) = false ∧ (((letter.toNat : Int)) == 67) = false ∧ c = letter) := by
    rcases hsel with h | h | h | ⟨h, h'⟩
    · exact .inl h
    · exact .inr (.inl h)
    · exact .inr (.inr (.inl h))
    · exact .inr (.inr (.inr ⟨hbit 69 h.1, hbit 82 h.2.1, hbit 67 h.2.2, h'⟩))
  clear hsel hbit
  have hcv : ∃ cv : Int, cv = (c.toNat : Int) ∧ ((letter = 69 ∧ cv = 101) ∨ (letter = 82 ∧ cv = 101) ∨ (letter = 67 ∧ cv = 101) ∨ ((((letter.toNat : Int)) == 69) = false ∧ (((letter.toNat : Int)) == 82) = false ∧ (((letter.toNat : Int)) == 67) = false ∧ cv = letter.toNat)) := by
    refine ⟨_, rfl, ?_⟩
    rcases hsel' with ⟨h, rfl⟩ | ⟨h, rfl⟩ | ⟨h, rfl⟩ | ⟨n1, n2, n3, rfl⟩
    · exact .inl ⟨h, rfl⟩
    · exact .inr (.inl ⟨h, rfl⟩)
    · exact .inr (.inr (.inl ⟨h, rfl⟩))
    · exact .inr (.inr (.inr ⟨n1, n2, n3, rfl⟩))
  obtain ⟨cv, hcv, hsel2⟩ := hcv
  have HCV := Hid.mk hcv
  clear hcv hsel'
  rcases hsel2 with ⟨rfl, rfl⟩ | ⟨rfl, rfl⟩ | ⟨rfl, rfl⟩ | ⟨n1, n2, n3, rfl⟩
  all_goals
    go_enter Try.func5, Try.ntmps5
    go_wp2_with fail
    refine HA.out.mono ?_
    rintro e w1 ⟨hb, b, G, vo, vt, rfl, hh, hF, hB⟩
    have HN := Hid.mk (And.intro hh (And.intro hF hB))
    clear hh hF hB
    go_wp2_with fail
    refine (rests_good api w1 HN.out.1 HG.out).mono ?_
    rintro e w2 ⟨vw, rfl, how, hb2⟩
    obtain ⟨rw_, cw, rfl, -, -⟩ := ownsRow_len how
    have hh2 := House.below api HN.out.1 hb2
    obtain ⟨d0, -⟩ := cells3 hh2.cell
    have HW := Hid.mk (And.intro how hb2)
    have HH2 := Hid.mk hh2
    clear how hb2 hh2
    have hbl : hb < w2.heap.size := (Array.getElem?_eq_some_iff.1 HH2.out.cell).1
    have hfl : x.st.feed [c] = x.st.shut := feed_letter x.st c HG.out.opn HG.out.part HC.out.1 HC.out.2.1 HC.out.2.2
    have hsa : x.st.shut.ans = 90 :: enc x.st.time 6 := shut_ans x.st HG.out.ans
    have hst : x.st.shut.tape = [] := HG.out.tape
    go_wp2_with fail
    have hbA := fun o : Obj => Below.alloc (Below.refl w2.heap.size w2) (Nat.le_refl _) o
    have hh2' := fun o : Obj => House.below' api HH2.out (hbA o)
    have hGl := api.lt HH2.out.at_
    refine (api.feed b G x.st _ [c] _ (hh2' _).at_ (rd_one w2 c _ HCV.out G (fun h => by have := hGl _ h; omega)) (by rw [hfl, hsa]; simp [enc_length, big]) (by rw [hfl, hst]; simp [big])).mono ?_
    rintro e w3 ⟨G3, rfl, hat3, hG3, hfr3⟩
    rw [hfl] at hat3
    have hh3 := (hh2' _).step hat3 hfr3 hG3
    obtain ⟨d1, -⟩ := cells3 hh3.cell
    have HS3 := Hid.mk (And.intro hh3 (And.intro hG3 (And.intro hfr3 hbA)))
    have HSA := Hid.mk (And.intro hsa hst)
    clear hh2' hGl hat3 hG3 hfr3 hh3 d0 hfl hsa hst hbA
    go_wp2_with fail
    refine (api.answers b G3 _ w3 HS3.out.1.at_).mono ?_
    rintro e w4 ⟨va, G4, rfl, hoa, hat4, hG4, hva, hfr4⟩
    have hh4 := HS3.out.1.step hat4 hfr4 hG4
    obtain ⟨d2, -⟩ := cells3 hh4.cell
    obtain ⟨ra, ca, rfl, -, -⟩ := hoa.len
    have HS4 := Hid.mk (And.intro hh4 (And.intro hG4 (And.intro hfr4 (And.intro hoa hva))))
    clear hat4 hG4 hfr4 hh4 hoa hva d1
    rw [show x.st.shut.ans.length = 7 from by rw [HSA.out.1]; simp [enc_length]]
    obtain ⟨rm, cm, rfl, hml, hmc⟩ := HM.out.form
    have HMC := Hid.mk hmc
    have hGw : ∀ k, G4 k → w.heap.size ≤ k := by
      intro k hk
      obtain ⟨-, hF, hB⟩ := HN.out
      obtain ⟨-, hb2⟩ := HW.out
      obtain ⟨-, hG3, hfr3, hbA⟩ := HS3.out
      have y1 := hB.size
      have y2 := hb2.size
      have y3 := hfr3.size
      rw [size_alloc] at y3 hG3
      rcases HS4.out.2.1 k hk with h | h
      · rcases hG3 k h with h | h
        · exact hF k (.inr (.inl h))
        · omega
      · omega
    have hBw4 : Below w.heap.size w w4 := by
      obtain ⟨-, hF, hB⟩ := HN.out
      obtain ⟨-, hb2⟩ := HW.out
      obtain ⟨-, hG3, hfr3, hbA⟩ := HS3.out
      obtain ⟨-, hG4, hfr4, -⟩ := HS4.out
      have y1 := hB.size
      have y2 := hb2.size
      have y3 := hfr3.size
      rw [size_alloc] at y3 hG3
      have a1 : Below w.heap.size w w2 := hB.trans (hb2.mono y1)
      have a3 : Below w.heap.size w w3 := Below.trans (a1.trans ((hbA _).mono (by omega))) (hfr3.below (by rw [size_alloc]; omega) (fun k h => hF k (.inr (.inl h))))
      refine a3.trans (hfr4.below (by omega) (fun k h => ?_))
      rcases hG3 k h with h | h
      · exact hF k (.inr (.inl h))
      · omega
    have HGW := Hid.mk (And.intro hGw hBw4)
    clear hmc hGw hBw4 HM HX d2
    go_wp2_with fail
    go_loopw [14] (fun i wr => ∃ (j : Nat) (G' : Nat → Prop), j ≤ more.length ∧ i = .int .i64 j ∧ House At wr hb b G' vo vt x.st.shut.told x.out x.tape ∧ (∀ k, G' k → G4 k ∨ w4.heap.size ≤ k) ∧ Fr G4 w4 wr) (fun i _ => more.length - (intOf i).toNat)
    case atStart => exact ⟨0, G4, Nat.zero_le _, rfl, HS4.out.1, fun k h => .inl h, Fr.refl _ _⟩
    case round =>
      obtain ⟨j, G', hj, rfl, hh, hG', hfr⟩ := hrel
      by_cases hlt : j < more.length
      · obtain ⟨a, hka⟩ : ∃ a, more[j]? = some a := ⟨_, List.getElem?_eq_getElem hlt⟩
        obtain ⟨hok, g, o, rfl, hg, hcs⟩ := HMC.out j a hka
        have hBr : Below w.heap.size w wr := HGW.out.2.trans (hfr.below HGW.out.2.size HGW.out.1)
        obtain ⟨d0, d1, d2, d3, d4, d5, d6⟩ := act_cells a (w := wr) (g := g) (o := o + j * 7) (fun t u hu => (hBr.cell (p := ⟨g, o + j * 7 + t, none⟩) hg).trans (hcs t u hu))
        obtain ⟨dh, -⟩ := cells3 hh.cell
        have hbr : hb < wr.heap.size := (Array.getElem?_eq_some_iff.1 hh.cell).1
        have hgr : g < wr.heap.size := Nat.lt_of_lt_of_le hg hBr.size
        have i1 : (0 : Int) ≤ (j : Int) := by omega
        have i2 : (j : Int) < (more.length : Int) := by omega
        have hcl : x.st.shut.told.feed a.message = x.st.shut.told := feed_closed _ _ rfl
        have hmsg := fun w => message_any a w hok
        generalize a.message = M at *
        obtain ⟨kind, token, other, side, stock, price, shares⟩ := a
        simp only [Act.cells] at *
        have HMsg := Hid.mk hmsg
        have nG : ¬ G' g := fun h => by
          rcases hG' g h with h | h
          · have := HGW.out.1 g h; omega
          · have := HGW.out.2.size; omega
        have nH := hh.hG
        have hat := api.keep (w' := wr.drew) hh.at_ (fun k hk => rfl)
        have ltG := api.lt hh.at_
        have HL := Hid.mk (And.intro hh (And.intro hG' (And.intro hfr hcl)))
        clear hmsg hh hG' hfr hcl hBr hcs hka
        go_wp2_with fail
        go_region_held3 (fun w' => w'.cell? ⟨hb, 0, none⟩ = some (.pointer (some ⟨b, 0, none⟩)) ∧ w'.cell? ⟨g, o + j * 7, none⟩ = some (.int .i64 kind) ∧ w'.cell? ⟨g, o + j * 7 + 1, none⟩ = some (.int .i64 token) ∧ w'.cell? ⟨g, o + j * 7 + 2, none⟩ = some (.int .i64 other) ∧ w'.cell? ⟨g, o + j * 7 + 3, none⟩ = some (.int .i64 side) ∧ w'.cell? ⟨g, o + j * 7 + 4, none⟩ = some (.int .i64 stock) ∧ w'.cell? ⟨g, o + j * 7 + 5, none⟩ = some (.int .i64 price) ∧ w'.cell? ⟨g, o + j * 7 + 6, none⟩ = some (.int .i64 shares))
          (first | exact m1 | exact p1 | go_keep)
          (first
            | (go_at_call 21; refine (HMsg.out _).mono ?_; rintro e w5 ⟨v5, rfl, hov, hb5⟩; have p1 : w5.cell? ⟨hb, 0, none⟩ = some (.pointer (some ⟨b, 0, none⟩)) ∧ w5.cell? ⟨g, o + j * 7, none⟩ = some (.int .i64 kind) ∧ w5.cell? ⟨g, o + j * 7 + 1, none⟩ = some (.int .i64 token) ∧ w5.cell? ⟨g, o + j * 7 + 2, none⟩ = some (.int .i64 other) ∧ w5.cell? ⟨g, o + j * 7 + 3, none⟩ = some (.int .i64 side) ∧ w5.cell? ⟨g, o + j * 7 + 4, none⟩ = some (.int .i64 stock) ∧ w5.cell? ⟨g, o + j * 7 + 5, none⟩ = some (.int .i64 price) ∧ w5.cell? ⟨g, o + j * 7 + 6, none⟩ = some (.int .i64 shares) := ⟨(hb5.cell (p := ⟨hb, 0, none⟩) hbr).trans dh, (hb5.cell (p := ⟨g, o + j * 7, none⟩) hgr).trans d0, (hb5.cell (p := ⟨g, o + j * 7 + 1, none⟩) hgr).trans d1, (hb5.cell (p := ⟨g, o + j * 7 + 2, none⟩) hgr).trans d2, (hb5.cell (p := ⟨g, o + j * 7 + 3, none⟩) hgr).trans d3, (hb5.cell (p := ⟨g, o + j * 7 + 4, none⟩) hgr).trans d4, (hb5.cell (p := ⟨g, o + j * 7 + 5, none⟩) hgr).trans d5, (hb5.cell (p := ⟨g, o + j * 7 + 6, none⟩) hgr).trans d6⟩; have hat5 := api.below hat hb5)
            | (go_at_call 12; refine (api.feed b G' _ v5 M _ hat5 (hov.rd (fun g hg h => by have := ltG _ h; have := (hov.lt g hg).1; change wr.heap.size ≤ g at this; omega)) (by rw [HL.out.2.2.2]; exact Nat.zero_le _) (by rw [HL.out.2.2.2]; show x.st.shut.tape.length ≤ big; rw [HSA.out.2]; exact Nat.zero_le _)).mono ?_; rintro e w6 ⟨G6, rfl, hat6, hG6, hfr6⟩; have m1 : w6.cell? ⟨hb, 0, none⟩ = some (.pointer (some ⟨b, 0, none⟩)) ∧ w6.cell? ⟨g, o + j * 7, none⟩ = some (.int .i64 kind) ∧ w6.cell? ⟨g, o + j * 7 + 1, none⟩ = some (.int .i64 token) ∧ w6.cell? ⟨g, o + j * 7 + 2, none⟩ = some (.int .i64 other) ∧ w6.cell? ⟨g, o + j * 7 + 3, none⟩ = some (.int .i64 side) ∧ w6.cell? ⟨g, o + j * 7 + 4, none⟩ = some (.int .i64 stock) ∧ w6.cell? ⟨g, o + j * 7 + 5, none⟩ = some (.int .i64 price) ∧ w6.cell? ⟨g, o + j * 7 + 6, none⟩ = some (.int .i64 shares) := ⟨hfr6.cell p1.1 nH, hfr6.cell p1.2.1 nG, hfr6.cell p1.2.2.1 nG, hfr6.cell p1.2.2.2.1 nG, hfr6.cell p1.2.2.2.2.1 nG, hfr6.cell p1.2.2.2.2.2.1 nG, hfr6.cell p1.2.2.2.2.2.2.1 nG, hfr6.cell p1.2.2.2.2.2.2.2 nG⟩))
        obtain ⟨hh, hG', hfr, hcl⟩ := HL.out
        rw [hcl] at hat6
        have hF6 : Fr G' wr w6 := ((Fr.drew G' wr).then (Fr.of_below hb5 G')).then hfr6
        have z5 : wr.heap.size ≤ w5.heap.size := hb5.size
        have z4 := hfr.size
        have hh6 := hh.step hat6 hF6 (fun k hk => by
          rcases hG6 k hk with h | h
          · exact .inl h
          · right; omega)
        have hG7 : ∀ k, G6 k → G4 k ∨ w4.heap.size ≤ k := fun k hk => by
          rcases hG6 k hk with h | h
          · exact hG' k h
          · right; omega
        have hF7 : Fr G4 w4 w6 := hfr.trans hF6 (fun k hk h => by
          rcases hG' k h with h | h
          · exact h
          · omega)
        have HP := Hid.mk (And.intro hh6 (And.intro hG7 hF7))
        clear hh hG' hfr hcl hat6 hF6 z5 z4 hh6 hG7 hF7 hG6 hfr6 hat5 hb5 hov hat ltG nG nH HL HMsg d0 d1 d2 d3 d4 d5 d6 dh p1 m1
        go_wp2_with fail
        exact ⟨⟨j + 1, G6, by omega, by go_num, HP.out.1, HP.out.2.1, HP.out.2.2⟩, by simp [intOf]; omega⟩
      · obtain ⟨dh, -⟩ := cells3 hh.cell
        have HL := Hid.mk (And.intro hh (And.intro hG' hfr))
        clear hh hG' hfr
        go_wp2_with fail
        refine (api.answers b G' _ wr HL.out.1.at_).mono ?_
        rintro e w5 ⟨v5, G5, rfl, ho5, hat5, hG5, hv5, hfr5⟩
        have hh5 := HL.out.1.step hat5 hfr5 hG5
        obtain ⟨d5, -⟩ := cells3 hh5.cell
        obtain ⟨r5, c5, rfl, -, -⟩ := ho5.len
        rw [show x.st.shut.told.ans.length = 0 from rfl]
        have HL5 := Hid.mk (And.intro hh5 (And.intro hG5 hfr5))
        clear ho5 hat5 hG5 hv5 hfr5 hh5 dh
        go_wp2_with fail
        refine (api.tape b G5 _ w5 HL5.out.1.at_).mono ?_
        rintro e w6 ⟨v6, G6, rfl, ho6, hat6, hG6, hv6, hfr6⟩
        have hh6 := HL5.out.1.step hat6 hfr6 hG6
        obtain ⟨r6, c6, rfl, -, -⟩ := ho6.len
        rw [show x.st.shut.told.told.tape.length = 0 from by show x.st.shut.tape.length = 0; rw [HSA.out.2]; rfl]
        have HL6 := Hid.mk (And.intro hh6 (And.intro hG6 hfr6))
        clear ho6 hat6 hG6 hv6 hfr6 hh6 d5
        go_wp2_with fail
        have hinv : Inv x.st.shut.told.told.taped := (((HG.out.inv.of_q (st' := x.st.shut) rfl rfl rfl rfl (fun _ h => h) HG.out.inv.refs HG.out.inv.mats HG.out.inv.time).told).told).taped
        refine (rests_inv api w6 HL6.out.1 hinv HG.out.stocks HG.out.levels).mono ?_
        rintro e w7 ⟨v7, rfl, ho7, hb7⟩
        obtain ⟨r7, c7, rfl, -, -⟩ := ownsRow_len ho7
        rw [show x.st.shut.told.told.taped.resting = x.st.all.length from rfl]
        have hh7 := House.below' api HL6.out.1 hb7
        obtain ⟨d7, -⟩ := cells3 hh7.cell
        have HL7 := Hid.mk (And.intro hh7 (And.intro ho7 hb7))
        clear ho7 hb7 hh7 hinv
        go_wp2_with fail
        refine (api.look b G6 _ w7 HL7.out.1.at_).mono ?_
        rintro e w8 ⟨rfl, hb8⟩
        rw [view_shut x.st HG.out.part]
        have htm : x.st.time < 281474976710656 := HG.out.inv.time
        have HNum : Hid (num (enc x.st.time 6) 0 = x.st.time) := by
          show _ = _
          rw [num_enc]; exact Nat.mod_eq_of_lt htm
        have keep : ∀ k, k < w4.heap.size → ¬ G4 k → w8.heap[k]? = w4.heap[k]? := by
          intro k hk hn
          obtain ⟨-, hG', hfr⟩ := HL.out
          obtain ⟨-, hG5, hfr5⟩ := HL5.out
          obtain ⟨-, hG6, hfr6⟩ := HL6.out
          obtain ⟨-, -, hb7⟩ := HL7.out
          have y1 := hfr.size
          have y2 := hfr5.size
          have y3 := hfr6.size
          have y4 := hb7.size
          have n1 : ¬ G' k := fun h => by
            rcases hG' k h with h | h
            · exact hn h
            · omega
          have n2 : ¬ G5 k := fun h => by
            rcases hG5 k h with h | h
            · exact n1 h
            · omega
          rw [hb8.block k (by omega), hb7.block k (by omega), hfr6.block k (by omega) n2, hfr5.block k (by omega) n1, hfr.block k hk hn]
        have hsz8 : w4.heap.size ≤ w8.heap.size := by
          obtain ⟨-, -, hfr⟩ := HL.out
          obtain ⟨-, -, hfr5⟩ := HL5.out
          obtain ⟨-, -, hfr6⟩ := HL6.out
          obtain ⟨-, -, hb7⟩ := HL7.out
          have y1 := hfr.size
          have y2 := hfr5.size
          have y3 := hfr6.size
          have y4 := hb7.size
          have y5 := hb8.size
          omega
        obtain ⟨ga, hra, hgal, hAl⟩ : ∃ ga, ra = some ⟨ga, 0, none⟩ ∧ ga < w8.heap.size ∧ Lies w8 ga 0 (90 :: enc x.st.time 6) := by
          obtain ⟨-, -, -, hoa, hva⟩ := HS4.out
          have hoa8 : Own w8 0 (.slice ra x.st.shut.ans.length ca) x.st.shut.ans := hoa.keep (fun g hg => keep g (hoa.lt g hg).2 (hva g hg).2)
          rcases hoa8.rd (F := fun _ => False) (fun _ _ h => h) with ⟨-, h⟩ | ⟨g, o, cap, h, hl, -, -, -, hgl⟩
          · rw [HSA.out.1] at h; cases h
          · rcases hoa8.2 with ⟨-, h'⟩ | ⟨g', cap', cur', h', -⟩
            · rw [HSA.out.1] at h'; simp at h'
            · simp only [Value.slice.injEq] at h h'
              rw [h'.1] at h
              simp only [Option.some.injEq, Addr.mk.injEq] at h
              obtain ⟨⟨rfl, rfl, -⟩, -⟩ := h
              rw [HSA.out.1] at hl
              exact ⟨_, h'.1, hgl, hl⟩
        subst hra
        have hca : 7 ≤ ca := by
          obtain ⟨-, -, -, hoa, -⟩ := HS4.out
          rcases hoa.2 with ⟨h', -⟩ | ⟨g', cap', cur', h', -, -, hle, -⟩
          · simp at h'
          · simp only [Value.slice.injEq] at h'
            rw [← h'.2.2, HSA.out.1] at hle
            simpa [enc_length] using hle
        have hwas : w8.ownsRow 0 46 6 (.slice rw_ x.st.resting cw) x.st.resting (x.st.all.flatMap Ord.cells) := by
          obtain ⟨how, hb2⟩ := HW.out
          obtain ⟨-, hG3, hfr3, -⟩ := HS3.out
          obtain ⟨-, hG4, hfr4, -⟩ := HS4.out
          obtain ⟨hh1, -, -⟩ := HN.out
          rw [size_alloc] at hG3
          have y3 := hfr3.size
          rw [size_alloc] at y3
          have y4 := hfr4.size
          refine ownsRow_base (ownsRow_keep how (fun g hg => ?_)) (Nat.zero_le _)
          obtain ⟨hg1, hg2⟩ := how.lt g hg
          have n0 : ¬ G g := fun h => by have := api.lt hh1.at_ g h; omega
          have n3 : ¬ G3 g := fun h => by
            rcases hG3 g h with h | h
            · exact n0 h
            · omega
          have n4 : ¬ G4 g := fun h => by
            rcases hG4 g h with h | h
            · exact n3 h
            · omega
          rw [keep g (by omega) n4, hfr4.block g (by omega) n3, hfr3.block g (by rw [size_alloc]; omega) n0, heap_alloc, if_neg (by omega)]
        have his : w8.ownsRow 0 46 6 (.slice r7 x.st.resting c7) x.st.resting (x.st.all.flatMap Ord.cells) := by
          obtain ⟨-, ho7, hb7⟩ := HL7.out
          exact ownsRow_base (ownsRow_keep ho7 (fun g hg => hb8.block g (ho7.lt g hg).2)) (Nat.zero_le _)
        have hBw : Below w.heap.size w w8 := by
          obtain ⟨hGw, hBw4⟩ := HGW.out
          obtain ⟨-, hG', hfr⟩ := HL.out
          obtain ⟨-, hG5, hfr5⟩ := HL5.out
          obtain ⟨-, hG6, hfr6⟩ := HL6.out
          obtain ⟨-, -, hb7⟩ := HL7.out
          have y0 := hBw4.size
          have y1 := hfr.size
          have y2 := hfr5.size
          have y3 := hfr6.size
          have y4 := hb7.size
          have g1 : ∀ k, G' k → w.heap.size ≤ k := fun k h => by
            rcases hG' k h with h | h
            · exact hGw k h
            · omega
          have g2 : ∀ k, G5 k → w.heap.size ≤ k := fun k h => by
            rcases hG5 k h with h | h
            · exact g1 k h
            · omega
          exact ((((hBw4.trans (hfr.below y0 hGw)).trans (hfr5.below (by omega) g1)).trans (hfr6.below (by omega) g2)).trans (hb7.mono (by omega))).trans (hb8.mono (by omega))
        have HF8 := Hid.mk (And.intro hwas (And.intro his hBw))
        have a0 : w8.cell? ⟨ga, 0, none⟩ = some (.int .u8 90) := hAl 0 90 rfl
        have HAl := Hid.mk hAl
        clear keep hsz8 hAl hwas his hBw hb8 d7 htm
        generalize x.st.time = tm at *
        have hLl : x.st.all.length ≤ 64 := by
          have q1 := HG.out.inv.room
          have q2 := HG.out.inv.pool
          unfold St.resting at q1
          omega
        rw [show x.st.resting = x.st.all.length from rfl] at *
        have HF9 : Hid (w8.ownsRow 0 46 6 (.slice rw_ x.st.all.length cw) x.st.all.length (x.st.all.flatMap Ord.cells) ∧ w8.ownsRow 0 46 6 (.slice r7 x.st.all.length c7) x.st.all.length (x.st.all.flatMap Ord.cells) ∧ Below w.heap.size w w8) := HF8
        clear HF8 HW HL7 HL6 HL5 HL HS4 HS3 HH2 HN HA HMC HGW
        generalize x.st.all = L at *
        go_wp2_with fail
        have hval : ∀ n, Calls Try.prog 16 #[.slice (some ⟨ga, 1, none⟩) 6 (ca - 1)] (((w8.alloc (.cells #[.int .i64 tm, .int .i64 L.length, .bool false, .int .i64 0] 37))).drewN n) fun e w' => e = .returned (.int .i64 tm) ∧ w' = ((w8.alloc (.cells #[.int .i64 tm, .int .i64 L.length, .bool false, .int .i64 0] 37))).drewN n := by
          intro n
          have hl : Lies (((w8.alloc (.cells #[.int .i64 tm, .int .i64 L.length, .bool false, .int .i64 0] 37))).drewN n) ga 1 (enc tm 6) := by
            have h1 := (HAl.out.drop 1).keep (w' := ((w8.alloc (.cells #[.int .i64 tm, .int .i64 L.length, .bool false, .int .i64 0] 37))).drewN n) (by
              show (w8.alloc _).heap[ga]? = _
              rw [heap_alloc, if_neg (by omega)])
            exact h1
          have := val_any ga 1 (ca - 1) (enc tm 6) _ (by rw [enc_length]; omega) hl
          rw [enc_length, HNum.out] at this
          exact this
        have HVal := Hid.mk hval
        clear hval
        have j1 : (1 : Int) ≤ 7 := by omega
        have j2 : (7 : Int) ≤ (ca : Int) := by omega
        go_quiet ((go_at_call 16; exact Calls.quiet_of_same (HVal.out _)))
        go_wp2_with fail
        go_loopw [20] (fun i w9 => ∃ k : Nat, k ≤ L.length ∧ i = .int .i64 k ∧ Below w8.heap.size w8 w9) (fun i _ => L.length - (intOf i).toNat)
        case atStart => exact ⟨0, Nat.zero_le _, rfl, below_drewN ((Below.refl _ _).alloc (Nat.le_refl _) _) _⟩
        case round =>
          obtain ⟨k, hk, rfl, hB9⟩ := hrel
          by_cases hkl : k < L.length
          · obtain ⟨hw1, hw2, -⟩ := HF9.out
            obtain ⟨g1, rfl, hg1, hc1⟩ := row_orders hw1 (by omega)
            obtain ⟨g2, rfl, hg2, hc2⟩ := row_orders hw2 (by omega)
            obtain ⟨y, hy⟩ : ∃ y, L[k]? = some y := ⟨_, List.getElem?_eq_getElem hkl⟩
            obtain ⟨b0, b1, b2, b3, b4, b5⟩ := ord_cells y hB9 hg1 (hc1 k y hy)
            obtain ⟨e0, e1, e2, e3, e4, e5⟩ := ord_cells y hB9 hg2 (hc2 k y hy)
            obtain ⟨ref, token, side, stock, price, shares⟩ := y
            simp only at b0 b1 b2 b3 b4 b5 e0 e1 e2 e3 e4 e5
            have i3 : (0 : Int) ≤ (k : Int) := by omega
            have i4 : (k : Int) < (L.length : Int) := by omega
            have HB9 := Hid.mk hB9
            clear hw1 hw2 hc1 hc2 hy hB9
            go_wp2_with fail
            go_quiet (fail)
            go_wp2_with fail
            exact ⟨⟨k + 1, by omega, by go_num, below_drewN HB9.out _⟩, by simp [intOf]; omega⟩
          · have HB9 := Hid.mk hB9
            clear hB9
            go_wp2_with fail
            go_ret
            exact ⟨rfl, HF9.out.2.2.trans (HB9.out.mono HF9.out.2.2.size)⟩

end Go.Proofs.Ytphkchjejbffeaa

/- Bytes turned into a string; two houses beside each other. -/
namespace Go.Proofs.Ytphkchjejbffeaa
open Go.RowKit

theorem run_str {w : World} {F : Nat → Prop} {v : Value} {l : List UInt8} (h : Rd w F v l) : (convert 28 9 v).run Try.prog w = .ok (.string ⟨l.toArray⟩) w := by
  rcases h with ⟨rfl, rfl⟩ | ⟨g, o, cap, rfl, hl, -⟩
  · rw [run_convert_bytes_nil w 28 5 Try.underlying28 Try.underlying5 0 0 9 Try.underlying9]
    rfl
  · refine run_convert_bytes_back w 28 9 5 ⟨g, o, none⟩ cap l Try.underlying28 Try.underlying5 Try.underlying9 ?_
    intro j hj
    rw [Addr.add_lit]
    exact hl j _ (List.getElem?_eq_getElem hj)

theorem House.keep {At : World → Nat → (Nat → Prop) → St → Prop} (api : Api At) {w w' : World} {hb b : Nat} {G : Nat → Prop} {vo vt : Value} {st : St} {out tape : List UInt8}
    (h : House At w hb b G vo vt st out tape) (hk : ∀ k, HF hb G vo vt k → w'.heap[k]? = w.heap[k]?) : House At w' hb b G vo vt st out tape :=
  ⟨(hk hb (.inl rfl)).trans h.cell, api.keep h.at_ (fun k hG => hk k (.inr (.inl hG))), h.out.keep (fun g hg => hk g (.inr (.inr (.inl hg)))), h.tape.keep (fun g hg => hk g (.inr (.inr (.inr hg)))), h.hG, h.ho, h.ht, h.hot⟩

/-- Two houses that have nothing to do with each other. -/
structure Two (At : World → Nat → (Nat → Prop) → St → Prop) (w : World) (ha a : Nat) (Ga : Nat → Prop) (voa vta : Value) (sa : St) (hb b : Nat) (Gb : Nat → Prop) (vob vtb : Value) (sb : St) : Prop where
  one : House At w ha a Ga voa vta sa [] []
  two : House At w hb b Gb vob vtb sb [] []
  dj : ∀ k, HF ha Ga voa vta k → HF hb Gb vob vtb k → False

theorem Two.symm {At : World → Nat → (Nat → Prop) → St → Prop} {w : World} {ha a : Nat} {Ga : Nat → Prop} {voa vta : Value} {sa : St} {hb b : Nat} {Gb : Nat → Prop} {vob vtb : Value} {sb : St}
    (h : Two At w ha a Ga voa vta sa hb b Gb vob vtb sb) : Two At w hb b Gb vob vtb sb ha a Ga voa vta sa := ⟨h.two, h.one, fun k x y => h.dj k y x⟩

theorem Two.below {At : World → Nat → (Nat → Prop) → St → Prop} (api : Api At) {w w' : World} {ha a : Nat} {Ga : Nat → Prop} {voa vta : Value} {sa : St} {hb b : Nat} {Gb : Nat → Prop} {vob vtb : Value} {sb : St}
    (h : Two At w ha a Ga voa vta sa hb b Gb vob vtb sb) (hB : Below w.heap.size w w') : Two At w' ha a Ga voa vta sa hb b Gb vob vtb sb := ⟨House.below' api h.one hB, House.below' api h.two hB, h.dj⟩

theorem Two.step {At : World → Nat → (Nat → Prop) → St → Prop} (api : Api At) {w w' : World} {ha a : Nat} {Ga : Nat → Prop} {voa vta : Value} {sa : St} {hb b : Nat} {Gb Gb' : Nat → Prop} {vob vtb : Value} {sb sb' : St}
    (h : Two At w ha a Ga voa vta sa hb b Gb vob vtb sb) (hat : At w' b Gb' sb') (hfr : Fr Gb w w') (hG : ∀ k, Gb' k → Gb k ∨ w.heap.size ≤ k) : Two At w' ha a Ga voa vta sa hb b Gb' vob vtb sb' := by
  refine ⟨House.keep api h.one (fun k hk => hfr.block k (House.lt api h.one k hk) (fun hg => h.dj k hk (.inr (.inl hg)))), h.two.step hat hfr hG, ?_⟩
  intro k hk hk'
  have hlt := House.lt api h.one k hk
  rcases hk' with hk' | hk' | hk'
  · exact h.dj k hk (.inl hk')
  · rcases hG k hk' with h' | h'
    · exact h.dj k hk (.inr (.inl h'))
    · omega
  · exact h.dj k hk (.inr (.inr hk'))

/-- A block that belongs to neither house. -/
def Free (w : World) (Ga Gb : Nat → Prop) (g : Nat) : Prop := g < w.heap.size ∧ ¬ Ga g ∧ ¬ Gb g
theorem Free.below {w w' : World} {Ga Gb : Nat → Prop} {g : Nat} (h : Free w Ga Gb g) (hB : Below w.heap.size w w') : Free w' Ga Gb g ∧ w'.heap[g]? = w.heap[g]? := ⟨⟨Nat.lt_of_lt_of_le h.1 hB.size, h.2⟩, hB.block g h.1⟩
theorem Free.one {w w' : World} {Ga Ga' Gb : Nat → Prop} {g : Nat} (h : Free w Ga Gb g) (hfr : Fr Ga w w') (hG : ∀ k, Ga' k → Ga k ∨ w.heap.size ≤ k) : Free w' Ga' Gb g ∧ w'.heap[g]? = w.heap[g]? :=
  ⟨⟨Nat.lt_of_lt_of_le h.1 hfr.size, fun hk => by rcases hG g hk with h' | h'; exact h.2.1 h'; have := h.1; omega, h.2.2⟩, hfr.block g h.1 h.2.1⟩
theorem Free.two {w w' : World} {Ga Gb Gb' : Nat → Prop} {g : Nat} (h : Free w Ga Gb g) (hfr : Fr Gb w w') (hG : ∀ k, Gb' k → Gb k ∨ w.heap.size ≤ k) : Free w' Ga Gb' g ∧ w'.heap[g]? = w.heap[g]? :=
  ⟨⟨Nat.lt_of_lt_of_le h.1 hfr.size, h.2.1, fun hk => by rcases hG g hk with h' | h'; exact h.2.2 h'; have := h.1; omega⟩, hfr.block g h.1 h.2.2⟩

theorem Two.fresh {At : World → Nat → (Nat → Prop) → St → Prop} (api : Api At) {w : World} {ha a : Nat} {Ga : Nat → Prop} {voa vta : Value} {sa : St} {hb b : Nat} {Gb : Nat → Prop} {vob vtb : Value} {sb : St}
    (h : Two At w ha a Ga voa vta sa hb b Gb vob vtb sb) (o : Obj) : Free (w.alloc o) Ga Gb w.heap.size ∧ (w.alloc o).heap[w.heap.size]? = some o :=
  ⟨⟨by rw [size_alloc]; omega, fun hk => by have := api.lt h.one.at_ _ hk; omega, fun hk => by have := api.lt h.two.at_ _ hk; omega⟩, by rw [heap_alloc, if_pos rfl]⟩

/-- Bytes that came out and belong to nobody. -/
def Gave (w : World) (Ga Gb : Nat → Prop) (v : Value) (l : List UInt8) : Prop := Own w 0 v l ∧ ∀ g, v.ownBlock = some g → Free w Ga Gb g
theorem Gave.below {w w' : World} {Ga Gb : Nat → Prop} {v : Value} {l : List UInt8} (h : Gave w Ga Gb v l) (hB : Below w.heap.size w w') : Gave w' Ga Gb v l :=
  ⟨h.1.keep (fun g hg => ((h.2 g hg).below hB).2), fun g hg => ((h.2 g hg).below hB).1⟩
theorem Gave.one {w w' : World} {Ga Ga' Gb : Nat → Prop} {v : Value} {l : List UInt8} (h : Gave w Ga Gb v l) (hfr : Fr Ga w w') (hG : ∀ k, Ga' k → Ga k ∨ w.heap.size ≤ k) : Gave w' Ga' Gb v l :=
  ⟨h.1.keep (fun g hg => ((h.2 g hg).one hfr hG).2), fun g hg => ((h.2 g hg).one hfr hG).1⟩
theorem Gave.two {w w' : World} {Ga Gb Gb' : Nat → Prop} {v : Value} {l : List UInt8} (h : Gave w Ga Gb v l) (hfr : Fr Gb w w') (hG : ∀ k, Gb' k → Gb k ∨ w.heap.size ≤ k) : Gave w' Ga Gb' v l :=
  ⟨h.1.keep (fun g hg => ((h.2 g hg).two hfr hG).2), fun g hg => ((h.2 g hg).two hfr hG).1⟩
theorem Gave.of_one {At : World → Nat → (Nat → Prop) → St → Prop} (api : Api At) {w w' : World} {ha a : Nat} {Ga Ga' : Nat → Prop} {voa vta : Value} {sa : St} {hb b : Nat} {Gb : Nat → Prop} {vob vtb : Value} {sb : St} {v : Value} {l : List UInt8}
    (h : Two At w ha a Ga voa vta sa hb b Gb vob vtb sb) (ho : Own w' 0 v l) (hv : ∀ g, v.ownBlock = some g → (Ga g ∨ w.heap.size ≤ g) ∧ ¬ Ga' g) : Gave w' Ga' Gb v l := by
  refine ⟨ho, fun g hg => ⟨(ho.lt g hg).2, (hv g hg).2, fun hk => ?_⟩⟩
  rcases (hv g hg).1 with h' | h'
  · exact h.dj g (.inr (.inl h')) (.inr (.inl hk))
  · have := api.lt h.two.at_ g hk; omega
theorem Gave.of_two {At : World → Nat → (Nat → Prop) → St → Prop} (api : Api At) {w w' : World} {ha a : Nat} {Ga : Nat → Prop} {voa vta : Value} {sa : St} {hb b : Nat} {Gb Gb' : Nat → Prop} {vob vtb : Value} {sb : St} {v : Value} {l : List UInt8}
    (h : Two At w ha a Ga voa vta sa hb b Gb vob vtb sb) (ho : Own w' 0 v l) (hv : ∀ g, v.ownBlock = some g → (Gb g ∨ w.heap.size ≤ g) ∧ ¬ Gb' g) : Gave w' Ga Gb' v l := by
  refine ⟨ho, fun g hg => ⟨(ho.lt g hg).2, fun hk => ?_, (hv g hg).2⟩⟩
  rcases (hv g hg).1 with h' | h'
  · exact h.dj g (.inr (.inl hk)) (.inr (.inl h'))
  · have := api.lt h.one.at_ g hk; omega
theorem Gave.str {w : World} {Ga Gb : Nat → Prop} {v : Value} {l : List UInt8} (h : Gave w Ga Gb v l) : (convert 28 9 v).run Try.prog w = .ok (.string ⟨l.toArray⟩) w := run_str (F := fun _ => False) (h.1.rd (fun _ _ h => h))

end Go.Proofs.Ytphkchjejbffeaa

/- What is left of each token, as answers tell: plain lists. -/
namespace Go.Proofs.Ytphkchjejbffeaa

/-- Of a token: what is left, its side, whether it was replaced. -/
structure Hl where
  token : Nat
  left : Nat
  side : UInt8
  over : Bool

def Hl.less (h : Hl) (n : Nat) : Hl := { h with left := h.left - n }
def Hl.done (h : Hl) : Hl := { h with over := true }
def lessAt (t n : Nat) (l : List Hl) : List Hl := l.map fun h => if h.token = t then h.less n else h
def doneAt (t : Nat) (l : List Hl) : List Hl := l.map fun h => if h.token = t then h.done else h

/-- One answer, or two of an execution, and what it makes of the list. -/
inductive RdStep : List UInt8 → List Hl → List Hl → Prop
  | acc (t6 : List UInt8) (tok : Nat) (side stock : UInt8) (price shares : Nat) (kind : UInt8) (ref : Nat) (l : List Hl) (h6 : t6.length = 6) (h1 : tok < 4294967296) (h2 : shares < 65536) (h3 : ∀ h ∈ l, h.token ≠ tok) :
      RdStep (65 :: t6 ++ enc tok 4 ++ [side, stock] ++ enc price 2 ++ enc shares 2 ++ [kind] ++ enc ref 4) l (l ++ [⟨tok, shares, side, false⟩])
  | rep (t6 : List UInt8) (new old price shares ref : Nat) (l : List Hl) (h : Hl) (h6 : t6.length = 6) (h1 : new < 4294967296) (h2 : shares < 65536) (h3 : ∀ h ∈ l, h.token ≠ new) (h4 : h ∈ l) (h5 : h.token = old) (h7 : 1 ≤ h.left) (h8 : h.over = false) (h9 : old < 4294967296) :
      RdStep (85 :: t6 ++ enc new 4 ++ enc price 2 ++ enc shares 2 ++ enc ref 4 ++ enc old 4) l (doneAt old l ++ [⟨new, shares, h.side, false⟩])
  | can (t6 : List UInt8) (tok n : Nat) (r : UInt8) (l : List Hl) (h : Hl) (h6 : t6.length = 6) (h1 : tok < 4294967296) (h2 : n < 65536) (h4 : h ∈ l) (h5 : h.token = tok) (h7 : n ≤ h.left) :
      RdStep (88 :: t6 ++ enc tok 4 ++ enc n 2 ++ [r]) l (lessAt tok n l)
  | rej (t6 : List UInt8) (tok : Nat) (r : UInt8) (l : List Hl) (h6 : t6.length = 6) (h1 : tok < 4294967296) : RdStep (74 :: t6 ++ enc tok 4 ++ [r]) l l
  | fil (t6 : List UInt8) (a b n p m : Nat) (l : List Hl) (ha hb : Hl) (h6 : t6.length = 6) (h1 : a < 4294967296) (h2 : b < 4294967296) (h3 : n < 65536) (h0 : 1 ≤ n) (h4 : ha ∈ l) (h5 : ha.token = a) (h7 : hb ∈ l) (h8 : hb.token = b) (h9 : a ≠ b) (h10 : ha.side ≠ hb.side)
      (h11 : n ≤ ha.left) (h12 : n ≤ hb.left) :
      RdStep (70 :: t6 ++ enc a 4 ++ enc n 2 ++ enc p 2 ++ enc m 4 ++ (70 :: t6 ++ enc b 4 ++ enc n 2 ++ enc p 2 ++ enc m 4)) l (lessAt b n (lessAt a n l))

inductive Reads : List UInt8 → List Hl → List Hl → Prop
  | nil (l : List Hl) : Reads [] l l
  | cons (m r : List UInt8) (l l' l'' : List Hl) (h : RdStep m l l') (k : Reads r l' l'') : Reads (m ++ r) l l''

theorem Reads.one {m : List UInt8} {l l' : List Hl} (h : RdStep m l l') : Reads m l l' := by
  have := Reads.cons m [] l l' l' h (.nil l')
  rwa [List.append_nil] at this
theorem Reads.app {a b : List UInt8} {l l' l'' : List Hl} (h : Reads a l l') (k : Reads b l' l'') : Reads (a ++ b) l l'' := by
  induction h with
  | nil l => exact k
  | cons m r l l1 l2 h _ ih =>
    rw [List.append_assoc]
    exact .cons m (r ++ b) l l1 l'' h (ih k)

/-- An order, if it has shares. -/
def liveO (o : Ord) : List Ord := if o.shares = 0 then [] else [o]
def Hl.fits (h : Hl) (x : Ord) : Prop := h.token = x.token ∧ h.left = x.shares ∧ h.side = x.side ∧ h.over = false

structure Live (ords : List Ord) (l : List Hl) : Prop where
  ndl : (l.map (·.token)).Nodup
  ndo : (ords.map (·.token)).Nodup
  have_ : ∀ x ∈ ords, 1 ≤ x.shares ∧ ∃ h ∈ l, h.fits x
  only : ∀ h ∈ l, h.over = false → h.left ≠ 0 → ∃ x ∈ ords, h.fits x

theorem Live.perm {a b : List Ord} {l : List Hl} (h : Live a l) (p : a.Perm b) : Live b l :=
  ⟨h.ndl, (p.map _).nodup_iff.1 h.ndo, fun x hx => h.have_ x (p.mem_iff.2 hx), fun y hy h1 h2 => by
    obtain ⟨x, hx, e⟩ := h.only y hy h1 h2
    exact ⟨x, p.mem_iff.1 hx, e⟩⟩

theorem nd_eq {l : List Hl} (h : (l.map (·.token)).Nodup) {a b : Hl} (ha : a ∈ l) (hb : b ∈ l) (e : a.token = b.token) : a = b := by
  induction l with
  | nil => cases ha
  | cons x l ih =>
    rw [List.map_cons, List.nodup_cons] at h
    rcases List.mem_cons.1 ha with rfl | ha'
    · rcases List.mem_cons.1 hb with rfl | hb'
      · rfl
      · exact absurd (List.mem_map.2 ⟨b, hb', e.symm⟩) h.1
    · rcases List.mem_cons.1 hb with rfl | hb'
      · exact absurd (List.mem_map.2 ⟨a, ha', e⟩) h.1
      · exact ih h.2 ha' hb'

theorem less_tokens (t n : Nat) (l : List Hl) : (lessAt t n l).map (·.token) = l.map (·.token) := by
  unfold lessAt
  rw [List.map_map]
  refine List.map_congr_left fun h _ => ?_
  simp only [Function.comp_apply]
  split <;> rfl
theorem done_tokens (t : Nat) (l : List Hl) : (doneAt t l).map (·.token) = l.map (·.token) := by
  unfold doneAt
  rw [List.map_map]
  refine List.map_congr_left fun h _ => ?_
  simp only [Function.comp_apply]
  split <;> rfl
theorem mem_less {t n : Nat} {l : List Hl} {h : Hl} : h ∈ lessAt t n l ↔ ∃ a ∈ l, h = if a.token = t then a.less n else a := by
  unfold lessAt
  rw [List.mem_map]
  exact ⟨fun ⟨a, ha, e⟩ => ⟨a, ha, e.symm⟩, fun ⟨a, ha, e⟩ => ⟨a, ha, e.symm⟩⟩
theorem mem_done {t : Nat} {l : List Hl} {h : Hl} : h ∈ doneAt t l ↔ ∃ a ∈ l, h = if a.token = t then a.done else a := by
  unfold doneAt
  rw [List.mem_map]
  exact ⟨fun ⟨a, ha, e⟩ => ⟨a, ha, e.symm⟩, fun ⟨a, ha, e⟩ => ⟨a, ha, e.symm⟩⟩

/-- Of one order shares are gone. -/
theorem Live.less {f : Ord} {R : List Ord} {l : List Hl} (h : Live (f :: R) l) (n : Nat) (h2 : n ≤ f.shares) :
    Live (liveO { f with shares := f.shares - n } ++ R) (lessAt f.token n l) := by
  have hnd := h.ndo
  rw [List.map_cons, List.nodup_cons] at hnd
  obtain ⟨hf1, hf, hfl, hff⟩ := h.have_ f (by simp)
  refine ⟨by rw [less_tokens]; exact h.ndl, ?_, ?_, ?_⟩
  · unfold liveO
    split
    · exact hnd.2
    · show (f.token :: R.map (·.token)).Nodup
      exact h.ndo
  · intro x hx
    rcases List.mem_append.1 hx with hx | hx
    · unfold liveO at hx
      split at hx
      · cases hx
      · rename_i hne
        simp at hx
        subst hx
        refine ⟨?_, hf.less n, mem_less.2 ⟨hf, hfl, by rw [if_pos hff.1]⟩, ?_⟩
        · simp only at hne ⊢; omega
        · exact ⟨hff.1, by show hf.left - n = f.shares - n; rw [hff.2.1], hff.2.2.1, hff.2.2.2⟩
    · obtain ⟨h1, y, hy, hyf⟩ := h.have_ x (by simp [hx])
      refine ⟨h1, y, mem_less.2 ⟨y, hy, ?_⟩, hyf⟩
      rw [if_neg]
      intro e
      exact hnd.1 (List.mem_map.2 ⟨x, hx, by rw [← hyf.1, e]⟩)
  · intro y hy ho hl
    obtain ⟨a, ha, e⟩ := mem_less.1 hy
    by_cases hat : a.token = f.token
    · rw [if_pos hat] at e
      have : a = hf := nd_eq h.ndl ha hfl (by rw [hat, hff.1])
      subst this
      subst e
      have hne : f.shares - n ≠ 0 := by
        intro e0
        apply hl
        show a.left - n = 0
        rw [hff.2.1]; exact e0
      refine ⟨{ f with shares := f.shares - n }, ?_, ?_⟩
      · unfold liveO
        rw [if_neg hne]
        simp
      · exact ⟨hff.1, by show a.left - n = f.shares - n; rw [hff.2.1], hff.2.2.1, hff.2.2.2⟩
    · rw [if_neg hat] at e
      subst e
      obtain ⟨x, hx, hxf⟩ := h.only y ha ho hl
      rcases List.mem_cons.1 hx with rfl | hx
      · exact absurd hxf.1 hat
      · exact ⟨x, by simp [hx], hxf⟩

theorem Live.add {x : Ord} {R : List Ord} {l : List Hl} (h : Live R l) (hn : ∀ y ∈ l, y.token ≠ x.token) (h1 : 1 ≤ x.shares) : Live (x :: R) (l ++ [⟨x.token, x.shares, x.side, false⟩]) := by
  refine ⟨?_, ?_, ?_, ?_⟩
  · rw [List.map_append, List.nodup_append]
    refine ⟨h.ndl, by simp, ?_⟩
    intro a ha b hb e
    simp at hb
    obtain ⟨y, hy, rfl⟩ := List.mem_map.1 ha
    exact hn y hy (by rw [e, hb])
  · rw [List.map_cons, List.nodup_cons]
    refine ⟨?_, h.ndo⟩
    intro hx
    obtain ⟨y, hy, e⟩ := List.mem_map.1 hx
    obtain ⟨-, z, hz, hzf⟩ := h.have_ y hy
    exact hn z hz (by rw [hzf.1, e])
  · intro y hy
    rcases List.mem_cons.1 hy with rfl | hy
    · exact ⟨h1, ⟨y.token, y.shares, y.side, false⟩, by simp, rfl, rfl, rfl, rfl⟩
    · obtain ⟨a, z, hz, hzf⟩ := h.have_ y hy
      exact ⟨a, z, by simp [hz], hzf⟩
  · intro y hy ho hl
    rcases List.mem_append.1 hy with hy | hy
    · obtain ⟨z, hz, hzf⟩ := h.only y hy ho hl
      exact ⟨z, by simp [hz], hzf⟩
    · simp at hy
      subst hy
      exact ⟨x, by simp, rfl, rfl, rfl, rfl⟩

theorem Live.swap {old new : Ord} {R : List Ord} {l : List Hl} (h : Live (old :: R) l) (hn : ∀ y ∈ l, y.token ≠ new.token) (h1 : 1 ≤ new.shares) : Live (new :: R) (doneAt old.token l ++ [⟨new.token, new.shares, new.side, false⟩]) := by
  have hnd := h.ndo
  rw [List.map_cons, List.nodup_cons] at hnd
  have hmid : Live R (doneAt old.token l) := by
    refine ⟨by rw [done_tokens]; exact h.ndl, hnd.2, ?_, ?_⟩
    · intro x hx
      obtain ⟨a, y, hy, hyf⟩ := h.have_ x (by simp [hx])
      refine ⟨a, y, mem_done.2 ⟨y, hy, ?_⟩, hyf⟩
      rw [if_neg]
      intro e
      exact hnd.1 (List.mem_map.2 ⟨x, hx, by rw [← hyf.1, e]⟩)
    · intro y hy ho hl
      obtain ⟨a, ha, e⟩ := mem_done.1 hy
      by_cases hat : a.token = old.token
      · rw [if_pos hat] at e
        subst e
        cases ho
      · rw [if_neg hat] at e
        subst e
        obtain ⟨x, hx, hxf⟩ := h.only y ha ho hl
        rcases List.mem_cons.1 hx with rfl | hx
        · exact absurd hxf.1 hat
        · exact ⟨x, hx, hxf⟩
  refine hmid.add ?_ h1
  intro y hy
  obtain ⟨a, ha, e⟩ := mem_done.1 hy
  have := hn a ha
  rw [e]
  split <;> exact this

/-- As many entries are alive as there are orders. -/
theorem Live.count {ords : List Ord} {l : List Hl} (h : Live ords l) : (l.filter fun y => !y.over && y.left != 0).length = ords.length := by
  have hp : ((l.filter fun y => !y.over && y.left != 0).map (·.token)).Perm (ords.map (·.token)) := by
    refine (List.perm_ext_iff_of_nodup ?_ h.ndo).2 ?_
    · exact List.Nodup.sublist (List.Sublist.map _ List.filter_sublist) h.ndl
    · intro t
      rw [List.mem_map, List.mem_map]
      constructor
      · rintro ⟨y, hy, rfl⟩
        rw [List.mem_filter] at hy
        simp only [Bool.and_eq_true, Bool.not_eq_true', bne_iff_ne] at hy
        obtain ⟨x, hx, hxf⟩ := h.only y hy.1 hy.2.1 hy.2.2
        exact ⟨x, hx, hxf.1.symm⟩
      · rintro ⟨x, hx, rfl⟩
        obtain ⟨a, y, hy, hyf⟩ := h.have_ x hx
        refine ⟨y, List.mem_filter.2 ⟨hy, ?_⟩, hyf.1⟩
        simp only [Bool.and_eq_true, Bool.not_eq_true', bne_iff_ne]
        exact ⟨hyf.2.2.2, by rw [hyf.2.1]; omega⟩
  have := hp.length_eq
  simpa using this

end Go.Proofs.Ytphkchjejbffeaa
