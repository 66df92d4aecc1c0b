/- What the operations yield of a region that makes a message and hands it in. -/
import Derived.Test.YtphkchjejbffeaaG06
import Derived.Deep.Cut
import Derived.Test.YtphkchjejbffeaaRows
import Derived.ProofKit
import Derived.OpenShut
import Derived.ShutString
import Derived.ChangeOld
import Derived.Below
import Derived.SizedLaws
import Derived.Deep.Slices
namespace Go.Proofs.Ytphkchjejbffeaa
open Go.RowKit

inductive RgK where
  | val (x : Value)
  | bytes (l : List UInt8)
  | rows (l : List UInt8) (n : Nat)
  | own (l : List UInt8)

/-- What is said of a value: behind the block B0. -/
def RgK.holds (B0 : Nat) : RgK → Value → World → Prop
  | .val x, v, _ => v = x
  | .bytes l, v, w => ∃ g, v = .slice (some ⟨g, 0, none⟩) l.length l.length ∧ w.heap[g]? = some (.cells (l.map B).toArray 5)
  | .rows l n, v, w => ∃ bl ps, v = .slice (some ⟨bl, 0, none⟩) n n ∧ ps.length = n ∧ w.heap[bl]? = some (.cells (ps.map Piece.val).toArray 28) ∧
      (∀ p ∈ ps, p.o = 0 ∧ w.heap[p.b]? = some (.cells (p.l.map B).toArray 5)) ∧ cat ps = l
  | .own l, v, w => Own w B0 v l

theorem heap_lt {w : World} {g : Nat} {o : Obj} (h : w.heap[g]? = some o) : g < w.heap.size := (Array.getElem?_eq_some_iff.1 h).1
theorem RgK.keep {B0 : Nat} {k : RgK} {v : Value} {w w' : World} (h : k.holds B0 v w) (hb : Below w.heap.size w w') : k.holds B0 v w' := by
  cases k with
  | val x => exact h
  | bytes l =>
    obtain ⟨g, h1, h2⟩ := h
    exact ⟨g, h1, (hb.block g (heap_lt h2)).trans h2⟩
  | rows l n =>
    obtain ⟨bl, ps, h1, h2, h3, h4, h5⟩ := h
    exact ⟨bl, ps, h1, h2, (hb.block bl (heap_lt h3)).trans h3, fun p hp => ⟨(h4 p hp).1, (hb.block p.b (heap_lt (h4 p hp).2)).trans (h4 p hp).2⟩, h5⟩
  | own l => exact Own.below h hb

def rgV (B0 : Nat) (ks : List RgK) (j : Nat) (v : Value) (w : World) : Prop := ∀ k, ks[j]? = some k → k.holds B0 v w
theorem rgV_keep {B0 : Nat} {ks : List RgK} {w w' : World} (hb : Below w.heap.size w w') (j : Nat) (u : Value) (h : rgV B0 ks j u w) : rgV B0 ks j u w' := fun k hk => RgK.keep (h k hk) hb
theorem rgV_mk {B0 : Nat} {ks : List RgK} {j : Nat} {k : RgK} {v : Value} {w : World} (hk : ks[j]? = some k) (h : k.holds B0 v w) : rgV B0 ks j v w := fun k' hk' => by
  rw [hk] at hk'
  cases hk'
  exact h

/-- A frame that is written out, parted. -/
theorem wp_region_parted {P : Program} {id : Nat} {ops : Array Oper} {Q : Exit → Go.Act → World → Prop} (lo n : Nat) (A : List Value) {df : List Deferred} {w : World}
    (h : (Code.region id ops true).wp P Q (RgFrame (A.take lo) ((A.drop lo).take (n + 1)) (A.drop (lo + (n + 1))) df) w) : (Code.region id ops true).wp P Q ⟨A.toArray, df⟩ w := by
  have e : RgFrame (A.take lo) ((A.drop lo).take (n + 1)) (A.drop (lo + (n + 1))) df = ⟨A.toArray, df⟩ := by
    unfold RgFrame
    rw [List.append_assoc, ← List.drop_drop, List.take_append_drop, List.take_append_drop]
  rw [← e]
  exact h

end Go.Proofs.Ytphkchjejbffeaa

/- The law Refused, out of what the calls do. -/
namespace Go.Proofs.Ytphkchjejbffeaa
open Go.RowKit
attribute [local go_sem ↓] Go.wp_at_zero Go.wp_at_succ

theorem list_len20 {α : Type} (l : List α) (h : l.length = 20) : ∃ x0 x1 x2 x3 x4 x5 x6 x7 x8 x9 x10 x11 x12 x13 x14 x15 x16 x17 x18 x19, l = [x0, x1, x2, x3, x4, x5, x6, x7, x8, x9, x10, x11, x12, x13, x14, x15, x16, x17, x18, x19] := by
  match l, h with
  | [x0, x1, x2, x3, x4, x5, x6, x7, x8, x9, x10, x11, x12, x13, x14, x15, x16, x17, x18, x19], _ => exact ⟨x0, x1, x2, x3, x4, x5, x6, x7, x8, x9, x10, x11, x12, x13, x14, x15, x16, x17, x18, x19, rfl⟩

def q1 (kd : UInt8) : UInt8 := if kd ≠ 68 ∧ kd ≠ 73 then 75 else 0
def q2 (sh : Nat) (kd : UInt8) : UInt8 := if sh < 1 ∨ 9999 < sh then 81 else q1 kd
def q3 (p sh : Nat) (kd : UInt8) : UInt8 := if p < 1 ∨ 10 < p then 80 else q2 sh kd
def q4 (stk p sh : Nat) (kd : UInt8) : UInt8 := if 3 ≤ stk then 83 else q3 p sh kd
def q5 (sd : UInt8) (stk p sh : Nat) (kd : UInt8) : UInt8 := if sd ≠ 66 ∧ sd ≠ 83 then 66 else q4 stk p sh kd

set_option maxRecDepth 100000 in
set_option maxHeartbeats 4000000 in
theorem refused_any {At : World → Nat → (Nat → Prop) → St → Prop} (api : Api At) (pool : Int) (v : Value) (l : List Act) (wrong at_ : Int) (w : World) (h1 : -9223372036854775808 ≤ pool) (h2 : pool ≤ 9223372036854775807)
    (hl : ActsAt w v l) (hn : l.length ≤ 2600000000000) (x1 : -9223372036854775808 ≤ wrong) (x2 : wrong ≤ 9223372036854775807) (y1 : -9223372036854775808 ≤ at_) (y2 : at_ ≤ 9223372036854775807) :
    Calls Try.prog 4 #[.int .i64 pool, v, .int .i64 wrong, .int .i64 at_] w fun e w' => e = .returned (.bool true) ∧ Below w.heap.size w w' := by
  have gd := Good.acts l (good_started pool)
  have hu1 := acts_used l (good_started pool) 1000 (by rw [started_used]; decide)
  have hu2 := acts_used l (good_started pool) 1001 (by rw [started_used]; decide)
  rw [Nat.zero_add] at gd
  have hls := gd.lens
  have hbig : big = 70368744177664 := rfl
  have HA := Hid.mk (acts_any api pool v l w h1 h2 hl (by rw [hbig]; omega) (by rw [hbig]; omega))
  have HG := Hid.mk gd
  have HU := Hid.mk (And.intro hu1 hu2)
  clear hl hn hls hbig gd hu1 hu2
  generalize hX : (started pool).acts l = x at *
  have HX := Hid.mk hX
  clear hX
  have bc := pick_lt wrong 63 (by omega)
  have b3 := pick_lt at_ 3 (by omega)
  have b253 := pick_lt at_ 253 (by omega)
  have b2 := pick_lt at_ 2 (by omega)
  have p3 : pick at_ 3 = 0 ∨ pick at_ 3 = 1 ∨ pick at_ 3 = 2 := by omega
  go_enter Try.func4, Try.ntmps4
  go_wp2_with fail
  refine HA.out.mono ?_
  rintro e w1 ⟨hb, b, G, vo, vt, rfl, hh, hF, hB⟩
  have HN := Hid.mk (And.intro hh (And.intro hF hB))
  clear hh hF hB
  go_wp2_with fail
  refine (rests_good api w1 HN.out.1 HG.out).mono ?_
  rintro e w2 ⟨vw, rfl, how, hb2⟩
  obtain ⟨rw_, cw, rfl, -, -⟩ := ownsRow_len how
  have hh2 := House.below api HN.out.1 hb2
  obtain ⟨d0, -⟩ := cells3 hh2.cell
  have HW := Hid.mk (And.intro how hb2)
  have HH2 := Hid.mk hh2
  clear how hb2 hh2
  have hbl : hb < w2.heap.size := (Array.getElem?_eq_some_iff.1 HH2.out.cell).1
  go_wp2_with fail
  refine (pick_any wrong 63 w2 x1 x2 (by decide) (by decide)).mono ?_
  rintro e w' ⟨rfl, hw⟩
  replace hw := hw.symm
  subst hw
  rw [show (63 : Int).toNat = 63 from rfl]
  generalize pick wrong 63 = pw at *
  have z0 : (0 : Int) ≤ (pw : Int) := by omega
  have z1 : (pw : Int) ≤ 62 := by omega
  go_upto_if 45 with (fail)
  go_cut [19, 20] from 26 (fun s19 s20 wc => ∃ kd rs : UInt8, s19 = .int .u8 kd.toNat ∧ s20 = .int .u8 rs.toNat ∧ Hid (rs = q1 kd ∧ ((1 + (pw : Int)) / 32 % 2 = 1 → rs ≠ 0) ∧ Below w2.heap.size w2 wc))
  case first =>
    by_cases hc : (1 + (pw : Int)) / 32 % 2 = 1
    · go_wp2_with fail
      go_meet
      case rel => exact ⟨88, 75, rfl, rfl, ⟨by decide, fun _ => by decide, Below.refl _ _⟩⟩
    · go_wp2_with fail
      go_meet
      case rel => exact ⟨73, 0, rfl, rfl, ⟨by decide, fun h => absurd h hc, Below.refl _ _⟩⟩
  case rest =>
    obtain ⟨kd, rs, rfl, rfl, HR1⟩ := hcut
    go_upto_if 49 with (fail)
    go_cut [18, 20] from 26 (fun s18 s20 wd => ∃ (sh : Nat) (rs2 : UInt8), s18 = .int .i64 sh ∧ s20 = .int .u8 rs2.toNat ∧ Hid (sh < 65536 ∧ rs2 = q2 sh kd ∧ ((1 + (pw : Int)) / 32 % 2 = 1 ∨ (1 + (pw : Int)) / 16 % 2 = 1 → rs2 ≠ 0) ∧ Below w2.heap.size w2 wd))
    case first =>
      by_cases hc : (1 + (pw : Int)) / 16 % 2 = 1
      · rcases p3 with e | e | e
        all_goals
          go_wp2_with (go_at_call 11; refine (pick_any at_ 3 _ y1 y2 (by decide) (by decide)).mono ?_; rintro e w' ⟨rfl, hw⟩; replace hw := hw.symm; subst hw; rw [show (3 : Int).toNat = 3 from rfl, e])
          go_meet
        case rel => exact ⟨0, 81, rfl, rfl, ⟨by decide, by unfold q2; rw [if_pos (by omega)], fun _ => by decide, HR1.out.2.2.alloc HR1.out.2.2.size _⟩⟩
        case rel => exact ⟨10000, 81, rfl, rfl, ⟨by decide, by unfold q2; rw [if_pos (by omega)], fun _ => by decide, HR1.out.2.2.alloc HR1.out.2.2.size _⟩⟩
        case rel => exact ⟨65535, 81, rfl, rfl, ⟨by decide, by unfold q2; rw [if_pos (by omega)], fun _ => by decide, HR1.out.2.2.alloc HR1.out.2.2.size _⟩⟩
      · go_wp2_with fail
        go_meet
        case rel => exact ⟨9999, rs, rfl, rfl, ⟨by decide, by rw [HR1.out.1]; unfold q2; rw [if_neg (by omega)], fun h => HR1.out.2.1 (h.resolve_right hc), HR1.out.2.2⟩⟩
    case rest =>
      obtain ⟨sh, rs2, rfl, rfl, HR2⟩ := hcut
      clear HR1
      rename_i wc2
      go_upto_if 58 with (fail)
      go_cut [17, 20] from 26 (fun s17 s20 wd => ∃ (pr : Nat) (rs3 : UInt8), s17 = .int .i64 pr ∧ s20 = .int .u8 rs3.toNat ∧ Hid (sh < 65536 ∧ pr < 65536 ∧ rs3 = q3 pr sh kd ∧ ((1 + (pw : Int)) / 32 % 2 = 1 ∨ (1 + (pw : Int)) / 16 % 2 = 1 ∨ (1 + (pw : Int)) / 8 % 2 = 1 → rs3 ≠ 0) ∧ Below w2.heap.size w2 wd))
      case first =>
        by_cases hc : (1 + (pw : Int)) / 8 % 2 = 1
        · rcases p3 with e | e | e
          all_goals
            go_wp2_with (go_at_call 11; refine (pick_any at_ 3 _ y1 y2 (by decide) (by decide)).mono ?_; rintro e w' ⟨rfl, hw⟩; replace hw := hw.symm; subst hw; rw [show (3 : Int).toNat = 3 from rfl, e])
            go_meet
          case rel => exact ⟨0, 80, rfl, rfl, ⟨HR2.out.1, by decide, by unfold q3; rw [if_pos (by omega)], fun _ => by decide, HR2.out.2.2.2.alloc HR2.out.2.2.2.size _⟩⟩
          case rel => exact ⟨11, 80, rfl, rfl, ⟨HR2.out.1, by decide, by unfold q3; rw [if_pos (by omega)], fun _ => by decide, HR2.out.2.2.2.alloc HR2.out.2.2.2.size _⟩⟩
          case rel => exact ⟨65535, 80, rfl, rfl, ⟨HR2.out.1, by decide, by unfold q3; rw [if_pos (by omega)], fun _ => by decide, HR2.out.2.2.2.alloc HR2.out.2.2.2.size _⟩⟩
        · go_wp2_with fail
          go_meet
          case rel => exact ⟨10, rs2, rfl, rfl, ⟨HR2.out.1, by decide, by rw [HR2.out.2.1]; unfold q3; rw [if_neg (by omega)], fun h => HR2.out.2.2.1 (h.imp_right (fun h => h.resolve_right hc)), HR2.out.2.2.2⟩⟩
      case rest =>
        obtain ⟨pr, rs3, rfl, rfl, HR3⟩ := hcut
        clear HR2
        rename_i wc3
        go_upto_if 67 with (fail)
        go_cut [16, 20] from 26 (fun s16 s20 wd => ∃ (stk : Nat) (rs4 : UInt8), s16 = .int .i64 stk ∧ s20 = .int .u8 rs4.toNat ∧ Hid (sh < 65536 ∧ pr < 65536 ∧ stk < 256 ∧ rs4 = q4 stk pr sh kd ∧ ((1 + (pw : Int)) / 32 % 2 = 1 ∨ (1 + (pw : Int)) / 16 % 2 = 1 ∨ (1 + (pw : Int)) / 8 % 2 = 1 ∨ (1 + (pw : Int)) / 4 % 2 = 1 → rs4 ≠ 0) ∧ Below w2.heap.size w2 wd))
        case first =>
          by_cases hc : (1 + (pw : Int)) / 4 % 2 = 1
          · go_wp2_with (go_at_call 11; refine (pick_any at_ 253 _ y1 y2 (by decide) (by decide)).mono ?_; rintro e w' ⟨rfl, hw⟩; replace hw := hw.symm; subst hw; rw [show (253 : Int).toNat = 253 from rfl])
            go_meet
            case rel => exact ⟨3 + pick at_ 253, 83, by simp, rfl, ⟨HR3.out.1, HR3.out.2.1, by omega, by unfold q4; rw [if_pos (by omega)], fun _ => by decide, HR3.out.2.2.2.2⟩⟩
          · go_wp2_with fail
            go_meet
            case rel => exact ⟨2, rs3, rfl, rfl, ⟨HR3.out.1, HR3.out.2.1, by decide, by rw [HR3.out.2.2.1]; unfold q4; rw [if_neg (by omega)], fun h => HR3.out.2.2.2.1 (by omega), HR3.out.2.2.2.2⟩⟩
        case rest =>
          obtain ⟨stk, rs4, rfl, rfl, HR4⟩ := hcut
          clear HR3
          rename_i wc4
          go_upto_if 74 with (fail)
          go_cut [15, 20] from 26 (fun s15 s20 wd => ∃ (sd rs5 : UInt8), s15 = .int .u8 sd.toNat ∧ s20 = .int .u8 rs5.toNat ∧ Hid (sh < 65536 ∧ pr < 65536 ∧ stk < 256 ∧ rs5 = q5 sd stk pr sh kd ∧ ((1 + (pw : Int)) / 32 % 2 = 1 ∨ (1 + (pw : Int)) / 16 % 2 = 1 ∨ (1 + (pw : Int)) / 8 % 2 = 1 ∨ (1 + (pw : Int)) / 4 % 2 = 1 ∨ (1 + (pw : Int)) / 2 % 2 = 1 → rs5 ≠ 0) ∧ Below w2.heap.size w2 wd))
          case first =>
            by_cases hc : (1 + (pw : Int)) / 2 % 2 = 1
            · go_wp2_with fail
              go_meet
              case rel => exact ⟨98, 66, rfl, rfl, ⟨HR4.out.1, HR4.out.2.1, HR4.out.2.2.1, by unfold q5; rw [if_pos (by decide)], fun _ => by decide, HR4.out.2.2.2.2.2⟩⟩
            · go_wp2_with fail
              go_meet
              case rel => exact ⟨66, rs4, rfl, rfl, ⟨HR4.out.1, HR4.out.2.1, HR4.out.2.2.1, by rw [HR4.out.2.2.2.1]; unfold q5; rw [if_neg (by decide)], fun h => HR4.out.2.2.2.2.1 (by omega), HR4.out.2.2.2.2.2⟩⟩
          case rest =>
            obtain ⟨sd, rs5, rfl, rfl, HR5⟩ := hcut
            clear HR4
            rename_i wc5
            go_upto_if 77 with (fail)
            go_cut [14, 20] from 26 (fun s14 s20 wd => ∃ (T : Nat) (rs6 : UInt8), s14 = .int .i64 T ∧ s20 = .int .u8 rs6.toNat ∧ T ≤ 2000 ∧ stk < 256 ∧ pr < 65536 ∧ sh < 65536 ∧ Hid ((T = 2000 ∨ T = 1000 ∨ T = 1001) ∧ rs6 = wrongQ T sd stk pr sh kd ∧ rs6 ≠ 0 ∧ Below w2.heap.size w2 wd))
            case first =>
              by_cases hc : (1 + (pw : Int)) % 2 = 1
              · go_wp2_with (go_at_call 11; refine (pick_any at_ 2 _ y1 y2 (by decide) (by decide)).mono ?_; rintro e w' ⟨rfl, hw⟩; replace hw := hw.symm; subst hw; rw [show (2 : Int).toNat = 2 from rfl])
                go_meet
                case rel => exact ⟨1001 - pick at_ 2, 68, by simp; omega, rfl, by omega, HR5.out.2.2.1, HR5.out.2.1, HR5.out.1, ⟨by omega, by unfold wrongQ; rw [if_pos (by omega)], by decide, HR5.out.2.2.2.2.2⟩⟩
              · go_wp2_with fail
                go_meet
                case rel => exact ⟨2000, rs5, rfl, rfl, by omega, HR5.out.2.2.1, HR5.out.2.1, HR5.out.1, ⟨by omega, by rw [HR5.out.2.2.2.1]; rfl, HR5.out.2.2.2.2.1 (by omega), HR5.out.2.2.2.2.2⟩⟩
            case rest =>
              obtain ⟨T, rs6, rfl, rfl, t1, t2, t3, t4, HR6⟩ := hcut
              clear HR5
              rename_i wcx
              have hhc := House.below' api HH2.out HR6.out.2.2.2
              have HHC := Hid.mk hhc
              obtain ⟨dc, -⟩ := cells3 hhc.cell
              have hblc : hb < wc.heap.size := heap_lt hhc.cell
              clear hhc d0 hbl
              go_upto_region 31 with (fail)
              refine wp_region_parted 81 19 _ ?_
              refine wp_region_vals (by kernel_rfl) (by kernel_rfl) 19 rfl (rgV wc.heap.size [.val (.pointer (some ⟨hb, 0, none⟩)), .val (.pointer (some ⟨hb, 0, none⟩)), .val (.pointer (some ⟨hb, 0, none⟩)), .val (.pointer (some ⟨b, 0, none⟩)), .bytes ([69]), .val (.int .i64 T), .bytes (enc T 4), .val (.int .u8 sd.toNat), .val (.int .i64 stk), .val (.int .u8 stk), .bytes ([sd, UInt8.ofNat stk]), .val (.int .i64 pr), .bytes (enc pr 2), .val (.int .i64 sh), .bytes (enc sh 2), .val (.int .u8 kd.toNat), .bytes ([kd]), .rows (enterMsg T sd (UInt8.ofNat stk) pr sh kd) 6, .own (enterMsg T sd (UInt8.ofNat stk) pr sh kd)]) (Below wc.heap.size wc) rfl ⟨rfl, rfl, rfl, Nat.le_refl _, fun _ _ => rfl⟩ ?_ ?_
              · intro i o hi ho vals W hvl hR hdep K hK
                obtain ⟨x0, x1, x2, x3, x4, x5, x6, x7, x8, x9, x10, x11, x12, x13, x14, x15, x16, x17, x18, x19, rfl⟩ := list_len20 vals hvl
                have dW : W.cell? ⟨hb, 0, none⟩ = some (.pointer (some ⟨b, 0, none⟩)) := (hR.cell (p := ⟨hb, 0, none⟩) hblc).trans dc
                unfold RgFrame
                simp only [List.take_succ_cons, List.take_zero, List.drop_succ_cons, List.drop_zero, List.cons_append, List.nil_append]
                have hcase : i = 0 ∨ i = 1 ∨ i = 2 ∨ i = 3 ∨ i = 4 ∨ i = 5 ∨ i = 6 ∨ i = 7 ∨ i = 8 ∨ i = 9 ∨ i = 10 ∨ i = 11 ∨ i = 12 ∨ i = 13 ∨ i = 14 ∨ i = 15 ∨ i = 16 ∨ i = 17 ∨ i = 18 := by omega
                rcases hcase with rfl | rfl | rfl | rfl | rfl | rfl | rfl | rfl | rfl | rfl | rfl | rfl | rfl | rfl | rfl | rfl | rfl | rfl | rfl
                · obtain rfl := Option.some.inj ho
                  clear dc hdep
                  go_wp2_with fail
                  exact hK (.pointer (some ⟨hb, 0, none⟩)) _ (rgV_mk rfl rfl) hR (fun _ _ h => h)
                · obtain rfl := Option.some.inj ho
                  have e0 := hdep ⟨0, .data⟩ (by simp) _ rfl
                  change x0 = _ at e0
                  subst e0
                  clear dc hdep
                  go_wp2_with fail
                  exact hK (.pointer (some ⟨hb, 0, none⟩)) _ (rgV_mk rfl rfl) hR (fun _ _ h => h)
                · obtain rfl := Option.some.inj ho
                  have e1 := hdep ⟨1, .data⟩ (by simp) _ rfl
                  change x1 = _ at e1
                  subst e1
                  clear dc hdep
                  go_wp2_with fail
                  exact hK (.pointer (some ⟨hb, 0, none⟩)) _ (rgV_mk rfl rfl) hR (fun _ _ h => h)
                · obtain rfl := Option.some.inj ho
                  have e2 := hdep ⟨2, .data⟩ (by simp) _ rfl
                  change x2 = _ at e2
                  subst e2
                  clear hdep
                  go_wp2_with fail
                  exact hK (.pointer (some ⟨b, 0, none⟩)) _ (rgV_mk rfl rfl) hR (fun _ _ h => h)
                · obtain rfl := Option.some.inj ho
                  go_wp2_with fail
                  exact hK _ _ (rgV_mk rfl ⟨W.heap.size, rfl, by rw [heap_alloc, if_pos rfl] <;> (rfl)⟩) (hR.alloc hR.size _) (rgV_keep ((Below.refl _ _).alloc (Nat.le_refl _) _))
                · obtain rfl := Option.some.inj ho
                  clear dc hdep
                  go_wp2_with fail
                  exact hK (.int .i64 T) _ (rgV_mk rfl rfl) hR (fun _ _ h => h)
                · obtain rfl := Option.some.inj ho
                  have e5 := hdep ⟨5, .data⟩ (by simp) _ rfl
                  change x5 = _ at e5
                  subst e5
                  go_wp2_with (go_at_call 14; refine (num_any _ _ _ (by omega) (by omega) (by decide) (by decide)).mono ?_; rintro e w' ⟨rfl, rfl⟩)
                  exact hK _ _ (rgV_mk rfl ⟨W.heap.size, rfl, by rw [heap_alloc, if_pos rfl] <;> rfl⟩) (hR.alloc hR.size _) (rgV_keep ((Below.refl _ _).alloc (Nat.le_refl _) _))
                · obtain rfl := Option.some.inj ho
                  clear dc hdep
                  go_wp2_with fail
                  exact hK (.int .u8 sd.toNat) _ (rgV_mk rfl rfl) hR (fun _ _ h => h)
                · obtain rfl := Option.some.inj ho
                  clear dc hdep
                  go_wp2_with fail
                  exact hK (.int .i64 stk) _ (rgV_mk rfl rfl) hR (fun _ _ h => h)
                · obtain rfl := Option.some.inj ho
                  have e8 := hdep ⟨8, .data⟩ (by simp) _ rfl
                  change x8 = _ at e8
                  subst e8
                  clear dc hdep
                  go_wp2_with fail
                  exact hK (.int .u8 stk) _ (rgV_mk rfl rfl) hR (fun _ _ h => h)
                · obtain rfl := Option.some.inj ho
                  have e7 := hdep ⟨7, .data⟩ (by simp) _ rfl
                  change x7 = _ at e7
                  subst e7
                  have e9 := hdep ⟨9, .data⟩ (by simp) _ rfl
                  change x9 = _ at e9
                  subst e9
                  go_wp2_with fail
                  exact hK _ _ (rgV_mk rfl ⟨W.heap.size, rfl, by rw [heap_alloc, if_pos rfl] <;> (simp [B]; omega)⟩) (hR.alloc hR.size _) (rgV_keep ((Below.refl _ _).alloc (Nat.le_refl _) _))
                · obtain rfl := Option.some.inj ho
                  clear dc hdep
                  go_wp2_with fail
                  exact hK (.int .i64 pr) _ (rgV_mk rfl rfl) hR (fun _ _ h => h)
                · obtain rfl := Option.some.inj ho
                  have e11 := hdep ⟨11, .data⟩ (by simp) _ rfl
                  change x11 = _ at e11
                  subst e11
                  go_wp2_with (go_at_call 14; refine (num_any _ _ _ (by omega) (by omega) (by decide) (by decide)).mono ?_; rintro e w' ⟨rfl, rfl⟩)
                  exact hK _ _ (rgV_mk rfl ⟨W.heap.size, rfl, by rw [heap_alloc, if_pos rfl] <;> rfl⟩) (hR.alloc hR.size _) (rgV_keep ((Below.refl _ _).alloc (Nat.le_refl _) _))
                · obtain rfl := Option.some.inj ho
                  clear dc hdep
                  go_wp2_with fail
                  exact hK (.int .i64 sh) _ (rgV_mk rfl rfl) hR (fun _ _ h => h)
                · obtain rfl := Option.some.inj ho
                  have e13 := hdep ⟨13, .data⟩ (by simp) _ rfl
                  change x13 = _ at e13
                  subst e13
                  go_wp2_with (go_at_call 14; refine (num_any _ _ _ (by omega) (by omega) (by decide) (by decide)).mono ?_; rintro e w' ⟨rfl, rfl⟩)
                  exact hK _ _ (rgV_mk rfl ⟨W.heap.size, rfl, by rw [heap_alloc, if_pos rfl] <;> rfl⟩) (hR.alloc hR.size _) (rgV_keep ((Below.refl _ _).alloc (Nat.le_refl _) _))
                · obtain rfl := Option.some.inj ho
                  clear dc hdep
                  go_wp2_with fail
                  exact hK (.int .u8 kd.toNat) _ (rgV_mk rfl rfl) hR (fun _ _ h => h)
                · obtain rfl := Option.some.inj ho
                  have e15 := hdep ⟨15, .data⟩ (by simp) _ rfl
                  change x15 = _ at e15
                  subst e15
                  go_wp2_with fail
                  exact hK _ _ (rgV_mk rfl ⟨W.heap.size, rfl, by rw [heap_alloc, if_pos rfl] <;> (rfl)⟩) (hR.alloc hR.size _) (rgV_keep ((Below.refl _ _).alloc (Nat.le_refl _) _))
                · obtain rfl := Option.some.inj ho
                  have e4 := hdep ⟨4, .data⟩ (by simp) _ rfl
                  obtain ⟨g4, (e4 : x4 = _), hg4⟩ := e4
                  subst e4
                  have e6 := hdep ⟨6, .data⟩ (by simp) _ rfl
                  obtain ⟨g6, (e6 : x6 = _), hg6⟩ := e6
                  subst e6
                  have e10 := hdep ⟨10, .data⟩ (by simp) _ rfl
                  obtain ⟨g10, (e10 : x10 = _), hg10⟩ := e10
                  subst e10
                  have e12 := hdep ⟨12, .data⟩ (by simp) _ rfl
                  obtain ⟨g12, (e12 : x12 = _), hg12⟩ := e12
                  subst e12
                  have e14 := hdep ⟨14, .data⟩ (by simp) _ rfl
                  obtain ⟨g14, (e14 : x14 = _), hg14⟩ := e14
                  subst e14
                  have e16 := hdep ⟨16, .data⟩ (by simp) _ rfl
                  obtain ⟨g16, (e16 : x16 = _), hg16⟩ := e16
                  subst e16
                  go_wp2_with fail
                  refine hK _ _ (rgV_mk rfl ⟨W.heap.size, [⟨g4, 0, 1, [69]⟩, ⟨g6, 0, 4, enc T 4⟩, ⟨g10, 0, 2, [sd, UInt8.ofNat stk]⟩, ⟨g12, 0, 2, enc pr 2⟩, ⟨g14, 0, 2, enc sh 2⟩, ⟨g16, 0, 1, [kd]⟩], rfl, rfl, by rw [heap_alloc, if_pos rfl] <;> rfl, ?_, rfl⟩) (hR.alloc hR.size _) (rgV_keep ((Below.refl _ _).alloc (Nat.le_refl _) _))
                  intro p hp
                  simp only [List.mem_cons, List.not_mem_nil, or_false] at hp
                  rcases hp with rfl | rfl | rfl | rfl | rfl | rfl
                  · exact ⟨rfl, by rw [heap_alloc, if_neg (Nat.ne_of_lt (heap_lt hg4))]; exact hg4⟩
                  · exact ⟨rfl, by rw [heap_alloc, if_neg (Nat.ne_of_lt (heap_lt hg6))]; exact hg6⟩
                  · exact ⟨rfl, by rw [heap_alloc, if_neg (Nat.ne_of_lt (heap_lt hg10))]; exact hg10⟩
                  · exact ⟨rfl, by rw [heap_alloc, if_neg (Nat.ne_of_lt (heap_lt hg12))]; exact hg12⟩
                  · exact ⟨rfl, by rw [heap_alloc, if_neg (Nat.ne_of_lt (heap_lt hg14))]; exact hg14⟩
                  · exact ⟨rfl, by rw [heap_alloc, if_neg (Nat.ne_of_lt (heap_lt hg16))]; exact hg16⟩
                · obtain rfl := Option.some.inj ho
                  have e17 := hdep ⟨17, .data⟩ (by simp) _ rfl
                  obtain ⟨bl, ps, (e17 : x17 = _), hn, hrow, hps, hcat⟩ := e17
                  subst e17
                  go_wp2_with (go_at_call 13; refine (row_lit bl ps 28 W 6 hn hrow hps (by decide) (by rw [hcat]; simp [enterMsg, enc_length])).mono ?_; rintro e w' ⟨v', rfl, hov, hb'⟩)
                  exact hK _ _ (rgV_mk rfl ((hov.cast hcat).base hR.size)) (hR.trans (hb'.mono hR.size)) (rgV_keep hb')
              · intro o ho vals W hvl hR hdep K hK
                obtain ⟨x0, x1, x2, x3, x4, x5, x6, x7, x8, x9, x10, x11, x12, x13, x14, x15, x16, x17, x18, x19, rfl⟩ := list_len20 vals hvl
                obtain rfl := Option.some.inj ho
                have e3 := hdep 3 (by decide) _ rfl
                change x3 = _ at e3
                subst e3
                have e18 : Own W wc.heap.size x18 (enterMsg T sd (UInt8.ofNat stk) pr sh kd) := hdep 18 (by decide) _ rfl
                have HFL : Hid (x.st.feed (enterMsg T sd (UInt8.ofNat stk) pr sh kd) = x.st.reject T rs6) := by
                  obtain ⟨hT, hrs, hrs0, -⟩ := HR6.out
                  have := refused_feed HG.out HU.out.1 HU.out.2 T sd stk pr sh kd hT t2 t3 t4 (by rw [← hrs]; exact hrs0)
                  rw [← hrs] at this
                  exact this
                have HB6 : Hid (Below w2.heap.size w2 wc) := HR6.out.2.2.2
                have HSA : Hid ((x.st.reject T rs6).ans = 74 :: (enc x.st.time 6 ++ enc T 4 ++ [rs6])) := by
                  show x.st.ans ++ _ = _
                  rw [HG.out.ans]; rfl
                have HST : Hid ((x.st.reject T rs6).tape = []) := HG.out.tape
                have hGl := api.lt HHC.out.at_
                have hhW := House.below' api HHC.out hR
                unfold RgFrame
                simp only [List.take_succ_cons, List.take_zero, List.drop_succ_cons, List.drop_zero, List.cons_append, List.nil_append]
                clear hdep
                go_wp2_with fail
                refine (api.feed b G x.st x18 _ W hhW.at_ (e18.rd (fun g hg h => by have := hGl _ h; have := (e18.lt g hg).1; omega)) (by rw [HFL.out, HSA.out]; simp [enc_length, big]) (by rw [HFL.out, HST.out]; simp [big])).mono ?_
                rintro e w3 ⟨G3, rfl, hat3, hG3, hfr3⟩
                rw [HFL.out] at hat3
                have hh3 := hhW.step hat3 hfr3 hG3
                obtain ⟨d1, -⟩ := cells3 hh3.cell
                have HS3 := Hid.mk (And.intro hh3 (And.intro hG3 (And.intro hfr3 hR)))
                clear hhW hGl hat3 hG3 hfr3 hh3 e18 hR dc HFL HHC HX HA
                refine hK _ _ ?_
                clear hK
                go_wp2_with fail
                refine (api.answers b G3 _ w3 HS3.out.1.at_).mono ?_
                rintro e w4 ⟨va, G4, rfl, hoa, hat4, hG4, hva, hfr4⟩
                have hh4 := HS3.out.1.step hat4 hfr4 hG4
                obtain ⟨d2, -⟩ := cells3 hh4.cell
                obtain ⟨ra, ca, rfl, -, -⟩ := hoa.len
                have HS4 := Hid.mk (And.intro hh4 (And.intro hG4 (And.intro hfr4 (And.intro hoa hva))))
                clear hat4 hG4 hfr4 hh4 hoa hva d1
                rw [show (x.st.reject T rs6).ans.length = 12 from by rw [HSA.out]; simp [enc_length]]
                go_wp2_with fail
                refine (api.tape b G4 _ w4 HS4.out.1.at_).mono ?_
                rintro e w5 ⟨v5, G5, rfl, ho5, hat5, hG5, hv5, hfr5⟩
                have hh5 := HS4.out.1.step hat5 hfr5 hG5
                obtain ⟨r5, c5, rfl, -, -⟩ := ho5.len
                rw [show (x.st.reject T rs6).told.tape.length = 0 from by show (x.st.reject T rs6).tape.length = 0; rw [HST.out]; rfl]
                have HS5 := Hid.mk (And.intro hh5 (And.intro hG5 hfr5))
                clear ho5 hat5 hG5 hv5 hfr5 hh5 d2
                go_wp2_with fail
                have hinv : Inv (x.st.reject T rs6).told.taped := ((HG.out.inv.of_q (st' := x.st.reject T rs6) rfl rfl rfl rfl (fun _ h => h) HG.out.inv.refs HG.out.inv.mats HG.out.inv.time).told).taped
                refine (rests_inv api w5 HS5.out.1 hinv HG.out.stocks HG.out.levels).mono ?_
                rintro e w6 ⟨v6, rfl, ho6, hb6⟩
                obtain ⟨r6, c6, rfl, -, -⟩ := ownsRow_len ho6
                rw [show (x.st.reject T rs6).told.taped.resting = x.st.all.length from rfl]
                have HS6 := Hid.mk (And.intro ho6 hb6)
                clear ho6 hb6 hinv
                have hsz46 : w4.heap.size ≤ w6.heap.size := Nat.le_trans HS5.out.2.2.size HS6.out.2.size
                have keep : ∀ k, k < w4.heap.size → ¬ G4 k → w6.heap[k]? = w4.heap[k]? := fun k hk hn => by
                  have y2 := HS5.out.2.2.size
                  rw [HS6.out.2.block k (by omega), HS5.out.2.2.block k hk hn]
                obtain ⟨ga, hra, hgal, hAl⟩ : ∃ ga, ra = some ⟨ga, 0, none⟩ ∧ ga < w6.heap.size ∧ Lies w6 ga 0 (74 :: (enc x.st.time 6 ++ enc T 4 ++ [rs6])) := by
                  obtain ⟨-, -, -, hoa, hva⟩ := HS4.out
                  have hoa8 := hoa.keep (w' := w6) (fun g hg => keep g (hoa.lt g hg).2 (hva g hg).2)
                  rcases hoa8.rd (F := fun _ => False) (fun _ _ h => h) with ⟨-, h⟩ | ⟨g, o, cap, h, hl, -, -, -, hgl⟩
                  · rw [HSA.out] at h; cases h
                  · rcases hoa8.2 with ⟨-, h'⟩ | ⟨g', cap', cur', h', -⟩
                    · rw [HSA.out] at h'; simp at h'
                    · simp only [Value.slice.injEq] at h h'
                      rw [h'.1] at h
                      simp only [Option.some.injEq, Addr.mk.injEq] at h
                      obtain ⟨⟨rfl, rfl, -⟩, -⟩ := h
                      rw [HSA.out] at hl
                      exact ⟨_, h'.1, hgl, hl⟩
                subst hra
                have hca : 12 ≤ ca := by
                  obtain ⟨-, -, -, hoa, -⟩ := HS4.out
                  rcases hoa.2 with ⟨h', -⟩ | ⟨g', cap', cur', h', -, -, hle, -⟩
                  · simp at h'
                  · simp only [Value.slice.injEq] at h'
                    rw [← h'.2.2, HSA.out] at hle
                    simpa [enc_length] using hle
                have hwas : w6.ownsRow 0 46 6 (.slice rw_ x.st.resting cw) x.st.resting (x.st.all.flatMap Ord.cells) := by
                  obtain ⟨how, hb2⟩ := HW.out
                  obtain ⟨-, hG3, hfr3, hR⟩ := HS3.out
                  obtain ⟨-, hG4, hfr4, -⟩ := HS4.out
                  have y1 := HB6.out.size
                  have y2 := hR.size
                  have y3 := hfr3.size
                  have y4 := hfr4.size
                  refine ownsRow_base (ownsRow_keep how (fun g hg => ?_)) (Nat.zero_le _)
                  obtain ⟨hg1, hg2⟩ := how.lt g hg
                  have n0 : ¬ G g := fun h => by have := api.lt HN.out.1.at_ g h; omega
                  have n3 : ¬ G3 g := fun h => by
                    rcases hG3 g h with h | h
                    · exact n0 h
                    · omega
                  have n4 : ¬ G4 g := fun h => by
                    rcases hG4 g h with h | h
                    · exact n3 h
                    · omega
                  rw [keep g (by omega) n4, hfr4.block g (by omega) n3, hfr3.block g (by omega) n0, hR.block g (by omega), HB6.out.block g hg2]
                have his : w6.ownsRow 0 46 6 (.slice r6 x.st.resting c6) x.st.resting (x.st.all.flatMap Ord.cells) := ownsRow_base HS6.out.1 (Nat.zero_le _)
                have hBw : Below w.heap.size w w6 := by
                  obtain ⟨-, hF, hB⟩ := HN.out
                  obtain ⟨-, hb2⟩ := HW.out
                  obtain ⟨-, hG3, hfr3, hR⟩ := HS3.out
                  obtain ⟨-, hG4, hfr4, -⟩ := HS4.out
                  obtain ⟨-, hG5, hfr5⟩ := HS5.out
                  have y0 := hB.size
                  have y1 := hb2.size
                  have y2 := HB6.out.size
                  have y3 := hR.size
                  have y4 := hfr3.size
                  have y5 := hfr4.size
                  have y6 := hfr5.size
                  have g0 : ∀ k, G k → w.heap.size ≤ k := fun k h => hF k (.inr (.inl h))
                  have g3 : ∀ k, G3 k → w.heap.size ≤ k := fun k h => by
                    rcases hG3 k h with h | h
                    · exact g0 k h
                    · omega
                  have g4 : ∀ k, G4 k → w.heap.size ≤ k := fun k h => by
                    rcases hG4 k h with h | h
                    · exact g3 k h
                    · omega
                  exact ((((((hB.trans (hb2.mono y0)).trans (HB6.out.mono (by omega))).trans (hR.mono (by omega))).trans (hfr3.below (by omega) g0)).trans (hfr4.below (by omega) g3)).trans (hfr5.below (by omega) g4)).trans (HS6.out.2.mono (by omega))
                have a0 : w6.cell? ⟨ga, 0, none⟩ = some (.int .u8 74) := hAl 0 74 rfl
                have a11 : w6.cell? ⟨ga, 11, none⟩ = some (.int .u8 rs6.toNat) := hAl 11 rs6 rfl
                have hL4 : Lies w6 ga 7 (enc T 4) := (hAl.drop 7).take 4
                have HL4 := Hid.mk hL4
                have HNum : Hid (num (enc T 4) 0 = T) := by
                  show _ = _
                  rw [num_enc]; exact Nat.mod_eq_of_lt (by omega)
                have hLl : x.st.all.length ≤ 64 := by
                  have q1 := HG.out.inv.room
                  have q2 := HG.out.inv.pool
                  unfold St.resting at q1
                  omega
                rw [show x.st.resting = x.st.all.length from rfl] at *
                have HF9 : Hid (w6.ownsRow 0 46 6 (.slice rw_ x.st.all.length cw) x.st.all.length (x.st.all.flatMap Ord.cells) ∧ w6.ownsRow 0 46 6 (.slice r6 x.st.all.length c6) x.st.all.length (x.st.all.flatMap Ord.cells) ∧ Below w.heap.size w w6) := And.intro hwas (And.intro his hBw)
                clear keep hAl hL4 hwas his hBw HS6 HS5 HS4 HS3 HH2 HN HW HSA HST HB6 HR6 hsz46
                generalize x.st.all = L at *
                go_wp2_with fail
                have hv := val_any ga 7 (ca - 7) (enc T 4) w6 (by rw [enc_length]; omega) HL4.out
                rw [enc_length, HNum.out] at hv
                refine hv.mono ?_
                rintro e w' ⟨rfl, hw⟩
                replace hw := hw.symm
                subst hw
                clear hv
                go_wp2_with fail
                go_loopw [25] (fun i w9 => ∃ k : Nat, k ≤ L.length ∧ i = .int .i64 k ∧ Below w6.heap.size w6 w9) (fun i _ => L.length - (intOf i).toNat)
                case atStart => exact ⟨0, Nat.zero_le _, rfl, Below.refl _ _⟩
                case round =>
                  obtain ⟨k, hk, rfl, hB9⟩ := hrel
                  by_cases hkl : k < L.length
                  · obtain ⟨hw1, hw2, -⟩ := HF9.out
                    obtain ⟨g1, rfl, hg1, hc1⟩ := row_orders hw1 (by omega)
                    obtain ⟨g2, rfl, hg2, hc2⟩ := row_orders hw2 (by omega)
                    obtain ⟨y, hy⟩ : ∃ y, L[k]? = some y := ⟨_, List.getElem?_eq_getElem hkl⟩
                    obtain ⟨b0, b1, b2, b3, b4, b5⟩ := ord_cells y hB9 hg1 (hc1 k y hy)
                    obtain ⟨e0, e1, e2, e3, e4, e5⟩ := ord_cells y hB9 hg2 (hc2 k y hy)
                    obtain ⟨ref, token, side, stock, price, shares⟩ := y
                    simp only at b0 b1 b2 b3 b4 b5 e0 e1 e2 e3 e4 e5
                    have i3 : (0 : Int) ≤ (k : Int) := by omega
                    have i4 : (k : Int) < (L.length : Int) := by omega
                    have HB9 := Hid.mk hB9
                    clear hw1 hw2 hc1 hc2 hy hB9
                    go_wp2_with fail
                    go_quiet (fail)
                    go_wp2_with fail
                    exact ⟨⟨k + 1, by omega, by go_num, below_drewN HB9.out _⟩, by simp [intOf]; omega⟩
                  · have HB9 := Hid.mk hB9
                    clear hB9
                    go_wp2_with fail
                    go_ret
                    exact ⟨rfl, HF9.out.2.2.trans (HB9.out.mono HF9.out.2.2.size)⟩

end Go.Proofs.Ytphkchjejbffeaa

/- The law Conserved, out of what the calls do. -/
namespace Go.Proofs.Ytphkchjejbffeaa
open Go.RowKit
attribute [local go_sem ↓] Go.wp_at_zero Go.wp_at_succ

theorem reads_nil {lf : List Hl} (h : Reads [] [] lf) : lf = [] := by
  generalize hD : ([] : List UInt8) = D at h
  generalize hE : ([] : List Hl) = E at h
  cases h with
  | nil l => rfl
  | cons m r l l' l'' h1 h2 =>
    exfalso
    have hm : m = [] := by
      have := congrArg List.length hD
      rw [List.length_append, List.length_nil] at this
      exact List.length_eq_zero_iff.1 (by omega)
    subst hm
    have : ∀ (m : List UInt8) (a b : List Hl), RdStep m a b → m ≠ [] := by
      intro m a b h
      cases h <;> simp
    exact this _ _ _ h1 rfl

theorem read_own (w : World) (v : Value) (out : List UInt8) (lf : List Hl) (ho : Own w 0 v out) (hrd : Reads out [] lf) (hout : out.length ≤ 70368744177664) :
    Calls Try.prog 23 #[v] w fun e w' => ∃ v, e = .returned (.tuple #[v, .bool true]) ∧ HsAt w' w.heap.size v lf ∧ Below w.heap.size w w' := by
  rcases ho.rd (F := fun _ => False) (fun _ _ h => h) with ⟨rfl, rfl⟩ | ⟨g, o, cap, rfl, hl, hc1, hc2, -, hg⟩
  · have := reads_nil hrd
    subst this
    clear ho
    go_enter Try.func23, Try.ntmps23
    go_wp2_with fail
    go_loopw [4, 5] (fun lv at_ wr => lv = .slice none 0 0 ∧ at_ = .int .i64 0 ∧ Hid (wr = w)) (fun _ _ _ => 0)
    case atStart => exact ⟨rfl, rfl, rfl⟩
    case round =>
      obtain ⟨rfl, rfl, HW⟩ := hrel
      go_wp2_with fail
      go_ret2
      exact ⟨_, rfl, World.ownsRow_nil _ _ _ _, by rw [HW.out]; exact Below.refl _ _⟩
  · exact read_any w g o cap out lf hl hg hc1 (by unfold maxLen at hc2; omega) hrd hout

/-- How many entries are alive. -/
def cnt (l : List Hl) : Nat := (l.filter fun y => !y.over && y.left != 0).length
theorem cnt_snoc (l : List Hl) (i : Nat) (y : Hl) (h : l[i]? = some y) : cnt (l.take (i + 1)) = cnt (l.take i) + (if y.over = false ∧ y.left ≠ 0 then 1 else 0) := by
  have hi := (List.getElem?_eq_some_iff.1 h).1
  have : l.take (i + 1) = l.take i ++ [y] := by
    rw [List.take_succ_eq_append_getElem hi]
    congr 1
    rw [List.getElem?_eq_getElem hi] at h
    simpa using h
  unfold cnt
  rw [this, List.filter_append, List.length_append]
  congr 1
  by_cases h1 : y.over = false ∧ y.left ≠ 0
  · rw [if_pos h1, List.filter_cons_of_pos (by simp [h1.1, h1.2])]; rfl
  · rw [if_neg h1, List.filter_cons_of_neg]
    · rfl
    · simp only [Bool.and_eq_true, Bool.not_eq_true', bne_iff_ne]
      exact h1
theorem cnt_le (l : List Hl) (i : Nat) : cnt (l.take i) ≤ i := by
  unfold cnt
  have := List.length_filter_le (fun y => !y.over && y.left != 0) (l.take i)
  have h2 : (l.take i).length ≤ i := by rw [List.length_take]; omega
  omega

/-- Is it found among the first ones? -/
def fnd (L : List Ord) (y : Hl) (k : Nat) : Bool := (L.take k).any fun x => decide (x.token = y.token) && decide (x.shares = y.left) && decide (x.side = y.side)
theorem fnd_snoc (L : List Ord) (y : Hl) (k : Nat) (x : Ord) (h : L[k]? = some x) : fnd L y (k + 1) = (fnd L y k || (decide (x.token = y.token) && decide (x.shares = y.left) && decide (x.side = y.side))) := by
  have hi := (List.getElem?_eq_some_iff.1 h).1
  have : L.take (k + 1) = L.take k ++ [x] := by
    rw [List.take_succ_eq_append_getElem hi]
    congr 1
    rw [List.getElem?_eq_getElem hi] at h
    simpa using h
  unfold fnd
  rw [this, List.any_append]
  simp

set_option maxRecDepth 100000 in
set_option maxHeartbeats 4000000 in
theorem conserved_any {At : World → Nat → (Nat → Prop) → St → Prop} (api : Api At) (pool : Int) (v : Value) (l : List Act) (w : World) (h1 : -9223372036854775808 ≤ pool) (h2 : pool ≤ 9223372036854775807)
    (hl : ActsAt w v l) (hn : l.length ≤ 2600000000000) :
    Calls Try.prog 7 #[.int .i64 pool, v] w fun e w' => e = .returned (.bool true) ∧ Below w.heap.size w w' := by
  have gd := Good.acts l (good_started pool)
  rw [Nat.zero_add] at gd
  have hls := gd.lens
  obtain ⟨lf, hrd, hled⟩ := led_acts l (good_started pool) (l := []) (.nil []) (led_started pool)
  have hbig : big = 70368744177664 := rfl
  have HA := Hid.mk (acts_any api pool v l w h1 h2 hl (by rw [hbig]; omega) (by rw [hbig]; omega))
  have HG := Hid.mk gd
  have HRL := Hid.mk (And.intro hrd (And.intro hled (show ((started pool).acts l).out.length ≤ 70368744177664 by omega)))
  clear hl hn hls hbig gd hrd hled
  generalize hX : (started pool).acts l = x at *
  clear hX
  go_enter Try.func7, Try.ntmps7
  go_wp2_with fail
  refine HA.out.mono ?_
  rintro e w1 ⟨hb, b, G, vo, vt, rfl, hh, hF, hB⟩
  have HN := Hid.mk (And.intro hh (And.intro hF hB))
  clear hh hF hB
  go_wp2_with fail
  refine (rests_good api w1 HN.out.1 HG.out).mono ?_
  rintro e w2 ⟨vw, rfl, how, hb2⟩
  obtain ⟨rw_, cw, rfl, -, -⟩ := ownsRow_len how
  have hh2 := House.below api HN.out.1 hb2
  obtain ⟨-, d1, -⟩ := cells3 hh2.cell
  have HW := Hid.mk (And.intro how hb2)
  have HH2 := Hid.mk hh2
  clear how hb2 hh2
  rw [show x.st.resting = x.st.all.length from rfl]
  go_wp2_with fail
  refine (read_own w2 vo x.out lf HH2.out.out HRL.out.1 HRL.out.2.2).mono ?_
  rintro e w3 ⟨vm, rfl, hHm, hb3⟩
  obtain ⟨rm, cm, rfl, hcm1, hcm2, hcs⟩ := hHm.form
  have HCS := Hid.mk hcs
  have hL64 : x.st.all.length ≤ 64 := by
    have q1 := HG.out.inv.room
    have q2 := HG.out.inv.pool
    unfold St.resting at q1
    omega
  have hrow : w3.ownsRow 0 46 6 (.slice rw_ x.st.all.length cw) x.st.all.length (x.st.all.flatMap Ord.cells) := by
    obtain ⟨how, hb2⟩ := HW.out
    exact ownsRow_base (ownsRow_keep how (fun g hg => hb3.block g (how.lt g hg).2)) (Nat.zero_le _)
  have HROW := Hid.mk hrow
  have HB3 : Hid (Below w.heap.size w w3) := (HN.out.2.2.trans (HW.out.2.mono HN.out.2.2.size)).trans (hb3.mono (Nat.le_trans HN.out.2.2.size HW.out.2.size))
  have HLV : Hid (Live x.st.all lf) := HRL.out.2.1.live
  have hml : (lf.length : Int) ≤ 9223372036854775807 := by unfold maxLen at hcm2; omega
  clear hHm hb3 hcs hrow HRL HW HH2 HN HA d1 hcm1 hcm2
  generalize x.st.all = L at *
  go_wp2_with fail
  go_loopw [11, 12] (fun n i wl => ∃ ii : Nat, ii ≤ lf.length ∧ i = .int .i64 ii ∧ n = .int .i64 (cnt (lf.take ii)) ∧ Hid (Below w3.heap.size w3 wl)) (fun _ i _ => lf.length - (intOf i).toNat)
  case atStart => exact ⟨0, Nat.zero_le _, rfl, rfl, Below.refl _ _⟩
  case round =>
    obtain ⟨ii, hii, rfl, rfl, HWL⟩ := hrel
    by_cases hik : ii < lf.length
    · obtain ⟨y, hy⟩ : ∃ y, lf[ii]? = some y := ⟨_, List.getElem?_eq_getElem hik⟩
      obtain ⟨gm, rfl, -, hgm, e0, e1, e2, e3⟩ := HCS.out ii y hy
      have f0 := (HWL.out.cell (p := ⟨gm, ii * 4, none⟩) hgm).trans e0
      have f1 := (HWL.out.cell (p := ⟨gm, ii * 4 + 1, none⟩) hgm).trans e1
      have f2 := (HWL.out.cell (p := ⟨gm, ii * 4 + 2, none⟩) hgm).trans e2
      have f3 := (HWL.out.cell (p := ⟨gm, ii * 4 + 3, none⟩) hgm).trans e3
      have HCN := Hid.mk (cnt_snoc lf ii y hy)
      have hcl := cnt_le lf ii
      have i1 : (0 : Int) ≤ (ii : Int) := by omega
      have i2 : (ii : Int) < (lf.length : Int) := by omega
      generalize cnt (lf.take ii) = cn at *
      have i3 : (cn : Int) ≤ (ii : Int) := by omega
      have wr1 : IntKind.i64.wrap ((cn : Int) + 1) = (cn : Int) + 1 := by rw [IntKind.wrap_i64]; omega
      by_cases hov : y.over = true
      · have f3' := f3
        rw [hov] at f3'
        clear e0 e1 e2 e3 f3
        go_wp2_with fail
        exact ⟨⟨ii + 1, by omega, by go_num, by rw [HCN.out, if_neg (by rw [hov]; simp)]; rfl, HWL⟩, by simp [intOf]; omega⟩
      · have hov2 : y.over = false := by simpa using hov
        rw [hov2] at f3
        by_cases hl0 : y.left = 0
        · have f1' := f1
          rw [hl0] at f1'
          clear e0 e1 e2 e3 f1
          go_wp2_with fail
          exact ⟨⟨ii + 1, by omega, by go_num, by rw [HCN.out, if_neg (by rw [hl0]; simp)]; rfl, HWL⟩, by simp [intOf]; omega⟩
        · have hl1 : ((y.left : Int) == 0) = false := by rw [beq_eq_false_iff_ne]; omega
          have HFN : Hid (fnd L y L.length = true) := by
            obtain ⟨x', hx', hf⟩ := HLV.out.only y (List.mem_of_getElem? hy) hov2 hl0
            unfold fnd
            show List.any _ _ = true
            rw [List.take_length, List.any_eq_true]
            exact ⟨x', hx', by simp [hf.1, hf.2.1, hf.2.2.1]⟩
          have HLL := Hid.mk hl0
          have HE := Hid.mk (And.intro e0 (And.intro e2 trivial))
          clear e0 e1 e2 e3 hov hl0 hy
          go_wp2_with fail
          go_loopw [14, 15] (fun fd k wl2 => ∃ kk : Nat, kk ≤ L.length ∧ k = .int .i64 kk ∧ fd = .bool (fnd L y kk) ∧ Hid (Below w3.heap.size w3 wl2)) (fun _ k _ => L.length - (intOf k).toNat)
          case atStart => exact ⟨0, Nat.zero_le _, rfl, rfl, HWL.out⟩
          case round =>
            clear HWL f0 f1 f2 f3
            obtain ⟨kk, hkk, rfl, rfl, HWL⟩ := hrel
            by_cases hkl : kk < L.length
            · obtain ⟨go, rfl, hgo, hco⟩ := row_orders HROW.out (by omega)
              obtain ⟨z, hz⟩ : ∃ z, L[kk]? = some z := ⟨_, List.getElem?_eq_getElem hkl⟩
              obtain ⟨b0, b1, b2, b3, b4, b5⟩ := ord_cells z HWL.out hgo (hco kk z hz)
              have f0 := (HWL.out.cell (p := ⟨gm, ii * 4, none⟩) hgm).trans HE.out.1
              have f2 := (HWL.out.cell (p := ⟨gm, ii * 4 + 2, none⟩) hgm).trans HE.out.2.1
              have HFS := Hid.mk (fnd_snoc L y kk z hz)
              have i4 : (0 : Int) ≤ (kk : Int) := by omega
              have i5 : (kk : Int) < (L.length : Int) := by omega
              generalize fnd L y kk = fd at *
              clear hz hco b0 b3 b4
              obtain ⟨res, hres, hsel⟩ : ∃ res : Bool, Hid (fnd L y (kk + 1) = res) ∧ ((fd = true ∧ res = true) ∨ (fd = false ∧ ((z.token : Int) == (y.token : Int)) = false ∧ res = false) ∨
                  (fd = false ∧ ((z.token : Int) == (y.token : Int)) = true ∧ ((z.shares : Int) == (y.left : Int)) = false ∧ res = false) ∨
                  (fd = false ∧ ((z.token : Int) == (y.token : Int)) = true ∧ ((z.shares : Int) == (y.left : Int)) = true ∧ ((z.side.toNat : Int) == (y.side.toNat : Int)) = false ∧ res = false) ∨
                  (fd = false ∧ ((z.token : Int) == (y.token : Int)) = true ∧ ((z.shares : Int) == (y.left : Int)) = true ∧ ((z.side.toNat : Int) == (y.side.toNat : Int)) = true ∧ res = true)) := by
                refine ⟨_, HFS, ?_⟩
                cases fd with
                | true => exact .inl ⟨rfl, rfl⟩
                | false =>
                  right
                  by_cases q1 : z.token = y.token
                  · by_cases q2 : z.shares = y.left
                    · by_cases q3 : z.side = y.side
                      · exact .inr (.inr (.inr ⟨rfl, by simp [q1], by simp [q2], by simp [q3], by simp [q1, q2, q3]⟩))
                      · refine .inr (.inr (.inl ⟨rfl, by simp [q1], by simp [q2], ?_, by simp [q3]⟩))
                        rw [beq_eq_false_iff_ne]
                        exact fun e => q3 (UInt8.toNat_inj.1 (by omega))
                    · exact .inr (.inl ⟨rfl, by simp [q1], by rw [beq_eq_false_iff_ne]; omega, by simp [q2]⟩)
                  · exact .inl ⟨rfl, by rw [beq_eq_false_iff_ne]; omega, by simp [q1]⟩
              clear HFS
              rcases hsel with ⟨rfl, rfl⟩ | ⟨rfl, t1, rfl⟩ | ⟨rfl, t1, t2, rfl⟩ | ⟨rfl, t1, t2, t3, rfl⟩ | ⟨rfl, t1, t2, t3, rfl⟩
              all_goals
                go_wp2_with fail
                go_quiet (fail)
                go_wp2_with fail
                exact ⟨⟨kk + 1, by omega, by go_num, by rw [hres.out], below_drewN HWL.out _⟩, by simp [intOf]; omega⟩
            · have hke : kk = L.length := by omega
              have hft : fnd L y kk = true := by rw [hke]; exact HFN.out
              rw [hft]
              clear hft
              go_wp2_with fail
              exact ⟨⟨ii + 1, by omega, by go_num, by rw [HCN.out, if_pos ⟨hov2, HLL.out⟩]; simp, HWL⟩, by simp [intOf]; omega⟩
    · have hie : ii = lf.length := by omega
      have hct : cnt (lf.take ii) = L.length := by
        rw [hie, List.take_length]
        exact HLV.out.count
      rw [hct]
      clear hct
      go_wp2_with fail
      go_ret
      exact ⟨rfl, HB3.out.trans (HWL.out.mono HB3.out.size)⟩

end Go.Proofs.Ytphkchjejbffeaa

/- How the laws' arguments come in: acts in memory. -/
namespace Go.Proofs.Ytphkchjejbffeaa
open Go.ChangeShapes Go.WideShapes Go.ChangeAt Go.RowKit Go.Deep

theorem own : ownKnob Try.prog.godebug = none := by kernel_rfl
theorem laidOut : laidOutB Try.prog = true := by kernel_rfl
theorem Try.cells49 : Try.prog.cellsOf 49 = 7 := by kernel_rfl
theorem Try.cells3 : Try.prog.cellsOf 3 = 1 := by kernel_rfl
theorem Try.bytes49 : Try.prog.bytesOf 49 = 56 := by kernel_rfl

theorem list7 {α : Type} (l : List α) (h : l.length = 7) : ∃ a b c d e f g, l = [a, b, c, d, e, f, g] := by
  match l, h with
  | [a, b, c, d, e, f, g], _ => exact ⟨a, b, c, d, e, f, g, rfl⟩

theorem wf_i64 {x : Int} (h : (Lit.int .i64 x).wf = true) : I64 x := by
  simp [Lit.wf, IntKind.min, IntKind.max, IntKind.signed, IntKind.bits] at h
  unfold I64
  omega

theorem one_int {H : Type} {enc : TypeId × Value → H} {W : World} {base : Nat} {sp : Nat → Bool} {held : Bool} {n : Nat} {v : Value} {x : DataW H × List MemPlace}
    (h : DataW.trod enc Try.prog W base sp held n 3 [v] = some x) : ∃ y : Int, v = .int .i64 y ∧ I64 y := by
  obtain ⟨y, e, -, wy⟩ := DataW.trod_int Try.underlying3 h
  simp at e
  exact ⟨y, e, wf_i64 wy⟩

theorem open_act {H : Type} {enc : TypeId × Value → H} {W : World} {base : Nat} {sp : Nat → Bool} {held : Bool} {n : Nat} {cs : List Value} {x : DataW H × List MemPlace}
    (h : DataW.trod enc Try.prog W base sp held n 49 cs = some x) : ∃ a : Act, a.ok ∧ cs = a.cells.toList := by
  obtain ⟨xs, m, -, -, hl, hlen, hf⟩ := DataW.trod_struct Try.underlying49 h
  rw [Try.cells49] at hl
  obtain ⟨v0, v1, v2, v3, v4, v5, v6, rfl⟩ := list7 cs hl
  obtain ⟨y0, y1, y2, y3, y4, y5, y6, rfl⟩ := list7 xs hlen
  have f0 : DataW.trod enc Try.prog W base sp held m 3 (([v0, v1, v2, v3, v4, v5, v6].drop 0).take (Try.prog.cellsOf 3)) = some y0 := hf 0 _ rfl
  have f1 : DataW.trod enc Try.prog W base sp held m 3 (([v0, v1, v2, v3, v4, v5, v6].drop 1).take (Try.prog.cellsOf 3)) = some y1 := hf 1 _ rfl
  have f2 : DataW.trod enc Try.prog W base sp held m 3 (([v0, v1, v2, v3, v4, v5, v6].drop 2).take (Try.prog.cellsOf 3)) = some y2 := hf 2 _ rfl
  have f3 : DataW.trod enc Try.prog W base sp held m 3 (([v0, v1, v2, v3, v4, v5, v6].drop 3).take (Try.prog.cellsOf 3)) = some y3 := hf 3 _ rfl
  have f4 : DataW.trod enc Try.prog W base sp held m 3 (([v0, v1, v2, v3, v4, v5, v6].drop 4).take (Try.prog.cellsOf 3)) = some y4 := hf 4 _ rfl
  have f5 : DataW.trod enc Try.prog W base sp held m 3 (([v0, v1, v2, v3, v4, v5, v6].drop 5).take (Try.prog.cellsOf 3)) = some y5 := hf 5 _ rfl
  have f6 : DataW.trod enc Try.prog W base sp held m 3 (([v0, v1, v2, v3, v4, v5, v6].drop 6).take (Try.prog.cellsOf 3)) = some y6 := hf 6 _ rfl
  rw [Try.cells3] at f0 f1 f2 f3 f4 f5 f6
  obtain ⟨a0, rfl, b0⟩ := one_int (v := v0) f0
  obtain ⟨a1, rfl, b1⟩ := one_int (v := v1) f1
  obtain ⟨a2, rfl, b2⟩ := one_int (v := v2) f2
  obtain ⟨a3, rfl, b3⟩ := one_int (v := v3) f3
  obtain ⟨a4, rfl, b4⟩ := one_int (v := v4) f4
  obtain ⟨a5, rfl, b5⟩ := one_int (v := v5) f5
  obtain ⟨a6, rfl, b6⟩ := one_int (v := v6) f6
  exact ⟨⟨a0, a1, a2, a3, a4, a5, a6⟩, ⟨b0, b1, b2, b3, b4, b5, b6⟩, rfl⟩

theorem mapM_get {α β : Type} (f : α → Option β) : ∀ (l : List α) (r : List β), l.mapM f = some r → ∀ (i : Nat) (a : α), l[i]? = some a → ∃ b, r[i]? = some b ∧ f a = some b := by
  intro l
  induction l with
  | nil => intro r _ i a h; simp at h
  | cons x l ih =>
    intro r h i a hi
    rw [List.mapM_cons] at h
    cases hx : f x with
    | none => rw [hx] at h; cases h
    | some b =>
      rw [hx] at h
      cases hl : l.mapM f with
      | none => rw [hl] at h; cases h
      | some r' =>
        rw [hl] at h
        cases h
        cases i with
        | zero => simp at hi; subst hi; exact ⟨b, rfl, hx⟩
        | succ i => simp at hi; obtain ⟨c, h1, h2⟩ := ih r' hl i a hi; exact ⟨c, by simpa using h1, h2⟩

theorem add_add (a : Addr) (i j : Nat) : a.add (i + j) = (a.add i).add j := by
  obtain ⟨b, o, s⟩ := a
  by_cases hi : i = 0
  · subst hi; simp [Addr.add]
  · by_cases hj : j = 0
    · subst hj; simp [Addr.add]
    · simp only [Addr.add, if_neg hi, if_neg hj, if_neg (by omega : ¬ i + j = 0)]
      congr 1
      omega

theorem open_acts {H : Type} {enc : TypeId × Value → H} {W : World} {n : Nat} {a : Option Addr} {len cap : Nat} {x : DataW H × List MemPlace} {sp : Nat → Bool} {held : Bool}
    (h : DataW.trod enc Try.prog W 0 sp held n 40 [.slice a len cap] = some x) :
    ∃ l : List Act, ActsAt W (.slice a len cap) l ∧ ((l = [] ∧ x.1 = .nil) ∨ ∃ es spare, x.1 = .slice es spare ∧ es.length = l.length) := by
  rcases open_slice Try.underlying40 h with ⟨h1, h2⟩ | ⟨ad, len', cap', m, k, D, Pl, h1, h2, h3, h4, h5, h6, h7⟩
  · simp at h1
    obtain ⟨rfl, rfl, rfl⟩ := h1
    exact ⟨[], .inl ⟨_, _, rfl, rfl⟩, .inl ⟨rfl, by rw [h2]⟩⟩
  · simp at h1
    obtain ⟨rfl, rfl, rfl⟩ := h1
    have hm : len ≤ m := by rw [h5]; split <;> omega
    have hel : ∀ i, i < len → ∃ b : Act, b.ok ∧ ∀ j u, b.cells[j]? = some u → W.cell? (ad.add (i * 7 + j)) = some u := by
      intro i hi
      obtain ⟨cs, hc, ht⟩ := h7 i (by omega)
      obtain ⟨b, hb, rfl⟩ := open_act ht
      refine ⟨b, hb, ?_⟩
      intro j u hu
      rw [Try.cells49] at hc
      unfold World.cells? at hc
      rw [if_pos (Nat.zero_le _)] at hc
      have hj : j < 7 := by
        rcases Nat.lt_or_ge j 7 with h' | h'
        · exact h'
        · rw [Array.getElem?_eq_none (by simpa [Act.cells] using h')] at hu; cases hu
      obtain ⟨c, hc1, hc2⟩ := mapM_get _ _ _ hc j j (by rw [List.getElem?_range hj])
      have : c = u := by
        have hu' : b.cells.toList[j]? = some u := by simpa using hu
        rw [hu'] at hc1
        exact (Option.some.inj hc1).symm
      subst this
      rw [← hc2, add_add]
    rcases Nat.eq_zero_or_pos len with h0 | h0
    · subst h0
      exact ⟨[], .inl ⟨_, _, rfl, rfl⟩, .inr ⟨_, _, by rw [h6], by simp⟩⟩
    · have : Inhabited Act := ⟨⟨0, 0, 0, 0, 0, 0, 0⟩⟩
      obtain ⟨f, hf⟩ := choose_lt hel
      obtain ⟨blk, off, spot⟩ := ad
      have hsp : spot = none := by
        have := (hf 0 h0).2 0 _ rfl
        simpa [Addr.add] using World.cell?_spot this
      subst hsp
      have hblk : blk < W.heap.size := by
        have := (hf 0 h0).2 0 _ rfl
        simpa [Addr.add] using World.block_lt_of_cell? W _ this
      have hl : ((List.range len).map f).length = len := by simp
      refine ⟨(List.range len).map f, .inr ⟨blk, off, cap, by rw [hl], hblk, by rw [hl]; unfold maxLen at h4; omega, ?_⟩, .inr ⟨_, _, by rw [h6], by simp⟩⟩
      intro i b hb
      rw [List.getElem?_map, Option.map_eq_some_iff] at hb
      obtain ⟨i', hi', rfl⟩ := hb
      have hil : i < len := by
        rcases Nat.lt_or_ge i len with h' | h'
        · exact h'
        · rw [List.getElem?_eq_none (by simpa using h')] at hi'; cases hi'
      rw [List.getElem?_range hil] at hi'
      cases hi'
      refine ⟨(hf i hil).1, ?_⟩
      intro j u hu
      have := (hf i hil).2 j u hu
      rw [Addr.add_lit] at this
      rw [Nat.add_assoc]; exact this

end Go.Proofs.Ytphkchjejbffeaa

/- The law Conserved as it is stated, out of what the calls do. -/
namespace Go.Proofs.Ytphkchjejbffeaa
open Go.ChangeShapes Go.WideShapes Go.ChangeAt Go.RowKit

set_option maxRecDepth 100000 in
theorem conserved_lifted {At : World → Nat → (Nat → Prop) → St → Prop} (api : Api At) (os : Os) (started : os.Started) (H : Type) (enc : TypeId × Value → H) :
    ReturnsInHanded {} Try.checked os 7 .any (Rows.conservedSpec.pre6 enc Try.prog Try.f7 Rows.conservedRow.domain false) (Rows.conservedSpec.post enc Try.prog Try.f7 false true false false) := by
  refine returnsInHanded_of_change_sized (C := Try.checked) own started (by kernel_rfl) Try.func7
    (ChangeSpec.witness6 (enc := enc) (C := Try.checked) false ⟨#[], #[.int .i64 0, .slice none 0 0], []⟩ 8 (by kernel_rfl) (by kernel_rfl) (by kernel_rfl) (by kernel_rfl)) ?_
  intro W base args ds gs before hval0 hW hcnd hsz0 _
  have hval : ∀ (j : Nat) t v, Try.f7.params[j]? = some t → args[j]? = some v → Value.okWide Try.prog W .any base t v := hval0
  have hsz : (DataW.weightsEach Try.prog (Try.f7.params.toList ++ Rows.conservedSpec.plain.varTypes Try.prog) (ds ++ gs)).all (· ≤ reachBytes) = true := hsz0
  have hW' := hW
  obtain ⟨p, q, hA0, hV, rfl, hfz, hnd⟩ := hW
  have hA : DataW.TrodAll enc Try.prog W 0 (fun _ => true) true Try.f7.params.toList args.toList ds p := hA0
  rw [Try.params7] at hA hval hsz
  obtain ⟨v0, vs0, d0, ds0, p0, q0, hargs, rfl, rfl, h0, r0⟩ := trodAll_cons hA
  obtain ⟨v1, vs1, d1, ds1, p1, q1, rfl, rfl, rfl, h1, r1⟩ := trodAll_cons r0
  obtain ⟨rfl, rfl, rfl⟩ := trodAll_nil r1
  obtain rfl : args = #[v0, v1] := by cases args; simp_all
  obtain ⟨rfl, rfl⟩ := trodVars_none hV
  obtain ⟨pool, rfl, rfl, rfl, w0⟩ := open_int Try.underlying3 (hval 0 3 v0 rfl rfl) h0
  obtain ⟨a1, len1, cap1, rfl⟩ := okWide_slice Try.underlying40 (hval 1 40 v1 rfl rfl)
  have k1 := h1
  have lt1 : ∀ x ∈ p1, x.block < W.heap.size := by obtain ⟨m, hm⟩ := k1; exact DataW.trod_lt m _ _ _ hm
  obtain ⟨l, hl, hn⟩ : ∃ l : List Act, ActsAt W (.slice a1 len1 cap1) l ∧ l.length ≤ 2600000000000 := by
    obtain ⟨fuel, hf⟩ := h1
    obtain ⟨l, hl, hd⟩ := open_acts (by simpa [Value.cells] using hf)
    refine ⟨l, hl, ?_⟩
    rcases hd with ⟨rfl, -⟩ | ⟨es, sp, hd, hlen⟩
    · simp
    · simp only at hd
      subst hd
      have := sized_slice hsz (j := 1) (t := 40) (e := 49) rfl rfl Try.underlying40
      rw [Try.bytes49] at this
      simp only [reachBytes] at this
      omega
  have hw := wf_i64 w0
  clear hA0 hval0
  refine (conserved_any api pool _ l W hw.1 hw.2 hl hn).mono fun e W' ⟨he, bel⟩ => ?_
  subst he
  exact ⟨_, rfl, _, _, _, [], _, [], hW', trodAll_mk1 (shut_bool Try.underlying4 _), (trodAll_cons_mk (shut_int Try.underlying3 w0) (trodAll_cons_mk (Below.trod laidOut (by kernel_rfl) (of_decide_eq_true (by kernel_rfl)) k1 bel lt1) trodAll_mk0)), rfl, bel.frame _, fun h => by cases h⟩

theorem conserved_said {At : World → Nat → (Nat → Prop) → St → Prop} (api : Api At) : Rows.ConservedSaid :=
  OpenClaim.holds_of_wide 7 Try.f7 rfl rfl rfl rfl rfl rfl rfl ⟨rfl, rfl, rfl, rfl, rfl⟩ rfl rfl rfl rfl rfl (by kernel_rfl) Try.func7 (by kernel_rfl)
    (of_decide_eq_true (by kernel_rfl)) (by unfold Func.isWrapper; first | (rw [if_pos (by decide +kernel)]; kernel_rfl) | (rw [if_neg (by decide +kernel)]; exact ⟨rfl, rfl⟩))
    (fun os started H enc _ => conserved_lifted api os started H enc)

end Go.Proofs.Ytphkchjejbffeaa
