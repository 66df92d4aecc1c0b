/- A replace message. -/
import Derived.Test.YtphkchjejbffeaaG13
import Derived.ScopeJumps
namespace Go.Proofs.Ytphkchjejbffeaa
open Go.RowKit
attribute [local go_sem ↓] Go.wp_at_zero Go.wp_at_succ

/-- A state with a token more, and its answer. -/
def St.regd (st : St) (n r : Nat) (l : List UInt8) : St := { st with refs := r, used := n :: st.used }.say l

set_option maxRecDepth 100000 in
set_option maxHeartbeats 2000000 in
theorem replace_step (b : Nat) (c : BC) (k : SK) (st : St) (t n price shares : Nat) (w : World) (h : Rel w b c k st) (ht : t < 4294967296) (hn : n < 4294967296) (hp : price < 65536) (hs : shares < 65536) (hra : st.ans.length ≤ 70368744270000) (hrt : st.tape.length ≤ 70368744270000) :
    Calls Try.prog 52 #[.pointer (some ⟨b, 0, none⟩), replaceV t n price shares] w fun e w' => e = .returned (.tuple #[]) ∧ Does w b c k w' (st.replace t n price shares) := by
  have hgb : ∀ j, GB b c k j → j < w.heap.size := h.lt
  have g18 := h.map
  have g19 := h.books
  have hblt := h.B.lt
  obtain ⟨M, od, ps, fl, j1, j2, j3⟩ := h.ex
  have hne : ∀ s d p, VV k.S k.L s d p → ∀ y ∈ ps s d p, y < k.n ∧ y ≠ 0 := fun s d p hv => (j1.nodup hv).2.1
  obtain ⟨x, hx⟩ : ∃ x, (M t).getD 0 = x := ⟨_, rfl⟩
  have hcase := j3.getD t x hx (fun s d p hv y hy => (hne s d p hv y hy).2)
  have HH : Hid (Holds w c k st M od ps fl) := ⟨j1, j2, j3⟩
  have HR := Hid.mk h
  have HC := Hid.mk hcase
  have HNE := Hid.mk hne
  have HX := Hid.mk hx
  clear h j1 j2 j3 hcase hne hx
  unfold replaceV
  go_enter Try.func52, Try.ntmps52
  go_wp2_with fail
  generalize hOb : Obj.cells _ 114 = Ob
  have hF : Fr (fun _ => False) w (w.alloc Ob) := Fr.alloc _ w Ob
  have cc : ∀ i v, (#[Value.int .u32 t, .int .u32 n, .int .u16 price, .int .u16 shares] : Array Value)[i]? = some v → (w.alloc Ob).cell? ⟨w.heap.size, i, none⟩ = some v := by
    intro i v hv
    rw [cell_of_row _ w.heap.size i _ 114 (0, 0) (by rw [heap_alloc, if_pos rfl, ← hOb])]
    exact hv
  clear hOb
  generalize w.alloc Ob = W at hF cc ⊢
  have q0 := cc 0 _ rfl
  have q1 := cc 1 _ rfl
  have q2 := cc 2 _ rfl
  have q3 := cc 3 _ rfl
  have HHW : Hid (Holds W c k st M od ps fl) := HH.out.quiet hF
  have HRW : Hid (Rel W b c k st) := HR.out.quiet hF
  have h18 := hF.cell g18 (fun e => e)
  have h19 := hF.cell g19 (fun e => e)
  have hlk : (Instr.lookup 78 (.map (some c.pm)) (.int .u32 t) false).run Try.prog W.drew = .ok (.int .i64 x) W.drew := by
    have := (HHW.out.quiet (Fr.drew _ W)).2.1.look t ht
    rw [HX.out] at this
    exact this
  have m0 : W.drew.cell? ⟨b, 18, none⟩ = some (.map (some c.pm)) ∧ W.drew.cell? ⟨w.heap.size, 0, none⟩ = some (.int .u32 t) ∧ (Instr.lookup 78 (.map (some c.pm)) (.int .u32 t) false).run Try.prog W.drew = .ok (.int .i64 x) W.drew := ⟨h18, q0, hlk⟩
  have HF := Hid.mk hF
  clear hF g18 g19 hlk cc
  go_region_held3 (fun w' => w'.cell? ⟨b, 18, none⟩ = some (.map (some c.pm)) ∧ w'.cell? ⟨w.heap.size, 0, none⟩ = some (.int .u32 t) ∧ (Instr.lookup 78 (.map (some c.pm)) (.int .u32 t) false).run Try.prog w' = .ok (.int .i64 x) w') (first | with_reducible exact m0 | go_keep) (fail)
  have HF1 : Hid (Fr (fun _ => False) w W.drew) := HF.out.trans (Fr.drew _ W) (fun _ _ e => e)
  have HH1 : Hid (Holds W.drew c k st M od ps fl) := HHW.out.quiet (Fr.drew _ W)
  have HR1 : Hid (Rel W.drew b c k st) := HRW.out.quiet (Fr.drew _ W)
  have p0 : W.drew.cell? ⟨w.heap.size, 0, none⟩ = some (.int .u32 t) := q0
  have p1 : W.drew.cell? ⟨w.heap.size, 1, none⟩ = some (.int .u32 n) := q1
  have p2 : W.drew.cell? ⟨w.heap.size, 2, none⟩ = some (.int .u16 price) := q2
  have p3 : W.drew.cell? ⟨w.heap.size, 3, none⟩ = some (.int .u16 shares) := q3
  rename_i hHeld
  clear hHeld m0 q0 q1 q2 q3 h18 h19 HF HHW HRW
  generalize W.drew = V at *
  rcases HC.out with ⟨hx0, hfn⟩ | ⟨hx0, hMx, hfs⟩
  · have HFN := Hid.mk hfn
    clear hfn
    have b0 : ((x : Int) == 0) = true := by simp [hx0]
    clear hx0
    go_wp2_with fail
    refine bodyPost_ret (results_none rfl _ _ _) rfl ?_
    refine ⟨rfl, c, ?_, Stp.quiet HF1.out⟩
    unfold St.replace
    rw [HFN.out]
    exact HR1.out
  · have b0 : ((x : Int) == 0) = false := by simp; omega
    obtain ⟨s, d, p, hv, hxp, htk⟩ := HH.out.2.2.mto t x hMx hx0
    obtain ⟨f1, f2, f3, f4, f5, f6, f7⟩ := HH.out.2.2.fits hv hxp
    have hxn := (HNE.out _ _ _ hv x hxp).1
    obtain ⟨f, hf⟩ : ∃ f, od x = f := ⟨_, rfl⟩
    rw [hf] at f1 f2 f3 f4 f5 f6 f7 htk hfs
    subst f1 f2 f3
    have HFS := Hid.mk hfs
    have HV := Hid.mk (And.intro hv (And.intro hxp htk))
    clear hv hxp htk hfs hMx
    go_wp2_with fail
    refine (whyNotReplace_any b c k st t n price shares V HR1.out hn hp hs).mono ?_
    rintro e w1 ⟨rfl, hf1⟩
    have r0 := hf1.out.cell p0 (fun e => e)
    have r1 := hf1.out.cell p1 (fun e => e)
    have r2 := hf1.out.cell p2 (fun e => e)
    have r3 := hf1.out.cell p3 (fun e => e)
    have HF2 : Hid (Fr (fun _ => False) w w1) := HF1.out.trans hf1.out (fun _ _ e => e)
    have HR2 := Hid.mk (HR1.out.quiet hf1.out)
    have HH2 := Hid.mk (HH1.out.quiet hf1.out)
    have hgl1 : w.heap.size < w1.heap.size := World.block_lt_of_cell? w1 _ r1
    clear p0 p1 p2 p3 hf1
    cases hwr : st.whyR n price shares with
    | some r =>
      have HWR := Hid.mk hwr
      clear hwr
      unfold whyV
      simp only
      go_wp2_with fail
      refine (tellRejected_any b c st.ans n r w1 HR2.out.B HR2.out.tm.1 HR2.out.tm.2 HR2.out.A HR2.out.dist.ab (by omega) hn).mono ?_
      rintro e w2 ⟨rfl, ht2⟩
      obtain ⟨c2, hR2, hS2, -, -⟩ := HR2.out.tellA (l := st.head 74 ++ enc n 4 ++ [r]) ht2 (by
        rw [HR2.out.time]; unfold St.head; simp)
      have HFIN : Hid (Does w b c k w2 (st.replace t n price shares)) := by
        refine ⟨c2, ?_, (Stp.quiet HF2.out).trans hS2⟩
        unfold St.replace
        rw [HFS.out]
        simp only
        rw [HWR.out]
        exact hR2
      clear hR2 hS2 ht2
      go_wp2_with fail
      refine bodyPost_ret (results_none rfl _ _ _) rfl ?_
      exact ⟨rfl, HFIN.out⟩
    | none =>
      obtain ⟨c1', c2', c3', c4', c5'⟩ := whyR_none hwr
      have HWR := Hid.mk hwr
      clear hwr
      unfold whyV
      simp only
      have g19b := HR2.out.books
      go_wp2_with fail
      refine (order_bk k w1 st.resting x od ps fl HH2.out.1 hxn).mono ?_
      rintro e w2 ⟨aa, zz, rfl, hf2⟩
      have s0 := hf2.out.cell r0 (fun e => e)
      have s1 := hf2.out.cell r1 (fun e => e)
      have s2 := hf2.out.cell r2 (fun e => e)
      have s3 := hf2.out.cell r3 (fun e => e)
      have HF3 : Hid (Fr (fun _ => False) w w2) := HF2.out.trans hf2.out (fun _ _ e => e)
      have HR3 := Hid.mk (HR2.out.quiet hf2.out)
      have HH3 := Hid.mk (HH2.out.quiet hf2.out)
      have hgl2 : w.heap.size < w2.heap.size := World.block_lt_of_cell? w2 _ s1
      have g19c := hf2.out.cell g19b (fun e => e)
      rw [hf]
      unfold ordV ordL
      clear r0 r1 r2 r3 hf2 g19b
      go_wp2_with fail
      have hFA : Fr (fun _ => False) w2 (w2.alloc (Obj.cells #[Value.int .i64 aa, Value.int .i64 zz, Value.int .u32 f.ref, Value.int .u32 f.token, Value.int .u8 f.side.toNat, Value.int .u8 f.stock, Value.int .u16 f.price, Value.int .u16 f.shares] 129)) := Fr.alloc _ _ _
      have hbf : Box (w2.alloc (Obj.cells #[Value.int .i64 aa, Value.int .i64 zz, Value.int .u32 f.ref, Value.int .u32 f.token, Value.int .u8 f.side.toNat, Value.int .u8 f.stock, Value.int .u16 f.price, Value.int .u16 f.shares] 129)) w2.heap.size aa zz f := Box.of (t := 129) (by rw [heap_alloc, if_pos rfl]; rfl)
      have hgl3 : w2.heap.size < (w2.alloc (Obj.cells #[Value.int .i64 aa, Value.int .i64 zz, Value.int .u32 f.ref, Value.int .u32 f.token, Value.int .u8 f.side.toNat, Value.int .u8 f.stock, Value.int .u16 f.price, Value.int .u16 f.shares] 129)).heap.size := by rw [size_alloc]; omega
      generalize w2.alloc (Obj.cells #[Value.int .i64 aa, Value.int .i64 zz, Value.int .u32 f.ref, Value.int .u32 f.token, Value.int .u8 f.side.toNat, Value.int .u8 f.stock, Value.int .u16 f.price, Value.int .u16 f.shares] 129) = W2 at hFA hbf hgl3 ⊢
      have HFW2 : Hid (Fr (fun _ => False) w W2) := HF3.out.trans hFA (fun _ _ e => e)
      have HRW2 : Hid (Rel W2 b c k st) := HR3.out.quiet hFA
      have HHW2 : Hid (Holds W2 c k st M od ps fl) := HH3.out.quiet hFA
      obtain ⟨r, hr⟩ : ∃ r, (st.refs + 1) % 4294967296 = r := ⟨_, rfl⟩
      have hrl : r < 4294967296 := by rw [← hr]; exact Nat.mod_lt _ (by decide)
      have HRr := Hid.mk hr
      clear hr
      obtain ⟨g1, hg1⟩ : ∃ g1, w2.heap.size = g1 := ⟨_, rfl⟩
      rw [hg1] at hbf hgl3 ⊢
      have n1 : ¬ GB b c k g1 := fun e => by have := hgb _ e; omega
      have hfst : f.stock < 256 := by have a1 := HV.out.1.1; have a2 := HR.out.ok.S; omega
      refine (acceptRepl_step b aa zz c k st f t n price shares r W2 HRW2.out hn f7 hfst hp hs c1' (by omega) HRr.out).mono ?_
      rintro e w3 ⟨rfl, c3, hR3, hS3, hT3⟩
      have hH3 := hT3 M od ps fl HHW2.out
      have nG : ∀ g, g < W2.heap.size → ¬ GB b c k g → ¬ GB b c3 k g := fun g hg hn e => (hS3.sub g e).elim hn (fun e => by omega)
      have n1c := nG g1 hgl3 n1
      have hbf3 := hbf.fr hS3.fr n1
      have HBF3 := Hid.mk hbf3
      have HST : Hid (Stp w b c k w3 c3) := (Stp.quiet HFW2.out).trans hS3
      have g19d := hR3.books
      have hg1w3 : g1 < w3.heap.size := Nat.lt_of_lt_of_le hgl3 hS3.fr.size
      obtain ⟨st1, hst1⟩ : ∃ st1, ({ st with refs := r, used := n :: st.used } : St).say (st.head 85 ++ enc n 4 ++ enc price 2 ++ enc shares 2 ++ enc r 4 ++ enc f.token 4) = st1 := ⟨_, rfl⟩
      rw [hst1] at hR3 hH3
      have HR4 := Hid.mk hR3
      have HH4 := Hid.mk hH3
      have HS1 := Hid.mk hst1
      have HN1 := Hid.mk n1c
      clear hFA hbf hbf3 hS3 hT3 hR3 hH3 nG n1 n1c hst1 hg1 s0 s1 s2 s3 g19c
      obtain ⟨y, hy⟩ : ∃ y, ({ ref := r, token := n, side := f.side, stock := f.stock, price := price, shares := shares } : Ord) = y := ⟨_, rfl⟩
      have yrf : y.ref = r := by rw [← hy]
      have ytk : y.token = n := by rw [← hy]
      have ysd : y.side = f.side := by rw [← hy]
      have yst : y.stock = f.stock := by rw [← hy]
      have ypr : y.price = price := by rw [← hy]
      have ysh : y.shares = shares := by rw [← hy]
      have HYE := Hid.mk (And.intro yrf (And.intro ytk (And.intro ysd (And.intro yst (And.intro ypr ysh)))))
      have ey : ordV 0 0 { f with ref := r, token := n, price := price, shares := shares } = ordV 0 0 y := by rw [← hy]
      rw [ey]
      have HYY := Hid.mk hy
      clear yrf ytk ysd yst ypr ysh ey hy
      unfold ordV ordL
      go_wp2_with fail
      have hFA : Fr (fun _ => False) w3 (w3.alloc (Obj.cells #[Value.int .i64 0, Value.int .i64 0, Value.int .u32 y.ref, Value.int .u32 y.token, Value.int .u8 y.side.toNat, Value.int .u8 y.stock, Value.int .u16 y.price, Value.int .u16 y.shares] 129)) := Fr.alloc _ _ _
      have hbyb : (w3.alloc (Obj.cells #[Value.int .i64 0, Value.int .i64 0, Value.int .u32 y.ref, Value.int .u32 y.token, Value.int .u8 y.side.toNat, Value.int .u8 y.stock, Value.int .u16 y.price, Value.int .u16 y.shares] 129)).heap[w3.heap.size]? = some (.cells (ordL 0 0 y).toArray 129) := by rw [heap_alloc, if_pos rfl]; rfl
      have hgl4 : w3.heap.size < (w3.alloc (Obj.cells #[Value.int .i64 0, Value.int .i64 0, Value.int .u32 y.ref, Value.int .u32 y.token, Value.int .u8 y.side.toNat, Value.int .u8 y.stock, Value.int .u16 y.price, Value.int .u16 y.shares] 129)).heap.size := by rw [size_alloc]; omega
      have n2 : ¬ GB b c3 k w3.heap.size := fun e => by have := HR4.out.lt _ e; omega
      generalize w3.alloc (Obj.cells #[Value.int .i64 0, Value.int .i64 0, Value.int .u32 y.ref, Value.int .u32 y.token, Value.int .u8 y.side.toNat, Value.int .u8 y.stock, Value.int .u16 y.price, Value.int .u16 y.shares] 129) = W3 at hFA hbyb hgl4 ⊢
      obtain ⟨g2, hg2⟩ : ∃ g2, w3.heap.size = g2 := ⟨_, rfl⟩
      rw [hg2] at hbyb hgl4 n2 ⊢
      have hg2w : w.heap.size ≤ g2 := by have := HST.out.fr.size; omega
      clear hg2
      obtain ⟨q0, q1, q2, q3, q4, q5, q6, q7⟩ := (Box.of hbyb : Box W3 g2 0 0 y)
      have h19 := hFA.cell g19d (fun e => e)
      have HR5 : Hid (Rel W3 b c3 k st1) := HR4.out.quiet hFA
      have HH5 : Hid (Holds W3 c3 k st1 (updM M n (some 0)) od ps fl) := HH4.out.quiet hFA
      have HST5 : Hid (Stp w b c k W3 c3) := HST.out.trans (Stp.quiet hFA)
      have HBF5 : Hid (Box W3 g1 aa zz f) := HBF3.out.fr hFA (fun e => e)
      have HBY := Hid.mk hbyb
      have HN2 := Hid.mk n2
      have hg1W3 : g1 < W3.heap.size := Nat.lt_of_lt_of_le hg1w3 hFA.size
      clear hFA hbyb n2 g19d
      obtain ⟨yrf, ytk, ysd, yst, ypr, ysh⟩ := HYE.out
      have hkS : k.S = st.stocks := HH.out.2.2.hS
      have hkL : k.L = st.levels := HH.out.2.2.hL
      have hkL64 := HR.out.ok.L
      have hvy : Hid (VV k.S k.L y.stock y.side y.price) := by
        have a1 := HV.out.1
        refine ⟨by rw [yst]; exact a1.1, by rw [ysd]; exact a1.2.1, by rw [ypr]; omega, by rw [ypr, hkL]; exact c3'⟩
      have hys : y.stock < k.S := hvy.out.1
      have hyd : y.side = 66 ∨ y.side = 83 := hvy.out.2.1
      have hyp : y.price ≤ 1000 := by have := hvy.out.2.2.2; omega
      have y1 : 1 ≤ y.shares := by rw [ysh]; exact c4'
      have y2 : y.shares ≤ 9999 := by rw [ysh]; exact c5'
      have y3 : y.ref < 4294967296 := by rw [yrf]; exact hrl
      have y4 : y.token < 4294967296 := by rw [ytk]; exact hn
      clear yrf ytk ysd yst ypr ysh hkS hkL
      go_region_held3 (fun w' => (w'.cell? ⟨g2, 0, none⟩ = some (.int .i64 0) ∧ w'.cell? ⟨g2, 1, none⟩ = some (.int .i64 0) ∧ w'.cell? ⟨g2, 2, none⟩ = some (.int .u32 y.ref) ∧ w'.cell? ⟨g2, 3, none⟩ = some (.int .u32 y.token) ∧ w'.cell? ⟨g2, 4, none⟩ = some (.int .u8 y.side.toNat) ∧ w'.cell? ⟨g2, 5, none⟩ = some (.int .u8 y.stock) ∧ w'.cell? ⟨g2, 6, none⟩ = some (.int .u16 y.price) ∧ w'.cell? ⟨g2, 7, none⟩ = some (.int .u16 y.shares)) ∧ w'.cell? ⟨b, 19, none⟩ = some (.pointer (some ⟨k.bk, 0, none⟩))) (first | with_reducible exact m1 | go_keep)
        ((go_at_call 83; refine (meets_any k W3.drew st1.resting 0 0 y od ps fl (HH5.out.1.keep (fun _ _ => rfl)) hys hyd hyp).mono ?_; rintro e w4 ⟨rfl, hf4⟩; have m1 := And.intro ((Box.fr (w := W3.drew) ⟨q0, q1, q2, q3, q4, q5, q6, q7⟩ hf4.out (fun e => e)).all) (hf4.out.cell (w := W3.drew) h19 (fun e => e))))
      have hF4 : Hid (Fr (fun _ => False) W3 w4) := (Fr.drew _ W3).trans hf4.out (fun _ _ e => e)
      obtain ⟨⟨u0, u1, u2, u3, u4, u5, u6, u7⟩, u19⟩ := m1
      have HR6 : Hid (Rel w4 b c3 k st1) := HR5.out.quiet hF4.out
      have HH6 : Hid (Holds w4 c3 k st1 (updM M n (some 0)) od ps fl) := HH5.out.quiet hF4.out
      have HST6 : Hid (Stp w b c k w4 c3) := HST5.out.trans (Stp.quiet hF4.out)
      have hbf6 := HBF5.out.fr hF4.out (fun e => e)
      have HBF6 := Hid.mk hbf6
      have hbk6 : Hid (w4.heap[g2]? = some (.cells (ordL 0 0 y).toArray 129)) := (hF4.out.block _ hgl4 (fun e => e)).trans HBY.out
      have hg1w4 : g1 < w4.heap.size := Nat.lt_of_lt_of_le hg1W3 hF4.out.size
      have hg2w4 : g2 < w4.heap.size := Nat.lt_of_lt_of_le hgl4 hF4.out.size
      clear hf4 q0 q1 q2 q3 q4 q5 q6 q7 h19
      have hrep : Hid (st.replace t n price shares = match st1.meets y with
          | none => if price = f.price ∧ shares ≤ f.shares then (st1.put (st1.head 117 ++ enc f.ref 4 ++ enc y.ref 4 ++ enc shares 2 ++ enc price 2)).upd f.stock f.side f.price (subO t y) else ((st1.put (st1.head 117 ++ enc f.ref 4 ++ enc y.ref 4 ++ enc shares 2 ++ enc price 2)).upd f.stock f.side f.price (delO t)).upd f.stock f.side price (· ++ [y])
          | some _ => if ((((st1.put (st1.head 100 ++ enc f.ref 4)).upd f.stock f.side f.price (delO t)).meet 65 y).2.shares = 0) then (((st1.put (st1.head 100 ++ enc f.ref 4)).upd f.stock f.side f.price (delO t)).meet 65 y).1 else (((st1.put (st1.head 100 ++ enc f.ref 4)).upd f.stock f.side f.price (delO t)).meet 65 y).1.rest (((st1.put (st1.head 100 ++ enc f.ref 4)).upd f.stock f.side f.price (delO t)).meet 65 y).2) := by
        show _ = _
        unfold St.replace
        rw [HFS.out]
        simp only
        rw [HWR.out]
        simp only
        rw [HRr.out, ← HS1.out, ← HYY.out, HV.out.2.2]
        rfl
      have hans1 : st1.ans.length = st.ans.length + 23 := by rw [← HS1.out]; simp [St.say, St.head, enc_length]
      have htap1 : st1.tape = st.tape := by rw [← HS1.out]; rfl
      have htape1 : st1.tape.length ≤ 70368744270000 := by rw [htap1]; exact hrt
      have hmets := HH6.out.2.2.meets y hys
      have HMETS := Hid.mk hmets
      have HTAP := Hid.mk htap1
      clear hmets htap1
      cases hmp : meetsP k.L ps y with
      | none =>
        have HMP : Hid (st1.meets y = none) := by show _ = _; rw [HMETS.out, hmp]; rfl
        clear hmp
        dsimp only [Option.getD_none]
        obtain ⟨v0, v1, v2, v3, v4, v5, v6, v7⟩ := hbf6
        go_wp2_with fail
        refine (swap_step b aa zz c3 k st1 (updM M n (some 0)) od ps fl x f y w4 HR6.out HH6.out hf HV.out.1 HV.out.2.1 HYE.out.2.2.2.1 HYE.out.2.2.1 hvy.out y1 y2 y3 y4 (by rw [HYE.out.2.1, updM_same]) HMP.out (by omega)).mono ?_
        rintro e w5 ⟨rfl, c5, hR5, hS5⟩
        have HEND : Hid (Does w b c k w5 (st.replace t n price shares)) := by
          refine ⟨c5, ?_, HST6.out.trans hS5⟩
          rw [hrep.out, HMP.out]
          simp only
          have e : (if price = f.price ∧ shares ≤ f.shares then (st1.put (st1.head 117 ++ enc f.ref 4 ++ enc y.ref 4 ++ enc shares 2 ++ enc price 2)).upd f.stock f.side f.price (subO t y) else ((st1.put (st1.head 117 ++ enc f.ref 4 ++ enc y.ref 4 ++ enc shares 2 ++ enc price 2)).upd f.stock f.side f.price (delO t)).upd f.stock f.side price (· ++ [y])) = (st1.swapQ f y).put (st1.head 117 ++ enc f.ref 4 ++ enc y.ref 4 ++ enc y.shares 2 ++ enc y.price 2) := by
            obtain ⟨-, -, -, -, ypr, ysh⟩ := HYE.out
            unfold St.swapQ
            rw [ypr, ysh, HV.out.2.2]
            split <;> rfl
          rw [e]
          exact hR5
        clear hR5 hS5
        go_wp2_with fail
        refine bodyPost_ret (results_none rfl _ _ _) rfl ?_
        exact ⟨rfl, HEND.out⟩
      | some x2 =>
        obtain ⟨i1, i2, i3⟩ := HH6.out.2.2.met y hys x2 hmp
        have hx20 := ((HH6.out.1.nodup i2).2.1 x2 i3).2
        have HMP : Hid (st1.meets y = some (od x2)) := i1
        have bx2 : ((x2 : Int) == 0) = false := by simp; omega
        clear hmp i1 i2 i3
        dsimp only [Option.getD_some]
        obtain ⟨v0, v1, v2, v3, v4, v5, v6, v7⟩ := hbf6
        go_wp2_with fail
        refine (tapeGone_any b c3 st1.tape f.ref w4 HR6.out.B HR6.out.tm.1 HR6.out.tm.2 HR6.out.T HR6.out.dist.tb (by omega) f6).mono ?_
        rintro e w5 ⟨rfl, ht5⟩
        obtain ⟨c5, hR5, hS5, hp5, -⟩ := HR6.out.tellT (l := st1.head 100 ++ enc f.ref 4) ht5 (by
          rw [HR6.out.time]; unfold St.head; simp)
        have hH5 := HH6.out.tellT (l := st1.head 100 ++ enc f.ref 4) (c' := c5) HR6.out.dist ht5 hp5
        have a7 := hS5.fr.cell HBF6.out.c7 HN1.out
        have HR7 := Hid.mk hR5
        have HH7 := Hid.mk hH5
        have HS5 := Hid.mk hS5
        have HST7 : Hid (Stp w b c k w5 c5) := HST6.out.trans hS5
        clear hR5 hH5 hS5 ht5 v0 v1 v2 v3 v4 v5 v6 v7 u0 u1 u2 u3 u4 u5 u6 u7 u19
        go_wp2_with fail
        refine (reduce_step b c5 k _ (updM M n (some 0)) od ps fl x f.shares f w5 HR7.out HH7.out hf HV.out.1 HV.out.2.1 (Nat.le_refl _)).mono ?_
        rintro e w6 ⟨rfl, c6, hR6, hS6⟩
        obtain ⟨st3, hst3⟩ : ∃ st3, (st1.put (st1.head 100 ++ enc f.ref 4)).upd f.stock f.side f.price (delO t) = st3 := ⟨_, rfl⟩
        have hnd := (HH7.out.1.nodup HV.out.1).1
        obtain ⟨la, lb, hab⟩ := List.append_of_mem HV.out.2.1
        have hcut := HH7.out.2.2.cut HV.out.1 hab hnd
        rw [hf] at hcut
        have hqq : (st1.put (st1.head 100 ++ enc f.ref 4)).q f.stock f.side f.price = la.map od ++ f :: lb.map od := by rw [HH7.out.2.2.q _ _ _ HV.out.1, hab, List.map_append, List.map_cons, hf]
        have e3 : (st1.put (st1.head 100 ++ enc f.ref 4)).upd f.stock f.side f.price (redO f.token f.shares) = st3 := by
          rw [← hst3, ← HV.out.2.2]
          unfold St.upd
          congr 1
          funext s' d' p'
          rw [hqq, redO_app f.token f.shares (la.map od) f (lb.map od) hcut.1 rfl, delO_app f.token (la.map od) f (lb.map od) hcut.1 rfl, if_pos (Nat.le_refl _)]
        rw [e3] at hR6
        have hS46 := HS5.out.trans hS6
        have hbk6b : w6.heap[g2]? = some (.cells (ordL 0 0 y).toArray 129) := (hS46.fr.block _ hg2w4 HN2.out).trans hbk6.out
        obtain ⟨k0, k1, k2, k3, k4, k5, k6, k7⟩ := (Box.of hbk6b : Box w6 g2 0 0 y)
        have n6 : ¬ GB b c6 k g2 := fun e => (hS46.sub g2 e).elim HN2.out (fun e => by omega)
        have hval3 : Valid st3 y.stock y.side y.price := by
          have a1 := HH6.out.2.2.valid hvy.out
          rw [← hst3]
          exact a1
        have hall1 : st1.all = st.all := by rw [← HS1.out]; rfl
        have hused1 : st1.used = n :: st.used := by rw [← HS1.out]; rfl
        have hrest1 : st1.resting = st.resting := by unfold St.resting; rw [hall1]
        have hdel := del_all (st := st1.put (st1.head 100 ++ enc f.ref 4)) f.stock f.side f.price t (HH7.out.2.2.valid HV.out.1) ⟨f, by rw [hqq]; simp, HV.out.2.2⟩
        rw [hst3] at hdel
        have hnew3 : ∀ o ∈ st3.all, o.token ≠ y.token := by
          intro o ho e
          have := hdel.2.subset ho
          have h2 : o ∈ st.all := by rw [← hall1]; exact this
          exact c1' (by rw [← HYE.out.2.1, ← e]; exact HR.out.inv.used o h2)
        have hus3 : y.token ∈ st3.used := by
          rw [← hst3]
          show y.token ∈ st1.used
          rw [hused1, HYE.out.2.1]; simp
        obtain ⟨st', o', hm⟩ : ∃ st' o', st3.meet 65 y = (st', o') := ⟨_, _, rfl⟩
        have haft := after_meet hR6.inv hm hval3 hnew3 hus3
        have hla3 : st3.ans.length = st1.ans.length := by rw [← hst3]; rfl
        have hlt3 : st3.tape.length = st1.tape.length + 11 := by rw [← hst3]; simp [St.upd, St.put, St.head, enc_length]
        have hr3 : st3.resting + 1 = st1.resting := hdel.1
        have hp3 : st3.pool = st.pool := by rw [← hst3]; show st1.pool = st.pool; rw [← HS1.out]; rfl
        have HMEET := Hid.mk (meet_step b 0 0 c6 k st3 y o' st' w6 hR6 hm y4 y2 hys hyd hyp (by rw [hla3, hans1]; omega) (by rw [hlt3]; omega))
        have hrep2 : Hid (st.replace t n price shares = if o'.shares = 0 then st' else st'.rest o') := by
          show _ = _
          rw [hrep.out, HMP.out]
          simp only
          rw [hst3, hm]
        have HAFT := Hid.mk haft
        have HK6 := Hid.mk hbk6b
        have HN6 := Hid.mk n6
        have HST8 : Hid (Stp w b c k w6 c6) := HST7.out.trans hS6
        have hg2w6 : g2 < w6.heap.size := (Array.getElem?_eq_some_iff.1 hbk6b).1
        have HNUM : Hid (st3.resting + 1 = st1.resting ∧ st1.resting = st.resting ∧ st3.pool = st.pool ∧ st3.ans.length ≤ st.ans.length + 23 ∧ st3.tape.length ≤ st.tape.length + 11) := ⟨hr3, hrest1, hp3, by rw [hla3, hans1]; omega, by rw [hlt3, HTAP.out]; omega⟩
        clear hR6 hS6 hS46 hbk6b n6 hval3 hall1 hused1 hrest1 hdel hnew3 hus3 hm haft hla3 hlt3 hr3 hp3 e3 hst3 hqq hcut hab hnd a7
        go_wp2_with fail
        refine HMEET.out.mono ?_
        rintro e w7 ⟨rfl, c7, hR7, hS7⟩
        have hbk7 : Hid (w7.heap[g2]? = some (.cells (ordL 0 0 y).toArray 129)) := (hS7.fr.block _ hg2w6 HN6.out).trans HK6.out
        obtain ⟨l0, l1, l2, l3, l4, l5, l6, l7⟩ := (Box.of hbk7.out : Box w7 g2 0 0 y)
        have fro : ∀ j, w7.frozen? ⟨g2, j, none⟩ = false := fun j => by
          have := hbk7.out
          simp [World.frozen?, this]
        have fr0 := fro 0
        have fr1 := fro 1
        have fr2 := fro 2
        have fr3 := fro 3
        have fr4 := fro 4
        have fr5 := fro 5
        have fr6 := fro 6
        have fr7 := fro 7
        have n7 : ¬ GB b c7 k g2 := fun e => (hS7.sub g2 e).elim HN6.out (fun e => by omega)
        have HR8 := Hid.mk hR7
        have HST9 : Hid (Stp w b c k w7 c7) := HST8.out.trans hS7
        have HN7 := Hid.mk n7
        obtain ⟨b1, b2, b3, b4, b5, b6, b7, b8, b9, b10⟩ := HAFT.out
        have HB := Hid.mk (And.intro b1 (And.intro b3 (And.intro b4 (And.intro b5 b8))))
        have otk : o'.token < 4294967296 := by rw [b1]; exact y4
        have orf : o'.ref < 4294967296 := by rw [b1]; exact y3
        have osh : o'.shares ≤ 9999 := by omega
        obtain ⟨m1', m2', m3', m4', m5'⟩ := HNUM.out
        have hrm := HR.out.inv.room
        have hrp : st'.resting < st'.pool := by rw [b7, m3']; omega
        have htap' : st'.tape.length ≤ 70368744280000 := by omega
        clear fro hR7 hS7 n7 b1 b2 b3 b4 b5 b6 b7 b8 b9 b10 k0 k1 k2 k3 k4 k5 k6 k7 m1' m2' m3' m4' m5' hrm
        unfold ordV ordL
        have hfr9 : Fr (fun j => j = g2) w7 ((((((((w7.setCell ⟨g2, 0, none⟩ (.int .i64 0)).setCell ⟨g2, 1, none⟩ (.int .i64 0)).setCell ⟨g2, 2, none⟩ (.int .u32 o'.ref)).setCell ⟨g2, 3, none⟩ (.int .u32 o'.token)).setCell ⟨g2, 4, none⟩ (.int .u8 o'.side.toNat)).setCell ⟨g2, 5, none⟩ (.int .u8 o'.stock)).setCell ⟨g2, 6, none⟩ (.int .u16 o'.price)).setCell ⟨g2, 7, none⟩ (.int .u16 o'.shares)) := fr_setCells g2 (ordL 0 0 o') 0 w7
        have hR9 : Rel ((((((((w7.setCell ⟨g2, 0, none⟩ (.int .i64 0)).setCell ⟨g2, 1, none⟩ (.int .i64 0)).setCell ⟨g2, 2, none⟩ (.int .u32 o'.ref)).setCell ⟨g2, 3, none⟩ (.int .u32 o'.token)).setCell ⟨g2, 4, none⟩ (.int .u8 o'.side.toNat)).setCell ⟨g2, 5, none⟩ (.int .u8 o'.stock)).setCell ⟨g2, 6, none⟩ (.int .u16 o'.price)).setCell ⟨g2, 7, none⟩ (.int .u16 o'.shares)) b c7 k st' := HR8.out.keep (fun j hj => hfr9.block j (HR8.out.lt j hj) (fun e => HN7.out (by rw [← (show j = g2 from e)]; exact hj)))
        have hS9 : Stp w b c k ((((((((w7.setCell ⟨g2, 0, none⟩ (.int .i64 0)).setCell ⟨g2, 1, none⟩ (.int .i64 0)).setCell ⟨g2, 2, none⟩ (.int .u32 o'.ref)).setCell ⟨g2, 3, none⟩ (.int .u32 o'.token)).setCell ⟨g2, 4, none⟩ (.int .u8 o'.side.toNat)).setCell ⟨g2, 5, none⟩ (.int .u8 o'.stock)).setCell ⟨g2, 6, none⟩ (.int .u16 o'.price)).setCell ⟨g2, 7, none⟩ (.int .u16 o'.shares)) c7 := ⟨HST9.out.fr.trans hfr9 (fun i hi e => by have e : i = g2 := e; omega), HST9.out.sub, HST9.out.bytes, HST9.out.have_, HST9.out.opn⟩
        have HR9 := Hid.mk hR9
        have HS9 := Hid.mk hS9
        clear hfr9 hR9 hS9
        by_cases hz : o'.shares = 0
        · have bz : ¬ ((0 : Int) < (o'.shares : Int)) := by omega
          have bz2 : ¬ (0 < o'.shares) := by omega
          have HZ := Hid.mk hz
          clear hz
          go_wp2_with fail
          go_end0
          refine ⟨rfl, c7, ?_, HS9.out⟩
          rw [hrep2.out, if_pos HZ.out]
          exact HR9.out
        · have bz : (0 : Int) < (o'.shares : Int) := by omega
          have bz2 : 0 < o'.shares := by omega
          have HZ := Hid.mk hz
          clear hz
          go_wp2_with fail
          generalize ((((((((w7.setCell ⟨g2, 0, none⟩ (.int .i64 0)).setCell ⟨g2, 1, none⟩ (.int .i64 0)).setCell ⟨g2, 2, none⟩ (.int .u32 o'.ref)).setCell ⟨g2, 3, none⟩ (.int .u32 o'.token)).setCell ⟨g2, 4, none⟩ (.int .u8 o'.side.toNat)).setCell ⟨g2, 5, none⟩ (.int .u8 o'.stock)).setCell ⟨g2, 6, none⟩ (.int .u16 o'.price)).setCell ⟨g2, 7, none⟩ (.int .u16 o'.shares)) = w9 at HR9 HS9 ⊢
          obtain ⟨b1, b3, b4, b5, b8⟩ := HB.out
          refine (rest_step b c7 k st' o' w9 HR9.out b3 (by omega) osh orf otk b4 b5 hrp (b8.resolve_left HZ.out) (by omega)).mono ?_
          rintro e w10 ⟨rfl, c10, hR10, hS10⟩
          have HR10 := Hid.mk hR10
          have HS10 : Hid (Stp w b c k w10 c10) := HS9.out.trans hS10
          clear hR10 hS10 b1 b3 b4 b5 b8
          go_wp2_with fail
          go_end0
          refine ⟨rfl, c10, ?_, HS10.out⟩
          rw [hrep2.out, if_neg HZ.out]
          exact HR10.out

end Go.Proofs.Ytphkchjejbffeaa

/- A whole message is done. -/
namespace Go.Proofs.Ytphkchjejbffeaa
open Go.RowKit
attribute [local go_sem ↓] Go.wp_at_zero Go.wp_at_succ

/-- From one world to another, whatever became of the bourse's being open. -/
structure Stq (w : World) (b : Nat) (c : BC) (k : SK) (w' : World) (c' : BC) : Prop where
  fr : Fr (GB b c k) w w'
  sub : ∀ j, GB b c' k j → GB b c k j ∨ w.heap.size ≤ j
  bytes : c'.bytes = c.bytes
  have_ : c'.have_ = c.have_
theorem Stp.q {w w' : World} {b : Nat} {c c' : BC} {k : SK} (h : Stp w b c k w' c') : Stq w b c k w' c' := ⟨h.fr, h.sub, h.bytes, h.have_⟩

def DoesO (w : World) (b : Nat) (c : BC) (k : SK) (w' : World) (st' : St) (o : Bool) : Prop := ∃ c', Rel w' b c' k st' ∧ Stq w b c k w' c' ∧ c'.opn = o
theorem Does.o {w w' : World} {b : Nat} {c : BC} {k : SK} {st' : St} (h : Does w b c k w' st') : DoesO w b c k w' st' c.opn := by
  obtain ⟨c', h1, h2⟩ := h
  exact ⟨c', h1, h2.q, h2.opn⟩

set_option maxHeartbeats 600000 in
theorem shut_step (b : Nat) (c : BC) (k : SK) (st : St) (w : World) (h : Rel w b c k st) (hra : st.ans.length ≤ 70368744270000) :
    Calls Try.prog 56 #[.pointer (some ⟨b, 0, none⟩)] w fun e w' => e = .returned (.tuple #[]) ∧ DoesO w b c k w' st.shut false := by
  have g0 : w.cell? ⟨b, 0, none⟩ = some (.bool c.opn) := by rw [h.B.cell]; exact (c.get h.B.len).1
  have f0 := h.B.frozen 0
  have hF1 : Fr (fun j => j = b) w (w.setCell ⟨b, 0, none⟩ (.bool false)) := Fr.setCell w ⟨b, 0, none⟩ _
  have hi : Inv { st with opn := false } := h.inv.of_q rfl rfl rfl rfl (fun _ q => q) h.inv.refs h.inv.mats h.inv.time
  have hown := h.own (c' := { c with opn := false }) (st' := { st with opn := false }) (h.B.setOpn false) hF1 rfl rfl rfl rfl rfl rfl h.time h.refs h.mats hi rfl rfl rfl rfl rfl
  have HR := Hid.mk h
  have HO := Hid.mk hown
  clear h hF1 hi hown
  go_enter Try.func56, Try.ntmps56
  go_wp2_with fail
  generalize w.setCell ⟨b, 0, none⟩ (.bool false) = W at HO ⊢
  have hR1 := HO.out.1
  refine (tellClosed_any b { c with opn := false } st.ans W hR1.B hR1.tm.1 hR1.tm.2 hR1.A hR1.dist.ab (by omega)).mono ?_
  rintro e w2 ⟨rfl, ht2⟩
  obtain ⟨c2, hR2, hS2, -, -⟩ := hR1.tellA (l := st.head 90) ht2 (by
    have : c.time = st.time := HR.out.time
    show st.ans ++ 90 :: enc c.time 6 = st.ans ++ st.head 90
    unfold St.head
    rw [this])
  have HFIN : Hid (DoesO w b c k w2 st.shut false) := by
    have hs := Stp.trans (c1 := { c with opn := false }) (w := w) (c := { c with opn := false }) (w1 := W) ⟨HO.out.2.1, fun j hj => Or.inl hj, rfl, rfl, rfl⟩ hS2
    exact ⟨c2, hR2, ⟨hs.fr, fun j hj => (hs.sub j hj).imp (fun e => HO.out.2.2 j e) id, hs.bytes, hs.have_⟩, hs.opn⟩
  clear hR1 hR2 hS2 ht2
  go_wp2_with fail
  go_end0
  exact ⟨rfl, HFIN.out⟩

theorem at_eq (m : List UInt8) (i n : Nat) : num (((m.drop 1).drop i).take n) 0 = at_ m (1 + i) n := by
  unfold at_
  rw [List.drop_drop]
theorem at_eq0 (m : List UInt8) (n : Nat) : num ((m.drop 1).take n) 0 = at_ m 1 n := rfl
theorem num_one (m : List UInt8) (i : Nat) (h : i < m.length) : num ((m.drop i).take 1) 0 = (byteAt m i).toNat := by
  have : (m.drop i).take 1 = [m[i]] := by
    rw [List.drop_eq_getElem_cons h]
    rfl
  rw [this]
  unfold byteAt
  simp [num, h]
theorem at_lt2 (m : List UInt8) (i : Nat) : at_ m i 2 < 65536 := by
  unfold at_
  have h : ((m.drop i).take 2).length ≤ 2 := by simp; omega
  generalize (m.drop i).take 2 = l at h
  match l, h with
  | [], _ => simp [num]
  | [a], _ => have := a.toNat_lt; simp [num]; omega
  | [a, b], _ => have := a.toNat_lt; have := b.toNat_lt; simp [num]; omega

set_option maxRecDepth 100000 in
set_option maxHeartbeats 1000000 in
theorem do_E (b : Nat) (c : BC) (k : SK) (st : St) (m : List UInt8) (w : World) (h : Rel w b c k st) (hl : Lies w b 2 m) (hlen : m.length = 12) (h0 : byteAt m 0 = 69) (hra : st.ans.length ≤ 70368744270000) (hrt : st.tape.length ≤ 70368744270000) :
    Calls Try.prog 29 #[.pointer (some ⟨b, 0, none⟩), .slice (some ⟨b, 2, none⟩) 12 13] w fun e w' => e = .returned (.tuple #[]) ∧ DoesO w b c k w' (st.act m) c.opn := by
  have hblt := h.B.lt
  have c2 : w.cell? ⟨b, 2, none⟩ = some (.int .u8 69) := by
    have := hl.cell 0 (by omega)
    rw [show m.getD 0 0 = 69 from h0] at this
    exact this
  have hl1 : Lies w b 3 (m.drop 1) := hl.drop 1
  have hld : (m.drop 1).length = 11 := by rw [List.length_drop, hlen]
  have HR := Hid.mk h
  have HL := Hid.mk hl1
  have HLEN := Hid.mk (And.intro hlen (And.intro hld h0))
  clear h hl hl1 hlen hld h0
  go_enter Try.func29, Try.ntmps29
  go_wp2_with fail
  refine (readEnter_any b 3 (m.drop 1) w HLEN.out.2.1 HL.out hblt).mono ?_
  rintro e w1 ⟨rfl, hb1⟩
  have hf1 : Fr (fun _ => False) w w1 := Fr.of_below hb1 _
  have hR1 := HR.out.quiet hf1
  have HR1 := Hid.mk hR1
  have HF1 := Hid.mk hf1
  clear hb1 hf1 hR1
  have hval : (Value.agg #[.int .u32 (num ((m.drop 1).take 4) 0 : Nat), .int .u8 (num (((m.drop 1).drop 4).take 1) 0 : Nat), .int .u8 (num (((m.drop 1).drop 5).take 1) 0 : Nat), .int .u16 (num (((m.drop 1).drop 6).take 2) 0 : Nat), .int .u16 (num (((m.drop 1).drop 8).take 2) 0 : Nat), .int .u8 (num (((m.drop 1).drop 10).take 1) 0 : Nat)]) = enterV (at_ m 1 4) (byteAt m 5) (byteAt m 6).toNat (at_ m 7 2) (at_ m 9 2) (byteAt m 11) := by
    have e := HLEN.out.1
    rw [at_eq0, at_eq m 6 2, at_eq m 8 2, List.drop_drop, List.drop_drop, List.drop_drop, num_one m (1 + 4) (by omega), num_one m (1 + 5) (by omega), num_one m (1 + 10) (by omega)]
    rfl
  rw [hval]
  clear hval
  go_wp2_with fail
  refine (enter_step b c k st (at_ m 1 4) (byteAt m 5) (byteAt m 6).toNat (at_ m 7 2) (at_ m 9 2) (byteAt m 11) w1 HR1.out (at_lt m 1) (UInt8.toNat_lt _) (at_lt2 m 7) (at_lt2 m 9) hra hrt).mono ?_
  rintro e w2 ⟨rfl, hd⟩
  have HD : Hid (DoesO w b c k w2 (st.act m) c.opn) := by
    obtain ⟨c', h1, h2⟩ := hd
    have e : st.act m = st.enter (at_ m 1 4) (byteAt m 5) (byteAt m 6).toNat (at_ m 7 2) (at_ m 9 2) (byteAt m 11) := by
      unfold St.act
      rw [HLEN.out.2.2]
      rfl
    rw [e]
    exact Does.o ⟨c', h1, (Stp.quiet HF1.out).trans h2⟩
  clear hd
  go_wp2_with fail
  go_end0
  exact ⟨rfl, HD.out⟩

set_option maxRecDepth 100000 in
set_option maxHeartbeats 1000000 in
theorem do_R (b : Nat) (c : BC) (k : SK) (st : St) (m : List UInt8) (w : World) (h : Rel w b c k st) (hl : Lies w b 2 m) (hlen : m.length = 13) (h0 : byteAt m 0 = 82) (hra : st.ans.length ≤ 70368744270000) (hrt : st.tape.length ≤ 70368744270000) :
    Calls Try.prog 29 #[.pointer (some ⟨b, 0, none⟩), .slice (some ⟨b, 2, none⟩) 13 13] w fun e w' => e = .returned (.tuple #[]) ∧ DoesO w b c k w' (st.act m) c.opn := by
  have hblt := h.B.lt
  have c2 : w.cell? ⟨b, 2, none⟩ = some (.int .u8 82) := by
    have := hl.cell 0 (by omega)
    rw [show m.getD 0 0 = 82 from h0] at this
    exact this
  have hl1 : Lies w b 3 (m.drop 1) := hl.drop 1
  have hld : (m.drop 1).length = 12 := by rw [List.length_drop, hlen]
  have HR := Hid.mk h
  have HL := Hid.mk hl1
  have HLEN := Hid.mk (And.intro hlen (And.intro hld h0))
  clear h hl hl1 hlen hld h0
  go_enter Try.func29, Try.ntmps29
  go_wp2_with fail
  refine (readReplace_any b 3 (m.drop 1) w HLEN.out.2.1 HL.out hblt).mono ?_
  rintro e w1 ⟨rfl, hb1⟩
  have hf1 : Fr (fun _ => False) w w1 := Fr.of_below hb1 _
  have hR1 := HR.out.quiet hf1
  have HR1 := Hid.mk hR1
  have HF1 := Hid.mk hf1
  clear hb1 hf1 hR1
  have hval : (Value.agg #[.int .u32 (num ((m.drop 1).take 4) 0 : Nat), .int .u32 (num (((m.drop 1).drop 4).take 4) 0 : Nat), .int .u16 (num (((m.drop 1).drop 8).take 2) 0 : Nat), .int .u16 (num (((m.drop 1).drop 10).take 2) 0 : Nat)]) = replaceV (at_ m 1 4) (at_ m 5 4) (at_ m 9 2) (at_ m 11 2) := by
    have e := HLEN.out.1
    rw [at_eq0, at_eq m 4 4, at_eq m 8 2, at_eq m 10 2]
    rfl
  rw [hval]
  clear hval
  go_wp2_with fail
  refine (replace_step b c k st (at_ m 1 4) (at_ m 5 4) (at_ m 9 2) (at_ m 11 2) w1 HR1.out (at_lt m 1) (at_lt m 5) (at_lt2 m 9) (at_lt2 m 11) hra hrt).mono ?_
  rintro e w2 ⟨rfl, hd⟩
  have HD : Hid (DoesO w b c k w2 (st.act m) c.opn) := by
    obtain ⟨c', h1, h2⟩ := hd
    have e : st.act m = st.replace (at_ m 1 4) (at_ m 5 4) (at_ m 9 2) (at_ m 11 2) := by
      unfold St.act
      rw [HLEN.out.2.2]
      rfl
    rw [e]
    exact Does.o ⟨c', h1, (Stp.quiet HF1.out).trans h2⟩
  clear hd
  go_wp2_with fail
  go_end0
  exact ⟨rfl, HD.out⟩

set_option maxRecDepth 100000 in
set_option maxHeartbeats 1000000 in
theorem do_C (b : Nat) (c : BC) (k : SK) (st : St) (m : List UInt8) (w : World) (h : Rel w b c k st) (hl : Lies w b 2 m) (hlen : m.length = 7) (h0 : byteAt m 0 = 67) (hra : st.ans.length ≤ 70368744270000) (hrt : st.tape.length ≤ 70368744270000) :
    Calls Try.prog 29 #[.pointer (some ⟨b, 0, none⟩), .slice (some ⟨b, 2, none⟩) 7 13] w fun e w' => e = .returned (.tuple #[]) ∧ DoesO w b c k w' (st.act m) c.opn := by
  have hblt := h.B.lt
  have c2 : w.cell? ⟨b, 2, none⟩ = some (.int .u8 67) := by
    have := hl.cell 0 (by omega)
    rw [show m.getD 0 0 = 67 from h0] at this
    exact this
  have hl1 : Lies w b 3 (m.drop 1) := hl.drop 1
  have hld : (m.drop 1).length = 6 := by rw [List.length_drop, hlen]
  have HR := Hid.mk h
  have HL := Hid.mk hl1
  have HLEN := Hid.mk (And.intro hlen (And.intro hld h0))
  clear h hl hl1 hlen hld h0
  go_enter Try.func29, Try.ntmps29
  go_wp2_with fail
  refine (readCancel_any b 3 (m.drop 1) w HLEN.out.2.1 HL.out hblt).mono ?_
  rintro e w1 ⟨rfl, hb1⟩
  have hf1 : Fr (fun _ => False) w w1 := Fr.of_below hb1 _
  have hR1 := HR.out.quiet hf1
  have HR1 := Hid.mk hR1
  have HF1 := Hid.mk hf1
  clear hb1 hf1 hR1
  have hval : (Value.agg #[.int .u32 (num ((m.drop 1).take 4) 0 : Nat), .int .u16 (num (((m.drop 1).drop 4).take 2) 0 : Nat)]) = cancelV (at_ m 1 4) (at_ m 5 2) := by
    have e := HLEN.out.1
    rw [at_eq0, at_eq m 4 2]
    rfl
  rw [hval]
  clear hval
  go_wp2_with fail
  refine (cancel_step b c k st (at_ m 1 4) (at_ m 5 2) w1 HR1.out (at_lt m 1) (at_lt2 m 5) hra hrt).mono ?_
  rintro e w2 ⟨rfl, hd⟩
  have HD : Hid (DoesO w b c k w2 (st.act m) c.opn) := by
    obtain ⟨c', h1, h2⟩ := hd
    have e : st.act m = st.cancel (at_ m 1 4) (at_ m 5 2) := by
      unfold St.act
      rw [HLEN.out.2.2]
      rfl
    rw [e]
    exact Does.o ⟨c', h1, (Stp.quiet HF1.out).trans h2⟩
  clear hd
  go_wp2_with fail
  go_end0
  exact ⟨rfl, HD.out⟩

set_option maxRecDepth 100000 in
set_option maxHeartbeats 1000000 in
theorem do_Z (b : Nat) (c : BC) (k : SK) (st : St) (m : List UInt8) (w : World) (h : Rel w b c k st) (hl : Lies w b 2 m) (hlen : m.length = 1) (h1 : byteAt m 0 ≠ 69) (h2 : byteAt m 0 ≠ 82) (h3 : byteAt m 0 ≠ 67) (hra : st.ans.length ≤ 70368744270000) :
    Calls Try.prog 29 #[.pointer (some ⟨b, 0, none⟩), .slice (some ⟨b, 2, none⟩) 1 13] w fun e w' => e = .returned (.tuple #[]) ∧ DoesO w b c k w' (st.act m) false := by
  have c2 : w.cell? ⟨b, 2, none⟩ = some (.int .u8 (byteAt m 0).toNat) := hl.cell 0 (by omega)
  have n1 : (((byteAt m 0).toNat : Int) == 69) = false := u8_ne _ 69 h1
  have n2 : (((byteAt m 0).toNat : Int) == 82) = false := u8_ne _ 82 h2
  have n3 : (((byteAt m 0).toNat : Int) == 67) = false := u8_ne _ 67 h3
  have HE : Hid (st.act m = st.shut) := by
    show _ = _
    unfold St.act
    rw [if_neg h1, if_neg h2, if_neg h3]
  have HR := Hid.mk h
  generalize (byteAt m 0).toNat = q at *
  clear h hl hlen h1 h2 h3
  go_enter Try.func29, Try.ntmps29
  go_wp2_with fail
  refine (shut_step b c k st w HR.out hra).mono ?_
  rintro e w2 ⟨rfl, hd⟩
  have HD : Hid (DoesO w b c k w2 (st.act m) false) := by rw [HE.out]; exact hd
  clear hd
  go_wp2_with fail
  go_end0
  exact ⟨rfl, HD.out⟩

end Go.Proofs.Ytphkchjejbffeaa

/- Plain: what went out stays; bytes that come, up to a whole message. -/
namespace Go.Proofs.Ytphkchjejbffeaa

/-- What went out stays in front. -/
structure Mon (a b : St) : Prop where
  ans : a.ans <+: b.ans
  tape : a.tape <+: b.tape
theorem Mon.refl (a : St) : Mon a a := ⟨List.prefix_refl _, List.prefix_refl _⟩
theorem Mon.trans {a b c : St} (h : Mon a b) (k : Mon b c) : Mon a c := ⟨h.ans.trans k.ans, h.tape.trans k.tape⟩
theorem Mon.of_eq {a b : St} (h : b.ans = a.ans) (k : b.tape = a.tape) : Mon a b := ⟨by rw [h]; exact List.prefix_refl _, by rw [k]; exact List.prefix_refl _⟩
theorem mon_say (st : St) (l : List UInt8) : Mon st (st.say l) := ⟨List.prefix_append _ _, List.prefix_refl _⟩
theorem mon_put (st : St) (l : List UInt8) : Mon st (st.put l) := ⟨List.prefix_refl _, List.prefix_append _ _⟩
theorem mon_upd (st : St) (s : Nat) (d : UInt8) (p : Nat) (f : List Ord → List Ord) : Mon st (st.upd s d p f) := ⟨List.prefix_refl _, List.prefix_refl _⟩
theorem mon_execute (st : St) (o f : Ord) (n : Nat) : Mon st (st.execute o f n) := by
  unfold St.execute
  exact ((((Mon.of_eq rfl rfl : Mon st { st with mats := (st.mats + 1) % 4294967296 }).trans (mon_say _ _)).trans (mon_say _ _)).trans (mon_put _ _)).trans (mon_upd _ _ _ _ _)
theorem mon_meet (k : Nat) : ∀ (st : St) (o : Ord), Mon st (st.meet k o).1 := by
  induction k with
  | zero => intro st o; exact Mon.refl _
  | succ k ih =>
    intro st o
    simp only [St.meet]
    split
    · exact Mon.refl _
    · split
      · exact Mon.refl _
      · exact (mon_execute _ _ _ _).trans (ih _ _)
theorem mon_rest (st : St) (o : Ord) : Mon st (st.rest o) := (mon_upd _ _ _ _ _).trans (mon_put _ _)
theorem mon_accept (st : St) (o : Ord) (kind : UInt8) : Mon st (st.accept o kind) := (Mon.of_eq rfl rfl : Mon st { st with refs := o.ref, used := o.token :: st.used }).trans (mon_say _ _)
theorem mon_enter (st : St) (t : Nat) (side : UInt8) (stock price shares : Nat) (kind : UInt8) : Mon st (st.enter t side stock price shares kind) := by
  unfold St.enter
  split
  · exact mon_say _ _
  · dsimp only
    have h := (mon_accept st { ref := (st.refs + 1) % 4294967296, token := t, side := side, stock := stock, price := price, shares := shares } kind).trans (mon_meet 65 _ { ref := (st.refs + 1) % 4294967296, token := t, side := side, stock := stock, price := price, shares := shares })
    split
    · exact h
    · split
      · exact h.trans (mon_rest _ _)
      · exact h.trans (mon_say _ _)
theorem mon_cancel (st : St) (t n : Nat) : Mon st (st.cancel t n) := by
  unfold St.cancel
  split
  · exact Mon.refl _
  · split
    · exact Mon.refl _
    · dsimp only
      split
      · exact ((mon_say _ _).trans (mon_put _ _)).trans (mon_upd _ _ _ _ _)
      · exact ((mon_say _ _).trans (mon_put _ _)).trans (mon_upd _ _ _ _ _)
theorem mon_replace (st : St) (t n price shares : Nat) : Mon st (st.replace t n price shares) := by
  unfold St.replace
  split
  · exact Mon.refl _
  · split
    · exact mon_say _ _
    · dsimp only
      have h1 : Mon st (({ st with refs := (st.refs + 1) % 4294967296, used := n :: st.used } : St).say (st.head 85 ++ enc n 4 ++ enc price 2 ++ enc shares 2 ++ enc ((st.refs + 1) % 4294967296) 4 ++ enc t 4)) := (Mon.of_eq rfl rfl : Mon st { st with refs := (st.refs + 1) % 4294967296, used := n :: st.used }).trans (mon_say _ _)
      generalize (({ st with refs := (st.refs + 1) % 4294967296, used := n :: st.used } : St).say (st.head 85 ++ enc n 4 ++ enc price 2 ++ enc shares 2 ++ enc ((st.refs + 1) % 4294967296) 4 ++ enc t 4)) = b at *
      split
      · split
        · exact (h1.trans (mon_put _ _)).trans (mon_upd _ _ _ _ _)
        · exact ((h1.trans (mon_put _ _)).trans (mon_upd _ _ _ _ _)).trans (mon_upd _ _ _ _ _)
      · rename_i o _ _ _ _ _ _
        have h2 := ((h1.trans (mon_put _ _)).trans (mon_upd _ o.stock o.side o.price (delO t)) : Mon st ((b.put (b.head 100 ++ enc o.ref 4)).upd o.stock o.side o.price (delO t)))
        split
        · exact h2.trans (mon_meet 65 _ _)
        · exact (h2.trans (mon_meet 65 _ _)).trans (mon_rest _ _)
theorem mon_act (st : St) (m : List UInt8) : Mon st (st.act m) := by
  unfold St.act
  split
  · exact mon_enter _ _ _ _ _ _ _
  · split
    · exact mon_replace _ _ _ _ _
    · split
      · exact mon_cancel _ _ _
      · exact (Mon.of_eq rfl rfl : Mon st { st with opn := false }).trans (mon_say _ _)
theorem mon_step (st : St) (c : UInt8) : Mon st (st.step c) := by
  unfold St.step
  split
  · split
    · exact (Mon.of_eq rfl rfl : Mon st { st with part := [] }).trans (mon_act _ _)
    · exact Mon.of_eq rfl rfl
  · exact Mon.refl _
theorem mon_feed (l : List UInt8) : ∀ st : St, Mon st (st.feed l) := by
  induction l with
  | nil => intro st; exact Mon.refl _
  | cons c l ih => intro st; exact (mon_step st c).trans (ih _)

theorem byteAt_app (a b c : List UInt8) (h : 0 < a.length) : byteAt (a ++ b) 0 = byteAt (a ++ c) 0 := by
  rcases a with _ | ⟨x, a⟩
  · simp at h
  · rfl

/-- No whole message yet. -/
theorem feed_less (l : List UInt8) : ∀ (st : St), st.opn = true → (l = [] ∨ st.part.length + l.length < sizeOf (byteAt (st.part ++ l) 0)) → st.feed l = { st with part := st.part ++ l } := by
  induction l with
  | nil => intro st _ _; rw [List.append_nil]; rfl
  | cons c l ih =>
    intro st ho h
    have h : st.part.length + (l.length + 1) < sizeOf (byteAt (st.part ++ c :: l) 0) := by
      rcases h with h | h
      · cases h
      · exact h
    have e0 : st.part ++ c :: l = (st.part ++ [c]) ++ l := by simp
    have e1 : byteAt ((st.part ++ [c]) ++ l) 0 = byteAt (st.part ++ [c]) 0 := by
      have := byteAt_app (st.part ++ [c]) l [] (by simp)
      rw [this, List.append_nil]
    rw [e0] at h ⊢
    have hs : st.step c = { st with part := st.part ++ [c] } := by
      unfold St.step
      rw [if_pos ho, if_neg (by rw [← e1]; simp only [List.length_append, List.length_cons, List.length_nil]; omega)]
    show (st.step c).feed l = _
    rw [hs]
    exact ih { st with part := st.part ++ [c] } ho (Or.inr (by show (st.part ++ [c]).length + l.length < _; simp only [List.length_append, List.length_cons, List.length_nil]; omega))

/-- A message is whole with the last of the bytes. -/
theorem feed_done (st : St) (l : List UInt8) (ho : st.opn = true) (h0 : 0 < l.length) (h : st.part.length + l.length = sizeOf (byteAt (st.part ++ l) 0)) : st.feed l = ({ st with part := [] } : St).act (st.part ++ l) := by
  obtain ⟨l', c, rfl⟩ : ∃ l' c, l = l' ++ [c] := ⟨l.dropLast, l.getLast (by intro e; rw [e] at h0; simp at h0), (List.dropLast_concat_getLast _).symm⟩
  have hless : l' = [] ∨ st.part.length + l'.length < sizeOf (byteAt (st.part ++ l') 0) := by
    by_cases hn : (st.part ++ l').length = 0
    · left
      simp at hn
      exact hn.2
    · right
      rw [← List.append_assoc, byteAt_app (st.part ++ l') [c] [] (by omega), List.append_nil] at h
      simp only [List.length_append, List.length_cons, List.length_nil] at h
      omega
  rw [feed_append, feed_less l' st ho hless]
  show St.step _ c = _
  unfold St.step
  dsimp only
  rw [if_pos ho, List.append_assoc, if_pos (by rw [← h]; simp)]

theorem feed_shut (l : List UInt8) : ∀ st : St, st.opn = false → st.feed l = st := by
  induction l with
  | nil => intro st _; rfl
  | cons c l ih =>
    intro st h
    show (st.step c).feed l = st
    have : st.step c = st := by unfold St.step; rw [if_neg (by rw [h]; simp)]
    rw [this, ih st h]

theorem act_opn (st : St) (m : List UInt8) : (st.act m).opn = if byteAt m 0 = 69 ∨ byteAt m 0 = 82 ∨ byteAt m 0 = 67 then st.opn else false := by
  unfold St.act
  by_cases h1 : byteAt m 0 = 69
  · rw [if_pos h1, if_pos (Or.inl h1)]; exact (keeps_enter _ _ _ _ _ _ _).opn
  · rw [if_neg h1]
    by_cases h2 : byteAt m 0 = 82
    · rw [if_pos h2, if_pos (Or.inr (Or.inl h2))]; exact (keeps_replace _ _ _ _ _).opn
    · rw [if_neg h2]
      by_cases h3 : byteAt m 0 = 67
      · rw [if_pos h3, if_pos (Or.inr (Or.inr h3))]; exact (keeps_cancel _ _ _).opn
      · rw [if_neg h3, if_neg (by simp [h1, h2, h3])]; rfl
theorem act_part (st : St) (m : List UInt8) : (st.act m).part = st.part := by
  unfold St.act
  split
  · exact (keeps_enter _ _ _ _ _ _ _).part
  · split
    · exact (keeps_replace _ _ _ _ _).part
    · split
      · exact (keeps_cancel _ _ _).part
      · rfl

end Go.Proofs.Ytphkchjejbffeaa

/- Feed: plain facts and its pieces. -/
namespace Go.Proofs.Ytphkchjejbffeaa
open Go.RowKit

/-- A scope that begins with the label that is jumped to. -/
theorem wp_scope_label {P : Program} {a : Go.Act} {w : World} {Q : Exit → Go.Act → World → Prop} {rest : Code} (l : Nat) (J : Go.Act → World → Prop) (μ : Go.Act → World → Nat)
    (hJ : J a w) (pass : ∀ a w, J a w → rest.wp P (Exit.jump l (fun a' w' => J a' w' ∧ μ a' w' < μ a w) Q) a w) : (Code.scope ((Code.label l).seq rest)).wp P Q a w := by
  refine wp_scope_jumps (rest := Code.skip.seq rest) l J μ (by simp [findLabel]) (wp_seq (wp_label ?_)) (fun a w h => wp_seq (wp_skip (pass a w h)))
  refine wp_mono (pass a w hJ) ?_
  intro e a' w' h
  cases e with
  | goto l' => exact ⟨h.1, h.2.1⟩
  | _ => exact h

/-- What stands of the next message. -/
structure Inb (c : BC) (st : St) : Prop where
  opn : c.opn = st.opn
  len : c.have_ = st.part.length
  took : c.bytes.take c.have_ = st.part
  less : c.have_ = 0 ∨ c.have_ < sizeOf (byteAt c.bytes 0)

theorem Rd.move {w w' : World} {F F' : Nat → Prop} {v : Value} {l : List UInt8} (h : Rd w F v l) (hf : Fr F w w') (hs : ∀ j, F' j → F j ∨ w.heap.size ≤ j) : Rd w' F' v l := by
  rcases h with h | ⟨g, o, cap, h1, h2, h3, h4, h5, h6⟩
  · exact Or.inl h
  · exact Or.inr ⟨g, o, cap, h1, h2.keep (hf.block g h6 h5), h3, h4, fun e => (hs g e).elim h5 (fun e => by omega), Nat.lt_of_lt_of_le h6 hf.size⟩

theorem do_any (b : Nat) (c : BC) (k : SK) (st : St) (m : List UInt8) (w : World) (h : Rel w b c k st) (hl : Lies w b 2 m) (hlen : m.length = sizeOf (byteAt m 0)) (hra : st.ans.length ≤ big) (hrt : st.tape.length ≤ big) :
    Calls Try.prog 29 #[.pointer (some ⟨b, 0, none⟩), .slice (some ⟨b, 2, none⟩) m.length 13] w fun e w' => e = .returned (.tuple #[]) ∧ DoesO w b c k w' (st.act m) (if byteAt m 0 = 69 ∨ byteAt m 0 = 82 ∨ byteAt m 0 = 67 then c.opn else false) := by
  unfold big at hra hrt
  by_cases h1 : byteAt m 0 = 69
  · have e : m.length = 12 := by rw [hlen, h1]; rfl
    rw [e, if_pos (Or.inl h1)]
    exact do_E b c k st m w h hl e h1 (by omega) (by omega)
  · by_cases h2 : byteAt m 0 = 82
    · have e : m.length = 13 := by rw [hlen, h2]; rfl
      rw [e, if_pos (Or.inr (Or.inl h2))]
      exact do_R b c k st m w h hl e h2 (by omega) (by omega)
    · by_cases h3 : byteAt m 0 = 67
      · have e : m.length = 7 := by rw [hlen, h3]; rfl
        rw [e, if_pos (Or.inr (Or.inr h3))]
        exact do_C b c k st m w h hl e h3 (by omega) (by omega)
      · have e : m.length = 1 := by rw [hlen]; unfold sizeOf; rw [if_neg h1, if_neg h2, if_neg h3]
        rw [e, if_neg (by simp [h1, h2, h3])]
        exact do_Z b c k st m w h hl e h1 h2 h3 (by omega)

theorem take_head (bs : List UInt8) (n : Nat) (h : 0 < n) : byteAt (bs.take n) 0 = byteAt bs 0 := by
  unfold byteAt
  obtain ⟨n, rfl⟩ : ∃ j, n = j + 1 := ⟨n - 1, by omega⟩
  cases bs <;> rfl

/-- What feeding leaves. -/
def Fed (w : World) (b : Nat) (c : BC) (k : SK) (w' : World) (st' : St) : Prop := ∃ c', Rel w' b c' k st' ∧ Inb c' st' ∧ Fr (GB b c k) w w' ∧ (∀ j, GB b c' k j → GB b c k j ∨ w.heap.size ≤ j)

theorem Rel.withPart {w w' : World} {b : Nat} {c : BC} {k : SK} {st : St} {bytes : List UInt8} {n : Nat} (h : Rel w b c k st) (hB : IsB w' b { c with bytes := bytes, have_ := n }) (hf : Fr (fun j => j = b) w w') (part : List UInt8) :
    Rel w' b { c with bytes := bytes, have_ := n } k { st with part := part } ∧ Fr (GB b c k) w w' ∧ (∀ j, GB b { c with bytes := bytes, have_ := n } k j → GB b c k j) :=
  h.own hB hf rfl rfl rfl rfl rfl rfl h.time h.refs h.mats (h.inv.of_q rfl rfl rfl rfl (fun _ q => q) h.inv.refs h.inv.mats h.inv.time) rfl rfl rfl rfl rfl

theorem fed_less {w w' : World} {b : Nat} {c : BC} {k : SK} {st : St} {l : List UInt8} {v' : Value} {n : Nat} {bytes' : List UInt8} (h : Rel w b c k st) (hi : Inb c st) (ho : c.opn = true) (hg : Gath (GB b c k) w w' b c l v' false n bytes') : Fed w b c k w' (st.feed l) := by
  obtain ⟨hn, hno⟩ := hg.no rfl
  subst hn
  have htook := hg.took
  rw [hi.took, List.take_length] at htook
  have hless : l = [] ∨ st.part.length + l.length < sizeOf (byteAt (st.part ++ l) 0) := by
    rcases hno with e | e
    · left
      exact List.length_eq_zero_iff.1 (by omega)
    · by_cases hz : c.have_ + l.length = 0
      · left
        exact List.length_eq_zero_iff.1 (by omega)
      · right
        rw [← htook, take_head _ _ (by omega), ← hi.len]
        exact e
  rw [feed_less l st (by rw [← hi.opn]; exact ho) hless]
  obtain ⟨h1, h2, h3⟩ := h.withPart hg.isB hg.fr (st.part ++ l)
  exact ⟨_, h1, ⟨hi.opn, by show c.have_ + l.length = (st.part ++ l).length; rw [List.length_append, hi.len], htook, hno⟩, h2, fun j hj => Or.inl (h3 j hj)⟩

theorem lies_bytes {w : World} {b : Nat} {c : BC} (h : IsB w b c) (n : Nat) : Lies w b 2 (c.bytes.take n) := by
  have : Lies w b 2 c.bytes := by
    intro j u hu
    rw [h.cell, c.cells_list]
    have hj : j < 13 := by rw [← h.len]; exact (List.getElem?_eq_some_iff.1 hu).1
    unfold BC.list
    rw [List.append_assoc]
    simp only [List.getElem?_toArray]
    rw [List.getElem?_append_right (by simp), List.getElem?_append_left (by simp [h.len]; omega)]
    simp [hu]
  exact this.take n

theorem fed_whole {w w1 w2 : World} {b : Nat} {c : BC} {k : SK} {st : St} {l : List UInt8} {v' : Value} {n : Nat} {bytes' : List UInt8} (h : Rel w b c k st) (hi : Inb c st) (ho : c.opn = true) (hg : Gath (GB b c k) w w1 b c l v' true n bytes')
    (hB : IsB w2 b { c with bytes := bytes', have_ := 0 }) (hf : Fr (fun j => j = b) w1 w2) :
    ∃ m, m.length = c.have_ + n ∧ m.length = sizeOf (byteAt m 0) ∧ Lies w2 b 2 m ∧ st.feed (l.take n) = ({ st with part := [] } : St).act m ∧ 0 < n ∧ Rel w2 b { c with bytes := bytes', have_ := 0 } k { st with part := [] } ∧ Fr (GB b c k) w w2 ∧ (∀ j, GB b { c with bytes := bytes', have_ := 0 } k j → GB b c k j) ∧ Rd w2 (GB b c k) v' (l.drop n) := by
  obtain ⟨y1, y2, y3⟩ := hg.yes rfl
  have hs := size_pos (byteAt bytes' 0)
  have hlen13 : bytes'.length = 13 := hB.len
  have hml : (bytes'.take (c.have_ + n)).length = c.have_ + n := by rw [List.length_take]; omega
  have hm0 : byteAt (bytes'.take (c.have_ + n)) 0 = byteAt bytes' 0 := take_head _ _ y1
  have htook := hg.took
  rw [hi.took] at htook
  have hn : 0 < n := by
    rcases hi.less with e | e
    · omega
    · by_cases hz : n = 0
      · subst hz
        have h2 : byteAt bytes' 0 = byteAt c.bytes 0 := by
          rw [← hm0, htook, ← hi.took]
          simp only [List.take_zero, List.append_nil]
          exact take_head _ _ (by omega)
        rw [h2] at y2
        omega
      · omega
  have hfr : Fr (fun j => j = b) w w2 := hg.fr.trans hf (fun _ _ e => e)
  obtain ⟨h1, h2, h3⟩ := h.withPart hB hfr []
  refine ⟨bytes'.take (c.have_ + n), hml, by rw [hml, hm0]; exact y2, lies_bytes hB _, ?_, hn, h1, h2, h3, y3.move (hf.mono (fun j _ e => Or.inl e)) (fun j hj => Or.inl hj)⟩
  have hln : (l.take n).length = n := by rw [List.length_take]; have := hg.le; omega
  rw [htook]
  exact feed_done st (l.take n) (by rw [← hi.opn]; exact ho) (by omega) (by rw [← htook, hm0, hln, ← hi.len]; exact y2)

end Go.Proofs.Ytphkchjejbffeaa
