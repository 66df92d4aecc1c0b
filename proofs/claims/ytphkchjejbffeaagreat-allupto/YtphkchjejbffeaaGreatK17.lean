/- R3, R4, R5, Sr, W1, W2, W3, W4, W4b, W5 -/
import Derived.Test.YtphkchjejbffeaaGreatK16
import Derived.Laws.IdiomStrings
import Derived.Laws.BytesArg
import Derived.Lib.BufferWrite
set_option maxHeartbeats 16000000
set_option maxRecDepth 100000
namespace Go.Proofs.YtphkchjejbffeaaGreat
open Tryz
open Go.RowKit
variable {m:Int}{S:List Ord}{ex xs:List Value}{B0 b base cap g n nn size wb:Nat}{e:TypeId}{v vi vm vo:Value}{w w':World}
section
open Go.RowKit
attribute [local go_sem ↓] Go.wp_at_zero Go.wp_at_succ
theorem Zfg (o:Ord)(S:List Ord):∀(j:Nat),j≤S.length→(∀x∈S.take j,Vt x o=true)→(j=S.length∨∃x,S[j]?=some x∧Vt x o=false)→insO o S=S.take j++o::S.drop j:=by
 induction S with
 | nil=>
  intro j hj _ _;have:j=0:=by simpa using hj
  subst this;rfl
 | cons y S ih=>
  intro j hj h1 h2;cases j with
  | zero=>
   rcases h2 with h2|⟨x,hx,hf⟩
   ·simp at h2
   ·simp at hx;subst hx;unfold insO;rw[Zj (by rw[hf];simp)];rfl
  | succ j=>
   have hy:=h1 y (by simp);unfold insO;rw[Zg hy,ih j (by simpa using hj) (λx hx=>h1 x (by simp[hx])) ?_]
   ·rfl
   ·rcases h2 with h2|⟨x,hx,hf⟩
    ·left;simpa using h2
    ·right;exact⟨x,by simpa using hx,hf⟩
theorem VM (w:World)(base:Nat)(v:Value)(S:List Ord)(o:Ord)(h:RsAt w base v S)(hn:S.length≤1000000000):
  Calls prog 134 #[v,.agg o.cells.toArray] w λe w'=>∃v',e=.returned v'∧RsAt w' w.heap.size v' (insO o S)∧Below w.heap.size w w':=by
 obtain⟨ra,cap,rfl,hc1,hc2,-⟩:=h.form;obtain⟨i0,hi0,hz0,hz1,hz2⟩:=info_parts infoRo;have HI:=Zc (Zd hi0 (Zd hz0 (Zd hz1 hz2)));have HH:=Zc h;have hra:(ra=none∧S.length=0∧cap=0)∨∃g,ra=some ⟨g,0,none⟩∧g<w.heap.size:=by
  rcases h.2 with⟨e,e2⟩|⟨g,cap',cur,e,-,e3,-⟩
  ·simp only[ZX] at e;exact .inl ⟨e.1,e2,e.2.2⟩
  ·simp only[ZX] at e;exact .inr ⟨g,e.1,(Ze.1 e3).1⟩
 obtain⟨n,hnn⟩:=Za (S.length);have HNL:=Zc hnn;rw[hnn] at hn hc1 hra;clear h hi0 hz0 hz1 hz2;rw[hnn];clear hnn;have j4:(n:Int)≤(cap:Int):=by omega
 have j5:(cap:Int)≤9223372036854775807:=by unfold maxLen at hc2;omega
 unfold Ord.cells;go_enter func134,ntmps134;go_wp2_with fail;generalize hO:Obj.cells _ 40=O;have k0:(w.alloc O).cell? ⟨w.heap.size,0,none⟩=some (.int .i64 o.ref):=by rw[←hO];exact XM _ _ _ 0 _ rfl
 have k1:(w.alloc O).cell? ⟨w.heap.size,1,none⟩=some (.int .i64 o.qf):=by rw[←hO];exact XM _ _ _ 1 _ rfl
 have k2:(w.alloc O).cell? ⟨w.heap.size,2,none⟩=some (.int .u8 o.qe.toNat):=by rw[←hO];exact XM _ _ _ 2 _ rfl
 have k3:(w.alloc O).cell? ⟨w.heap.size,3,none⟩=some (.int .i64 o.qd):=by rw[←hO];exact XM _ _ _ 3 _ rfl
 have k4:(w.alloc O).cell? ⟨w.heap.size,4,none⟩=some (.int .i64 o.qc):=by rw[←hO];exact XM _ _ _ 4 _ rfl
 have k5:(w.alloc O).cell? ⟨w.heap.size,5,none⟩=some (.int .i64 o.qa):=by rw[←hO];exact XM _ _ _ 5 _ rfl
 have HBW:Hid (Below w.heap.size w (w.alloc O)):=(Zm _ w).alloc (Zh _) O;have HSZ:Hid ((w.alloc O).heap.size=w.heap.size+1):=Xb _ _;have HSR:Hid (RsAt (w.alloc O) base (.slice ra S.length cap) S):=YY HH.o (λg hg=>by rw[YX,Zj (by have:=(Zs HH.o g hg).2;omega)]);clear hO;generalize w.alloc O=W at *;have HK:=Zc (Zd k0 (Zd k1 (Zd k2 (Zd k3 (Zd k4 k5)))));have HRD:Hid (∀(w3:World),Below W.heap.size W w3→∀(m j:Nat) (vx:Value),j≤n→m=n-j→(vx=.slice none 0 0∧n=0∨∃g o c,ra=some ⟨g,0,none⟩∧vx=.slice (some ⟨g,o,none⟩) m c∧(m=0∨o=j*6))→Uo w3 6 vx m ((S.drop j).flatMap Ord.cells)):=by
  rintro w3 hB m j vx hj hm (⟨rfl,h0⟩|⟨g,o,c,rfl,rfl,ho⟩)
  ·have hS:S=[]:=Zx.1 (by rw[HNL.o];exact h0);subst hS;have:m=0:=by omega
   subst this;exact .inl ⟨rfl,rfl,by simp⟩
  ·refine Zb3 (Zjb HSR.o j m o c (by rw[HNL.o];exact hj) (by rw[HNL.o];exact hm) ho) hB (λg' hg' => ?_);cases hg';exact(Zs HSR.o g rfl).2
 have HLT:Hid (∀j,j≤n→(S.take j).length=j):=λj hj=>by rw[ZD,HNL.o];omega
 clear k0 k1 k2 k3 k4 k5;go_loopw [5,6] (λv i wr=>∃j:Nat,j≤n∧i=.int .i64 j∧Hid (wr.ownsRow W.heap.size 40 6 v j ((S.take j).flatMap Ord.cells))∧Hid (Below W.heap.size W wr)∧Hid (∀x∈S.take j,Vt x o=true)) (λ_ i _=>n-(intOf i).toNat)
 case atStart=>exact⟨0,Zy _,rfl,ZO _ _ _ _,Zm _ _,λx hx=>by simp at hx⟩
 case round=>
  obtain⟨j,hj,rfl,hown,hB,HAH⟩:=hrel;have hbx:wr.cell? ⟨w.heap.size,0,none⟩=some (.int .i64 o.ref)∧wr.cell? ⟨w.heap.size,1,none⟩=some (.int .i64 o.qf)∧wr.cell? ⟨w.heap.size,2,none⟩=some (.int .u8 o.qe.toNat)∧wr.cell? ⟨w.heap.size,3,none⟩=some (.int .i64 o.qd)∧wr.cell? ⟨w.heap.size,4,none⟩=some (.int .i64 o.qc)∧wr.cell? ⟨w.heap.size,5,none⟩=some (.int .i64 o.qa):=by
   have hlt:w.heap.size<W.heap.size:=by have:=HSZ.o;omega
   obtain⟨k0,k1,k2,k3,k4,k5⟩:=HK.o;exact⟨(hB.out.cell (p:=⟨w.heap.size,0,none⟩) hlt).trans k0,(hB.out.cell (p:=⟨w.heap.size,1,none⟩) hlt).trans k1,(hB.out.cell (p:=⟨w.heap.size,2,none⟩) hlt).trans k2,(hB.out.cell (p:=⟨w.heap.size,3,none⟩) hlt).trans k3,(hB.out.cell (p:=⟨w.heap.size,4,none⟩) hlt).trans k4,(hB.out.cell (p:=⟨w.heap.size,5,none⟩) hlt).trans k5⟩
  by_cases hjl:j<n
  ·obtain⟨g,rfl,hgl⟩:∃g,ra=some ⟨g,0,none⟩∧g<w.heap.size:=by
    rcases hra with⟨-,h0,-⟩|h0
    ·omega
    ·exact h0
   obtain⟨x,hx⟩:∃x,S[j]?=some x:=⟨_,Zp (by rw[HNL.o];exact hjl)⟩;have hgW:g<W.heap.size:=by have:=HSZ.o;omega
   obtain⟨d0,d1,d2,d3,d4,d5⟩:wr.cell? ⟨g,j*6,none⟩=some (.int .i64 x.ref)∧wr.cell? ⟨g,j*6+1,none⟩=some (.int .i64 x.qf)∧wr.cell? ⟨g,j*6+2,none⟩=some (.int .u8 x.qe.toNat)∧wr.cell? ⟨g,j*6+3,none⟩=some (.int .i64 x.qd)∧wr.cell? ⟨g,j*6+4,none⟩=some (.int .i64 x.qc)∧wr.cell? ⟨g,j*6+5,none⟩=some (.int .i64 x.qa):=by obtain⟨ra',cap',e,-,-,hcs⟩:=HSR.o.form;obtain⟨g',e',-,-,-,hrg⟩:=hcs j x hx;simp only[ZX] at e;rw[e'] at e;simp only[Ys,YB,and_true] at e;obtain⟨rfl,-,-⟩:=e;exact UN x hB.out hgW (λt u _ hu=>hrg t u hu)
   have HX:=Zc hx;have i2:(j:Int)<(n:Int):=by omega
   have i3:(0:Int)≤(j:Int):=by omega
   have HAA:Hid (∀W',Calls prog 158 #[.agg #[.int .i64 x.ref,.int .i64 x.qf,.int .u8 x.qe.toNat,.int .i64 x.qd,.int .i64 x.qc,.int .i64 x.qa],.agg #[.int .i64 o.ref,.int .i64 o.qf,.int .u8 o.qe.toNat,.int .i64 o.qd,.int .i64 o.qc,.int .i64 o.qa]] W' λe w'=>e=.returned (.bool (Vt x o))∧Below W'.heap.size W' w'):=λW'=>Zhu x o W';obtain⟨ah,hah⟩:=Za (Vt x o);rw[hah] at HAA;have HAV:=Zc hah;clear hah;obtain⟨k0,k1,k2,k3,k4,k5⟩:=hbx;have hgr:g<wr.heap.size:=Zn hgW hB.out.size;have hwr:w.heap.size<wr.heap.size:=by have h1:=HSZ.o;have h2:=hB.out.size;omega
   clear hx hra;go_wp2_with fail;go_region_held3 (λw'=>(w'.cell? ⟨g,j*6,none⟩=some (.int .i64 x.ref)∧w'.cell? ⟨g,j*6+1,none⟩=some (.int .i64 x.qf)∧w'.cell? ⟨g,j*6+2,none⟩=some (.int .u8 x.qe.toNat)∧w'.cell? ⟨g,j*6+3,none⟩=some (.int .i64 x.qd)∧w'.cell? ⟨g,j*6+4,none⟩=some (.int .i64 x.qc)∧w'.cell? ⟨g,j*6+5,none⟩=some (.int .i64 x.qa))∧w'.cell? ⟨w.heap.size,0,none⟩=some (.int .i64 o.ref)∧w'.cell? ⟨w.heap.size,1,none⟩=some (.int .i64 o.qf)∧w'.cell? ⟨w.heap.size,2,none⟩=some (.int .u8 o.qe.toNat)∧w'.cell? ⟨w.heap.size,3,none⟩=some (.int .i64 o.qd)∧w'.cell? ⟨w.heap.size,4,none⟩=some (.int .i64 o.qc)∧w'.cell? ⟨w.heap.size,5,none⟩=some (.int .i64 o.qa)) (first|exact m1|go_keep)
    ((go_at_call 158;refine(HAA.o _).mono ?_;rintro e w2 ⟨rfl,hb2⟩;have m1:=Zd (Zd ((hb2.cell (p:=⟨g,j*6,none⟩) hgr).trans d0) (Zd ((hb2.cell (p:=⟨g,j*6+1,none⟩) hgr).trans d1) (Zd ((hb2.cell (p:=⟨g,j*6+2,none⟩) hgr).trans d2) (Zd ((hb2.cell (p:=⟨g,j*6+3,none⟩) hgr).trans d3) (Zd ((hb2.cell (p:=⟨g,j*6+4,none⟩) hgr).trans d4) ((hb2.cell (p:=⟨g,j*6+5,none⟩) hgr).trans d5)))))) (Zd ((hb2.cell (p:=⟨w.heap.size,0,none⟩) hwr).trans k0) (Zd ((hb2.cell (p:=⟨w.heap.size,1,none⟩) hwr).trans k1) (Zd ((hb2.cell (p:=⟨w.heap.size,2,none⟩) hwr).trans k2) (Zd ((hb2.cell (p:=⟨w.heap.size,3,none⟩) hwr).trans k3) (Zd ((hb2.cell (p:=⟨w.heap.size,4,none⟩) hwr).trans k4) ((hb2.cell (p:=⟨w.heap.size,5,none⟩) hwr).trans k5))))));replace hb2:=Zc hb2))
   have HB2:Hid (Below W.heap.size W w2):=hB.out.drew.trans (hb2.out.mono (by show W.heap.size≤wr.heap.size;exact hB.out.size));have hown2:w2.ownsRow W.heap.size 40 6 u5 j ((S.take j).flatMap Ord.cells):=YY hown.out (λg hg=>by have:=(hown.out.lt g hg).2;exact hb2.out.block g this)
   have HOA:Hid (∀Ob:Obj,(w2.alloc Ob).ownsRow W.heap.size 40 6 u5 j ((S.take j).flatMap Ord.cells)):=λOb=>YY hown2 (λg hg=>by rw[YX,Zj (by have:=(hown2.lt g hg).2;omega)]);have HOX:=Zc hown2;obtain⟨⟨d0',d1',d2',d3',d4',d5'⟩,k0',k1',k2',k3',k4',k5'⟩:=m1;clear hown2 hown hB d0 d1 d2 d3 d4 d5 k0 k1 k2 k3 k4 k5 HAA hb2;cases ah with
   | true=>
    have HTK:Hid (S.take (j+1)=S.take j++[x]):=by show _=_;rw[List.take_add_one,HX.o];rfl
    go_wp2_with (at_builtin;go_must (refine Xc rfl _ _ 29 rfl W.heap.size 40 i0 _ 6 48 XR HI.o.1 HI.o.2.1 HI.o.2.2.1 HI.o.2.2.2 rfl (by decide) u5 j ((S.take j).flatMap Ord.cells) rfl (HOA.o _) (.slice (some ⟨w2.heap.size,0,none⟩) 1 1) 1 x.cells rfl (VJ w2 x) (Vc x) (by unfold maxLen;omega) (by omega) (by rw[Xb];have:=HB2.o.size;omega) ?_);intro rb capb w3 hown3 hg3 hv3;have hB3:Hid (Below W.heap.size W w3):=Zc ((HB2.o.alloc HB2.o.size _).grown hg3 (by rw[Xb];have:=HB2.o.size;omega) (λg hg=>(HOX.o.lt g hg).1));replace hown3:=Zc hown3;clear hg3 hv3)
    refine⟨⟨j+1,by omega,by go_num,?_,hB3,?_⟩,by simp[intOf];omega⟩
    ·show World.ownsRow _ _ _ _ _ _ _;rw[HTK.o,Yd];simpa using hown3.out
    ·show ∀y∈S.take (j+1),_;rw[HTK.o];intro y hy;rcases ZE.1 hy with hy|hy
     ·exact HAH.o y hy
     ·simp at hy;rw[hy];exact HAV.o
   | false=>
    have b7:¬cap=j:=by omega
    have b8:(j:Int)≤(n:Int):=by omega
    have HIN:Hid (insO o S=S.take j++o::S.drop j):=Zfg o S j (by rw[HNL.o];exact hj) HAH.o (Or.inr ⟨x,HX.o,HAV.o⟩);go_wp2_with (first
     | (at_builtin;refine Xc rfl _ _ 29 rfl W.heap.size 40 i0 _ 6 48 XR HI.o.1 HI.o.2.1 HI.o.2.2.1 HI.o.2.2.2 rfl (by decide) u5 j ((S.take j).flatMap Ord.cells) rfl (HOA.o _) (.slice (some ⟨w2.heap.size,0,none⟩) 1 1) 1 o.cells rfl (VJ w2 o) (Vc o) (by unfold maxLen;omega) (by omega) (by rw[Xb];have:=HB2.o.size;omega) ?_;intro rb capb w3 hown3 hg3 hv3;have hB3:Hid (Below W.heap.size W w3):=Zc ((HB2.o.alloc HB2.o.size _).grown hg3 (by rw[Xb];have:=HB2.o.size;omega) (λg hg=>(HOX.o.lt g hg).1));replace hown3:=Zc hown3;clear hg3 hv3)
     | (at_builtin;refine Xc rfl _ _ 29 rfl W.heap.size 40 i0 _ 6 48 XR HI.o.1 HI.o.2.1 HI.o.2.2.1 HI.o.2.2.2 rfl (by decide) (.slice rb (j+1) capb) (j+1) ((S.take j).flatMap Ord.cells++o.cells) rfl hown3.out (.slice (some ⟨g,j*6,none⟩) (n-j) (cap-j)) _ ((S.drop j).flatMap Ord.cells) rfl (HRD.o w3 hB3.out _ _ _ hj rfl (Or.inr ⟨g,_,_,rfl,rfl,Or.inr rfl⟩)) (Vx _) (by unfold maxLen;omega) (by omega) hB3.out.size ?_;intro rc capc w4 hown4 hg4 hv4;have hB4:Hid (Below W.heap.size W w4):=Zc (hB3.out.grown hg4 hB3.out.size (λg hg=>(hown3.out.lt g hg).1));replace hown4:=Zc hown4;clear hg4 hv4))
    go_ret;refine⟨_,rfl,?_,HBW.o.trans (hB4.out.mono (by have:=HSZ.o;omega))⟩;show World.ownsRow _ _ _ _ _ _ _;rw[HIN.o,Zf,Zu,Yd,Yk,ZD,Zt,HNL.o,Nat.min_eq_left hj];have:=Xs hown4.out (b':=w.heap.size) (by have:=HSZ.o;omega);rw[Zo] at this;rw[show j+(n-j+1)=j+1+(n-j) by omega];exact this
  ·rcases hra with⟨rfl,hn0,rfl⟩|⟨g,rfl,hgl⟩
   ·have hj0:j=0:=by omega
    subst hj0;subst hn0;obtain⟨k0,k1,k2,k3,k4,k5⟩:=hbx;have HB2:=hB;have HOX:=hown;have HOA:Hid (∀Ob:Obj,(wr.alloc Ob).ownsRow W.heap.size 40 6 u5 0 ((S.take 0).flatMap Ord.cells)):=λOb=>YY hown.out (λg hg=>by rw[YX,Zj (by have:=(hown.out.lt g hg).2;omega)]);have HIN:Hid (insO o S=S.take 0++o::S.drop 0):=Zfg o S 0 (by rw[HNL.o];exact hj) HAH.o (Or.inl HNL.o.symm);go_wp2_with (first
     | (at_builtin;refine Xc rfl _ _ 29 rfl W.heap.size 40 i0 _ 6 48 XR HI.o.1 HI.o.2.1 HI.o.2.2.1 HI.o.2.2.2 rfl (by decide) u5 0 ((S.take 0).flatMap Ord.cells) rfl (HOA.o _) (.slice (some ⟨wr.heap.size,0,none⟩) 1 1) 1 o.cells rfl (VJ wr o) (Vc o) (by unfold maxLen;omega) (by omega) (by rw[Xb];have:=HB2.o.size;omega) ?_;intro rb capb w3 hown3 hg3 hv3;have hB3:Hid (Below W.heap.size W w3):=Zc ((HB2.o.alloc HB2.o.size _).grown hg3 (by rw[Xb];have:=HB2.o.size;omega) (λg hg=>(HOX.o.lt g hg).1));replace hown3:=Zc hown3;clear hg3 hv3)
     | (at_builtin;refine Xc rfl _ _ 29 rfl W.heap.size 40 i0 _ 6 48 XR HI.o.1 HI.o.2.1 HI.o.2.2.1 HI.o.2.2.2 rfl (by decide) (.slice rb (0+1) capb) (0+1) ((S.take 0).flatMap Ord.cells++o.cells) rfl hown3.out (.slice none 0 0) _ ((S.drop 0).flatMap Ord.cells) rfl (HRD.o w3 hB3.out _ _ _ (Zh _) rfl (Or.inl ⟨rfl,rfl⟩)) (Vx _) (by unfold maxLen;omega) (by omega) hB3.out.size ?_;intro rc capc w4 hown4 hg4 hv4;have hB4:Hid (Below W.heap.size W w4):=Zc (hB3.out.grown hg4 hB3.out.size (λg hg=>(hown3.out.lt g hg).1));replace hown4:=Zc hown4;clear hg4 hv4))
    go_ret;refine⟨_,rfl,?_,HBW.o.trans (hB4.out.mono (by have:=HSZ.o;omega))⟩;show World.ownsRow _ _ _ _ _ _ _;rw[HIN.o,Zf,Zu,Yd,Yk,ZD,Zt,HNL.o,Nat.min_eq_left hj];have:=Xs hown4.out (b':=w.heap.size) (by have:=HSZ.o;omega);rw[Zo] at this;exact this
   ·by_cases hcj:cap=j
    ·have e1:j=n:=by omega
     subst e1;have e2:j=cap:=hcj.symm;subst e2;obtain⟨k0,k1,k2,k3,k4,k5⟩:=hbx;have HB2:=hB;have HOX:=hown;have HOA:Hid (∀Ob:Obj,(wr.alloc Ob).ownsRow W.heap.size 40 6 u5 j ((S.take j).flatMap Ord.cells)):=λOb=>YY hown.out (λg hg=>by rw[YX,Zj (by have:=(hown.out.lt g hg).2;omega)]);have HIN:Hid (insO o S=S.take j++o::S.drop j):=Zfg o S j (by rw[HNL.o];exact hj) HAH.o (Or.inl HNL.o.symm);go_wp2_with (first
      | (at_builtin;refine Xc rfl _ _ 29 rfl W.heap.size 40 i0 _ 6 48 XR HI.o.1 HI.o.2.1 HI.o.2.2.1 HI.o.2.2.2 rfl (by decide) u5 j ((S.take j).flatMap Ord.cells) rfl (HOA.o _) (.slice (some ⟨wr.heap.size,0,none⟩) 1 1) 1 o.cells rfl (VJ wr o) (Vc o) (by unfold maxLen;omega) (by omega) (by rw[Xb];have:=HB2.o.size;omega) ?_;intro rb capb w3 hown3 hg3 hv3;have hB3:Hid (Below W.heap.size W w3):=Zc ((HB2.o.alloc HB2.o.size _).grown hg3 (by rw[Xb];have:=HB2.o.size;omega) (λg hg=>(HOX.o.lt g hg).1));replace hown3:=Zc hown3;clear hg3 hv3)
      | (at_builtin;refine Xc rfl _ _ 29 rfl W.heap.size 40 i0 _ 6 48 XR HI.o.1 HI.o.2.1 HI.o.2.2.1 HI.o.2.2.2 rfl (by decide) (.slice rb (j+1) capb) (j+1) ((S.take j).flatMap Ord.cells++o.cells) rfl hown3.out (.slice (some ⟨g,0,none⟩) 0 0) _ ((S.drop j).flatMap Ord.cells) rfl (HRD.o w3 hB3.out _ _ _ (Zh _) (by omega) (Or.inr ⟨g,0,0,rfl,rfl,Or.inl rfl⟩)) (Vx _) (by unfold maxLen;omega) (by omega) hB3.out.size ?_;intro rc capc w4 hown4 hg4 hv4;have hB4:Hid (Below W.heap.size W w4):=Zc (hB3.out.grown hg4 hB3.out.size (λg hg=>(hown3.out.lt g hg).1));replace hown4:=Zc hown4;clear hg4 hv4))
     go_ret;refine⟨_,rfl,?_,HBW.o.trans (hB4.out.mono (by have:=HSZ.o;omega))⟩;show World.ownsRow _ _ _ _ _ _ _;rw[HIN.o,Zf,Zu,Yd,Yk,ZD,Zt,HNL.o,Nat.min_eq_left hj];have:=Xs hown4.out (b':=w.heap.size) (by have:=HSZ.o;omega);rw[Zo] at this;rw[YH];exact this
    ·have e1:j=n:=by omega
     subst e1;obtain⟨k0,k1,k2,k3,k4,k5⟩:=hbx;have HB2:=hB;have HOX:=hown;have HOA:Hid (∀Ob:Obj,(wr.alloc Ob).ownsRow W.heap.size 40 6 u5 j ((S.take j).flatMap Ord.cells)):=λOb=>YY hown.out (λg hg=>by rw[YX,Zj (by have:=(hown.out.lt g hg).2;omega)]);have HIN:Hid (insO o S=S.take j++o::S.drop j):=Zfg o S j (by rw[HNL.o];exact hj) HAH.o (Or.inl HNL.o.symm);go_wp2_with (first
      | (at_builtin;refine Xc rfl _ _ 29 rfl W.heap.size 40 i0 _ 6 48 XR HI.o.1 HI.o.2.1 HI.o.2.2.1 HI.o.2.2.2 rfl (by decide) u5 j ((S.take j).flatMap Ord.cells) rfl (HOA.o _) (.slice (some ⟨wr.heap.size,0,none⟩) 1 1) 1 o.cells rfl (VJ wr o) (Vc o) (by unfold maxLen;omega) (by omega) (by rw[Xb];have:=HB2.o.size;omega) ?_;intro rb capb w3 hown3 hg3 hv3;have hB3:Hid (Below W.heap.size W w3):=Zc ((HB2.o.alloc HB2.o.size _).grown hg3 (by rw[Xb];have:=HB2.o.size;omega) (λg hg=>(HOX.o.lt g hg).1));replace hown3:=Zc hown3;clear hg3 hv3)
      | (at_builtin;refine Xc rfl _ _ 29 rfl W.heap.size 40 i0 _ 6 48 XR HI.o.1 HI.o.2.1 HI.o.2.2.1 HI.o.2.2.2 rfl (by decide) (.slice rb (j+1) capb) (j+1) ((S.take j).flatMap Ord.cells++o.cells) rfl hown3.out (.slice (some ⟨g,j*6,none⟩) 0 (cap-j)) _ ((S.drop j).flatMap Ord.cells) rfl (HRD.o w3 hB3.out _ _ _ (Zh _) (by omega) (Or.inr ⟨g,_,_,rfl,rfl,Or.inr rfl⟩)) (Vx _) (by unfold maxLen;omega) (by omega) hB3.out.size ?_;intro rc capc w4 hown4 hg4 hv4;have hB4:Hid (Below W.heap.size W w4):=Zc (hB3.out.grown hg4 hB3.out.size (λg hg=>(hown3.out.lt g hg).1));replace hown4:=Zc hown4;clear hg4 hv4))
     go_ret;refine⟨_,rfl,?_,HBW.o.trans (hB4.out.mono (by have:=HSZ.o;omega))⟩;show World.ownsRow _ _ _ _ _ _ _;rw[HIN.o,Zf,Zu,Yd,Yk,ZD,Zt,HNL.o,Nat.min_eq_left hj];have:=Xs hown4.out (b':=w.heap.size) (by have:=HSZ.o;omega);rw[Zo] at this;rw[YH];exact this
def SmR (S:List Ord):Prop:=∀o∈S,o.small∧o.qf=0
theorem rs_set (l:List Ord)(i j:Nat)(x y:Ord)(u:Value)(hi:l[i]?=some x)(hj:j<6)(hy:y.cells=x.cells.set j u):(l.flatMap Ord.cells).set (i*6+j) u=(l.set i y).flatMap Ord.cells:=by
 have hlen:∀z:Ord,z.cells.length=6:=λ_=>rfl;induction l generalizing i with
 | nil=>simp at hi
 | cons z l ih=>
  cases i with
  | zero=>
   simp at hi;subst hi;rw[Yk,Nat.zero_mul,ZN,List.set_append_left _ _ (by rw[hlen];omega),←hy];rfl
  | succ i=>
   simp at hi;rw[Yk,Yb _ _ (by rw[hlen];omega),show(i+1)*6+j-z.cells.length=i*6+j by rw[hlen];omega,ih i hi];rfl
theorem RsAt.put {len:Nat}{l:List Ord}(h:RsAt w base (.slice (some ⟨g,0,none⟩) len cap) l)(i j:Nat)(x y:Ord)(u:Value)(hi:l[i]?=some x)(hj:j<6)(hy:y.cells=x.cells.set j u):
  RsAt (w.setCell ⟨g,i*6+j,none⟩ u) base (.slice (some ⟨g,0,none⟩) len cap) (l.set i y):=by
 refine⟨by rw[←rs_set l i j x y u hi hj hy,Yf,Yf];exact h.1,?_⟩;rcases h.2 with⟨h1,-⟩|⟨g',cap',cur,h1,h2,h3,h4,h5,h6,h7⟩
 ·simp at h1
 ·simp only[ZX,Ys,YB] at h1;obtain⟨⟨rfl,-,-⟩,h1,rfl⟩:=h1;refine .inr ⟨g,cap,cur.setIfInBounds (i*6+j) u,by rw[Yf,h1],h2,Zi w g (i*6+j) _ _ u h3,by rw[Yf];exact h4,h5,by rw[Array.size_setIfInBounds];exact h6,?_⟩;rw[←rs_set l i j x y u hi hj hy,Yf,←h7,Array.toList_setIfInBounds,List.take_set]
theorem RsAt.putAll {len:Nat}{l:List Ord}(h:RsAt w base (.slice (some ⟨g,0,none⟩) len cap) l)(i:Nat)(x y:Ord)(hi:l[i]?=some x):
  RsAt ((((((w.setCell ⟨g,i*6,none⟩ (.int .i64 y.ref)).setCell ⟨g,i*6+1,none⟩ (.int .i64 y.qf)).setCell ⟨g,i*6+2,none⟩ (.int .u8 y.qe.toNat)).setCell ⟨g,i*6+3,none⟩ (.int .i64 y.qd)).setCell ⟨g,i*6+4,none⟩ (.int .i64 y.qc)).setCell ⟨g,i*6+5,none⟩ (.int .i64 y.qa)) base (.slice (some ⟨g,0,none⟩) len cap) (l.set i y):=by
 have hlt:=(Zl.1 hi).1;have hg:∀z,(l.set i z)[i]?=some z:=λz=>by rw[YO,Zg rfl,Zg hlt]
 have a0:=h.put i 0 x {x with ref:=y.ref} (.int .i64 y.ref) hi (by omega) rfl;have a1:=a0.put i 1 {x with ref:=y.ref} {x with ref:=y.ref,qf:=y.qf} (.int .i64 y.qf) (hg _) (by omega) rfl;have a2:=a1.put i 2 {x with ref:=y.ref,qf:=y.qf} {x with ref:=y.ref,qf:=y.qf,qe:=y.qe} (.int .u8 y.qe.toNat) (by simp only[YJ];exact hg _) (by omega) rfl;have a3:=a2.put i 3 {x with ref:=y.ref,qf:=y.qf,qe:=y.qe} {x with ref:=y.ref,qf:=y.qf,qe:=y.qe,qd:=y.qd} (.int .i64 y.qd) (by simp only[YJ];exact hg _) (by omega) rfl;have a4:=a3.put i 4 {x with ref:=y.ref,qf:=y.qf,qe:=y.qe,qd:=y.qd} {x with ref:=y.ref,qf:=y.qf,qe:=y.qe,qd:=y.qd,qc:=y.qc} (.int .i64 y.qc) (by simp only[YJ];exact hg _) (by omega) rfl;have a5:=a4.put i 5 {x with ref:=y.ref,qf:=y.qf,qe:=y.qe,qd:=y.qd,qc:=y.qc} y (.int .i64 y.qa) (by simp only[YJ];exact hg _) (by omega) rfl;simp only[YJ] at a5;exact a5
theorem SmR.set (h:SmR S){i:Nat}{y:Ord}(hy:y.small∧y.qf=0):SmR (S.set i y):=λo ho=>by
 rcases Zbd ho with rfl|ho
 ·exact hy
 ·exact h o ho
theorem SmR.erase (h:SmR S)(i:Nat):SmR (S.eraseIdx i):=λo ho=>h o (List.mem_of_mem_eraseIdx ho)
theorem ins_mem {o x:Ord}(h:x∈insO o S):x=o∨x∈S:=by
 induction S with
 | nil=>
  left
  simpa[insO] using h
 | cons y S ih=>
  unfold insO at h;split at h
  ·rcases ZL.1 h with rfl|h
   ·right;simp
   ·rcases ih h with h|h
    ·exact .inl h
    ·right;simp[h]
  ·rcases ZL.1 h with rfl|h
   ·exact .inl rfl
   ·exact .inr h
theorem SmR.ins (h:SmR S){y:Ord}(hy:y.small∧y.qf=0):SmR (insO y S):=λo ho=>by
 rcases ins_mem ho with rfl|ho
 ·exact hy
 ·exact h o ho
theorem XH {o:Nat}{M:List UInt8}(h:Lies w g o M)(j n cap t:Nat)(h1:j+n≤M.length)(h2:n≤7)(ht:num ((M.drop j).take n) 0=t):
  Calls prog 124 #[.slice (some ⟨g,o+j,none⟩) n cap] w λe w'=>e=.returned (.int .i64 t)∧w'=w:=by
 have hl:((M.drop j).take n).length=n:=by rw[ZD,Zt];omega
 have:=rval_any g (o+j) cap ((M.drop j).take n) w (by omega) ((h.drop j).take n);rw[hl,ht] at this;exact this
end
section
open Go.RowKit
theorem Tc {F:Nat→Prop}{l:List UInt8}(h:Rd w F v l):(convert 36 9 v).run prog w=.ok (.string ⟨l.toArray⟩) w:=by
 rcases h with⟨rfl,rfl⟩|⟨g,o,cap,rfl,hl,-⟩
 ·rw[run_convert_bytes_nil w 36 5 underlying36 underlying5 0 0 9 underlying9];rfl
 ·refine run_convert_bytes_back w 36 9 5 ⟨g,o,none⟩ cap l underlying36 underlying5 underlying9 ?_;intro j hj;rw[Yg];exact hl j _ (Zp hj)
end
section
open Go.RowKit
attribute [local go_sem ↓] Go.wp_at_zero Go.wp_at_succ
theorem Ul (x:Int)(w:World):Calls prog 24 #[.int .i64 x] w λe w'=>e=.returned (.int .i64 x)∧w'=w:=by go_enter func24,ntmps24;go_wp2_with fail;go_ret;exact⟨rfl,rfl⟩
theorem Tp (w:World)(b1 b2:Nat)(v1 v2:Value)(C:List Ord)(h1:RsAt w b1 v1 C)(h2:RsAt w b2 v2 C)(hn:C.length≤1000000000):
  Calls prog 38 #[v1,v2] w λe w'=>e=.returned (.bool true)∧Below w.heap.size w w':=by
 obtain⟨r1,c1,rfl,-,-,hc1⟩:=h1.form;obtain⟨r2,c2,rfl,-,-,hc2⟩:=h2.form;have HC:=Zc (Zd hc1 hc2);clear h1 h2 hc1 hc2;go_enter func38,ntmps38;go_wp2_with fail;go_loopw [5] (λi w9=>∃k:Nat,k≤C.length∧i=.int .i64 k∧Below w.heap.size w w9) (λi _=>C.length-(intOf i).toNat)
 case atStart=>exact⟨0,Zy _,rfl,Zm _ _⟩
 case round=>
  obtain⟨k,hk,rfl,hB9⟩:=hrel;by_cases hkl:k<C.length
  ·obtain⟨y,hy⟩:∃y,C[k]?=some y:=⟨_,Zp hkl⟩;obtain⟨g1,rfl,-,hg1,-,hr1⟩:=HC.o.1 k y hy;obtain⟨g2,rfl,-,hg2,-,hr2⟩:=HC.o.2 k y hy;obtain⟨b0,b1,b2,b3,b4,b5⟩:=UN y hB9 hg1 (λt u _ hu=>hr1 t u hu);obtain⟨e0,e1,e2,e3,e4,e5⟩:=UN y hB9 hg2 (λt u _ hu=>hr2 t u hu);obtain⟨ref,qf,qe,qd,qc,qa⟩:=y;simp only at b0 b1 b2 b3 b4 b5 e0 e1 e2 e3 e4 e5;have i3:(0:Int)≤(k:Int):=by omega
   have i4:(k:Int)<(C.length:Int):=by omega
   have HB9:=Zc hB9;clear hr1 hr2 hy hB9;go_wp2_with fail;go_quiet (fail)
   go_wp2_with fail;exact⟨⟨k+1,by omega,by go_num,YQ HB9.o _⟩,by simp[intOf];omega⟩
  ·have HB9:=Zc hB9;clear hB9;go_wp2_with fail;go_ret;exact⟨rfl,HB9.o⟩
def inkL (m:Int):List Value:=[.int .i64 0,.int .i64 m,.int .u8 0,.int .i64 0,.int .i64 0,.int .i64 0]
def Ful (w:World)(v:Value):Prop:=∃g n,v=.slice (some ⟨g,0,none⟩) n n∧n≤2000000000∧w.heap[g]?=some (.cells (List.replicate n (B 69)).toArray 5)
def Ink (w:World)(v:Value)(m:Int):Prop:=v=.slice none 0 0∨∃g n cap cur,v=.slice (some ⟨g,0,none⟩) n cap∧n≤2000000000∧n≤cap∧cap≤maxLen∧w.heap[g]?=some (.cells cur 40)∧∀i t u,i<n→(inkL m)[t]?=some u→w.cell? ⟨g,i*6+t,none⟩=some u
structure WC (w:World)(B0 wb nn:Nat)(ins ex:List Value)(ords:List (Value×Int))(vi vo vm:Value):Prop where
 blk:w.heap[wb]?=some (.cells #[.slice none 0 0,.int .i64 nn,vi,.slice none 0 0,.slice none 0 0,vo,vm] 50)
 bw:B0≤wb
 rin:w.ownsRow B0 36 1 vi (ins++ex).length (ins++ex)
 ror:w.ownsRow B0 29 1 vo ords.length (ords.map (·.1))
 rom:w.ownsRow B0 3 1 vm ords.length (ords.map λp=>.int .i64 p.2)
 ful:∀v∈ins,Ful w v
 ink:∀p∈ords,Ink w p.1 p.2
theorem Xq (h:w.ownsRow b e size v n xs)(g:Nat)(hg:v.ownBlock=some g):∃cur,w.heap[g]?=some (.cells cur e (0,0)):=by
 rcases h.2 with⟨h1,-⟩|⟨g',cap,cur,h1,-,h3,-⟩
 ·rw[h1] at hg;cases hg
 ·rw[h1] at hg;cases hg;exact⟨cur,h3⟩
theorem Tt {a:Nat}{c c':Array Value}{t t':TypeId}(h1:w.heap[a]?=some (.cells c t))(h2:w.heap[b]?=some (.cells c' t'))(ht:t≠t'):a≠b:=by intro e;rw[e,h2] at h1;simp at h1;exact ht h1.2.symm
theorem Ful.keep (h:Ful w v)(hk:∀(g:Nat) (cur:Array Value),w.heap[g]?=some (.cells cur 5)→w'.heap[g]?=w.heap[g]?):Ful w' v:=by obtain⟨g,n,h1,h2,h3⟩:=h;exact⟨g,n,h1,h2,(hk g _ h3).trans h3⟩
theorem Ink.keep (h:Ink w v m)(hk:∀(g:Nat) (cur:Array Value),w.heap[g]?=some (.cells cur 40)→v.ownBlock=some g→w'.heap[g]?=w.heap[g]?):Ink w' v m:=by
 rcases h with h|⟨g,n,cap,cur,h1,h2,h3,h4,h5,h6⟩
 ·exact .inl h
 ·have e:=hk g _ h5 (by rw[h1];rfl);exact .inr ⟨g,n,cap,cur,h1,h2,h3,h4,e.trans h5,λi t u hi hu=>(YC (a:=⟨g,i*6+t,none⟩) e).trans (h6 i t u hi hu)⟩
theorem Ink.lt (h:Ink w v m)(g:Nat)(hg:v.ownBlock=some g):g<w.heap.size:=by
 rcases h with h|⟨g',n,cap,cur,h1,h2,h3,h4,h5,h6⟩
 ·rw[h] at hg;cases hg
 ·rw[h1] at hg;cases hg;exact(Ze.1 h5).1
theorem WC.below {ins:List Value}{ords:List (Value×Int)}(h:WC w B0 wb nn ins ex ords vi vo vm)(hB:Below w.heap.size w w'):WC w' B0 wb nn ins ex ords vi vo vm:=
 ⟨(hB.block wb (Ze.1 h.blk).1).trans h.blk,h.bw,YY h.rin (λg hg=>hB.block g (Zs h.rin g hg).2),YY h.ror (λg hg=>hB.block g (Zs h.ror g hg).2),YY h.rom (λg hg=>hB.block g (Zs h.rom g hg).2),
  λv hv=>(h.ful v hv).keep (λg _ hg=>hB.block g (Ze.1 hg).1),λp hp=>(h.ink p hp).keep (λg _ hg _=>hB.block g (Ze.1 hg).1)⟩
theorem WC.cell {ins:List Value}{ords:List (Value×Int)}(h:WC w B0 wb nn ins ex ords vi vo vm):w.cell? ⟨wb,1,none⟩=some (.int .i64 nn)∧w.cell? ⟨wb,2,none⟩=some vi∧w.cell? ⟨wb,5,none⟩=some vo∧w.cell? ⟨wb,6,none⟩=some vm∧w.cell? ⟨wb,3,none⟩=some (.slice none 0 0)∧w.cell? ⟨wb,4,none⟩=some (.slice none 0 0)∧(∀j,w.frozen? ⟨wb,j,none⟩=false)∧wb<w.heap.size:=
 ⟨Zk w wb 1 _ _ (0,0) h.blk,Zk w wb 2 _ _ (0,0) h.blk,Zk w wb 5 _ _ (0,0) h.blk,Zk w wb 6 _ _ (0,0) h.blk,Zk w wb 3 _ _ (0,0) h.blk,Zk w wb 4 _ _ (0,0) h.blk,λj=>by simp[World.frozen?,h.blk],(Ze.1 h.blk).1⟩
theorem infoBys :(prog.info? 36).map (λi=>(i.zero,i.size,i.bytes))=some (some (.slice none 0 0),1,24):=by kernel_rfl
theorem Zcr :prog.underlying 46=some (.slice 36):=by kernel_rfl
def VR (l:List UInt8):List Value:=l.map B++[.int .u8 165,.int .u8 165]
theorem VK (W:World)(v:Value)(T:TypeId):Uo (W.alloc (.cells #[v] T)) 1 (.slice (some ⟨W.heap.size,0,none⟩) 1 1) 1 [v]:=by refine Or.inr ⟨W.heap.size,0,1,rfl,rfl,?_⟩;intro j u hu;rw[Zk _ W.heap.size _ _ T (0,0) (by rw[YX,Zg rfl])];simpa using hu
theorem UW (k:Nat)(h:k≤4000000000000):wrap64 (k:Int)=(k:Int):=by unfold wrap64;omega
theorem Zkt (k k1:Nat)(h:k+1=k1)(hk:k≤4000000000000):IntKind.i64.wrap ((k1:Int)-1)=(k:Int):=by rw[Zq];omega
theorem Uw (k:Nat)(h:k≤4000000000000):IntKind.i64.wrap (k:Int)=(k:Int):=by rw[Zq];omega
def Tl (l:List UInt8)(j:Nat):List Value:=List.replicate j (B 69)++(VR l).drop j
theorem Zbn (l:List UInt8):(VR l).length=l.length+2:=by simp[VR]
theorem over_len (l:List UInt8)(j:Nat)(h:j≤l.length+2):(Tl l j).length=l.length+2:=by unfold Tl;rw[Zf,List.length_replicate,Zt,Zbn];omega
theorem over_set (l:List UInt8)(j:Nat)(h:j<l.length+2):(Tl l j).toArray.setIfInBounds j (B 69)=(Tl l (j+1)).toArray:=by
 rw[Yp]
 congr 1
 unfold Tl;rw[Yb _ _ (by rw[List.length_replicate];exact Zh _),List.length_replicate,YH,YI (by rw[Zbn];exact h),List.set_cons_zero,List.replicate_succ',Zo];rfl
theorem Zk1 (l:List UInt8):Tl l (l.length+2)=List.replicate (l.length+2) (B 69):=by unfold Tl;rw[YT (by rw[Zbn];exact Zh _),ZG]
end
section
open Go.RowKit
theorem UX (h:w.ownsRow b e size (.slice (some ⟨g,0,none⟩) n cap) n xs)(j:Nat)(u:Value):(w.setCell ⟨g,j,none⟩ u).ownsRow b e size (.slice (some ⟨g,0,none⟩) n cap) n (xs.set j u):=by
 refine⟨by rw[Yf];exact h.1,?_⟩;rcases h.2 with⟨h1,-⟩|⟨g',cap',cur,h1,h2,h3,h4,h5,h6,h7⟩
 ·simp at h1
 ·simp only[ZX,Ys,YB] at h1;obtain⟨⟨rfl,-,-⟩,-,rfl⟩:=h1;refine .inr ⟨g,cap,cur.setIfInBounds j u,rfl,h2,Zi w g j _ _ u h3,h4,h5,by rw[Array.size_setIfInBounds];exact h6,?_⟩;rw[←h7,Array.toList_setIfInBounds,List.take_set]
def Uk (m:Int)(xs:List Value)(i:Nat):List Value:=(List.replicate i (inkL m)).flatten++xs.drop (i*6)
theorem Ze6 (m:Int)(i:Nat):((List.replicate i (inkL m)).flatten).length=i*6:=by
 induction i with
 | zero=>rfl
 | succ i ih=>
  rw[List.replicate_succ,ZR,Zf,ih];show 6+_=_;omega
theorem six {α:Type}(l:List α)(h:6≤l.length):∃a b c d e f r,l=a::b::c::d::e::f::r:=by
 match l,h with
 | a::b::c::d::e::f::r,_=>exact⟨a,b,c,d,e,f,r,rfl⟩
theorem ink_step (m:Int)(xs:List Value)(i:Nat)(h:(i+1)*6≤xs.length):
  ((((((Uk m xs i).set (i*6) (.int .i64 0)).set (i*6+1) (.int .i64 m)).set (i*6+2) (.int .u8 0)).set (i*6+3) (.int .i64 0)).set (i*6+4) (.int .i64 0)).set (i*6+5) (.int .i64 0)=Uk m xs (i+1):=by
 unfold Uk;obtain⟨a,b,c,d,e,f,r,hr⟩:=six (xs.drop (i*6)) (by rw[Zt];omega);have hd:xs.drop ((i+1)*6)=r:=by
  have:xs.drop ((i+1)*6)=(xs.drop (i*6)).drop 6:=by rw[List.drop_drop];congr 1;omega
  rw[this,hr];rfl
 have hl:=Ze6 m i;have hf:(List.replicate (i+1) (inkL m)).flatten=(List.replicate i (inkL m)).flatten++inkL m:=by rw[List.replicate_succ',List.flatten_append];simp
 rw[hr,hd,hf];generalize (List.replicate i (inkL m)).flatten=P at *;rw[Yb _ _ (by omega),hl,YH,Yb _ _ (by omega),hl,show i*6+1-i*6=1 by omega,Yb _ _ (by omega),hl,show i*6+2-i*6=2 by omega,Yb _ _ (by omega),hl,show i*6+3-i*6=3 by omega,Yb _ _ (by omega),hl,show i*6+4-i*6=4 by omega,Yb _ _ (by omega),hl,show i*6+5-i*6=5 by omega,Zo];rfl
theorem ink_zero (m:Int)(xs:List Value):Uk m xs 0=xs:=by unfold Uk;simp
theorem ink_full (m:Int)(xs:List Value)(n:Nat)(h:xs.length=n*6):Uk m xs n=(List.replicate n (inkL m)).flatten:=by unfold Uk;rw[YT (by omega),ZG]
theorem Zfd (m:Int)(n i t:Nat)(u:Value)(hi:i<n)(hu:(inkL m)[t]?=some u):((List.replicate n (inkL m)).flatten)[i*6+t]?=some u:=by
 have ht:t<6:=(Zl.1 hu).1;have:=Ud (λ_:Unit=>inkL m) 6 (λ_=>rfl) (List.replicate n ()) i t () u (by rw[List.getElem?_replicate,Zg hi]) ht hu
 rwa [show(List.replicate n ()).flatMap (λ_=>inkL m)=(List.replicate n (inkL m)).flatten by rw[List.flatMap_def,List.map_replicate]] at this
theorem Zhd (m:Int):∀u∈inkL m,u.oneCell'=true:=by intro u hu;simp[inkL] at hu;rcases hu with rfl|rfl|rfl|rfl|rfl|rfl<;>rfl
theorem Ziq (h:w.ownsRow b 40 6 v n ((List.replicate n (inkL m)).flatten))(hn:n≤2000000000):Ink w v m:=by
 rcases h.2 with⟨h1,-⟩|⟨g,cap,cur,h1,h2,h3,h4,h5,h6,h7⟩
 ·exact .inl h1
 ·refine .inr ⟨g,n,cap,cur,h1,hn,h4,h5,h3,λi t u hi hu => ?_⟩;have:=h.cells (g:=g) (by rw[h1];rfl) (i*6+t) u (Zfd m n i t u hi hu)
  rwa [Yg,ZN] at this
theorem Za6 {t ty:TypeId}{i:TypeInfo}{z:Value}{bytes:Nat}(ht:prog.underlying t=some (.slice e))(hi:prog.info? e=some i)(hz:i.zero=some z)
  (hsize:i.size=size) (hby:i.bytes=bytes) (hzs:z.cells.size=size) (hsz:0<size) {xs:List Value} (hown:w.ownsRow base e size (.slice (some ⟨g,0,none⟩) n cap) n xs)
  {ad:Addr} {m c:Nat} {ys:List Value} (hl:ys.length=m*size) (hy:∀j u,ys[j]?=some u→w.cell? (ad.add j)=some u) (h1:∀u∈ys,u.oneCell'=true)
  (h63:n+m≤maxLen) (hbytes:(n+m)*bytes≤140737488355328) (hbase:base≤w.heap.size):
  ∃v' w',(Builtin.append_ #[t,t] ty #[.slice (some ⟨g,0,none⟩) n cap,.slice (some ad) m c]).run prog w=.ok v' w'∧w'.ownsRow base e size v' (n+m) (xs++ys)∧w.grownBy w' (some g)∧(∀j u,xs[j]?=some u→w'.cell? ⟨g,j,none⟩=some u)∧(v'.ownBlock=some g∨v'.ownBlock=some w.heap.size)∧∃cur,w'.heap[g]?=some (.cells cur e (0,0)):=by
 obtain⟨v',w',hr,h2,h3,h4,h5⟩:=run_append_own_at (P:=prog) w base t ty e i z size bytes ht hi hz hsize hby hzs hsz _ n xs hown ad m c ys hl hy h1 h63 hbytes hbase;obtain⟨v2,w2,hr2,-,-,hk2⟩:=Za8 (ty:=ty) (c:=c) ht hi hz hsize hby hzs hsz hown hl hy h1 h63 hbytes hbase;rw[hr] at hr2;obtain⟨rfl,rfl⟩:v'=v2∧w'=w2:=by have:=Result.ok.inj hr2;exact this
 refine⟨v',w',hr,h2,h3,hk2,h5,?_⟩;rcases hown.2 with⟨h,-⟩|⟨g',cap',cur,h,hbg,hg,hnc,hcm,hcs,htake⟩
 ·simp at h
 ·simp only[ZX,Ys,YB,and_true,true_and] at h;obtain⟨rfl,rfl⟩:=h;by_cases hroom:n+m≤cap
  ·have hfit:n*i.size+ys.length≤cur.size:=by rw[hl,hcs,hsize,←Nat.add_mul];exact Nat.mul_le_mul_right _ hroom
   have hr2:=run_append_room (P:=prog) w t ty e i ht hi g n cap cur hg ad m c ys (by rw[hsize];exact hl) hy h1 hroom hfit;rw[hr] at hr2;obtain⟨e1,e2⟩:=Result.ok.inj hr2;exact Xq h2 g (by rw[e1];rfl)
  ·have holds:∀j u,xs[j]?=some u→w.cell? ((⟨g,0,none⟩:Addr).add j)=some u:=hown.cells (g:=g) rfl;have hr2:=run_append_grow (P:=prog) w t ty e i z ht hi hz ⟨g,0,none⟩ n cap xs (by rw[hsize];exact hown.1) holds ad m c ys (by rw[hsize];exact hl) hy (by omega) (by unfold maxLen at h63;omega) (growslice_fits (by omega) (by rw[hby];exact hbytes));rw[hr] at hr2;obtain⟨e1,e2⟩:=Result.ok.inj hr2;have hgl:g<w.heap.size:=(Ze.1 hg).1;refine⟨cur,?_⟩;rw[e2];show(w.drew.alloc _).heap[g]?=_;rw[YX,Zj (by show g≠w.heap.size;omega)];exact hg
def Zjd (ords:List (Value×Int))(g N:Nat)(m:Int):Prop:=∀p∈ords,p.1.ownBlock=some g→∃np cp,p.1=.slice (some ⟨g,0,none⟩) np cp∧np≤N∧p.2=m
theorem WC.setN {ins:List Value}{ords:List (Value×Int)}(h:WC w B0 wb nn ins ex ords vi vo vm)(k:Nat):WC (w.setCell ⟨wb,1,none⟩ (.int .i64 k)) B0 wb k ins ex ords vi vo vm:=by
 have hf:=Fr.setCell w ⟨wb,1,none⟩ (.int .i64 k);have hkeep:∀(a:Nat) (cur:Array Value) (t:TypeId),w.heap[a]?=some (.cells cur t)→t≠50→(w.setCell ⟨wb,1,none⟩ (.int .i64 k)).heap[a]?=w.heap[a]?:=λa cur t ha ht=>hf.block a (Ze.1 ha).1 (λe=>Tt ha h.blk ht e);refine⟨by rw[Zi w wb 1 _ _ _ h.blk];rfl,h.bw,?_,?_,?_,?_,?_⟩
 ·exact YY h.rin (λa ha=>by obtain⟨cur,hc⟩:=Xq h.rin a ha;exact hkeep a cur _ hc (by decide))
 ·exact YY h.ror (λa ha=>by obtain⟨cur,hc⟩:=Xq h.ror a ha;exact hkeep a cur _ hc (by decide))
 ·exact YY h.rom (λa ha=>by obtain⟨cur,hc⟩:=Xq h.rom a ha;exact hkeep a cur _ hc (by decide))
 ·exact λv hv=>(h.ful v hv).keep (λa cur ha=>hkeep a cur _ ha (by decide))
 ·exact λp hp=>(h.ink p hp).keep (λa cur ha _=>hkeep a cur _ ha (by decide))
theorem WC.turnL {ins:List Value}{ords:List (Value×Int)}{c0:Array Value}(h:WC w B0 wb nn ins ex ords vi vo vm)(hf:Fr (λk=>k=g) w w')(hg:w.heap[g]?=some (.cells c0 40))(hn:∀p∈ords,p.1.ownBlock≠some g):WC w' B0 wb nn ins ex ords vi vo vm:=by
 have hkeep:∀(a:Nat) (cur:Array Value) (t:TypeId),w.heap[a]?=some (.cells cur t)→t≠40→w'.heap[a]?=w.heap[a]?:=λa cur t ha ht=>hf.block a (Ze.1 ha).1 (λe=>Tt ha hg ht e);refine⟨(hkeep wb _ _ h.blk (by decide)).trans h.blk,h.bw,?_,?_,?_,?_,?_⟩
 ·exact YY h.rin (λa ha=>by obtain⟨cur,hc⟩:=Xq h.rin a ha;exact hkeep a cur _ hc (by decide))
 ·exact YY h.ror (λa ha=>by obtain⟨cur,hc⟩:=Xq h.ror a ha;exact hkeep a cur _ hc (by decide))
 ·exact YY h.rom (λa ha=>by obtain⟨cur,hc⟩:=Xq h.rom a ha;exact hkeep a cur _ hc (by decide))
 ·exact λv hv=>(h.ful v hv).keep (λa cur ha=>hkeep a cur _ ha (by decide))
 ·exact λp hp=>(h.ink p hp).keep (λa cur ha hb=>hf.block a (Ze.1 ha).1 (λe=>hn p hp (by rw[hb,e])))
theorem WC.stay {N:Nat}{ins:List Value}{ords:List (Value×Int)}{c0:Array Value}(h:WC w B0 wb nn ins ex ords vi vo vm)(hg:w.heap[g]?=some (.cells c0 40))(hin:Zjd ords g N m)
  (h1:w.grownBy w' (some g)) (h2:∀j u,((List.replicate N (inkL m)).flatten)[j]?=some u→w'.cell? ⟨g,j,none⟩=some u) (h3:∃cur,w'.heap[g]?=some (.cells cur 40 (0,0))):WC w' B0 wb nn ins ex ords vi vo vm:=by
 have hf:Fr (λk=>k=g) w w':=(Fr.of_grown h1).mono (λk _ e=>Zv e);have hkeep:∀(a:Nat) (cur:Array Value) (t:TypeId),w.heap[a]?=some (.cells cur t)→t≠40→w'.heap[a]?=w.heap[a]?:=λa cur t ha ht=>hf.block a (Ze.1 ha).1 (λe=>Tt ha hg ht e);refine⟨(hkeep wb _ _ h.blk (by decide)).trans h.blk,h.bw,?_,?_,?_,?_,?_⟩
 ·exact YY h.rin (λa ha=>by obtain⟨cur,hc⟩:=Xq h.rin a ha;exact hkeep a cur _ hc (by decide))
 ·exact YY h.ror (λa ha=>by obtain⟨cur,hc⟩:=Xq h.ror a ha;exact hkeep a cur _ hc (by decide))
 ·exact YY h.rom (λa ha=>by obtain⟨cur,hc⟩:=Xq h.rom a ha;exact hkeep a cur _ hc (by decide))
 ·exact λv hv=>(h.ful v hv).keep (λa cur ha=>hkeep a cur _ ha (by decide))
 ·intro p hp;by_cases e:p.1.ownBlock=some g
  ·obtain⟨np,cp,e1,e2,e3⟩:=hin p hp e;obtain⟨cur,hc⟩:=h3;rcases h.ink p hp with i1|⟨a,n,cap,cu,i1,i2,i3,i4,i5,i6⟩
   ·rw[i1] at e1;cases e1
   ·rw[e1] at i1;simp only[ZX,Ys,YB,and_true] at i1;obtain⟨rfl,rfl,rfl⟩:=i1;refine .inr ⟨g,np,cp,cur,e1,i2,i3,i4,hc,λi t u hi hu => ?_⟩;rw[e3] at hu;exact h2 _ _ (Zfd m N i t u (by omega) hu)
  ·exact(h.ink p hp).keep (λa cur ha hb=>hf.block a (Ze.1 ha).1 (λe2=>e (by rw[hb,e2])))
theorem WC.addOrd {ins:List Value}{ords:List (Value×Int)}{vo' vm' vl:Value}(h:WC w B0 wb nn ins [] ords vi vo vm)
  (h1:w'.heap[wb]?=some (.cells #[.slice none 0 0,.int .i64 nn,vi,.slice none 0 0,.slice none 0 0,vo',vm'] 50)) (h2:w'.ownsRow B0 29 1 vo' (ords.length+1) (ords.map (·.1)++[vl])) (h3:w'.ownsRow B0 3 1 vm' (ords.length+1) ((ords.map λp=>.int .i64 p.2)++[.int .i64 m]))
  (hf:Fr (λk=>k=wb∨vo.ownBlock=some k∨vm.ownBlock=some k) w w') (hi:Ink w' vl m):WC w' B0 wb nn ins [] (ords++[(vl,m)]) vi vo' vm':=by
 have hkeep:∀(a:Nat) (cur:Array Value) (t:TypeId),w.heap[a]?=some (.cells cur t)→t≠50→t≠29→t≠3→w'.heap[a]?=w.heap[a]?:=by
  intro a cur t ha t1 t2 t3;refine hf.block a (Ze.1 ha).1 ?_;rintro(e|e|e)
  ·exact Tt ha h.blk t1 e
  ·obtain⟨c,hc⟩:=Xq h.ror a e;exact Tt ha hc t2 rfl
  ·obtain⟨c,hc⟩:=Xq h.rom a e;exact Tt ha hc t3 rfl
 refine⟨h1,h.bw,?_,?_,?_,?_,?_⟩
 ·exact YY h.rin (λa ha=>by obtain⟨cur,hc⟩:=Xq h.rin a ha;exact hkeep a cur _ hc (by decide) (by decide) (by decide))
 ·rw[Zf,ZH];exact h2
 ·rw[Zf,ZH];exact h3
 ·exact λv hv=>(h.ful v hv).keep (λa cur ha=>hkeep a cur _ ha (by decide) (by decide) (by decide))
 ·intro p hp;rcases ZE.1 hp with hp|hp
  ·exact(h.ink p hp).keep (λa cur ha _=>hkeep a cur _ ha (by decide) (by decide) (by decide))
  ·simp at hp;rw[hp];exact hi
theorem Xx (w:World)(a:Addr)(v:Value):(w.setCell a v).heap.size=w.heap.size:=by simp[World.setCell]
end
section
open Go.RowKit
attribute [local go_sem ↓] Go.wp_at_zero Go.wp_at_succ
theorem infoOs :(prog.info? 29).map (λi=>(i.zero,i.size,i.bytes))=some (some (.slice none 0 0),1,24):=by kernel_rfl
theorem Zi9 :prog.underlying 47=some (.slice 29):=by kernel_rfl
theorem infoIn :(prog.info? 3).map (λi=>(i.zero,i.size,i.bytes))=some (some (.int .i64 0),1,8):=by kernel_rfl
theorem Zgb :prog.underlying 48=some (.slice 3):=by kernel_rfl
theorem Zkg (m:Int)(h1:-4000000000000≤m)(h2:m≤0):IntKind.i64.wrap m=m:=by rw[Zq];omega
theorem wrap_neg (m:Int)(h1:-4000000000000≤m)(h2:m≤0):wrap64 m=m:=by unfold wrap64;omega
theorem XL (h:w.ownsRow b e size v n xs)(O:Obj):(w.alloc O).ownsRow b e size v n xs:=YY h (λg hg=>by rw[YX,Zj (by have:=(Zs h g hg).2;omega)])
theorem Te (W:World)(s:Nat)(v:Value)(T:TypeId)(hs:W.heap.size=s):Uo (W.alloc (.cells #[v] T)) 1 (.slice (some ⟨s,0,none⟩) 1 1) 1 [v]:=by subst hs;exact VK W v T
theorem Zb7 (W:World)(s:Nat)(m:Int)(hs:W.heap.size=s):∀j u,(inkL m)[j]?=some u→(W.alloc (.cells (inkL m).toArray 40)).cell? ((⟨s,0,none⟩:Addr).add j)=some u:=by subst hs;intro j u hu;rw[Yg,ZN,Zk _ W.heap.size j _ 40 (0,0) (by rw[YX,Zg rfl])];simpa using hu
theorem Zk4 (N:Nat)(m:Int):(List.replicate (N+1) (inkL m)).flatten=(List.replicate N (inkL m)).flatten++inkL m:=by rw[List.replicate_succ',List.flatten_append];simp
theorem Vh {ops:Array Oper}{rest:List Oper}{o:Oper}{a:Go.Act}{Q:Exit→Go.Act→World→Prop}(hgd:o.guard=none)(s x:Operand)(t:TypeId)
  (ho:o.op=.call {callee:=.builtin .append,args:=#[s,x],argTypes:=#[t,t]})
  (base:Nat) (e:TypeId) (i:TypeInfo) (z:Value) (size bytes:Nat) (ht:prog.underlying t=some (.slice e)) (hi:prog.info? e=some i) (hz:i.zero=some z)
  (hsize:i.size=size) (hby:i.bytes=bytes) (hzs:z.cells.size=size) (hsz:0<size)
  (v:Value) (n:Nat) (xs:List Value) (hs:a.eval s=v) (hown:w.ownsRow base e size v n xs) (ad:Addr) (m c:Nat) (ys:List Value) (hx:a.eval x=.slice (some ad) m c) (hl:ys.length=m*size) (hy:∀j u,ys[j]?=some u→w.cell? (ad.add j)=some u) (h1:∀u∈ys,u.oneCell'=true)
  (h63:n+m≤maxLen) (hbytes:(n+m)*bytes≤140737488355328) (hbase:base≤w.heap.size)
  (h:∀ra cap' w',Hid (w'.ownsRow base e size (.slice ra (n+m) cap') (n+m) (xs++ys))→Hid (w.grownBy w' v.ownBlock∧(∀g,v.ownBlock=some g→(∀j u,xs[j]?=some u→w'.cell? ⟨g,j,none⟩=some u)∧∃cur,w'.heap[g]?=some (.cells cur e (0,0)))∧(Value.ownBlock (.slice ra (n+m) cap')=v.ownBlock∨Value.ownBlock (.slice ra (n+m) cap')=some w.heap.size))→wpList prog ops Q rest (a.put o.dst (.slice ra (n+m) cap')) w'):
  wpList prog ops Q (o::rest) a w:=by
 refine wpList_plain hgd λK' hK' => ?_;have key:∃v' w',(Builtin.append_ #[t,t] o.type #[v,.slice (some ad) m c]).run prog w=.ok v' w'∧w'.ownsRow base e size v' (n+m) (xs++ys)∧w.grownBy w' v.ownBlock∧(∀g,v.ownBlock=some g→(∀j u,xs[j]?=some u→w'.cell? ⟨g,j,none⟩=some u)∧∃cur,w'.heap[g]?=some (.cells cur e (0,0)))∧(v'.ownBlock=v.ownBlock∨v'.ownBlock=some w.heap.size):=by
  rcases hown.2 with⟨rfl,-⟩|⟨g,cap,cur,rfl,-⟩
  ·obtain⟨v',w',hr,h2,h3,h4,h5⟩:=run_append_own_at (P:=prog) w base t o.type e i z size bytes ht hi hz hsize hby hzs hsz _ n xs hown ad m c ys hl hy h1 h63 hbytes hbase;exact⟨v',w',hr,h2,h3,λg hg=>(by cases hg),h5⟩
  ·obtain⟨v',w',hr,h2,h3,h4,h5,h6⟩:=Za6 (ty:=o.type) (c:=c) ht hi hz hsize hby hzs hsz hown hl hy h1 h63 hbytes hbase;exact⟨v',w',hr,h2,h3,λg' hg'=>by cases hg';exact⟨h4,h6⟩,h5⟩
 obtain⟨v',w',hr,h2,h3,h4,h5⟩:=key;obtain⟨ra,cap',rfl,_,_⟩:=Xf h2;unfold Oper.wp execOp;simp only[ho,resolve,invoke,builtin,Sem.run_bind,Sem.run_pure,Result.andThen_ok,List.map_toArray,ZV,List.map_nil,hs,hx,hr];exact hK' _ _ (h ra cap' w' h2 ⟨h3,h4,h5⟩)
theorem Qu {c:Nat}{r:Option Addr}(h:w.ownsRow b e size (.slice r n c) n xs)(g:Nat)(hg:Value.ownBlock (.slice r n c)=some g):Value.slice r n c=.slice (some ⟨g,0,none⟩) n c:=by
 rcases h.2 with⟨e1,-⟩|⟨g',cap,cur,e1,-⟩
 ·rw[e1] at hg;cases hg
 ·simp only[ZX,true_and] at e1;obtain⟨rfl,rfl⟩:=e1;cases hg;rfl
end
end Go.Proofs.YtphkchjejbffeaaGreat
