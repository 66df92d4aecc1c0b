/- DE -/
import Derived.Test.YtphkchjejbffeaaGreatK25
set_option maxHeartbeats 16000000
set_option maxRecDepth 100000
namespace Go.Proofs.YtphkchjejbffeaaGreat
open Tryz
open Go.RowKit
variable {came m:List UInt8}{b g:Nat}{o:Ord}{c:Rc}{α:Type}{w:World}
section
open Go.RowKit
attribute [local go_sem ↓] Go.wp_at_zero Go.wp_at_succ
attribute [local go_sem ↓] app_rd
theorem lsl7 (l:List α)(h:l.length=7):∃x0 x1 x2 x3 x4 x5 x6,l=[x0,x1,x2,x3,x4,x5,x6]:=by
 match l,h with
 | [x0,x1,x2,x3,x4,x5,x6],_=>exact⟨x0,x1,x2,x3,x4,x5,x6,rfl⟩
theorem lsl8 (l:List α)(h:l.length=8):∃x0 x1 x2 x3 x4 x5 x6 x7,l=[x0,x1,x2,x3,x4,x5,x6,x7]:=by
 match l,h with
 | [x0,x1,x2,x3,x4,x5,x6,x7],_=>exact⟨x0,x1,x2,x3,x4,x5,x6,x7,rfl⟩
theorem Zjs (l:List α)(h:l.length=10):∃x0 x1 x2 x3 x4 x5 x6 x7 x8 x9,l=[x0,x1,x2,x3,x4,x5,x6,x7,x8,x9]:=by
 match l,h with
 | [x0,x1,x2,x3,x4,x5,x6,x7,x8,x9],_=>exact⟨x0,x1,x2,x3,x4,x5,x6,x7,x8,x9,rfl⟩
theorem lsl13 (l:List α)(h:l.length=13):∃x0 x1 x2 x3 x4 x5 x6 x7 x8 x9 x10 x11 x12,l=[x0,x1,x2,x3,x4,x5,x6,x7,x8,x9,x10,x11,x12]:=by
 match l,h with
 | [x0,x1,x2,x3,x4,x5,x6,x7,x8,x9,x10,x11,x12],_=>exact⟨x0,x1,x2,x3,x4,x5,x6,x7,x8,x9,x10,x11,x12,rfl⟩
structure RpI (w W:World)(b:Nat)(c cW:Rc)(rW:Rf)(came:List UInt8)(g7 g8:Nat)(old o:Ord)(gm om:Nat)(m:List UInt8):Prop where
 bo:RBo W b cW rW came
 st:RStp w W b c cW
 b7:W.heap[g7]?=some (.cells old.cells.toArray 40)
 b8:W.heap[g8]?=some (.cells o.cells.toArray 40)
 n7:¬RGx b cW g7
 n8:¬RGx b cW g8
 nm:¬RGx b cW gm
 lm:Lies W gm om m
 gl:gm<W.heap.size
theorem RpI.stp {W W':World}{cW c':Rc}{rW r':Rf}{g7 g8:Nat}{old:Ord}{gm om:Nat}(h:RpI w W b c cW rW came g7 g8 old o gm om m)(hb:RBo W' b c' r' came)(hs:RStp W W' b cW c'):RpI w W' b c c' r' came g7 g8 old o gm om m:=
 ⟨hb,h.st.trans hs,(hs.box h.b7 h.n7).1,(hs.box h.b8 h.n8).1,(hs.box h.b7 h.n7).2,(hs.box h.b8 h.n8).2,λe=>(hs.nw gm e).elim h.nm (λe=>by have:=h.gl;omega),h.lm.keep (hs.fr.block gm h.gl h.nm),Zn h.gl hs.fr.size⟩
theorem RpI.below {W W':World}{cW:Rc}{rW:Rf}{g7 g8:Nat}{old:Ord}{gm om:Nat}(h:RpI w W b c cW rW came g7 g8 old o gm om m)(hB:Below W.heap.size W W'):RpI w W' b c cW rW came g7 g8 old o gm om m:=h.stp (h.bo.below hB) (RStp.below hB)
theorem Zcn {o:Nat}(h:Lies w g o m)(hg:g<w.heap.size)(a:Addr)(v:Value)(hn:g≠a.block):Lies (w.setCell a v) g o m:=h.keep ((Fr.setCell w a v).block g hg hn)
theorem QL {j:Nat}{v:Value}{o':Ord}(h:w.heap[g]?=some (.cells o.cells.toArray 40))(e:o.cells.set j v=o'.cells):(w.setCell ⟨g,j,none⟩ v).heap[g]?=some (.cells o'.cells.toArray 40):=by rw[Zi w g j _ _ _ h,Yp,e]
theorem RBo.setOrder {r:Rf}(h:RBo w b c r came){i cap:Nat}{x:Ord}(hx:r.S[i]?=some x)(hv:c.vr=.slice (some ⟨g,0,none⟩) r.S.length cap)(y:Ord):
  RBo ((((((w.setCell ⟨g,i*6,none⟩ (.int .i64 y.ref)).setCell ⟨g,i*6+1,none⟩ (.int .i64 y.qf)).setCell ⟨g,i*6+2,none⟩ (.int .u8 y.qe.toNat)).setCell ⟨g,i*6+3,none⟩ (.int .i64 y.qd)).setCell ⟨g,i*6+4,none⟩ (.int .i64 y.qc)).setCell ⟨g,i*6+5,none⟩ (.int .i64 y.qa)) b c {r with S:=r.S.set i y} came∧
  RStp w ((((((w.setCell ⟨g,i*6,none⟩ (.int .i64 y.ref)).setCell ⟨g,i*6+1,none⟩ (.int .i64 y.qf)).setCell ⟨g,i*6+2,none⟩ (.int .u8 y.qe.toNat)).setCell ⟨g,i*6+3,none⟩ (.int .i64 y.qd)).setCell ⟨g,i*6+4,none⟩ (.int .i64 y.qc)).setCell ⟨g,i*6+5,none⟩ (.int .i64 y.qa)) b c c:=by
 have hr:=h.at_.rest;rw[hv] at hr;have hr2:=hr.putAll i x y hx;rw[←hv] at hr2;obtain⟨h1,h2⟩:=h.at_.put hv hr2 ((((((Fr.setCell w ⟨g,i*6,none⟩ _).trans (Fr.setCell _ ⟨g,i*6+1,none⟩ _) (λ_ _ e=>e)).trans (Fr.setCell _ ⟨g,i*6+2,none⟩ _) (λ_ _ e=>e)).trans (Fr.setCell _ ⟨g,i*6+3,none⟩ _) (λ_ _ e=>e)).trans (Fr.setCell _ ⟨g,i*6+4,none⟩ _) (λ_ _ e=>e)).trans (Fr.setCell _ ⟨g,i*6+5,none⟩ _) (λ_ _ e=>e));exact⟨⟨h1,h.qk,h.qj,h.pool,h.time,h.qg,h.qi,h.opn⟩,h2⟩
theorem Zfi {r:Rf}(h:RBo w b c r came)(gm om cm:Nat)(m:List UInt8)(hl:m.length=12)(hc:12≤cm)(hcm:cm≤9223372036854775807)(hM:Lies w gm om m)(hg:gm<w.heap.size)(hn:¬RGx b c gm)
  (hsm:∀x∈r.S,Sml x) (hsd:∀x∈r.S,x.qe=66∨x.qe=83) (hS:r.S.length≤64) (hus:r.us.length≤1000000000) (ht:r.time≤9223372036854775807) (hrf:r.qg≤1000000000000) (hmt:r.qi≤1000000000000) (hout:r.out.length+3000≤140737488355328) (hon:r.on.length+3000≤140737488355328):
  Calls prog 95 #[.pointer (some ⟨b,0,none⟩),.slice (some ⟨gm,om,none⟩) 12 cm] w λe w'=>e=.returned (.tuple #[])∧∃c',RBo w' b c' (r.replace m) came∧RStp w w' b c c':=by
 obtain⟨t,hte⟩:=Za (at_ m 0 4);obtain⟨tn,hne⟩:∃t,at_ m 4 4=t:=⟨_,rfl⟩;obtain⟨pr,hpe⟩:∃t,at_ m 8 2=t:=⟨_,rfl⟩;obtain⟨sh,hse⟩:∃t,at_ m 10 2=t:=⟨_,rfl⟩;have htl:tn<4294967296:=by rw[←hne];exact UA m 4
 have hpl:pr<65536:=by rw[←hpe];exact XY m 8
 have hsl:sh<65536:=by rw[←hse];exact XY m 10
 have HV1:=Zc (Qg hM 4 cm t (by omega) (by omega) hte);have HVn:Hid (∀W,Lies W gm om m→Calls prog 124 #[.slice (some ⟨gm,om+4,none⟩) 4 (cm-4)] W λe w'=>e=.returned (.int .i64 tn)∧w'=W):=λW hB=>XH hB 4 4 (cm-4) tn (by omega) (by omega) hne;have HVp:Hid (∀W,Lies W gm om m→Calls prog 124 #[.slice (some ⟨gm,om+8,none⟩) 2 (cm-8)] W λe w'=>e=.returned (.int .i64 pr)∧w'=W):=λW hB=>XH hB 8 2 (cm-8) pr (by omega) (by omega) hpe;have HVs:Hid (∀W,Lies W gm om m→Calls prog 124 #[.slice (some ⟨gm,om+10,none⟩) 2 (cm-10)] W λe w'=>e=.returned (.int .i64 sh)∧w'=W):=λW hB=>XH hB 10 2 (cm-10) sh (by omega) (by omega) hse;have HOF:=Zc (Zi7 w b c r.S t h.at_.is h.at_.rest (by omega));have i4:(12:Int)≤(cm:Int):=by omega
 have i5:(cm:Int)≤9223372036854775807:=by omega
 have i6:¬cm=4:=by omega
 have i7:¬cm=8:=by omega
 have i8:¬cm=10:=by omega
 have HMS:=Zc (Zd hM (Zd hg (Zd hn (Zd hl hc))));have HT:=Zc (Zd hte (Zd hne (Zd hpe hse)));have HH:=Zc h;clear h hM hn hl hc hte hne hpe hse;go_enter func95,ntmps95;go_wp2_with fail;refine HV1.o.mono (Zb ?_);go_wp2_with fail;refine HOF.o.mono (Zb ?_);clear HV1 HOF;cases hof:ofI r.S t with
 | none=>
  have HE:Hid (r.replace m=r):=by show _=_;unfold Rf.replace;rw[HT.o.1,hof]
  clear hof;simp only[ixI];go_wp2_with fail;refine ZC (Yu rfl _ _ _) rfl ?_;exact⟨rfl,c,by rw[HE.o];exact HH.o,RStp.refl _ _ _⟩
 | some ix=>
  have hil:ix<r.S.length:=by unfold ofI at hof;exact(Yy.1 hof).1
  obtain⟨x,hx⟩:∃x,r.S[ix]?=some x:=⟨_,Zp hil⟩;have hxs:=hsm x (ZW hx);have hxd:=hsd x (ZW hx);obtain⟨xref,qq,qo,qm,qn,qp⟩:=x;have HX:=Zc (Zd hx (Zd hof (Zd hxs hxd)));have i1:(0:Int)≤(ix:Int):=by omega
  have i3:¬(ix:Int)<0:=by omega
  obtain⟨bd,hbd⟩:=Za (badN c.qj pr sh);have HBD:=Zc hbd;clear hx hof hxs hxd hbd hil;simp only[ixI];go_wp2_with fail;refine Xg 16 7 _ ?_;refine Xp (by kernel_rfl) [0,1,2,3,4,5,6,7] 8 (by kernel_rfl) (by decide) 8 rfl rfl (rgD w.heap.size (RGx b c) [.val (.pointer (some ⟨b,0,none⟩)),.val (.slice (some ⟨gm,om,none⟩) 12 cm),.val (.slice (some ⟨gm,om+8,none⟩) 2 (cm-8)),.val (.int .i64 (pr:Nat)),.val (.slice (some ⟨gm,om,none⟩) 12 cm),.val (.slice (some ⟨gm,om+10,none⟩) 2 (cm-10)),.val (.int .i64 (sh:Nat)),.val (.int .u8 (bd:Nat))]) (Below w.heap.size w) rfl ⟨rfl,rfl,rfl,Zh _,λ_ _=>rfl⟩ ?_ ?_
  ·intro i o hi ho vals W hvl hR qh K hK;obtain⟨x0,x1,x2,x3,x4,x5,x6,x7,rfl⟩:=lsl8 vals hvl;unfold Xe;simp only[ZA,ZI,ZB,ZJ,ZF,Zr];have hcase:i=3∨i=6∨i=7∨i=0∨i=1∨i=2∨i=4∨i=5:=by omega
   rcases hcase with rfl|rfl|rfl|rfl|rfl|rfl|rfl|rfl<;>obtain rfl:=Zv ho<;>clear ho hvl
   ·obtain⟨rfl,-⟩:=Xi qh;clear qh;go_wp2_with (go_at_call 124;refine(HVp.o W (HMS.o.1.keep (hR.block gm HMS.o.2.1))).mono (Zb ?_))
    exact hK (.int .i64 (pr:Nat)) _ (Xh rfl rfl) hR (λ_ _ h=>h)
   ·obtain⟨rfl,-⟩:=Xi qh;clear qh;go_wp2_with (go_at_call 124;refine(HVs.o W (HMS.o.1.keep (hR.block gm HMS.o.2.1))).mono (Zb ?_))
    exact hK (.int .i64 (sh:Nat)) _ (Xh rfl rfl) hR (λ_ _ h=>h)
   ·obtain⟨rfl,rfl,rfl,-⟩:=Xi qh;clear qh;go_wp2_with (go_at_call 129;refine(Qs W b c pr sh (HH.o.below hR).at_.is).mono (Zb ?_);rw[HBD.o])
    exact hK (.int .u8 (bd:Nat)) _ (Xh rfl rfl) hR (λ_ _ h=>h)
   all_goals (have d:=Xi qh;clear qh;try (obtain⟨rfl,-⟩:=d);go_wp2_with fail;exact hK _ _ (Xh rfl rfl) hR (λ_ _ h=>h))
  ·intro o ho vals W hvl hR qh K hK;obtain⟨x0,x1,x2,x3,x4,x5,x6,x7,rfl⟩:=lsl8 vals hvl;obtain rfl:=Zv ho;clear ho hvl;unfold Xe;simp only[ZA,ZI,ZB,ZJ,ZF,Zr];obtain⟨rfl,rfl,rfl,rfl,rfl,rfl,rfl,rfl,-⟩:=Ve qh;clear qh;have H1:Hid (RBo W b c r came∧RStp w W b c c∧Lies W gm om m∧gm<W.heap.size):=⟨HH.o.below hR,RStp.below hR,HMS.o.1.keep (hR.block gm HMS.o.2.1),Zn HMS.o.2.1 hR.size⟩;clear hR;go_wp2_with fail;refine(HVn.o W H1.o.2.2.1).mono (Zb ?_);have HUS:=Zc (Zdo W b c r.us tn H1.o.1.at_.is H1.o.1.at_.used (by omega));go_wp2_with fail;refine HUS.o.mono (Zb ?_);clear HUS;obtain⟨wn,hwn⟩:=Za (r.whyR m);have hwl:wn<256:=by rw[←hwn];unfold Rf.whyR;rcases Zae r.qj (at_ m 8 2) (at_ m 10 2) with e|e|e<;>rw[e]<;>split<;>decide
   have hwe:wn=if tn∈r.us then 68 else bd:=by rw[←hwn,←HBD.o];unfold Rf.whyR;rw[HT.o.2.1,HT.o.2.2.1,HT.o.2.2.2,HH.o.qj]
   have HWN:=Zc (Zd hwn hwe);clear hwn hwe;obtain⟨ub,hub⟩:=Za (decide (tn∈r.us));rw[hub];go_upto_if 29 with(fail)
   go_cut [5] from 9 (λs5 wx=>s5=.int .u8 (wn:Nat)∧wx=W)
   case first=>
    cases ub with
    | true=>
     have hwe:wn=68:=by have:=HWN.o.2;rw[Zg (of_decide_eq_true hub)] at this;exact this
     clear hub;go_wp2_with fail;go_meet
     case rel=>exact⟨by rw[hwe];rfl,rfl⟩
    | false=>
     have hwe:wn=bd:=by have:=HWN.o.2;rw[Zj (of_decide_eq_false hub)] at this;exact this
     clear hub;go_wp2_with fail;go_meet
     case rel=>exact⟨by first|rfl|rw[hwe],rfl⟩
   case rest=>
    obtain⟨rfl,hw⟩:=hcut;replace hw:=hw.symm;subst hw;clear hub;by_cases hw0:wn=0
    ·have b1:((wn:Int) !=0)=false:=by simp[hw0]
     have HW0:Hid (wn=0):=hw0;clear hw0;obtain⟨gr,cap,hvr,hc1,hc2,hgl,hgx,hgb,hfz,hil,d0,d1,d2,d3,d4,d5⟩:=H1.o.1.order HX.o.1;obtain⟨N,hN⟩:=Za (r.S.length);have HVR:=Zc (Zd hvr hN);rw[hN] at hvr hc1 hil;have c3:W.cell? ⟨b,3,none⟩=some c.vr:=H1.o.1.at_.is.cell 3;rw[hvr] at c3;simp only at d0 d1 d2 d3 d4 d5;have i2:(ix:Int)<(N:Int):=by omega
     obtain⟨g7,hg7⟩:=Za (W.heap.size);obtain⟨W2,hW2⟩:=Za (W.alloc (.cells #[.int .i64 0,.int .i64 0,.int .u8 0,.int .i64 0,.int .i64 0,.int .i64 0] 40));have hB2:Below W.heap.size W W2:=by rw[←hW2];exact(Zm _ _).alloc (Zh _) _
     have hz2:W2.heap[g7]?=some (.cells #[.int .i64 0,.int .i64 0,.int .u8 0,.int .i64 0,.int .i64 0,.int .i64 0] 40):=by rw[←hW2,YX,Zg hg7.symm]
     have z0:W2.cell? ⟨g7,0,none⟩=some (.int .i64 0):=Zk W2 g7 0 _ _ (0,0) hz2;have z1:W2.cell? ⟨g7,1,none⟩=some (.int .i64 0):=Zk W2 g7 1 _ _ (0,0) hz2;have z2:W2.cell? ⟨g7,2,none⟩=some (.int .u8 0):=Zk W2 g7 2 _ _ (0,0) hz2;have z3:W2.cell? ⟨g7,3,none⟩=some (.int .i64 0):=Zk W2 g7 3 _ _ (0,0) hz2;have z4:W2.cell? ⟨g7,4,none⟩=some (.int .i64 0):=Zk W2 g7 4 _ _ (0,0) hz2;have z5:W2.cell? ⟨g7,5,none⟩=some (.int .i64 0):=Zk W2 g7 5 _ _ (0,0) hz2;have y0:W2.frozen? ⟨g7,0,none⟩=false:=by simp[World.frozen?,hz2]
     have y1:W2.frozen? ⟨g7,1,none⟩=false:=by simp[World.frozen?,hz2]
     have y2:W2.frozen? ⟨g7,2,none⟩=false:=by simp[World.frozen?,hz2]
     have y3:W2.frozen? ⟨g7,3,none⟩=false:=by simp[World.frozen?,hz2]
     have y4:W2.frozen? ⟨g7,4,none⟩=false:=by simp[World.frozen?,hz2]
     have y5:W2.frozen? ⟨g7,5,none⟩=false:=by simp[World.frozen?,hz2]
     have hX3:=set6 (.int .i64 xref) (.int .i64 qq) (.int .u8 qo.toNat) (.int .i64 qm) (.int .i64 qn) (.int .i64 qp) hz2;have hF3:=Zfk W2 g7 (.int .i64 xref) (.int .i64 qq) (.int .u8 qo.toNat) (.int .i64 qm) (.int .i64 qn) (.int .i64 qp);have hn7:¬RGx b c g7:=λe=>by have:=H1.o.1.at_.lt _ e;omega
     have hv7:c.vc.ownBlock≠some g7:=λe=>by have:=H1.o.1.at_.came.lt e;omega
     have hw7:w.heap.size≤g7:=by rw[←hg7];exact H1.o.2.1.fr.size
     have hgm7:gm≠g7:=by have:=H1.o.2.2.2;omega
     have I3:Hid (RpI w ((((((W2.setCell ⟨g7,0,none⟩ (.int .i64 xref)).setCell ⟨g7,1,none⟩ (.int .i64 qq)).setCell ⟨g7,2,none⟩ (.int .u8 qo.toNat)).setCell ⟨g7,3,none⟩ (.int .i64 qm)).setCell ⟨g7,4,none⟩ (.int .i64 qn)).setCell ⟨g7,5,none⟩ (.int .i64 qp)) b c c r came g7 g7 ⟨xref,qq,qo,qm,qn,qp⟩ ⟨xref,qq,qo,qm,qn,qp⟩ gm om m):=⟨(H1.o.1.below hB2).off hF3 (λk e=>by have e:k=g7:=e;rw[e];exact hn7) (λk e=>by have e:k=g7:=e;rw[e];exact hv7),(H1.o.2.1.trans (RStp.below hB2)).own hF3 hw7,hX3,hX3,hn7,hn7,HMS.o.2.2.1,(H1.o.2.2.1.keep (hB2.block gm H1.o.2.2.2)).keep (hF3.block gm (Zn H1.o.2.2.2 hB2.size) hgm7),Zn (Zn H1.o.2.2.2 hB2.size) hF3.size⟩;have HG7:=Zc (Zd hn7 (Zd hv7 hw7));have HGR:Hid (gr<W.heap.size∧RGx b c gr∧gr≠b):=⟨hgl,hgx,hgb⟩;clear hX3 hF3 hB2 hz2 hfz hgx hvr hn7 hv7;go_upto_region 9 with(fail)
     clear z0 z1 z2 z3 z4 z5 y0 y1 y2 y3 y4 y5 d0 d1 d2 d3 d4 d5 c3 b1 hW2;generalize ((((((W2.setCell ⟨g7,0,none⟩ (.int .i64 xref)).setCell ⟨g7,1,none⟩ (.int .i64 qq)).setCell ⟨g7,2,none⟩ (.int .u8 qo.toNat)).setCell ⟨g7,3,none⟩ (.int .i64 qm)).setCell ⟨g7,4,none⟩ (.int .i64 qn)).setCell ⟨g7,5,none⟩ (.int .i64 qp))=W3 at *;obtain⟨q0,q1,q2,q3,q4,q5⟩:=Xl ⟨xref,qq,qo,qm,qn,qp⟩ (Zm _ _) I3.o.b7;simp only at q0 q1 q2 q3 q4 q5;obtain⟨g8,hg8⟩:=Za (W3.heap.size);obtain⟨W4,hW4⟩:=Za (W3.alloc (.cells #[.int .i64 0,.int .i64 0,.int .u8 0,.int .i64 0,.int .i64 0,.int .i64 0] 40));have hB4:Below W3.heap.size W3 W4:=by rw[←hW4];exact(Zm _ _).alloc (Zh _) _
     have hz4:W4.heap[g8]?=some (.cells #[.int .i64 0,.int .i64 0,.int .u8 0,.int .i64 0,.int .i64 0,.int .i64 0] 40):=by rw[←hW4,YX,Zg hg8.symm]
     have z0:W4.cell? ⟨g8,0,none⟩=some (.int .i64 0):=Zk W4 g8 0 _ _ (0,0) hz4;have z1:W4.cell? ⟨g8,1,none⟩=some (.int .i64 0):=Zk W4 g8 1 _ _ (0,0) hz4;have z2:W4.cell? ⟨g8,2,none⟩=some (.int .u8 0):=Zk W4 g8 2 _ _ (0,0) hz4;have z3:W4.cell? ⟨g8,3,none⟩=some (.int .i64 0):=Zk W4 g8 3 _ _ (0,0) hz4;have z4:W4.cell? ⟨g8,4,none⟩=some (.int .i64 0):=Zk W4 g8 4 _ _ (0,0) hz4;have z5:W4.cell? ⟨g8,5,none⟩=some (.int .i64 0):=Zk W4 g8 5 _ _ (0,0) hz4;have y0:W4.frozen? ⟨g8,0,none⟩=false:=by simp[World.frozen?,hz4]
     have y1:W4.frozen? ⟨g8,1,none⟩=false:=by simp[World.frozen?,hz4]
     have y2:W4.frozen? ⟨g8,2,none⟩=false:=by simp[World.frozen?,hz4]
     have y3:W4.frozen? ⟨g8,3,none⟩=false:=by simp[World.frozen?,hz4]
     have y4:W4.frozen? ⟨g8,4,none⟩=false:=by simp[World.frozen?,hz4]
     have y5:W4.frozen? ⟨g8,5,none⟩=false:=by simp[World.frozen?,hz4]
     have hX5:=set6 (.int .i64 xref) (.int .i64 qq) (.int .u8 qo.toNat) (.int .i64 qm) (.int .i64 qn) (.int .i64 qp) hz4;have hF5:=Zfk W4 g8 (.int .i64 xref) (.int .i64 qq) (.int .u8 qo.toNat) (.int .i64 qm) (.int .i64 qn) (.int .i64 qp);have hg7l:g7<W3.heap.size:=(Ze.1 I3.o.b7).1;have hn8:¬RGx b c g8:=λe=>by have:=I3.o.bo.at_.lt _ e;omega
     have hv8:c.vc.ownBlock≠some g8:=λe=>by have:=I3.o.bo.at_.came.lt e;omega
     have hw8:w.heap.size≤g8:=by rw[←hg8];exact I3.o.st.fr.size
     have hgm8:gm≠g8:=by have:=I3.o.gl;omega
     have h78:g7≠g8:=by omega
     have I4:=I3.o.below hB4;have I5:Hid (RpI w ((((((W4.setCell ⟨g8,0,none⟩ (.int .i64 xref)).setCell ⟨g8,1,none⟩ (.int .i64 qq)).setCell ⟨g8,2,none⟩ (.int .u8 qo.toNat)).setCell ⟨g8,3,none⟩ (.int .i64 qm)).setCell ⟨g8,4,none⟩ (.int .i64 qn)).setCell ⟨g8,5,none⟩ (.int .i64 qp)) b c c r came g7 g8 ⟨xref,qq,qo,qm,qn,qp⟩ ⟨xref,qq,qo,qm,qn,qp⟩ gm om m):=⟨I4.bo.off hF5 (λk e=>by have e:k=g8:=e;rw[e];exact hn8) (λk e=>by have e:k=g8:=e;rw[e];exact hv8),I4.st.own hF5 hw8,(hF5.block g7 (Zn hg7l hB4.size) h78).trans I4.b7,hX5,I4.n7,hn8,I4.nm,I4.lm.keep (hF5.block gm I4.gl hgm8),Zn I4.gl hF5.size⟩;have HG8:=Zc (Zd hn8 (Zd hv8 hw8));clear hX5 hF5 hB4 hz4 I4 hn8 hv8;go_upto_region 10 with(fail)
     clear z0 z1 z2 z3 z4 z5 y0 y1 y2 y3 y4 y5 q0 q1 q2 q3 q4 q5 hW4;generalize ((((((W4.setCell ⟨g8,0,none⟩ (.int .i64 xref)).setCell ⟨g8,1,none⟩ (.int .i64 qq)).setCell ⟨g8,2,none⟩ (.int .u8 qo.toNat)).setCell ⟨g8,3,none⟩ (.int .i64 qm)).setCell ⟨g8,4,none⟩ (.int .i64 qn)).setCell ⟨g8,5,none⟩ (.int .i64 qp))=W5 at *;obtain⟨q0,q1,q2,q3,q4,q5⟩:=Xl ⟨xref,qq,qo,qm,qn,qp⟩ (Zm _ _) I5.o.b8;simp only at q0 q1 q2 q3 q4 q5;have y0:W5.frozen? ⟨g8,0,none⟩=false:=by simp[World.frozen?,I5.o.b8]
     have y1:W5.frozen? ⟨g8,1,none⟩=false:=by simp[World.frozen?,I5.o.b8]
     have y4:W5.frozen? ⟨g8,4,none⟩=false:=by simp[World.frozen?,I5.o.b8]
     have y5:W5.frozen? ⟨g8,5,none⟩=false:=by simp[World.frozen?,I5.o.b8]
     have c6:W5.cell? ⟨b,6,none⟩=some (.int .i64 (r.qg:Nat)):=by have:=I5.o.bo.at_.is.cell 6;rw[←HH.o.qg];exact this
     have f6:=I5.o.bo.at_.is.frozen 6;obtain⟨R,hR1⟩:=Za (r.qg+1);have wR:IntKind.i64.wrap ((r.qg:Int)+1)=(R:Int):=by rw[Zq];omega
     have hRb:R≤9223372036854775807:=by omega
     have HRR:=Zc hR1;have h8b:¬g8=b:=λe=>I5.o.n8 (by rw[e];exact .inl rfl);have h8b':¬b=g8:=λe=>h8b e.symm;have hgmb:gm≠b:=λe=>I5.o.nm (by rw[e];exact .inl rfl);obtain⟨A6,S6⟩:=I5.o.bo.setRefs R;have I6:=I5.o.stp A6 S6;have L7:=Zcn I6.lm I6.gl ⟨g8,0,none⟩ (.int .i64 (R:Nat)) hgm8;have L8:=Zcn L7 (by rw[Xw];exact I6.gl) ⟨g8,1,none⟩ (.int .i64 (tn:Nat)) hgm8;have L9:=Zcn L8 (by rw[Xw,Xw];exact I6.gl) ⟨g8,4,none⟩ (.int .i64 (pr:Nat)) hgm8;have hF9:Fr (λk=>k=g8) (W5.setCell ⟨b,6,none⟩ (.int .i64 (R:Nat))) (((((W5.setCell ⟨b,6,none⟩ (.int .i64 (R:Nat))).setCell ⟨g8,0,none⟩ (.int .i64 (R:Nat))).setCell ⟨g8,1,none⟩ (.int .i64 (tn:Nat))).setCell ⟨g8,4,none⟩ (.int .i64 (pr:Nat))).setCell ⟨g8,5,none⟩ (.int .i64 (sh:Nat))):=(((Fr.setCell _ ⟨g8,0,none⟩ _).trans (Fr.setCell _ ⟨g8,1,none⟩ _) (λ_ _ e=>e)).trans (Fr.setCell _ ⟨g8,4,none⟩ _) (λ_ _ e=>e)).trans (Fr.setCell _ ⟨g8,5,none⟩ _) (λ_ _ e=>e);have hX9:(((((W5.setCell ⟨b,6,none⟩ (.int .i64 (R:Nat))).setCell ⟨g8,0,none⟩ (.int .i64 (R:Nat))).setCell ⟨g8,1,none⟩ (.int .i64 (tn:Nat))).setCell ⟨g8,4,none⟩ (.int .i64 (pr:Nat))).setCell ⟨g8,5,none⟩ (.int .i64 (sh:Nat))).heap[g8]?=some (.cells (Ord.cells ⟨R,tn,qo,qm,pr,sh⟩).toArray 40):=QL (o:=⟨R,tn,qo,qm,pr,qp⟩) (QL (o:=⟨R,tn,qo,qm,qn,qp⟩) (QL (o:=⟨R,qq,qo,qm,qn,qp⟩) (QL I6.b8 (o':=⟨R,qq,qo,qm,qn,qp⟩) rfl) (o':=⟨R,tn,qo,qm,qn,qp⟩) rfl) (o':=⟨R,tn,qo,qm,pr,qp⟩) rfl) rfl;have I9:Hid (RpI w (((((W5.setCell ⟨b,6,none⟩ (.int .i64 (R:Nat))).setCell ⟨g8,0,none⟩ (.int .i64 (R:Nat))).setCell ⟨g8,1,none⟩ (.int .i64 (tn:Nat))).setCell ⟨g8,4,none⟩ (.int .i64 (pr:Nat))).setCell ⟨g8,5,none⟩ (.int .i64 (sh:Nat))) b c {c with qg:=R} {r with qg:=R} came g7 g8 ⟨xref,qq,qo,qm,qn,qp⟩ ⟨R,tn,qo,qm,pr,sh⟩ gm om m):=⟨I6.bo.off hF9 (λk e=>by have e:k=g8:=e;rw[e];exact I6.n8) (λk e=>by have e:k=g8:=e;rw[e];exact HG8.o.2.1),I6.st.own hF9 HG8.o.2.2,(hF9.block g7 (Ze.1 I6.b7).1 h78).trans I6.b7,hX9,I6.n7,I6.n8,I6.nm,I6.lm.keep (hF9.block gm I6.gl hgm8),Zn I6.gl hF9.size⟩;have HLL:=Zc (Zd L7 (Zd L8 L9));have HL6:=Zc I6.lm;clear A6 S6 I6 L7 L8 L9 hF9 hX9 hR1;go_wp2_with fail;refine(HVn.o _ HLL.o.1).mono (Zb ?_);go_wp2_with fail;refine(HVp.o _ HLL.o.2.1).mono (Zb ?_);go_wp2_with fail;refine(HVs.o _ HLL.o.2.2).mono (Zb ?_);go_upto_region 15 with(fail)
     clear q0 q1 q2 q3 q4 q5 y0 y1 y4 y5 c6 f6 wR HLL HVn HVp HVs HL6;generalize (((((W5.setCell ⟨b,6,none⟩ (.int .i64 (R:Nat))).setCell ⟨g8,0,none⟩ (.int .i64 (R:Nat))).setCell ⟨g8,1,none⟩ (.int .i64 (tn:Nat))).setCell ⟨g8,4,none⟩ (.int .i64 (pr:Nat))).setCell ⟨g8,5,none⟩ (.int .i64 (sh:Nat)))=W9 at *;obtain⟨ru,nu,n1,cu,rb,cb,w3,hvu,hn1,hrun,his3,hbo3,hst3⟩:=Zf0 I9.o.bo tn hus;obtain⟨q0,q1,q2,q3,q4,q5⟩:=Xl ⟨R,tn,qo,qm,pr,sh⟩ (Zm _ _) I9.o.b8;simp only at q0 q1 q2 q3 q4 q5;have c4:W9.cell? ⟨b,4,none⟩=some (.slice ru nu cu):=by rw[←hvu];exact I9.o.bo.at_.is.cell 4
     have gA:(W9.alloc (.cells #[.int .i64 tn] 3)).cell? ⟨b,4,none⟩=some (.slice ru nu cu):=by rw[World.cell?_alloc_some _ _ _ (by rw[c4];rfl)];exact c4
     have c43:w3.cell? ⟨b,4,none⟩=some c.vu:=his3.cell 4;have z3:=his3.frozen 4;have I10:Hid (RpI w (w3.setCell ⟨b,4,none⟩ (.slice rb n1 cb)) b c {c with qg:=R,vu:=.slice rb n1 cb} {r with qg:=R,us:=r.us++[tn]} came g7 g8 ⟨xref,qq,qo,qm,qn,qp⟩ ⟨R,tn,qo,qm,pr,sh⟩ gm om m):=I9.o.stp hbo3 hst3;clear hbo3 hst3 his3 hvu hn1;go_cut [5] from 9 (λs5 wx=>s5=.int .u8 (wn:Nat)∧wx=w3.setCell ⟨b,4,none⟩ (.slice rb n1 cb))
     case first=>
      go_region_with fail
      all_goals
       go_wp2_with fail;go_meet
       case rel=>exact⟨rfl,rfl⟩
     case rest=>
      obtain⟨rfl,hw⟩:=hcut;replace hw:=hw.symm;subst hw;clear hrun c4 gA c43 z3 q0 q1 q2 q3 q4 q5;generalize w3.setCell ⟨b,4,none⟩ (.slice rb n1 cb)=W10 at *;obtain⟨q0,q1,q2,q3,q4,q5⟩:=Xl ⟨R,tn,qo,qm,pr,sh⟩ (Zm _ _) I10.o.b8;simp only at q0 q1 q2 q3 q4 q5;have hl8:g8<W10.heap.size:=(Ze.1 I10.o.b8).1;go_wp2_with fail;refine Xg 82 9 _ ?_;refine Xp (by kernel_rfl) [0,1,2,3,4,5,6,7,8] 10 (by kernel_rfl) (by decide) 9 rfl rfl (rgD W10.heap.size (RGx b {c with qg:=R,vu:=.slice rb n1 cb}) [.val (.pointer (some ⟨b,0,none⟩)),.val (.slice (some ⟨gm,om,none⟩) 12 cm),.val (.slice (some ⟨gm,om+4,none⟩) 8 (cm-4)),.val (.pointer (some ⟨g8,0,none⟩)),.val (.int .i64 (R:Nat)),.bytes (enc (R) 4),.val (.slice (some ⟨gm,om,none⟩) 12 cm),.val (.slice (some ⟨gm,om,none⟩) 4 cm),.fs [(m.drop 4).take 8,enc R 4,m.take 4]]) (Below W10.heap.size W10) rfl ⟨rfl,rfl,rfl,Zh _,λ_ _=>rfl⟩ ?_ ?_
      ·intro i o hi ho vals W hvl hR qh K hK;obtain⟨x0,x1,x2,x3,x4,x5,x6,x7,x8,x9,rfl⟩:=Zjs vals hvl;unfold Xe;simp only[ZA,ZI,ZB,ZJ,ZF,Zr];have qa0:=(hR.cell (p:=⟨g8,0,none⟩) hl8).trans q0;have hcase:i=5∨i=8∨i=0∨i=1∨i=2∨i=3∨i=4∨i=6∨i=7:=by omega
       rcases hcase with rfl|rfl|rfl|rfl|rfl|rfl|rfl|rfl|rfl<;>obtain rfl:=Zv ho<;>clear ho hvl
       ·obtain⟨rfl,-⟩:=Xi qh;clear qh;go_wp2_with (go_at_call 85;refine(Xu (R) 4 _ (by omega) (by decide)).mono ?_;rintro e w' ⟨rfl,rfl⟩)
        exact hK _ _ (Xh rfl ⟨W.heap.size,by rw[YZ],by rw[YX,Zg rfl]<;>rfl,hR.size⟩) (hR.alloc hR.size _) (Xo ((Zm _ _).alloc (Zh _) _))
       ·obtain⟨rfl,⟨g5,rfl,hg5,hb5⟩,rfl,-⟩:=Xi qh;clear qh;go_wp2_with fail;refine hK _ _ (Xh rfl (Ut _ _ 3 rfl rfl ?_)) (hR.alloc hR.size _) (Xo ((Zm _ _).alloc (Zh _) _));intro i v l hv hl;have hi:i=0∨i=1∨i=2:=by have:=(Zl.1 hv).1;simp at this;omega
        rcases hi with rfl|rfl|rfl
        ·cases hv;cases hl;exact Zfr (I10.o.lm.keep (hR.block gm I10.o.gl)) (Zn I10.o.gl hR.size) I10.o.nm 4 8 (cm-4) (by rw[HMS.o.2.2.2.1];decide) (by have:=HMS.o.2.2.2.2;omega) (by unfold maxLen;omega)
        ·cases hv;cases hl;exact XG (by first|rfl|rw[YZ]) (λe=>by have:=I10.o.bo.at_.lt _ e;omega) (by first|(rw[YZ];decide)|simp) hg5
        ·cases hv;cases hl;exact TH (I10.o.lm.keep (hR.block gm I10.o.gl)) (Zn I10.o.gl hR.size) I10.o.nm 4 cm (by rw[HMS.o.2.2.2.1];decide) (by have:=HMS.o.2.2.2.2;omega) (by unfold maxLen;omega)
       all_goals (have d:=Xi qh;clear qh;try (obtain⟨rfl,-⟩:=d);go_wp2_with fail;exact hK _ _ (Xh rfl rfl) hR (λ_ _ h=>h))
      ·intro o ho vals W hvl hR qh K hK;obtain⟨x0,x1,x2,x3,x4,x5,x6,x7,x8,x9,rfl⟩:=Zjs vals hvl;obtain rfl:=Zv ho;clear ho hvl;unfold Xe;simp only[ZA,ZI,ZB,ZJ,ZF,Zr];obtain⟨rfl,rfl,rfl,rfl,rfl,⟨g5,rfl,hg5,hb5⟩,rfl,rfl,-⟩:=Ve qh;have e8:=qh 8 (by omega) _ rfl;have e8:FsAt W (RGx b {c with qg:=R,vu:=.slice rb n1 cb}) x8 _:=e8;obtain⟨rf8,cf8,ef8,-,-⟩:=e8.form;subst ef8;clear qh;go_wp2_with fail;have h8l:((m.drop 4).take 8).length=8:=by rw[ZD,Zt,HMS.o.2.2.2.1];rfl
       have h4l:(m.take 4).length=4:=by rw[ZD,HMS.o.2.2.2.1];rfl
       refine(Uz (letter:=85) I10.o.bo hR ht _ _ e8 (by simp only[ZR,ZZ,Zf,YZ,ZT,h4l,h8l];show r.out.length+_+_≤_;omega) (by simp)).mono ?_;rintro e W11 ⟨rfl,c11,hb11,hst11,hv11⟩;obtain⟨r11,hr11⟩:∃r11,(Rf.say ({r with qg:=R,us:=r.us++[tn]}) (Rf.head ({r with qg:=R,us:=r.us++[tn]}) 85++[(m.drop 4).take 8,enc R 4,m.take 4].flatten))=r11:=⟨_,rfl⟩;rw[hr11] at hb11;have r11s:r11.S=r.S∧r11.time=r.time∧r11.qi=r.qi∧r11.out.length=r.out.length+23∧r11.on=r.on:=by rw[←hr11];refine⟨rfl,rfl,rfl,?_,rfl⟩;simp only[Rf.say,Rf.head,ZR,ZZ,Zf,YZ,ZT,Zu,h4l,h8l]
       have I11:=Zc (I10.o.stp hb11 hst11);have HV11:Hid (c11.vr=c.vr):=hv11;have HR11:=Zc (Zd hr11 r11s);have HOP:=Zc (Zf2 W11 b c11 r11.S ⟨R,tn,qo,qm,pr,sh⟩ hb11.at_.is hb11.at_.rest (by rw[r11s.1];omega) HX.o.2.2.2);rw[r11s.1] at HOP;have HRE:Hid (∀res:Option Nat,oppI r.S ⟨R,tn,qo,qm,pr,sh⟩=res→r.replace m=(match res with
         | some _=>
          let x:=(({r11 with S:=r.S.eraseIdx ix}:Rf).put (r.head 100++enc xref 4)).meet 65 ⟨R,tn,qo,qm,pr,sh⟩
          if x.2.qa=0 then x.1 else x.1.rest x.2
         | none=>
          let r2:=r11.put (r.head 117++enc xref 4++enc R 4++(m.drop 10).take 2++(m.drop 8).take 2)
          if pr=qn∧sh≤qp then {r2 with S:=r.S.set ix ⟨R,tn,qo,qm,pr,sh⟩} else {r2 with S:=insO ⟨R,tn,qo,qm,pr,sh⟩ (r.S.eraseIdx ix)})):=by
        intro res hres;unfold Rf.replace;rw[HT.o.1,HX.o.2.1];simp only[HX.o.1];rw[Zj (show ¬(r.whyR m≠0) by rw[HWN.o.1];simp[HW0.o])];have e1:r.newOf m ⟨xref,qq,qo,qm,qn,qp⟩=⟨R,tn,qo,qm,pr,sh⟩:=by unfold Rf.newOf;rw[HT.o.2.1,HT.o.2.2.1,HT.o.2.2.2,HRR.o]
        rw[e1,hres];have e2:Rf.say (r.taken tn) (r.head 85++(m.drop 4).take 8++enc R 4++m.take 4)=r11:=by rw[←hr11];unfold Rf.taken;rw[HRR.o];simp only[ZR,ZZ,ZG,Zo];rfl
        simp only[e2];cases res<;>rfl
       clear hb11 hst11 hv11 hr11 r11s q0 q1 q2 q3 q4 q5 hl8 hR h8l h4l;obtain⟨q0,q1,q2,q3,q4,q5⟩:=Xl ⟨R,tn,qo,qm,pr,sh⟩ (Zm _ _) I11.o.b8;simp only at q0 q1 q2 q3 q4 q5;go_wp2_with fail;refine HOP.o.mono ?_;rintro e W12 ⟨rfl,hB12⟩;have I12:=Zc (I11.o.below hB12);clear HOP hB12 q0 q1 q2 q3 q4 q5;obtain⟨p0,p1,p2,p3,p4,p5⟩:=Xl ⟨xref,qq,qo,qm,qn,qp⟩ (Zm _ _) I12.o.b7;obtain⟨q0,q1,q2,q3,q4,q5⟩:=Xl ⟨R,tn,qo,qm,pr,sh⟩ (Zm _ _) I12.o.b8;simp only at p0 p1 p2 p3 p4 p5 q0 q1 q2 q3 q4 q5;have hl7:g7<W12.heap.size:=(Ze.1 I12.o.b7).1;have hl8:g8<W12.heap.size:=(Ze.1 I12.o.b8).1;have hs1:=HX.o.2.2.1.1;simp only at hs1;cases hop:oppI r.S ⟨R,tn,qo,qm,pr,sh⟩ with
       | some j=>
        have HRP:=Zc (HRE.o _ hop);simp only at HRP;clear hop HRE;simp only[ixI];have i9:(0:Int)≤(j:Int):=by omega
        go_wp2_with fail;refine(Xu xref 4 W12 hs1 (by decide)).mono ?_;rintro e W13 ⟨rfl,hW13⟩;have hB13:Below W12.heap.size W12 W13:=by rw[hW13];exact(Zm _ _).alloc (Zh _) _
        have hr13:W13.heap[W12.heap.size]?=some (.cells ((enc xref 4).map B).toArray 5):=by rw[hW13,YX,Zg rfl]
        have hn13:¬RGx b c11 W12.heap.size:=λe=>by have:=I12.o.bo.at_.lt _ e;omega
        have hFS:FsAt (W13.alloc (.cells #[.slice (some ⟨W12.heap.size,0,none⟩) 4 4] 36)) (RGx b c11) (.slice (some ⟨W13.heap.size,0,none⟩) 1 1) [enc xref 4]:=by
         refine Ut [.slice (some ⟨W12.heap.size,0,none⟩) 4 4] _ 1 rfl rfl ?_;intro i v l hv hl;have hi:i=0:=by have:=(Zl.1 hv).1;simp at this;omega
         subst hi;cases hv;cases hl;exact XG (by rw[YZ]) hn13 (by rw[YZ];decide) hr13
        have HON:=Zc (Zds (letter:=100) I12.o.bo (hB13.alloc hB13.size _) (by rw[HR11.o.2.2.1];exact ht) _ _ hFS (by simp only[ZR,ZZ,Zf,YZ,ZT,HR11.o.2.2.2.2.2];omega) (by simp));clear hFS hn13 hr13 hB13 hW13;go_wp2_with fail;refine HON.o.mono ?_;rintro e W14 ⟨rfl,c14,hb14,hst14,hv14⟩;clear HON p0 p1 p2 p3 p4 p5 q0 q1 q2 q3 q4 q5;obtain⟨r14,hr14⟩:=Za (Rf.put r11 (r11.head 100++[enc xref 4].flatten));rw[hr14] at hb14;have r14s:r14.S=r.S∧r14.time=r.time∧r14.qi=r.qi∧r14.out.length=r.out.length+23∧r14.on.length=r.on.length+11:=by rw[←hr14];refine⟨HR11.o.2.1,HR11.o.2.2.1,HR11.o.2.2.2.1,HR11.o.2.2.2.2.1,?_⟩;simp only[Rf.put,Rf.head,ZR,ZZ,Zf,YZ,ZT,Zu,HR11.o.2.2.2.2.2]
        have HR14:=Zc (Zd hr14 r14s);have I14:=Zc (I12.o.stp hb14 hst14);have hrs:=hb14.at_.rest;rw[r14s.1] at hrs;have hvv:c14.vr=.slice (some ⟨gr,0,none⟩) N cap:=by rw[hv14,HV11.o,HVR.o.1,HVR.o.2]
        have HWO:=Zc (XV W14 0 c14.vr r.S ix hrs (Zl.1 HX.o.1).1 (by omega));have k3:W14.cell? ⟨b,3,none⟩=some c14.vr:=hb14.at_.is.cell 3;rw[hvv] at k3 HWO;clear hb14 hst14 hv14 hr14 r14s hrs hvv;go_wp2_with fail;refine HWO.o.mono ?_;rintro e W15 ⟨v15,rfl,hr15,hB15⟩;obtain⟨ra15,cap15,hv15,-,-,-⟩:=hr15.form;obtain⟨N15,hN15⟩:=Za ((r.S.eraseIdx ix).length);rw[hN15] at hv15;subst hv15;obtain⟨A16,S16⟩:=I14.o.bo.setRow hB15 hr15;have hx15:=I14.o.bo.below hB15;have k8:W15.cell? ⟨b,3,none⟩=some c14.vr:=hx15.at_.is.cell 3;have f8:=hx15.at_.is.frozen 3;have I16:=Zc (I14.o.stp A16 S16);have hlen15:N15≤N:=by rw[←hN15,←HVR.o.2,YS];split<;>omega
        have HN15:=Zc (Zd hN15 hlen15);clear A16 S16 hx15 hr15 hB15 HWO k3 hN15 hlen15;obtain⟨r16,hr16⟩:∃r16,({r14 with S:=r.S.eraseIdx ix}:Rf)=r16:=⟨_,rfl⟩;rw[hr16] at I16;have r16s:r16.S=r.S.eraseIdx ix∧r16.time=r.time∧r16.qi=r.qi∧r16.out.length=r.out.length+23∧r16.on.length=r.on.length+11:=by rw[←hr16];exact⟨rfl,HR14.o.2.2.1,HR14.o.2.2.2.1,HR14.o.2.2.2.2.1,HR14.o.2.2.2.2.2⟩
        obtain⟨X,hX⟩:∃X,r16.meet 65 ⟨R,tn,qo,qm,pr,sh⟩=X:=⟨_,rfl⟩;have hml:=Zdd 65 r16 ⟨R,tn,qo,qm,pr,sh⟩;have hshp:1≤sh:=by
         have h1:=HWN.o.2;have h2:=HBD.o;have h3:=HW0.o;by_cases hu:tn∈r.us
         ·rw[Zg hu] at h1;omega
         ·rw[Zj hu] at h1;rw[←h1,h3] at h2;unfold badN at h2;split at h2
          ·cases h2
          ·split at h2
           ·cases h2
           ·omega
        have hN64:r.S.length=N:=HVR.o.2;have hn15:=HN15.o;have HMT:=Zc (Zec I16.o.bo ⟨R,tn,qo,qm,pr,sh⟩ HX.o.2.2.2 ⟨hRb,by show tn≤_;omega,by show pr≤_;omega,hshp,by show sh≤_;omega⟩ (by rw[r16s.1];exact λx hx=>hsm x (List.mem_of_mem_eraseIdx hx)) (by rw[r16s.1,hn15.1];omega) (by rw[r16s.2.1];exact ht) (by rw[r16s.2.2.1];exact hmt) (by rw[r16s.2.2.2.1];omega) (by rw[r16s.2.2.2.2];omega));rw[hX] at HMT hml;have HRP2:Hid (r.replace m=if X.2.qa=0 then X.1 else X.1.rest X.2):=by
         show _=_;rw[HRP.o];have e:Rf.put ({r11 with S:=r.S.eraseIdx ix}:Rf) (r.head 100++enc xref 4)=r16:=by rw[←hr16,←HR14.o.1];simp only[ZR,ZZ,ZG];unfold Rf.put Rf.head;rw[HR11.o.2.2.1]
         rw[e,hX]
        have HBD2:Hid (X.1.S.length≤64∧X.1.time≤9223372036854775807∧X.1.on.length+17≤140737488355328):=by
         have h1:r16.S.length=N15:=by rw[r16s.1];exact hn15.1
         obtain⟨-,-,m3,m4,m5,m6⟩:=hml;exact⟨by omega,by rw[m5,r16s.2.1];exact ht,by omega⟩
        have HX2:=Zc (Zd hX (Zd hml.1 hml.2.1));clear hr16 r16s hX hml hshp hn15 hN64;obtain⟨W16,hW16⟩:=Za (W15.setCell ⟨b,3,none⟩ (.slice ra15 N15 cap15));rw[hW16] at I16 HMT;obtain⟨q0,q1,q2,q3,q4,q5⟩:=Xl ⟨R,tn,qo,qm,pr,sh⟩ (Zm _ _) I16.o.b8;simp only at q0 q1 q2 q3 q4 q5;go_wp2_with fail;refine HMT.o.mono ?_;rintro e W17 ⟨rfl,c17,hb17,hst17⟩;clear HMT q0 q1 q2 q3 q4 q5;have I17:=I16.o.stp hb17 hst17;obtain⟨s8,hs8⟩:=Za (X.2.qa);rw[hs8];have hF18:=Fr.setCell W17 ⟨g8,5,none⟩ (.int .i64 (s8:Nat));have hcv17:c17.vc.ownBlock≠some g8:=λe=>by rw[I17.st.vc] at e;exact HG8.o.2.1 e
        have A18:=hb17.off hF18 (λk e=>by have e:k=g8:=e;rw[e];exact I17.n8) (λk e=>by have e:k=g8:=e;rw[e];exact hcv17);have S18:=I17.st.own hF18 HG8.o.2.2;have hX18:(W17.setCell ⟨g8,5,none⟩ (.int .i64 (s8:Nat))).heap[g8]?=some (.cells (Ord.cells ⟨R,tn,qo,qm,pr,s8⟩).toArray 40):=QL I17.b8 rfl;have H18:=Zc (Zd A18 (Zd S18 hX18));have k5:W17.cell? ⟨g8,5,none⟩=some (.int .i64 (sh:Nat)):=(Xl ⟨R,tn,qo,qm,pr,sh⟩ (Zm _ _) I17.b8).2.2.2.2.2;have f5:W17.frozen? ⟨g8,5,none⟩=false:=by simp[World.frozen?,I17.b8]
        have hs82:s8≤sh:=by have:=HX2.o.2.2;rw[hs8] at this;exact this
        have HX3:Hid (X.2=⟨R,tn,qo,qm,pr,s8⟩):=by have:=HX2.o.2.1;rw[hs8] at this;exact this
        have HS8:=Zc hs8;clear A18 S18 hX18 hF18 hcv17 hb17 hst17 I17 hs8;by_cases hs0:s8=0
        ·have b2:¬(0:Int)<(s8:Int):=by omega
         have HE0:Hid (s8=0):=hs0;clear hs0;go_wp2_with fail;refine ZC (Yu rfl _ _ _) rfl ?_;refine⟨rfl,c17,?_,H18.o.2.1⟩;rw[HRP2.o,Zg (by rw[HS8.o];exact HE0.o)];exact H18.o.1
        ·have b2:(0:Int)<(s8:Int):=by omega
         have HE0:Hid (s8≠0):=hs0;clear hs0;obtain⟨q0,q1,q2,q3,q4,q5⟩:=Xl ⟨R,tn,qo,qm,pr,s8⟩ (Zm _ _) H18.o.2.2;simp only at q0 q1 q2 q3 q4 q5;have HRS:=Zc (Zdv H18.o.1 ⟨R,tn,qo,qm,pr,s8⟩ (by have:=HBD2.o.1;omega) HBD2.o.2.1 HBD2.o.2.2 hRb (by show s8≤_;omega) (by show pr≤_;omega));go_wp2_with fail;refine HRS.o.mono ?_;rintro e W19 ⟨rfl,c19,hb19,hst19⟩;have H19:=Zc (Zd hb19 hst19);clear HRS hb19 hst19 q0 q1 q2 q3 q4 q5;go_wp2_with fail;refine ZC (Yu rfl _ _ _) rfl ?_;refine⟨rfl,c19,?_,H18.o.2.1.trans H19.o.2⟩;rw[HRP2.o,Zj (by rw[HS8.o];exact HE0.o),HX3.o];exact H19.o.1
       | none=>
        have HRP:=Zc (HRE.o _ hop);simp only at HRP;clear hop HRE;simp only[ixI];go_wp2_with fail;refine Xg 121 12 _ ?_;refine Xp (by kernel_rfl) [0,1,2,3,4,5,6,7,8,9,10,11] 13 (by kernel_rfl) (by decide) 12 rfl rfl (rgD W12.heap.size (RGx b c11) [.val (.pointer (some ⟨b,0,none⟩)),.val (.pointer (some ⟨g7,0,none⟩)),.val (.int .i64 (xref:Nat)),.bytes (enc (xref) 4),.val (.pointer (some ⟨g8,0,none⟩)),.val (.int .i64 (R:Nat)),.bytes (enc (R) 4),.val (.slice (some ⟨gm,om,none⟩) 12 cm),.val (.slice (some ⟨gm,om+10,none⟩) 2 (cm-10)),.val (.slice (some ⟨gm,om,none⟩) 12 cm),.val (.slice (some ⟨gm,om+8,none⟩) 2 (cm-8)),.fs [enc xref 4,enc R 4,(m.drop 10).take 2,(m.drop 8).take 2]]) (Below W12.heap.size W12) rfl ⟨rfl,rfl,rfl,Zh _,λ_ _=>rfl⟩ ?_ ?_
        ·intro i o hi ho vals W hvl hR qh K hK;obtain⟨x0,x1,x2,x3,x4,x5,x6,x7,x8,x9,x10,x11,x12,rfl⟩:=lsl13 vals hvl;unfold Xe;simp only[ZA,ZI,ZB,ZJ,ZF,Zr];have qa0:=(hR.cell (p:=⟨g7,0,none⟩) hl7).trans p0;have qa1:=(hR.cell (p:=⟨g8,0,none⟩) hl8).trans q0;have hcase:i=3∨i=6∨i=11∨i=0∨i=1∨i=2∨i=4∨i=5∨i=7∨i=8∨i=9∨i=10:=by omega
         rcases hcase with rfl|rfl|rfl|rfl|rfl|rfl|rfl|rfl|rfl|rfl|rfl|rfl<;>obtain rfl:=Zv ho<;>clear ho hvl
         ·obtain⟨rfl,-⟩:=Xi qh;clear qh;go_wp2_with (go_at_call 85;refine(Xu (xref) 4 _ (by omega) (by decide)).mono ?_;rintro e w' ⟨rfl,rfl⟩)
          exact hK _ _ (Xh rfl ⟨W.heap.size,by rw[YZ],by rw[YX,Zg rfl]<;>rfl,hR.size⟩) (hR.alloc hR.size _) (Xo ((Zm _ _).alloc (Zh _) _))
         ·obtain⟨rfl,-⟩:=Xi qh;clear qh;go_wp2_with (go_at_call 85;refine(Xu (R) 4 _ (by omega) (by decide)).mono ?_;rintro e w' ⟨rfl,rfl⟩)
          exact hK _ _ (Xh rfl ⟨W.heap.size,by rw[YZ],by rw[YX,Zg rfl]<;>rfl,hR.size⟩) (hR.alloc hR.size _) (Xo ((Zm _ _).alloc (Zh _) _))
         ·obtain⟨⟨g3,rfl,hg3,hb3⟩,⟨g6,rfl,hg6,hb6⟩,rfl,rfl,-⟩:=Xi qh;clear qh;go_wp2_with fail;refine hK _ _ (Xh rfl (Ut _ _ 4 rfl rfl ?_)) (hR.alloc hR.size _) (Xo ((Zm _ _).alloc (Zh _) _));intro i v l hv hl;have hi:i=0∨i=1∨i=2∨i=3:=by have:=(Zl.1 hv).1;simp at this;omega
          rcases hi with rfl|rfl|rfl|rfl
          ·cases hv;cases hl;exact XG (by first|rfl|rw[YZ]) (λe=>by have:=I12.o.bo.at_.lt _ e;omega) (by first|(rw[YZ];decide)|simp) hg3
          ·cases hv;cases hl;exact XG (by first|rfl|rw[YZ]) (λe=>by have:=I12.o.bo.at_.lt _ e;omega) (by first|(rw[YZ];decide)|simp) hg6
          ·cases hv;cases hl;exact Zfr (I12.o.lm.keep (hR.block gm I12.o.gl)) (Zn I12.o.gl hR.size) I12.o.nm 10 2 (cm-10) (by rw[HMS.o.2.2.2.1];decide) (by have:=HMS.o.2.2.2.2;omega) (by unfold maxLen;omega)
          ·cases hv;cases hl;exact Zfr (I12.o.lm.keep (hR.block gm I12.o.gl)) (Zn I12.o.gl hR.size) I12.o.nm 8 2 (cm-8) (by rw[HMS.o.2.2.2.1];decide) (by have:=HMS.o.2.2.2.2;omega) (by unfold maxLen;omega)
         all_goals (have d:=Xi qh;clear qh;try (obtain⟨rfl,-⟩:=d);go_wp2_with fail;exact hK _ _ (Xh rfl rfl) hR (λ_ _ h=>h))
        ·intro o ho vals W hvl hR qh K hK;obtain⟨x0,x1,x2,x3,x4,x5,x6,x7,x8,x9,x10,x11,x12,rfl⟩:=lsl13 vals hvl;obtain rfl:=Zv ho;clear ho hvl;unfold Xe;simp only[ZA,ZI,ZB,ZJ,ZF,Zr];obtain⟨rfl,rfl,rfl,⟨g3,rfl,hg3,hb3⟩,rfl,rfl,⟨g6,rfl,hg6,hb6⟩,rfl,rfl,rfl,rfl,-⟩:=Ve qh;have e11:=qh 11 (by omega) _ rfl;have e11:FsAt W (RGx b c11) x11 _:=e11;obtain⟨rf11,cf11,ef11,-,-⟩:=e11.form;subst ef11;clear qh;go_wp2_with fail;have h2a:((m.drop 10).take 2).length=2:=by rw[ZD,Zt,HMS.o.2.2.2.1];rfl
         have h2b:((m.drop 8).take 2).length=2:=by rw[ZD,Zt,HMS.o.2.2.2.1];rfl
         refine(Zds (letter:=117) I12.o.bo hR (by rw[HR11.o.2.2.1];exact ht) _ _ e11 (by simp only[ZR,ZZ,Zf,YZ,ZT,h2a,h2b,HR11.o.2.2.2.2.2];omega) (by simp)).mono ?_;rintro e W14 ⟨rfl,c14,hb14,hst14,hv14⟩;obtain⟨r14,hr14⟩:=Za (Rf.put r11 (r11.head 117++[enc xref 4,enc R 4,(m.drop 10).take 2,(m.drop 8).take 2].flatten));rw[hr14] at hb14;have HR14:Hid (r14=r11.put (r.head 117++enc xref 4++enc R 4++(m.drop 10).take 2++(m.drop 8).take 2)∧r14.S=r.S):=by refine⟨?_,by rw[←hr14];exact HR11.o.2.1⟩;rw[←hr14];simp only[ZR,ZZ,ZG,Zo];unfold Rf.head;rw[HR11.o.2.2.1]
         have I14:=Zc (I12.o.stp hb14 hst14);have HV14:Hid (c14.vr=.slice (some ⟨gr,0,none⟩) N cap):=by show _=_;rw[hv14,HV11.o,HVR.o.1,HVR.o.2]
         clear hb14 hst14 hv14 hr14 hR h2a h2b p0 p1 p2 p3 p4 p5 q0 q1 q2 q3 q4 q5 hl7 hl8;obtain⟨p0,p1,p2,p3,p4,p5⟩:=Xl ⟨xref,qq,qo,qm,qn,qp⟩ (Zm _ _) I14.o.b7;obtain⟨q0,q1,q2,q3,q4,q5⟩:=Xl ⟨R,tn,qo,qm,pr,sh⟩ (Zm _ _) I14.o.b8;simp only at p0 p1 p2 p3 p4 p5 q0 q1 q2 q3 q4 q5;have hl8:g8<W14.heap.size:=(Ze.1 I14.o.b8).1;have hlb:b<W14.heap.size:=I14.o.bo.at_.is.lt;have k3:W14.cell? ⟨b,3,none⟩=some c14.vr:=I14.o.bo.at_.is.cell 3;rw[HV14.o] at k3;have hx14:r14.S[ix]?=some ⟨xref,qq,qo,qm,qn,qp⟩:=by rw[HR14.o.2];exact HX.o.1
         have HX14:=Zc hx14;clear hx14;by_cases hpe:pr=qn
         ·by_cases hle:sh≤qp
          ·have b3:((pr:Int)==(qn:Int))=true:=by simp[hpe]
           have b4:(sh:Int)≤(qp:Int):=by omega
           have HC:Hid (pr=qn∧sh≤qp):=⟨hpe,hle⟩;clear hpe hle;go_wp2_with fail;refine Xg 146 6 _ ?_;refine Xp (by kernel_rfl) [0,1,2,3,4,5,6] 7 (by kernel_rfl) (by decide) 7 rfl rfl (rgD W14.heap.size (RGx b c14) [.val (.pointer (some ⟨b,0,none⟩)),.val (.pointer (some ⟨b,0,none⟩)),.val (.pointer (some ⟨b,3,none⟩)),.val (.slice (some ⟨gr,0,none⟩) N cap),.val (.int .i64 (ix:Nat)),.val (.agg #[.int .i64 (R:Nat),.int .i64 (tn:Nat),.int .u8 qo.toNat,.int .i64 (qm:Nat),.int .i64 (pr:Nat),.int .i64 (sh:Nat)]),.val (.pointer (some ⟨gr,ix*6,none⟩))]) (Below W14.heap.size W14) rfl ⟨rfl,rfl,rfl,Zh _,λ_ _=>rfl⟩ ?_ ?_
           ·intro i o hi ho vals W hvl hR qh K hK;obtain⟨x0,x1,x2,x3,x4,x5,x6,rfl⟩:=lsl7 vals hvl;unfold Xe;simp only[ZA,ZI,ZB,ZJ,ZF,Zr];have qa0:=(hR.cell (p:=⟨b,3,none⟩) hlb).trans k3;have qa1:=(hR.cell (p:=⟨g8,0,none⟩) hl8).trans q0;have qa2:=(hR.cell (p:=⟨g8,1,none⟩) hl8).trans q1;have qa3:=(hR.cell (p:=⟨g8,2,none⟩) hl8).trans q2;have qa4:=(hR.cell (p:=⟨g8,3,none⟩) hl8).trans q3;have qa5:=(hR.cell (p:=⟨g8,4,none⟩) hl8).trans q4;have qa6:=(hR.cell (p:=⟨g8,5,none⟩) hl8).trans q5;have hcase:i=6∨i=0∨i=1∨i=2∨i=3∨i=4∨i=5:=by omega
            rcases hcase with rfl|rfl|rfl|rfl|rfl|rfl|rfl<;>obtain rfl:=Zv ho<;>clear ho hvl
            ·obtain⟨rfl,rfl,-⟩:=Xi qh;clear qh;go_wp2_with fail;exact hK (.pointer (some ⟨gr,ix*6,none⟩)) _ (Xh rfl rfl) hR (λ_ _ h=>h)
            all_goals (have d:=Xi qh;clear qh;try (obtain⟨rfl,-⟩:=d);go_wp2_with fail;exact hK _ _ (Xh rfl rfl) hR (λ_ _ h=>h))
           ·intro o ho vals W hvl hR qh K hK;obtain⟨x0,x1,x2,x3,x4,x5,x6,rfl⟩:=lsl7 vals hvl;obtain rfl:=Zv ho;clear ho hvl;unfold Xe;simp only[ZA,ZI,ZB,ZJ,ZF,Zr];obtain⟨rfl,rfl,rfl,rfl,rfl,rfl,rfl,-⟩:=Ve qh;clear qh;have hx25:=I14.o.bo.below hR;obtain⟨g25,cap25,hv25,-,-,-,-,-,hfz25,-,d0,d1,d2,d3,d4,d5⟩:=hx25.order HX14.o;have hg25:gr=g25:=by rw[HV14.o] at hv25;simp at hv25;exact hv25.1
            subst hg25;simp only at d0 d1 d2 d3 d4 d5;have y0:=hfz25 (ix*6);have y1:=hfz25 (ix*6+1);have y2:=hfz25 (ix*6+2);have y3:=hfz25 (ix*6+3);have y4:=hfz25 (ix*6+4);have y5:=hfz25 (ix*6+5);obtain⟨A25,S25⟩:=hx25.setOrder HX14.o hv25 ⟨R,tn,qo,qm,pr,sh⟩;have H25:Hid (RBo ((((((W.setCell ⟨gr,ix*6,none⟩ (.int .i64 (R:Nat))).setCell ⟨gr,ix*6+1,none⟩ (.int .i64 (tn:Nat))).setCell ⟨gr,ix*6+2,none⟩ (.int .u8 qo.toNat)).setCell ⟨gr,ix*6+3,none⟩ (.int .i64 (qm:Nat))).setCell ⟨gr,ix*6+4,none⟩ (.int .i64 (pr:Nat))).setCell ⟨gr,ix*6+5,none⟩ (.int .i64 (sh:Nat))) b c14 {r14 with S:=r14.S.set ix ⟨R,tn,qo,qm,pr,sh⟩} came∧RStp W14 ((((((W.setCell ⟨gr,ix*6,none⟩ (.int .i64 (R:Nat))).setCell ⟨gr,ix*6+1,none⟩ (.int .i64 (tn:Nat))).setCell ⟨gr,ix*6+2,none⟩ (.int .u8 qo.toNat)).setCell ⟨gr,ix*6+3,none⟩ (.int .i64 (qm:Nat))).setCell ⟨gr,ix*6+4,none⟩ (.int .i64 (pr:Nat))).setCell ⟨gr,ix*6+5,none⟩ (.int .i64 (sh:Nat))) b c14 c14):=⟨A25,(RStp.below hR).trans S25⟩;clear A25 S25 hx25 hfz25 hv25 hR b3 b4 p0 p1 p2 p3 p4 p5 q0 q1 q2 q3 q4 q5 k3;go_wp2_with fail;refine ZC (Yu rfl _ _ _) rfl ?_;refine⟨rfl,c14,?_,I14.o.st.trans H25.o.2⟩;rw[HRP.o,Zg HC.o,←HR14.o.1];have hres:=H25.o.1;rw[HR14.o.2] at hres;exact hres
          ·have b3:((pr:Int)==(qn:Int))=true:=by simp[hpe]
           have b4:¬(sh:Int)≤(qp:Int):=by omega
           have HC:Hid (¬(pr=qn∧sh≤qp)):=λh=>hle h.2;clear hpe hle;have HWO:=Zc (XV W14 0 c14.vr r14.S ix I14.o.bo.at_.rest (Zl.1 HX14.o).1 (by rw[HR14.o.2];omega));rw[HV14.o] at HWO;go_wp2_with fail;refine HWO.o.mono ?_;rintro e W15 ⟨v15,rfl,hr15,hB15⟩;obtain⟨ra15,cap15,hv15,-,-,-⟩:=hr15.form;obtain⟨N15,hN15⟩:=Za ((r14.S.eraseIdx ix).length);rw[hN15] at hv15;subst hv15;obtain⟨A16,S16⟩:=I14.o.bo.setRow hB15 hr15;have hx15:=I14.o.bo.below hB15;have k8:W15.cell? ⟨b,3,none⟩=some c14.vr:=hx15.at_.is.cell 3;have f8:=hx15.at_.is.frozen 3;have I16:=Zc (I14.o.stp A16 S16);have hlen15:N15≤64:=by rw[←hN15,HR14.o.2,YS];split<;>omega
           have HN15:=Zc hN15;clear A16 S16 hx15 hr15 hB15 HWO k3 hN15 p0 p1 p2 p3 p4 p5 q0 q1 q2 q3 q4 q5;go_wp2_with fail;clear k8 f8;generalize W15.setCell ⟨b,3,none⟩ (.slice ra15 N15 cap15)=W16 at *;obtain⟨q0,q1,q2,q3,q4,q5⟩:=Xl ⟨R,tn,qo,qm,pr,sh⟩ (Zm _ _) I16.o.b8;simp only at q0 q1 q2 q3 q4 q5;have hl16:g8<W16.heap.size:=(Ze.1 I16.o.b8).1;have hlb16:b<W16.heap.size:=I16.o.bo.at_.is.lt;have k16:W16.cell? ⟨b,3,none⟩=some (.slice ra15 N15 cap15):=I16.o.bo.at_.is.cell 3;refine Xg 162 8 _ ?_;refine Xp (by kernel_rfl) [0,1,2,3,4,5,6,7,8] 9 (by kernel_rfl) (by decide) 9 rfl rfl (rgD W16.heap.size (RGx b c14) [.val (.pointer (some ⟨b,0,none⟩)),.val (.pointer (some ⟨b,0,none⟩)),.val (.pointer (some ⟨b,0,none⟩)),.val (.pointer (some ⟨b,3,none⟩)),.val (.slice ra15 N15 cap15),.val (.agg #[.int .i64 (R:Nat),.int .i64 (tn:Nat),.int .u8 qo.toNat,.int .i64 (qm:Nat),.int .i64 (pr:Nat),.int .i64 (sh:Nat)]),.rs (insO ⟨R,tn,qo,qm,pr,sh⟩ (r14.S.eraseIdx ix)),.val (.pointer (some ⟨b,0,none⟩)),.val (.pointer (some ⟨b,3,none⟩))]) (Below W16.heap.size W16) rfl ⟨rfl,rfl,rfl,Zh _,λ_ _=>rfl⟩ ?_ ?_
           ·intro i o hi ho vals W hvl hR qh K hK;obtain⟨x0,x1,x2,x3,x4,x5,x6,x7,x8,rfl⟩:=lsl9 vals hvl;unfold Xe;simp only[ZA,ZI,ZB,ZJ,ZF,Zr];have qa0:=(hR.cell (p:=⟨b,3,none⟩) hlb16).trans k16;have qa1:=(hR.cell (p:=⟨g8,0,none⟩) hl16).trans q0;have qa2:=(hR.cell (p:=⟨g8,1,none⟩) hl16).trans q1;have qa3:=(hR.cell (p:=⟨g8,2,none⟩) hl16).trans q2;have qa4:=(hR.cell (p:=⟨g8,3,none⟩) hl16).trans q3;have qa5:=(hR.cell (p:=⟨g8,4,none⟩) hl16).trans q4;have qa6:=(hR.cell (p:=⟨g8,5,none⟩) hl16).trans q5;have hcase:i=6∨i=0∨i=1∨i=2∨i=3∨i=4∨i=5∨i=7∨i=8:=by omega
            rcases hcase with rfl|rfl|rfl|rfl|rfl|rfl|rfl|rfl|rfl<;>obtain rfl:=Zv ho<;>clear ho hvl
            ·obtain⟨rfl,rfl,-⟩:=Xi qh;clear qh;go_wp2_with (go_at_call 134;refine(VM W 0 (.slice ra15 N15 cap15) (r14.S.eraseIdx ix) ⟨R,tn,qo,qm,pr,sh⟩ (I16.o.bo.below hR).at_.rest (by rw[HN15.o];omega)).mono ?_;rintro e w' ⟨v',rfl,hr',hb'⟩)
             exact hK _ _ (Xh rfl (Xs hr' hR.size)) (hR.trans (hb'.mono hR.size)) (Xo hb')
            all_goals (have d:=Xi qh;clear qh;try (obtain⟨rfl,-⟩:=d);go_wp2_with fail;exact hK _ _ (Xh rfl rfl) hR (λ_ _ h=>h))
           ·intro o ho vals W hvl hR qh K hK;obtain⟨x0,x1,x2,x3,x4,x5,x6,x7,x8,rfl⟩:=lsl9 vals hvl;obtain rfl:=Zv ho;clear ho hvl;unfold Xe;simp only[ZA,ZI,ZB,ZJ,ZF,Zr];obtain⟨rfl,rfl,rfl,rfl,rfl,rfl,-,rfl,rfl,-⟩:=Ve qh;have e6:=qh 6 (by omega) _ rfl;have e6:RsAt W W16.heap.size x6 _:=e6;obtain⟨rv6,cv6,ef6,-,-,-⟩:=e6.form;subst ef6;clear qh;have hx:=I16.o.bo.below hR;have kk3:W.cell? ⟨b,3,none⟩=some (.slice ra15 N15 cap15):=hx.at_.is.cell 3;have ff3:=hx.at_.is.frozen 3;obtain⟨n6,hn6⟩:=Za ((insO ⟨R,tn,qo,qm,pr,sh⟩ (r14.S.eraseIdx ix)).length);rw[hn6] at e6 ⊢;obtain⟨A17,S17⟩:=I16.o.bo.setRow hR e6;have H17:=Zc (Zd A17 S17);clear A17 S17 hx e6 hn6 hR q0 q1 q2 q3 q4 q5 k16;go_wp2_with fail;go_end0
            refine⟨rfl,_,?_,I16.o.st.trans H17.o.2⟩;rw[HRP.o,Zj HC.o,←HR14.o.1];have hres:=H17.o.1;rw[HR14.o.2] at hres;exact hres
         ·have b3:((pr:Int)==(qn:Int))=false:=by rw[Zz];omega
          have HC:Hid (¬(pr=qn∧sh≤qp)):=λh=>hpe h.1;clear hpe;have HWO:=Zc (XV W14 0 c14.vr r14.S ix I14.o.bo.at_.rest (Zl.1 HX14.o).1 (by rw[HR14.o.2];omega));rw[HV14.o] at HWO;go_wp2_with fail;refine HWO.o.mono ?_;rintro e W15 ⟨v15,rfl,hr15,hB15⟩;obtain⟨ra15,cap15,hv15,-,-,-⟩:=hr15.form;obtain⟨N15,hN15⟩:=Za ((r14.S.eraseIdx ix).length);rw[hN15] at hv15;subst hv15;obtain⟨A16,S16⟩:=I14.o.bo.setRow hB15 hr15;have hx15:=I14.o.bo.below hB15;have k8:W15.cell? ⟨b,3,none⟩=some c14.vr:=hx15.at_.is.cell 3;have f8:=hx15.at_.is.frozen 3;have I16:=Zc (I14.o.stp A16 S16);have hlen15:N15≤64:=by rw[←hN15,HR14.o.2,YS];split<;>omega
          have HN15:=Zc hN15;clear A16 S16 hx15 hr15 hB15 HWO k3 hN15 p0 p1 p2 p3 p4 p5 q0 q1 q2 q3 q4 q5;go_wp2_with fail;clear k8 f8;generalize W15.setCell ⟨b,3,none⟩ (.slice ra15 N15 cap15)=W16 at *;obtain⟨q0,q1,q2,q3,q4,q5⟩:=Xl ⟨R,tn,qo,qm,pr,sh⟩ (Zm _ _) I16.o.b8;simp only at q0 q1 q2 q3 q4 q5;have hl16:g8<W16.heap.size:=(Ze.1 I16.o.b8).1;have hlb16:b<W16.heap.size:=I16.o.bo.at_.is.lt;have k16:W16.cell? ⟨b,3,none⟩=some (.slice ra15 N15 cap15):=I16.o.bo.at_.is.cell 3;refine Xg 162 8 _ ?_;refine Xp (by kernel_rfl) [0,1,2,3,4,5,6,7,8] 9 (by kernel_rfl) (by decide) 9 rfl rfl (rgD W16.heap.size (RGx b c14) [.val (.pointer (some ⟨b,0,none⟩)),.val (.pointer (some ⟨b,0,none⟩)),.val (.pointer (some ⟨b,0,none⟩)),.val (.pointer (some ⟨b,3,none⟩)),.val (.slice ra15 N15 cap15),.val (.agg #[.int .i64 (R:Nat),.int .i64 (tn:Nat),.int .u8 qo.toNat,.int .i64 (qm:Nat),.int .i64 (pr:Nat),.int .i64 (sh:Nat)]),.rs (insO ⟨R,tn,qo,qm,pr,sh⟩ (r14.S.eraseIdx ix)),.val (.pointer (some ⟨b,0,none⟩)),.val (.pointer (some ⟨b,3,none⟩))]) (Below W16.heap.size W16) rfl ⟨rfl,rfl,rfl,Zh _,λ_ _=>rfl⟩ ?_ ?_
          ·intro i o hi ho vals W hvl hR qh K hK;obtain⟨x0,x1,x2,x3,x4,x5,x6,x7,x8,rfl⟩:=lsl9 vals hvl;unfold Xe;simp only[ZA,ZI,ZB,ZJ,ZF,Zr];have qa0:=(hR.cell (p:=⟨b,3,none⟩) hlb16).trans k16;have qa1:=(hR.cell (p:=⟨g8,0,none⟩) hl16).trans q0;have qa2:=(hR.cell (p:=⟨g8,1,none⟩) hl16).trans q1;have qa3:=(hR.cell (p:=⟨g8,2,none⟩) hl16).trans q2;have qa4:=(hR.cell (p:=⟨g8,3,none⟩) hl16).trans q3;have qa5:=(hR.cell (p:=⟨g8,4,none⟩) hl16).trans q4;have qa6:=(hR.cell (p:=⟨g8,5,none⟩) hl16).trans q5;have hcase:i=6∨i=0∨i=1∨i=2∨i=3∨i=4∨i=5∨i=7∨i=8:=by omega
           rcases hcase with rfl|rfl|rfl|rfl|rfl|rfl|rfl|rfl|rfl<;>obtain rfl:=Zv ho<;>clear ho hvl
           ·obtain⟨rfl,rfl,-⟩:=Xi qh;clear qh;go_wp2_with (go_at_call 134;refine(VM W 0 (.slice ra15 N15 cap15) (r14.S.eraseIdx ix) ⟨R,tn,qo,qm,pr,sh⟩ (I16.o.bo.below hR).at_.rest (by rw[HN15.o];omega)).mono ?_;rintro e w' ⟨v',rfl,hr',hb'⟩)
            exact hK _ _ (Xh rfl (Xs hr' hR.size)) (hR.trans (hb'.mono hR.size)) (Xo hb')
           all_goals (have d:=Xi qh;clear qh;try (obtain⟨rfl,-⟩:=d);go_wp2_with fail;exact hK _ _ (Xh rfl rfl) hR (λ_ _ h=>h))
          ·intro o ho vals W hvl hR qh K hK;obtain⟨x0,x1,x2,x3,x4,x5,x6,x7,x8,rfl⟩:=lsl9 vals hvl;obtain rfl:=Zv ho;clear ho hvl;unfold Xe;simp only[ZA,ZI,ZB,ZJ,ZF,Zr];obtain⟨rfl,rfl,rfl,rfl,rfl,rfl,-,rfl,rfl,-⟩:=Ve qh;have e6:=qh 6 (by omega) _ rfl;have e6:RsAt W W16.heap.size x6 _:=e6;obtain⟨rv6,cv6,ef6,-,-,-⟩:=e6.form;subst ef6;clear qh;have hx:=I16.o.bo.below hR;have kk3:W.cell? ⟨b,3,none⟩=some (.slice ra15 N15 cap15):=hx.at_.is.cell 3;have ff3:=hx.at_.is.frozen 3;obtain⟨n6,hn6⟩:=Za ((insO ⟨R,tn,qo,qm,pr,sh⟩ (r14.S.eraseIdx ix)).length);rw[hn6] at e6 ⊢;obtain⟨A17,S17⟩:=I16.o.bo.setRow hR e6;have H17:=Zc (Zd A17 S17);clear A17 S17 hx e6 hn6 hR q0 q1 q2 q3 q4 q5 k16;go_wp2_with fail;go_end0
           refine⟨rfl,_,?_,I16.o.st.trans H17.o.2⟩;rw[HRP.o,Zj HC.o,←HR14.o.1];have hres:=H17.o.1;rw[HR14.o.2] at hres;exact hres
    ·have b1:((wn:Int) !=0)=true:=by rw[bne_iff_ne];omega
     have HW0:Hid (wn≠0):=hw0;clear hw0;obtain⟨W3,hW3⟩:=Za (W.alloc (.cells #[.int .u8 (wn:Nat)] 5));have hB3:Below W.heap.size W W3:=by rw[←hW3];exact(Zm _ _).alloc (Zh _) _
     have hB8:B (UInt8.ofNat wn)=.int .u8 (wn:Nat):=by rw[Zem,Int.emod_eq_of_lt (by omega) (by omega)]
     have hw3:W3.heap[W.heap.size]?=some (.cells (([UInt8.ofNat wn]:List UInt8).map B).toArray 5):=by rw[←hW3,YX,Zg rfl,ZV,hB8];rfl
     have hn3:¬RGx b c W.heap.size:=λe=>by have:=H1.o.1.at_.lt _ e;omega
     have hl3:Lies W3 gm om m:=H1.o.2.2.1.keep (hB3.block gm H1.o.2.2.2);have h4l:((m.drop 4).take 4).length=4:=by rw[ZD,Zt,HMS.o.2.2.2.1];rfl
     have hFS:FsAt (W3.alloc (.cells #[.slice (some ⟨gm,om+4,none⟩) 4 (cm-4),.slice (some ⟨W.heap.size,0,none⟩) 1 1] 36)) (RGx b c) (.slice (some ⟨W3.heap.size,0,none⟩) 2 2) [(m.drop 4).take 4,[UInt8.ofNat wn]]:=by
      refine Ut [.slice (some ⟨gm,om+4,none⟩) 4 (cm-4),.slice (some ⟨W.heap.size,0,none⟩) 1 1] _ 2 rfl rfl ?_;intro i v l hv hl;have hi:i=0∨i=1:=by have:=(Zl.1 hv).1;simp at this;omega
      rcases hi with rfl|rfl
      ·cases hv;cases hl;exact Zfr hl3 (Zn H1.o.2.2.2 hB3.size) HMS.o.2.2.1 4 4 (cm-4) (by rw[HMS.o.2.2.2.1];decide) (by have:=HMS.o.2.2.2.2;omega) (by unfold maxLen;omega)
      ·cases hv;cases hl;exact XG rfl hn3 (by simp) hw3
     have HAN:=Zc (Uz (letter:=74) H1.o.1 (hB3.alloc hB3.size _) ht _ _ hFS (by simp only[ZR,ZZ,Zf,Zu,ZT,h4l];omega) (by simp));clear hFS hl3 hn3 hw3 hB3 h4l hB8;go_wp2_with fail;refine HAN.o.mono ?_;rintro e W7 ⟨rfl,c7,hb7,hst7,-⟩;have H7:=Zc (Zd hb7 hst7);clear HAN hb7 hst7;go_wp2_with fail;refine ZC (Yu rfl _ _ _) rfl ?_;refine⟨rfl,c7,?_,H1.o.2.1.trans H7.o.2⟩;have e:r.replace m=r.say (r.head 74++[(m.drop 4).take 4,[UInt8.ofNat wn]].flatten):=by unfold Rf.replace;rw[HT.o.1,HX.o.2.1];simp only[HX.o.1];rw[Zg (show r.whyR m≠0 by rw[HWN.o.1];exact HW0.o),HWN.o.1];simp only[ZR,ZZ,ZG,Zo]
     rw[e];exact H7.o.1
end
end Go.Proofs.YtphkchjejbffeaaGreat
