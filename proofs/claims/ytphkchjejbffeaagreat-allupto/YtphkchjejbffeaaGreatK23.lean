/- D9, DB -/
import Derived.Test.YtphkchjejbffeaaGreatK22
set_option maxHeartbeats 16000000
set_option maxRecDepth 100000
namespace Go.Proofs.YtphkchjejbffeaaGreat
open Tryz
open Go.RowKit
variable {α:Type}
section
open Go.RowKit
attribute [local go_sem ↓] Go.wp_at_zero Go.wp_at_succ
theorem lsl9 (l:List α)(h:l.length=9):∃x0 x1 x2 x3 x4 x5 x6 x7 x8,l=[x0,x1,x2,x3,x4,x5,x6,x7,x8]:=by
 match l,h with
 | [x0,x1,x2,x3,x4,x5,x6,x7,x8],_=>exact⟨x0,x1,x2,x3,x4,x5,x6,x7,x8,rfl⟩
theorem Zi1 (l:List α)(h:l.length=18):∃x0 x1 x2 x3 x4 x5 x6 x7 x8 x9 x10 x11 x12 x13 x14 x15 x16 x17,l=[x0,x1,x2,x3,x4,x5,x6,x7,x8,x9,x10,x11,x12,x13,x14,x15,x16,x17]:=by
 match l,h with
 | [x0,x1,x2,x3,x4,x5,x6,x7,x8,x9,x10,x11,x12,x13,x14,x15,x16,x17],_=>exact⟨x0,x1,x2,x3,x4,x5,x6,x7,x8,x9,x10,x11,x12,x13,x14,x15,x16,x17,rfl⟩
theorem Zdv {w:World}{b:Nat}{c:Rc}{r:Rf}{came:List UInt8}(h:RBo w b c r came)(o:Ord)(hS:r.S.length≤1000000000)(ht:r.time≤9223372036854775807)(hon:r.on.length+17≤140737488355328)(hr:o.ref≤9223372036854775807)(hs:o.qa≤9223372036854775807)(hp:o.qc≤9223372036854775807):
  Calls prog 127 #[.pointer (some ⟨b,0,none⟩),.agg o.cells.toArray] w λe w'=>e=.returned (.tuple #[])∧∃c',RBo w' b c' (r.rest o) came∧RStp w w' b c c':=by
 obtain⟨W0,hW0⟩:=Za (w.alloc (.cells o.cells.toArray 40));obtain⟨bx,hbx⟩:=Za (w.heap.size);have hB0:Below w.heap.size w W0:=by rw[←hW0];exact(Zm _ w).alloc (Zh _) _
 have hxb:W0.heap[bx]?=some (.cells o.cells.toArray 40):=by rw[←hW0,YX,Zg hbx.symm]
 obtain⟨q0,q1,q2,q3,q4,q5⟩:=Xl o (Zm _ _) hxb;have hbl:bx<W0.heap.size:=(Ze.1 hxb).1;have h0:=h.below hB0;have hbx2:bx≠b:=by have:=h.at_.is.lt;omega
 have c3:W0.cell? ⟨b,3,none⟩=some c.vr:=h0.at_.is.cell 3;have hbb:b<W0.heap.size:=h0.at_.is.lt;obtain⟨ra,cap,hvr,-,-,-⟩:=h0.at_.rest.form;obtain⟨n,hn⟩:=Za (r.S.length);rw[hn] at hvr hS;rw[hvr] at c3;have HH:=Zc (Zd h0 (Zd hB0 (Zd hxb hvr)));have HN:=Zc hn;obtain⟨ref,qf,qe,qd,qc,qa⟩:=o;simp only at q0 q1 q2 q3 q4 q5 hr hs hp;clear h h0 hB0 hxb hvr hn;go_enter func127,ntmps127;go_wp2_with fail;clear hW0;refine Xg 4 8 _ ?_;refine Xp (by kernel_rfl) [0,1,2,3,4,5,6,7,8] 9 (by kernel_rfl) (by decide) 9 rfl rfl (rgD W0.heap.size (RGx b c) [.val (.pointer (some ⟨b,0,none⟩)),.val (.pointer (some ⟨b,0,none⟩)),.val (.pointer (some ⟨b,0,none⟩)),.val (.pointer (some ⟨b,3,none⟩)),.val (.slice ra n cap),.val (.agg #[.int .i64 ref,.int .i64 qf,.int .u8 qe.toNat,.int .i64 qd,.int .i64 qc,.int .i64 qa]),.rs (insO ⟨ref,qf,qe,qd,qc,qa⟩ r.S),.val (.pointer (some ⟨b,0,none⟩)),.val (.pointer (some ⟨b,3,none⟩))]) (Below W0.heap.size W0) rfl ⟨rfl,rfl,rfl,Zh _,λ_ _=>rfl⟩ ?_ ?_
 ·intro i o hi ho vals W hvl hR qh K hK;obtain⟨x0,x1,x2,x3,x4,x5,x6,x7,x8,rfl⟩:=lsl9 vals hvl;unfold Xe;simp only[ZA,ZI,ZB,ZJ,ZF,Zr];have qa0:=(hR.cell (p:=⟨b,3,none⟩) hbb).trans c3;have qa1:=(hR.cell (p:=⟨bx,0,none⟩) hbl).trans q0;have qa2:=(hR.cell (p:=⟨bx,1,none⟩) hbl).trans q1;have qa3:=(hR.cell (p:=⟨bx,2,none⟩) hbl).trans q2;have qa4:=(hR.cell (p:=⟨bx,3,none⟩) hbl).trans q3;have qa5:=(hR.cell (p:=⟨bx,4,none⟩) hbl).trans q4;have qa6:=(hR.cell (p:=⟨bx,5,none⟩) hbl).trans q5;have hcase:i=6∨i=0∨i=1∨i=2∨i=3∨i=4∨i=5∨i=7∨i=8:=by omega
  rcases hcase with rfl|rfl|rfl|rfl|rfl|rfl|rfl|rfl|rfl<;>obtain rfl:=Zv ho<;>clear ho hvl
  ·obtain⟨rfl,rfl,-⟩:=Xi qh;clear qh;go_wp2_with (go_at_call 134;refine(VM W 0 (.slice ra n cap) r.S ⟨ref,qf,qe,qd,qc,qa⟩ (HH.o.2.2.2▸(HH.o.1.below hR).at_.rest) (by rw[HN.o];exact hS)).mono ?_;rintro e w' ⟨v',rfl,hr',hb'⟩)
   exact hK _ _ (Xh rfl (Xs hr' hR.size)) (hR.trans (hb'.mono hR.size)) (Xo hb')
  all_goals (have d:=Xi qh;clear qh;try (obtain⟨rfl,-⟩:=d);go_wp2_with fail;exact hK _ _ (Xh rfl rfl) hR (λ_ _ h=>h))
 ·intro o ho vals W hvl hR qh K hK;obtain⟨x0,x1,x2,x3,x4,x5,x6,x7,x8,rfl⟩:=lsl9 vals hvl;obtain rfl:=Zv ho;clear ho hvl;unfold Xe;simp only[ZA,ZI,ZB,ZJ,ZF,Zr];obtain⟨rfl,rfl,rfl,rfl,rfl,rfl,-,rfl,rfl,-⟩:=Ve qh;have e6:=qh 6 (by omega) _ rfl;have e6:RsAt W W0.heap.size x6 _:=e6;obtain⟨rv6,cv6,ef6,-,-,-⟩:=e6.form;subst ef6;clear qh;have hx:=HH.o.1.below hR;have k3:W.cell? ⟨b,3,none⟩=some c.vr:=hx.at_.is.cell 3;have f3:=hx.at_.is.frozen 3;obtain⟨n6,hn6⟩:=Za ((insO ⟨ref,qf,qe,qd,qc,qa⟩ r.S).length);rw[hn6] at e6 ⊢;obtain⟨-,hset,hstp⟩:=HH.o.1.at_.setR hR e6;have H1:Hid (RBo (W.setCell ⟨b,3,none⟩ (.slice rv6 n6 cv6)) b {c with vr:=.slice rv6 n6 cv6} {r with S:=insO ⟨ref,qf,qe,qd,qc,qa⟩ r.S} came∧RStp W0 (W.setCell ⟨b,3,none⟩ (.slice rv6 n6 cv6)) b c {c with vr:=.slice rv6 n6 cv6}):=⟨⟨hset,hx.qk,hx.qj,hx.pool,hx.time,hx.qg,hx.qi,hx.opn⟩,hstp⟩;have hxb1:(W.setCell ⟨b,3,none⟩ (.slice rv6 n6 cv6)).heap[bx]?=some (.cells (Ord.cells ⟨ref,qf,qe,qd,qc,qa⟩).toArray 40):=((Fr.setCell W ⟨b,3,none⟩ (.slice rv6 n6 cv6)).block bx (Zn hbl hR.size) hbx2).trans ((hR.block bx hbl).trans HH.o.2.2.1);have HX1:=Zc hxb1;have HR:=Zc hR;clear e6 hn6 hset hstp hx hxb1 hR;go_wp2_with fail;clear k3 f3 q0 q1 q2 q3 q4 q5 c3;generalize W.setCell ⟨b,3,none⟩ (.slice rv6 n6 cv6)=W1 at *;obtain⟨q0,q1,q2,q3,q4,q5⟩:=Xl ⟨ref,qf,qe,qd,qc,qa⟩ (Zm _ _) HX1.o;simp only at q0 q1 q2 q3 q4 q5;have hbl1:bx<W1.heap.size:=(Ze.1 HX1.o).1;refine Xg 13 17 _ ?_;refine Xp (by kernel_rfl) [0,1,2,3,4,5,6,7,8,9,10,11,12,13,14,15,16] 18 (by kernel_rfl) (by decide) 17 rfl rfl (rgD W1.heap.size (RGx b {c with vr:=.slice rv6 n6 cv6}) [.val (.pointer (some ⟨b,0,none⟩)),.val (.pointer (some ⟨bx,0,none⟩)),.val (.int .i64 ref),.bytes (enc (ref) 4),.val (.pointer (some ⟨bx,2,none⟩)),.val (.int .u8 qe.toNat),.val (.pointer (some ⟨bx,3,none⟩)),.val (.int .i64 qd),.val (.int .u8 ((qd:Int)%256)),.bytes ([qe,UInt8.ofNat qd]),.val (.pointer (some ⟨bx,5,none⟩)),.val (.int .i64 qa),.bytes (enc (qa) 2),.val (.pointer (some ⟨bx,4,none⟩)),.val (.int .i64 qc),.bytes (enc (qc) 2),.fs [enc ref 4,[qe,UInt8.ofNat qd],enc qa 2,enc qc 2]]) (Below W1.heap.size W1) rfl ⟨rfl,rfl,rfl,Zh _,λ_ _=>rfl⟩ ?_ ?_
  ·intro i o hi ho vals W hvl hR qh K hK;obtain⟨x0,x1,x2,x3,x4,x5,x6,x7,x8,x9,x10,x11,x12,x13,x14,x15,x16,x17,rfl⟩:=Zi1 vals hvl;unfold Xe;simp only[ZA,ZI,ZB,ZJ,ZF,Zr];have qa0:=(hR.cell (p:=⟨bx,0,none⟩) hbl1).trans q0;have qa1:=(hR.cell (p:=⟨bx,2,none⟩) hbl1).trans q2;have qa2:=(hR.cell (p:=⟨bx,3,none⟩) hbl1).trans q3;have qa3:=(hR.cell (p:=⟨bx,5,none⟩) hbl1).trans q5;have qa4:=(hR.cell (p:=⟨bx,4,none⟩) hbl1).trans q4;have hcase:i=3∨i=9∨i=12∨i=15∨i=16∨i=0∨i=1∨i=2∨i=4∨i=5∨i=6∨i=7∨i=8∨i=10∨i=11∨i=13∨i=14:=by omega
   rcases hcase with rfl|rfl|rfl|rfl|rfl|rfl|rfl|rfl|rfl|rfl|rfl|rfl|rfl|rfl|rfl|rfl|rfl<;>obtain rfl:=Zv ho<;>clear ho hvl
   ·obtain⟨rfl,-⟩:=Xi qh;clear qh;go_wp2_with (go_at_call 85;refine(Xu (ref) 4 _ (by omega) (by decide)).mono ?_;rintro e w' ⟨rfl,rfl⟩)
    exact hK _ _ (Xh rfl ⟨W.heap.size,by rw[YZ],by rw[YX,Zg rfl]<;>rfl,hR.size⟩) (hR.alloc hR.size _) (Xo ((Zm _ _).alloc (Zh _) _))
   ·obtain⟨rfl,rfl,-⟩:=Xi qh;clear qh;go_wp2_with fail;exact hK _ _ (Xh rfl ⟨W.heap.size,rfl,by rw[YX,Zg rfl]<;>(simp[B]),hR.size⟩) (hR.alloc hR.size _) (Xo ((Zm _ _).alloc (Zh _) _))
   ·obtain⟨rfl,-⟩:=Xi qh;clear qh;go_wp2_with (go_at_call 85;refine(Xu (qa) 2 _ (by omega) (by decide)).mono ?_;rintro e w' ⟨rfl,rfl⟩)
    exact hK _ _ (Xh rfl ⟨W.heap.size,by rw[YZ],by rw[YX,Zg rfl]<;>rfl,hR.size⟩) (hR.alloc hR.size _) (Xo ((Zm _ _).alloc (Zh _) _))
   ·obtain⟨rfl,-⟩:=Xi qh;clear qh;go_wp2_with (go_at_call 85;refine(Xu (qc) 2 _ (by omega) (by decide)).mono ?_;rintro e w' ⟨rfl,rfl⟩)
    exact hK _ _ (Xh rfl ⟨W.heap.size,by rw[YZ],by rw[YX,Zg rfl]<;>rfl,hR.size⟩) (hR.alloc hR.size _) (Xo ((Zm _ _).alloc (Zh _) _))
   ·obtain⟨⟨g3,rfl,hg3,hb3⟩,⟨g9,rfl,hg9,hb9⟩,⟨g12,rfl,hg12,hb12⟩,⟨g15,rfl,hg15,hb15⟩,-⟩:=Xi qh;clear qh;go_wp2_with fail;refine hK _ _ (Xh rfl (Ut _ _ 4 rfl rfl ?_)) (hR.alloc hR.size _) (Xo ((Zm _ _).alloc (Zh _) _));intro i v l hv hl;have hi:i=0∨i=1∨i=2∨i=3:=by have:=(Zl.1 hv).1;simp at this;omega
    rcases hi with rfl|rfl|rfl|rfl
    ·cases hv;cases hl;exact XG (by first|rfl|rw[YZ]) (λe=>by have:=H1.o.1.at_.lt _ e;omega) (by first|(rw[YZ];decide)|simp) hg3
    ·cases hv;cases hl;exact XG (by first|rfl|rw[YZ]) (λe=>by have:=H1.o.1.at_.lt _ e;omega) (by first|(rw[YZ];decide)|simp) hg9
    ·cases hv;cases hl;exact XG (by first|rfl|rw[YZ]) (λe=>by have:=H1.o.1.at_.lt _ e;omega) (by first|(rw[YZ];decide)|simp) hg12
    ·cases hv;cases hl;exact XG (by first|rfl|rw[YZ]) (λe=>by have:=H1.o.1.at_.lt _ e;omega) (by first|(rw[YZ];decide)|simp) hg15
   all_goals (have d:=Xi qh;clear qh;try (obtain⟨rfl,-⟩:=d);go_wp2_with fail;exact hK _ _ (Xh rfl rfl) hR (λ_ _ h=>h))
  ·intro o ho vals W hvl hR qh K hK;obtain⟨x0,x1,x2,x3,x4,x5,x6,x7,x8,x9,x10,x11,x12,x13,x14,x15,x16,x17,rfl⟩:=Zi1 vals hvl;obtain rfl:=Zv ho;clear ho hvl;unfold Xe;simp only[ZA,ZI,ZB,ZJ,ZF,Zr];obtain⟨rfl,rfl,rfl,⟨g3,rfl,hg3,hb3⟩,rfl,rfl,rfl,rfl,rfl,⟨g9,rfl,hg9,hb9⟩,rfl,rfl,⟨g12,rfl,hg12,hb12⟩,rfl,rfl,⟨g15,rfl,hg15,hb15⟩,-⟩:=Ve qh;have e16:=qh 16 (by omega) _ rfl;have e16:FsAt W (RGx b {c with vr:=.slice rv6 n6 cv6}) x16 _:=e16;obtain⟨rf16,cf16,ef16,-,-⟩:=e16.form;subst ef16;clear qh;go_wp2_with fail;refine(Zds (letter:=97) H1.o.1 hR ht _ _ e16 (by simp only[ZR,ZZ,Zf,YZ,Zu,ZT];show r.on.length+_+_≤_;omega) (by simp)).mono ?_;rintro e w2 ⟨rfl,c2,hB2,hS2,-⟩;go_wp2_with fail;go_end0
   refine⟨rfl,c2,?_,(RStp.below HH.o.2.1).trans (H1.o.2.trans hS2)⟩;have e:(r.head 97++[enc ref 4,[qe,UInt8.ofNat qd],enc qa 2,enc qc 2].flatten)=r.head 97++enc ref 4++[qe,UInt8.ofNat qd]++enc qa 2++enc qc 2:=by simp only[ZR,ZZ,ZG,Zo]
   unfold Rf.rest;rw[←e];exact hB2
theorem lsl15 (l:List α)(h:l.length=15):∃x0 x1 x2 x3 x4 x5 x6 x7 x8 x9 x10 x11 x12 x13 x14,l=[x0,x1,x2,x3,x4,x5,x6,x7,x8,x9,x10,x11,x12,x13,x14]:=by
 match l,h with
 | [x0,x1,x2,x3,x4,x5,x6,x7,x8,x9,x10,x11,x12,x13,x14],_=>exact⟨x0,x1,x2,x3,x4,x5,x6,x7,x8,x9,x10,x11,x12,x13,x14,rfl⟩
theorem Zju (l:List α)(h:l.length=20):∃x0 x1 x2 x3 x4 x5 x6 x7 x8 x9 x10 x11 x12 x13 x14 x15 x16 x17 x18 x19,l=[x0,x1,x2,x3,x4,x5,x6,x7,x8,x9,x10,x11,x12,x13,x14,x15,x16,x17,x18,x19]:=by
 match l,h with
 | [x0,x1,x2,x3,x4,x5,x6,x7,x8,x9,x10,x11,x12,x13,x14,x15,x16,x17,x18,x19],_=>exact⟨x0,x1,x2,x3,x4,x5,x6,x7,x8,x9,x10,x11,x12,x13,x14,x15,x16,x17,x18,x19,rfl⟩
def Qq (w:World)(g:Nat):Nat:=match w.cell? ⟨g,5,none⟩ with
 | some (.int _ z)=>z.toNat
 | _=>0
structure MtI (w wr:World)(b bx:Nat)(c cc:Rc)(r rc:Rf)(came:List UInt8)(o:Ord)(k:Nat)(X:Rf×Ord):Prop where
 bo:RBo wr b cc rc came
 st:RStp w wr b c cc
 box:wr.heap[bx]?=some (.cells o.cells.toArray 40)
 nbx:¬RGx b cc bx
 eq:rc.meet k o=X
 fuel:o.qa=0∨rc.S.length<k
 sml:∀x∈rc.S,Sml x
 len:rc.S.length≤64
 qi:rc.qi+k≤r.qi+65
 out:rc.out.length+38*k≤r.out.length+2470
 on:rc.on.length+17*k≤r.on.length+1105
 time:rc.time=r.time
theorem Zec {w:World}{b:Nat}{c:Rc}{r:Rf}{came:List UInt8}(h:RBo w b c r came)(o:Ord)(hside:o.qe=66∨o.qe=83)(hos:Sml o)(hsm:∀x∈r.S,Sml x)(hS:r.S.length≤64)(ht:r.time≤9223372036854775807)(hm:r.qi≤1000000000000)(hout:r.out.length+2470≤140737488355328)(hon:r.on.length+1105≤140737488355328):
  Calls prog 126 #[.pointer (some ⟨b,0,none⟩),.agg o.cells.toArray] w λe w'=>e=.returned (.int .i64 ((r.meet 65 o).2.qa:Nat))∧∃c',RBo w' b c' (r.meet 65 o).1 came∧RStp w w' b c c':=by
 obtain⟨W0,hW0⟩:=Za (w.alloc (.cells o.cells.toArray 40));obtain⟨bx,hbx⟩:=Za (w.heap.size);obtain⟨X,hX⟩:=Za (r.meet 65 o);have hB0:Below w.heap.size w W0:=by rw[←hW0];exact(Zm _ w).alloc (Zh _) _
 have hxb:W0.heap[bx]?=some (.cells o.cells.toArray 40):=by rw[←hW0,YX,Zg hbx.symm]
 have hnb:¬RGx b c bx:=λe=>by have:=h.at_.lt _ e;omega
 have HI0:Hid (MtI w W0 b bx c c r r came o 65 X):=⟨h.below hB0,RStp.below hB0,hxb,hnb,hX,.inr (by omega),hsm,hS,Zh _,by omega,by omega,rfl⟩;have HBX:Hid (bx=w.heap.size):=hbx.symm;rw[hX];obtain⟨ref,qf,qe,qd,qc,qa⟩:=o;have HSD:Hid (qe=66∨qe=83):=hside;have HTK:Hid (qf≤9223372036854775807):=hos.2.1;have HSH:Hid (qa≤9223372036854775807):=hos.2.2.2.2;have HCM:Hid (∀g,c.vc.ownBlock=some g→g<bx):=λg hg=>by have:=h.at_.came.lt hg;omega
 clear hB0 hxb hnb hX h hsm hS hside hos;go_enter func126,ntmps126;go_wp2_with fail;clear hW0;go_loopw [5] (λ_ wr=>∃(k sh:Nat) (cc:Rc) (rc:Rf),Hid (MtI w wr b bx c cc r rc came ⟨ref,qf,qe,qd,qc,sh⟩ k X)∧Hid (sh≤qa)) (λ_ wr=>Qq wr bx)
 case atStart=>exact⟨65,qa,c,r,HI0,Zh _⟩
 case round=>
  obtain⟨k,sh,cc,rc,HM,HLE⟩:=hrel;obtain⟨q0,q1,q2,q3,q4,q5⟩:=Xl ⟨ref,qf,qe,qd,qc,sh⟩ (Zm _ _) HM.o.box;simp only at q0 q1 q2 q3 q4 q5;have hbl:bx<wr.heap.size:=(Ze.1 HM.o.box).1;have hmz:Qq wr bx=sh:=by simp[Qq,q5]
  by_cases h0:sh=0
  ·have HZ:=Zc (Qn k rc ⟨ref,qf,qe,qd,qc,sh⟩ h0);have HS0:Hid (sh=0):=h0;have b0:¬(0:Int)<(sh:Int):=by omega
   clear h0;go_wp2_with fail;go_ret;have he:=HM.o.eq;rw[HZ.o] at he;rw[←he];exact⟨by rw[HS0.o];rfl,cc,HM.o.bo,HM.o.st⟩
  ·have b0:(0:Int)<(sh:Int):=by omega
   have HOP:=Zc (Zf2 wr b cc rc.S ⟨ref,qf,qe,qd,qc,sh⟩ HM.o.bo.at_.is HM.o.bo.at_.rest (by have:=HM.o.len;omega) HSD.o);have HS0:Hid (sh≠0):=h0;clear h0;go_wp2_with fail;refine HOP.o.mono ?_;rintro e w1 ⟨rfl,hB1⟩;clear HOP q0 q1 q2 q3 q4 q5;obtain⟨iop,hiop⟩:∃iop,oppI rc.S ⟨ref,qf,qe,qd,qc,sh⟩=iop:=⟨_,rfl⟩;rw[hiop];have HIO:=Zc hiop;clear hiop;have hxb1:w1.heap[bx]?=some (.cells (Ord.cells ⟨ref,qf,qe,qd,qc,sh⟩).toArray 40):=(hB1.block bx hbl).trans HM.o.box;obtain⟨q0,q1,q2,q3,q4,q5⟩:=Xl ⟨ref,qf,qe,qd,qc,sh⟩ (Zm _ _) hxb1;simp only at q0 q1 q2 q3 q4 q5;have H1:Hid (RBo w1 b cc rc came∧RStp w w1 b c cc∧w1.heap[bx]?=some (.cells (Ord.cells ⟨ref,qf,qe,qd,qc,sh⟩).toArray 40)):=⟨HM.o.bo.below hB1,HM.o.st.trans (RStp.below hB1),hxb1⟩;clear hxb1 hB1;cases iop with
   | none=>
    have HZ:=Zc (Qe k rc ⟨ref,qf,qe,qd,qc,sh⟩ HIO.o);simp only[ixI];go_wp2_with fail;go_ret;have he:=HM.o.eq;rw[HZ.o] at he;rw[←he];exact⟨rfl,cc,H1.o.1,H1.o.2.1⟩
   | some ix=>
    obtain⟨x,hx⟩:=Zbx HIO.o;have hxs:=HM.o.sml x (ZW hx);obtain⟨gr,cap,hvr,hc1,hc2,hgl,hgx,hgb,hfz,hil,d0,d1,d2,d3,d4,d5⟩:=H1.o.1.order hx;obtain⟨xref,qq,qo,qm,qn,qp⟩:=x;obtain⟨N,hN⟩:=Za (rc.S.length);rw[hN] at hvr hc1 hil;have c3:w1.cell? ⟨b,3,none⟩=some cc.vr:=H1.o.1.at_.is.cell 3;rw[hvr] at c3;simp only at d0 d1 d2 d3 d4 d5;obtain⟨n,hn⟩:=Za (min sh qp);obtain⟨hs1,hs2,hs3,hs4,hs5⟩:=hxs;simp only at hs1 hs2 hs3 hs4 hs5;obtain⟨y,hy⟩:=Za (qp-n);obtain⟨z,hz⟩:=Za (sh-n);obtain⟨M,hM⟩:=Za (rc.qi+1);obtain⟨k1,hk1⟩:∃k1,k=k1+1:=by
     rcases HM.o.fuel with e|e
     ·exact absurd e HS0.o
     ·exact⟨k-1,by omega⟩
    have hle:=HLE.o;have hle2:=HSH.o;have h0:=HS0.o;have i1:(0:Int)≤(ix:Int):=by omega
    have i2:(ix:Int)<(N:Int):=by omega
    have i3:¬(ix:Int)<0:=by omega
    have w1':IntKind.i64.wrap ((sh:Int)-(n:Int))=(z:Int):=by rw[Zq];omega
    have w2':IntKind.i64.wrap ((qp:Int)-(n:Int))=(y:Int):=by rw[Zq];omega
    have w3':IntKind.i64.wrap ((rc.qi:Int)+1)=(M:Int):=by rw[Zq];have:=HM.o.qi;omega
    have f5:w1.frozen? ⟨bx,5,none⟩=false:=by simp[World.frozen?,H1.o.2.2]
    have g5:=hfz (ix*6+5);have hbr:¬bx=gr:=λe=>HM.o.nbx (by rw[e];exact hgx);have hbr':¬gr=bx:=λe=>hbr e.symm;have hbb:¬bx=b:=λe=>HM.o.nbx (by rw[e];exact .inl rfl);have hbb':¬b=bx:=λe=>hbb e.symm;have hgb':¬b=gr:=λe=>hgb e.symm;have c7:w1.cell? ⟨b,7,none⟩=some (.int .i64 (rc.qi:Nat)):=by have:=H1.o.1.at_.is.cell 7;rw[←H1.o.1.qi];exact this
    have f7:w1.frozen? ⟨b,7,none⟩=false:=H1.o.1.at_.is.frozen 7;have HNX:=Zc (Qk k1 rc ⟨ref,qf,qe,qd,qc,sh⟩ ⟨xref,qq,qo,qm,qn,qp⟩ ix h0 HIO.o hx);have A1:=H1.o.1;have hcm:cc.vc.ownBlock≠some bx:=λe=>by have h1:=HM.o.st.vc;rw[h1] at e;have:=HCM.o bx e;omega
    have A2:RBo (w1.setCell ⟨bx,5,none⟩ (.int .i64 (z:Nat))) b cc rc came:=A1.off (Fr.setCell w1 ⟨bx,5,none⟩ (.int .i64 (z:Nat))) (λk e=>by have e:k=bx:=e;rw[e];exact HM.o.nbx) (λk e=>by have e:k=bx:=e;rw[e];exact hcm);have S2:RStp w (w1.setCell ⟨bx,5,none⟩ (.int .i64 (z:Nat))) b c cc:=H1.o.2.1.own (Fr.setCell w1 ⟨bx,5,none⟩ (.int .i64 (z:Nat))) (by rw[HBX.o];exact Zh _);have hvr':cc.vr=.slice (some ⟨gr,0,none⟩) rc.S.length cap:=by rw[hN];exact hvr
    obtain⟨A3,S3⟩:=A2.setShares hx hvr' y;obtain⟨A4,S4⟩:=A3.setMats M;have hbx2:(w1.setCell ⟨bx,5,none⟩ (.int .i64 (z:Nat))).heap[bx]?=some (.cells (Ord.cells ⟨ref,qf,qe,qd,qc,z⟩).toArray 40):=by rw[Zi w1 bx 5 _ _ _ H1.o.2.2];rfl
    obtain⟨hbx3,hnb3⟩:=(S3.trans S4).box hbx2 HM.o.nbx;have HXX:=Zc (Zd hx (Zd hvr' (Zd hn (Zd hy (Zd hz (Zd hM (Zd hk1 hN)))))));have H4:Hid (RBo (((w1.setCell ⟨bx,5,none⟩ (.int .i64 (z:Nat))).setCell ⟨gr,ix*6+5,none⟩ (.int .i64 (y:Nat))).setCell ⟨b,7,none⟩ (.int .i64 (M:Nat))) b {cc with qi:=M} {rc with S:=rc.S.set ix ⟨xref,qq,qo,qm,qn,y⟩,qi:=M} came∧RStp w (((w1.setCell ⟨bx,5,none⟩ (.int .i64 (z:Nat))).setCell ⟨gr,ix*6+5,none⟩ (.int .i64 (y:Nat))).setCell ⟨b,7,none⟩ (.int .i64 (M:Nat))) b c {cc with qi:=M}∧
      (((w1.setCell ⟨bx,5,none⟩ (.int .i64 (z:Nat))).setCell ⟨gr,ix*6+5,none⟩ (.int .i64 (y:Nat))).setCell ⟨b,7,none⟩ (.int .i64 (M:Nat))).heap[bx]?=some (.cells (Ord.cells ⟨ref,qf,qe,qd,qc,z⟩).toArray 40)∧¬RGx b {cc with qi:=M} bx):=⟨A4,S2.trans (S3.trans S4),hbx3,hnb3⟩
    clear A1 A2 A3 A4 S2 S3 S4 hbx2 hbx3 hnb3 hx hvr' hvr hN hk1 hfz hcm hgx hc1;have hnn:n≤9223372036854775807:=by omega
    have HNE:=Zc (Zd hn (Zd hy hz));clear hM;simp only[ixI];go_upto_if 31 with(fail)
    go_cut [7] from 8 (λs7 wx=>s7=.int .i64 (n:Nat)∧wx=w1)
    case first=>
     by_cases hlt:qp<sh
     ·have b1:(qp:Int)<(sh:Int):=by omega
      have hnx:qp=n:=by omega
      go_wp2_with fail;go_meet
      case rel=>exact⟨by first|rfl|rw[hnx],rfl⟩
     ·have b1:¬(qp:Int)<(sh:Int):=by omega
      have hnx:sh=n:=by omega
      go_wp2_with fail;go_meet
      case rel=>exact⟨by first|rfl|rw[hnx],rfl⟩
    case rest=>
     obtain⟨rfl,hw⟩:=hcut;replace hw:=hw.symm;subst hw;have hmt:=HM.o.qi;have hM:=HXX.o.2.2.2.2.2.1;have hMM:M≤9223372036854775807:=by omega
     have hzn:z<sh:=by omega
     have HZ:=Zc hzn;clear hn hy hz hzn hmt hM;go_wp2_with fail;clear c3 c7 f5 f7 g5 d0 d1 d2 d3 d4 d5 q0 q1 q2 q3 q4 q5 w1' w2' w3' i1 i2 i3 b0;generalize ((w1.setCell ⟨bx,5,none⟩ (.int .i64 (z:Nat))).setCell ⟨gr,ix*6+5,none⟩ (.int .i64 (y:Nat))).setCell ⟨b,7,none⟩ (.int .i64 (M:Nat))=W4 at *;have HX4:Hid ((rc.S.set ix ⟨xref,qq,qo,qm,qn,y⟩)[ix]?=some ⟨xref,qq,qo,qm,qn,y⟩):=by show _=_;rw[List.getElem?_set_self (Zl.1 HXX.o.1).1]
     obtain⟨g4,cap4,hv4,-,-,hgl4,-,-,-,-,d0,d1,d2,d3,d4,d5⟩:=H4.o.1.order HX4.o;have hg4:gr=g4:=by have:=HXX.o.2.1;have e:cc.vr=_:=hv4;rw[this] at e;simp at e;exact e.1
     subst hg4;simp only at d0 d1 d2 d3 d4 d5;have m7:W4.cell? ⟨b,7,none⟩=some (.int .i64 (M:Nat)):=H4.o.1.at_.is.cell 7;have hbb4:b<W4.heap.size:=H4.o.1.at_.is.lt;have HO:=Zc (Zd hout hon);have htm:rc.time≤9223372036854775807:=by rw[HM.o.time];exact ht
     clear hv4 hout hon;refine Xg 57 19 _ ?_;refine Xp (by kernel_rfl) [0,1,2,3,4,5,6,7,8,9,10,11,12,13,14,15,16,17,18] 20 (by kernel_rfl) (by decide) 19 rfl rfl (rgD W4.heap.size (RGx b {cc with qi:=M}) [.val (.pointer (some ⟨b,0,none⟩)),.val (.pointer (some ⟨gr,ix*6,none⟩)),.val (.pointer (some ⟨gr,ix*6,none⟩)),.val (.pointer (some ⟨gr,ix*6+1,none⟩)),.val (.int .i64 (qq:Nat)),.bytes (enc (qq) 4),.val (.int .i64 (n:Nat)),.bytes (enc (n) 2),.val (.pointer (some ⟨gr,ix*6,none⟩)),.val (.pointer (some ⟨gr,ix*6,none⟩)),.val (.pointer (some ⟨gr,ix*6+4,none⟩)),.val (.int .i64 (qn:Nat)),.bytes (enc (qn) 2),.val (.pointer (some ⟨b,0,none⟩)),.val (.pointer (some ⟨b,0,none⟩)),.val (.pointer (some ⟨b,7,none⟩)),.val (.int .i64 (M:Nat)),.bytes (enc (M) 4),.fs [enc qq 4,enc n 2,enc qn 2,enc M 4]]) (Below W4.heap.size W4) rfl ⟨rfl,rfl,rfl,Zh _,λ_ _=>rfl⟩ ?_ ?_
     ·intro i o hi ho vals W hvl hR qh K hK;obtain⟨x0,x1,x2,x3,x4,x5,x6,x7,x8,x9,x10,x11,x12,x13,x14,x15,x16,x17,x18,x19,rfl⟩:=Zju vals hvl;unfold Xe;simp only[ZA,ZI,ZB,ZJ,ZF,Zr];have qa0:=(hR.cell (p:=⟨gr,ix*6+1,none⟩) hgl4).trans d1;have qa1:=(hR.cell (p:=⟨gr,ix*6+4,none⟩) hgl4).trans d4;have qa2:=(hR.cell (p:=⟨b,7,none⟩) hbb4).trans m7;have hcase:i=5∨i=7∨i=12∨i=17∨i=18∨i=0∨i=1∨i=2∨i=3∨i=4∨i=6∨i=8∨i=9∨i=10∨i=11∨i=13∨i=14∨i=15∨i=16:=by omega
      rcases hcase with rfl|rfl|rfl|rfl|rfl|rfl|rfl|rfl|rfl|rfl|rfl|rfl|rfl|rfl|rfl|rfl|rfl|rfl|rfl<;>obtain rfl:=Zv ho<;>clear ho hvl
      ·obtain⟨rfl,-⟩:=Xi qh;clear qh;go_wp2_with (go_at_call 85;refine(Xu (qq) 4 _ (by omega) (by decide)).mono ?_;rintro e w' ⟨rfl,rfl⟩)
       exact hK _ _ (Xh rfl ⟨W.heap.size,by rw[YZ],by rw[YX,Zg rfl]<;>rfl,hR.size⟩) (hR.alloc hR.size _) (Xo ((Zm _ _).alloc (Zh _) _))
      ·obtain⟨rfl,-⟩:=Xi qh;clear qh;go_wp2_with (go_at_call 85;refine(Xu (n) 2 _ (by omega) (by decide)).mono ?_;rintro e w' ⟨rfl,rfl⟩)
       exact hK _ _ (Xh rfl ⟨W.heap.size,by rw[YZ],by rw[YX,Zg rfl]<;>rfl,hR.size⟩) (hR.alloc hR.size _) (Xo ((Zm _ _).alloc (Zh _) _))
      ·obtain⟨rfl,-⟩:=Xi qh;clear qh;go_wp2_with (go_at_call 85;refine(Xu (qn) 2 _ (by omega) (by decide)).mono ?_;rintro e w' ⟨rfl,rfl⟩)
       exact hK _ _ (Xh rfl ⟨W.heap.size,by rw[YZ],by rw[YX,Zg rfl]<;>rfl,hR.size⟩) (hR.alloc hR.size _) (Xo ((Zm _ _).alloc (Zh _) _))
      ·obtain⟨rfl,-⟩:=Xi qh;clear qh;go_wp2_with (go_at_call 85;refine(Xu (M) 4 _ (by omega) (by decide)).mono ?_;rintro e w' ⟨rfl,rfl⟩)
       exact hK _ _ (Xh rfl ⟨W.heap.size,by rw[YZ],by rw[YX,Zg rfl]<;>rfl,hR.size⟩) (hR.alloc hR.size _) (Xo ((Zm _ _).alloc (Zh _) _))
      ·obtain⟨⟨g5,rfl,hg5,hb5⟩,⟨g7,rfl,hg7,hb7⟩,⟨g12,rfl,hg12,hb12⟩,⟨g17,rfl,hg17,hb17⟩,-⟩:=Xi qh;clear qh;go_wp2_with fail;refine hK _ _ (Xh rfl (Ut _ _ 4 rfl rfl ?_)) (hR.alloc hR.size _) (Xo ((Zm _ _).alloc (Zh _) _));intro i v l hv hl;have hi:i=0∨i=1∨i=2∨i=3:=by have:=(Zl.1 hv).1;simp at this;omega
       rcases hi with rfl|rfl|rfl|rfl
       ·cases hv;cases hl;exact XG (by rw[YZ]) (λe=>by have:=H4.o.1.at_.lt _ e;omega) (by rw[YZ];decide) hg5
       ·cases hv;cases hl;exact XG (by rw[YZ]) (λe=>by have:=H4.o.1.at_.lt _ e;omega) (by rw[YZ];decide) hg7
       ·cases hv;cases hl;exact XG (by rw[YZ]) (λe=>by have:=H4.o.1.at_.lt _ e;omega) (by rw[YZ];decide) hg12
       ·cases hv;cases hl;exact XG (by rw[YZ]) (λe=>by have:=H4.o.1.at_.lt _ e;omega) (by rw[YZ];decide) hg17
      all_goals (have d:=Xi qh;clear qh;try (obtain⟨rfl,-⟩:=d);go_wp2_with fail;exact hK _ _ (Xh rfl rfl) hR (λ_ _ h=>h))
     ·intro o ho vals W hvl hR qh K hK;obtain⟨x0,x1,x2,x3,x4,x5,x6,x7,x8,x9,x10,x11,x12,x13,x14,x15,x16,x17,x18,x19,rfl⟩:=Zju vals hvl;obtain rfl:=Zv ho;clear ho hvl;unfold Xe;simp only[ZA,ZI,ZB,ZJ,ZF,Zr];obtain⟨rfl,rfl,rfl,rfl,rfl,⟨g5,rfl,hg5,hb5⟩,rfl,⟨g7,rfl,hg7,hb7⟩,rfl,rfl,rfl,rfl,⟨g12,rfl,hg12,hb12⟩,rfl,rfl,rfl,rfl,⟨g17,rfl,hg17,hb17⟩,-⟩:=Ve qh;have e18:=qh 18 (by omega) _ rfl;have e18:FsAt W (RGx b {cc with qi:=M}) x18 _:=e18;obtain⟨rf18,cf18,ef18,-,-⟩:=e18.form;subst ef18;clear qh;go_wp2_with fail;refine(Uz (letter:=70) H4.o.1 hR htm _ _ e18 (by simp only[ZR,ZZ,Zf,YZ,ZT];have h1:=HM.o.out;have h2:=HO.o.1;have h3:=HXX.o.2.2.2.2.2.2.1;show rc.out.length+_+_≤_;omega) (by simp)).mono ?_;rintro e W5 ⟨rfl,c5,hbo,hst,hvv⟩;have H5:Hid (RBo W5 b c5 (Rf.say ({rc with S:=rc.S.set ix ⟨xref,qq,qo,qm,qn,y⟩,qi:=M}) (Rf.head rc 70++[enc qq 4,enc n 2,enc qn 2,enc M 4].flatten)) came∧RStp w W5 b c c5∧W5.heap[bx]?=some (.cells (Ord.cells ⟨ref,qf,qe,qd,qc,z⟩).toArray 40)∧¬RGx b c5 bx∧c5.vr=cc.vr):=⟨hbo,H4.o.2.1.trans hst,(hst.box H4.o.2.2.1 H4.o.2.2.2).1,(hst.box H4.o.2.2.1 H4.o.2.2.2).2,hvv⟩;clear hbo hst hvv hR d0 d1 d2 d3 d4 d5 m7;obtain⟨g5,cap5,hv5,-,-,hgl5,-,-,-,-,d0,d1,d2,d3,d4,d5⟩:=H5.o.1.order (i:=ix) (x:=⟨xref,qq,qo,qm,qn,y⟩) HX4.o;have hgg5:gr=g5:=by rw[H5.o.2.2.2.2] at hv5;have e:cc.vr=_:=hv5;rw[HXX.o.2.1] at e;simp at e;exact e.1
      subst hgg5;simp only at d0 d1 d2 d3 d4 d5;have m7:W5.cell? ⟨b,7,none⟩=some (.int .i64 (M:Nat)):=by have:=H5.o.1.at_.is.cell 7;rw[show c5.cells[7]?=some (.int .i64 (c5.qi:Nat)) from rfl,H5.o.1.qi] at this;exact this
      have hbb5:b<W5.heap.size:=H5.o.1.at_.is.lt;obtain⟨p0,p1,p2,p3,p4,p5⟩:=Xl ⟨ref,qf,qe,qd,qc,z⟩ (Zm _ _) H5.o.2.2.1;simp only at p0 p1 p2 p3 p4 p5;have hbl5:bx<W5.heap.size:=(Ze.1 H5.o.2.2.1).1;clear hv5;clear hgl4 hbb4;go_wp2_with fail;have htk:=HTK.o;refine Xg 77 17 _ ?_;refine Xp (by kernel_rfl) [0,1,2,3,4,5,6,7,8,9,10,11,12,13,14,15,16] 18 (by kernel_rfl) (by decide) 17 rfl rfl (rgD W5.heap.size (RGx b c5) [.val (.pointer (some ⟨b,0,none⟩)),.val (.pointer (some ⟨bx,1,none⟩)),.val (.int .i64 (qf:Nat)),.bytes (enc (qf) 4),.val (.int .i64 (n:Nat)),.bytes (enc (n) 2),.val (.pointer (some ⟨gr,ix*6,none⟩)),.val (.pointer (some ⟨gr,ix*6,none⟩)),.val (.pointer (some ⟨gr,ix*6+4,none⟩)),.val (.int .i64 (qn:Nat)),.bytes (enc (qn) 2),.val (.pointer (some ⟨b,0,none⟩)),.val (.pointer (some ⟨b,0,none⟩)),.val (.pointer (some ⟨b,7,none⟩)),.val (.int .i64 (M:Nat)),.bytes (enc (M) 4),.fs [enc qf 4,enc n 2,enc qn 2,enc M 4]]) (Below W5.heap.size W5) rfl ⟨rfl,rfl,rfl,Zh _,λ_ _=>rfl⟩ ?_ ?_
      ·intro i o hi ho vals W hvl hR qh K hK;obtain⟨x0,x1,x2,x3,x4,x5,x6,x7,x8,x9,x10,x11,x12,x13,x14,x15,x16,x17,rfl⟩:=Zi1 vals hvl;unfold Xe;simp only[ZA,ZI,ZB,ZJ,ZF,Zr];have qa0:=(hR.cell (p:=⟨bx,1,none⟩) hbl5).trans p1;have qa1:=(hR.cell (p:=⟨gr,ix*6+4,none⟩) hgl5).trans d4;have qa2:=(hR.cell (p:=⟨b,7,none⟩) hbb5).trans m7;have hcase:i=3∨i=5∨i=10∨i=15∨i=16∨i=0∨i=1∨i=2∨i=4∨i=6∨i=7∨i=8∨i=9∨i=11∨i=12∨i=13∨i=14:=by omega
       rcases hcase with rfl|rfl|rfl|rfl|rfl|rfl|rfl|rfl|rfl|rfl|rfl|rfl|rfl|rfl|rfl|rfl|rfl<;>obtain rfl:=Zv ho<;>clear ho hvl
       ·obtain⟨rfl,-⟩:=Xi qh;clear qh;go_wp2_with (go_at_call 85;refine(Xu (qf) 4 _ (by omega) (by decide)).mono ?_;rintro e w' ⟨rfl,rfl⟩)
        exact hK _ _ (Xh rfl ⟨W.heap.size,by rw[YZ],by rw[YX,Zg rfl]<;>rfl,hR.size⟩) (hR.alloc hR.size _) (Xo ((Zm _ _).alloc (Zh _) _))
       ·obtain⟨rfl,-⟩:=Xi qh;clear qh;go_wp2_with (go_at_call 85;refine(Xu (n) 2 _ (by omega) (by decide)).mono ?_;rintro e w' ⟨rfl,rfl⟩)
        exact hK _ _ (Xh rfl ⟨W.heap.size,by rw[YZ],by rw[YX,Zg rfl]<;>rfl,hR.size⟩) (hR.alloc hR.size _) (Xo ((Zm _ _).alloc (Zh _) _))
       ·obtain⟨rfl,-⟩:=Xi qh;clear qh;go_wp2_with (go_at_call 85;refine(Xu (qn) 2 _ (by omega) (by decide)).mono ?_;rintro e w' ⟨rfl,rfl⟩)
        exact hK _ _ (Xh rfl ⟨W.heap.size,by rw[YZ],by rw[YX,Zg rfl]<;>rfl,hR.size⟩) (hR.alloc hR.size _) (Xo ((Zm _ _).alloc (Zh _) _))
       ·obtain⟨rfl,-⟩:=Xi qh;clear qh;go_wp2_with (go_at_call 85;refine(Xu (M) 4 _ (by omega) (by decide)).mono ?_;rintro e w' ⟨rfl,rfl⟩)
        exact hK _ _ (Xh rfl ⟨W.heap.size,by rw[YZ],by rw[YX,Zg rfl]<;>rfl,hR.size⟩) (hR.alloc hR.size _) (Xo ((Zm _ _).alloc (Zh _) _))
       ·obtain⟨⟨g3,rfl,hg3,hb3⟩,⟨g5,rfl,hg5,hb5⟩,⟨g10,rfl,hg10,hb10⟩,⟨g15,rfl,hg15,hb15⟩,-⟩:=Xi qh;clear qh;go_wp2_with fail;refine hK _ _ (Xh rfl (Ut _ _ 4 rfl rfl ?_)) (hR.alloc hR.size _) (Xo ((Zm _ _).alloc (Zh _) _));intro i v l hv hl;have hi:i=0∨i=1∨i=2∨i=3:=by have:=(Zl.1 hv).1;simp at this;omega
        rcases hi with rfl|rfl|rfl|rfl
        ·cases hv;cases hl;exact XG (by rw[YZ]) (λe=>by have:=H5.o.1.at_.lt _ e;omega) (by rw[YZ];decide) hg3
        ·cases hv;cases hl;exact XG (by rw[YZ]) (λe=>by have:=H5.o.1.at_.lt _ e;omega) (by rw[YZ];decide) hg5
        ·cases hv;cases hl;exact XG (by rw[YZ]) (λe=>by have:=H5.o.1.at_.lt _ e;omega) (by rw[YZ];decide) hg10
        ·cases hv;cases hl;exact XG (by rw[YZ]) (λe=>by have:=H5.o.1.at_.lt _ e;omega) (by rw[YZ];decide) hg15
       all_goals (have d:=Xi qh;clear qh;try (obtain⟨rfl,-⟩:=d);go_wp2_with fail;exact hK _ _ (Xh rfl rfl) hR (λ_ _ h=>h))
      ·intro o ho vals W hvl hR qh K hK;obtain⟨x0,x1,x2,x3,x4,x5,x6,x7,x8,x9,x10,x11,x12,x13,x14,x15,x16,x17,rfl⟩:=Zi1 vals hvl;obtain rfl:=Zv ho;clear ho hvl;unfold Xe;simp only[ZA,ZI,ZB,ZJ,ZF,Zr];obtain⟨rfl,rfl,rfl,⟨g3,rfl,hg3,hb3⟩,rfl,⟨g5,rfl,hg5,hb5⟩,rfl,rfl,rfl,rfl,⟨g10,rfl,hg10,hb10⟩,rfl,rfl,rfl,rfl,⟨g15,rfl,hg15,hb15⟩,-⟩:=Ve qh;have e16:=qh 16 (by omega) _ rfl;have e16:FsAt W (RGx b c5) x16 _:=e16;obtain⟨rf16,cf16,ef16,-,-⟩:=e16.form;subst ef16;clear qh;go_wp2_with fail;refine(Uz (letter:=70) H5.o.1 hR htm _ _ e16 (by simp only[ZR,ZZ,Zf,YZ,ZT];have h1:=HM.o.out;have h2:=HO.o.1;have h3:=HXX.o.2.2.2.2.2.2.1;simp only[Rf.say,Rf.head,Zf,Zu,ZT,YZ];omega) (by simp)).mono ?_;rintro e W6 ⟨rfl,c6,hbo,hst,hvv⟩;have H6:Hid (RBo W6 b c6 (Rf.say (Rf.say ({rc with S:=rc.S.set ix ⟨xref,qq,qo,qm,qn,y⟩,qi:=M}) (Rf.head rc 70++[enc qq 4,enc n 2,enc qn 2,enc M 4].flatten)) (Rf.head rc 70++[enc qf 4,enc n 2,enc qn 2,enc M 4].flatten)) came∧RStp w W6 b c c6∧W6.heap[bx]?=some (.cells (Ord.cells ⟨ref,qf,qe,qd,qc,z⟩).toArray 40)∧¬RGx b c6 bx∧c6.vr=cc.vr):=⟨hbo,H5.o.2.1.trans hst,(hst.box H5.o.2.2.1 H5.o.2.2.2.1).1,(hst.box H5.o.2.2.1 H5.o.2.2.2.1).2,hvv.trans H5.o.2.2.2.2⟩;clear hbo hst hvv hR d0 d1 d2 d3 d4 d5 m7;obtain⟨g6,cap6,hv6,-,-,hgl6,-,-,-,-,d0,d1,d2,d3,d4,d5⟩:=H6.o.1.order (i:=ix) (x:=⟨xref,qq,qo,qm,qn,y⟩) HX4.o;have hgg6:gr=g6:=by rw[H6.o.2.2.2.2] at hv6;have e:cc.vr=_:=hv6;rw[HXX.o.2.1] at e;simp at e;exact e.1
       subst hgg6;simp only at d0 d1 d2 d3 d4 d5;have m7:W6.cell? ⟨b,7,none⟩=some (.int .i64 (M:Nat)):=by have:=H6.o.1.at_.is.cell 7;rw[show c6.cells[7]?=some (.int .i64 (c6.qi:Nat)) from rfl,H6.o.1.qi] at this;exact this
       have hbb6:b<W6.heap.size:=H6.o.1.at_.is.lt;obtain⟨p0,p1,p2,p3,p4,p5⟩:=Xl ⟨ref,qf,qe,qd,qc,z⟩ (Zm _ _) H6.o.2.2.1;simp only at p0 p1 p2 p3 p4 p5;have hbl6:bx<W6.heap.size:=(Ze.1 H6.o.2.2.1).1;clear hv6;clear hgl5 hbb5 hbl5;go_wp2_with fail;refine Xg 95 14 _ ?_;refine Xp (by kernel_rfl) [0,1,2,3,4,5,6,7,8,9,10,11,12,13] 15 (by kernel_rfl) (by decide) 14 rfl rfl (rgD W6.heap.size (RGx b c6) [.val (.pointer (some ⟨b,0,none⟩)),.val (.pointer (some ⟨gr,ix*6,none⟩)),.val (.pointer (some ⟨gr,ix*6,none⟩)),.val (.pointer (some ⟨gr,ix*6,none⟩)),.val (.int .i64 (xref:Nat)),.bytes (enc (xref) 4),.val (.int .i64 (n:Nat)),.bytes (enc (n) 2),.val (.pointer (some ⟨b,0,none⟩)),.val (.pointer (some ⟨b,0,none⟩)),.val (.pointer (some ⟨b,7,none⟩)),.val (.int .i64 (M:Nat)),.bytes (enc (M) 4),.fs [enc xref 4,enc n 2,enc M 4]]) (Below W6.heap.size W6) rfl ⟨rfl,rfl,rfl,Zh _,λ_ _=>rfl⟩ ?_ ?_
       ·intro i o hi ho vals W hvl hR qh K hK;obtain⟨x0,x1,x2,x3,x4,x5,x6,x7,x8,x9,x10,x11,x12,x13,x14,rfl⟩:=lsl15 vals hvl;unfold Xe;simp only[ZA,ZI,ZB,ZJ,ZF,Zr];have qa0:=(hR.cell (p:=⟨gr,ix*6,none⟩) hgl6).trans d0;have qa1:=(hR.cell (p:=⟨b,7,none⟩) hbb6).trans m7;have hcase:i=5∨i=7∨i=12∨i=13∨i=0∨i=1∨i=2∨i=3∨i=4∨i=6∨i=8∨i=9∨i=10∨i=11:=by omega
        rcases hcase with rfl|rfl|rfl|rfl|rfl|rfl|rfl|rfl|rfl|rfl|rfl|rfl|rfl|rfl<;>obtain rfl:=Zv ho<;>clear ho hvl
        ·obtain⟨rfl,-⟩:=Xi qh;clear qh;go_wp2_with (go_at_call 85;refine(Xu (xref) 4 _ (by omega) (by decide)).mono ?_;rintro e w' ⟨rfl,rfl⟩)
         exact hK _ _ (Xh rfl ⟨W.heap.size,by rw[YZ],by rw[YX,Zg rfl]<;>rfl,hR.size⟩) (hR.alloc hR.size _) (Xo ((Zm _ _).alloc (Zh _) _))
        ·obtain⟨rfl,-⟩:=Xi qh;clear qh;go_wp2_with (go_at_call 85;refine(Xu (n) 2 _ (by omega) (by decide)).mono ?_;rintro e w' ⟨rfl,rfl⟩)
         exact hK _ _ (Xh rfl ⟨W.heap.size,by rw[YZ],by rw[YX,Zg rfl]<;>rfl,hR.size⟩) (hR.alloc hR.size _) (Xo ((Zm _ _).alloc (Zh _) _))
        ·obtain⟨rfl,-⟩:=Xi qh;clear qh;go_wp2_with (go_at_call 85;refine(Xu (M) 4 _ (by omega) (by decide)).mono ?_;rintro e w' ⟨rfl,rfl⟩)
         exact hK _ _ (Xh rfl ⟨W.heap.size,by rw[YZ],by rw[YX,Zg rfl]<;>rfl,hR.size⟩) (hR.alloc hR.size _) (Xo ((Zm _ _).alloc (Zh _) _))
        ·obtain⟨⟨g5,rfl,hg5,hb5⟩,⟨g7,rfl,hg7,hb7⟩,⟨g12,rfl,hg12,hb12⟩,-⟩:=Xi qh;clear qh;go_wp2_with fail;refine hK _ _ (Xh rfl (Ut _ _ 3 rfl rfl ?_)) (hR.alloc hR.size _) (Xo ((Zm _ _).alloc (Zh _) _));intro i v l hv hl;have hi:i=0∨i=1∨i=2:=by have:=(Zl.1 hv).1;simp at this;omega
         rcases hi with rfl|rfl|rfl
         ·cases hv;cases hl;exact XG (by rw[YZ]) (λe=>by have:=H6.o.1.at_.lt _ e;omega) (by rw[YZ];decide) hg5
         ·cases hv;cases hl;exact XG (by rw[YZ]) (λe=>by have:=H6.o.1.at_.lt _ e;omega) (by rw[YZ];decide) hg7
         ·cases hv;cases hl;exact XG (by rw[YZ]) (λe=>by have:=H6.o.1.at_.lt _ e;omega) (by rw[YZ];decide) hg12
        all_goals (have d:=Xi qh;clear qh;try (obtain⟨rfl,-⟩:=d);go_wp2_with fail;exact hK _ _ (Xh rfl rfl) hR (λ_ _ h=>h))
       ·intro o ho vals W hvl hR qh K hK;obtain⟨x0,x1,x2,x3,x4,x5,x6,x7,x8,x9,x10,x11,x12,x13,x14,rfl⟩:=lsl15 vals hvl;obtain rfl:=Zv ho;clear ho hvl;unfold Xe;simp only[ZA,ZI,ZB,ZJ,ZF,Zr];obtain⟨rfl,rfl,rfl,rfl,rfl,⟨g5,rfl,hg5,hb5⟩,rfl,⟨g7,rfl,hg7,hb7⟩,rfl,rfl,rfl,rfl,⟨g12,rfl,hg12,hb12⟩,-⟩:=Ve qh;have e13:=qh 13 (by omega) _ rfl;have e13:FsAt W (RGx b c6) x13 _:=e13;obtain⟨rf13,cf13,ef13,-,-⟩:=e13.form;subst ef13;clear qh;go_wp2_with fail;refine(Zds (letter:=101) H6.o.1 hR htm _ _ e13 (by simp only[ZR,ZZ,Zf,YZ,ZT];have h1:=HM.o.on;have h2:=HO.o.2;have h3:=HXX.o.2.2.2.2.2.2.1;show rc.on.length+_+_≤_;omega) (by simp)).mono ?_;rintro e W7 ⟨rfl,c7,hbo,hst,hvv⟩;have H7:Hid (RBo W7 b c7 (Rf.put (Rf.say (Rf.say ({rc with S:=rc.S.set ix ⟨xref,qq,qo,qm,qn,y⟩,qi:=M}) (Rf.head rc 70++[enc qq 4,enc n 2,enc qn 2,enc M 4].flatten)) (Rf.head rc 70++[enc qf 4,enc n 2,enc qn 2,enc M 4].flatten)) (Rf.head rc 101++[enc xref 4,enc n 2,enc M 4].flatten)) came∧RStp w W7 b c c7∧W7.heap[bx]?=some (.cells (Ord.cells ⟨ref,qf,qe,qd,qc,z⟩).toArray 40)∧¬RGx b c7 bx∧c7.vr=cc.vr):=⟨hbo,H6.o.2.1.trans hst,(hst.box H6.o.2.2.1 H6.o.2.2.2.1).1,(hst.box H6.o.2.2.1 H6.o.2.2.2.1).2,hvv.trans H6.o.2.2.2.2⟩;clear hbo hst hvv hR d0 d1 d2 d3 d4 d5 m7;obtain⟨g7,cap7,hv7,-,-,hgl7,-,-,-,-,d0,d1,d2,d3,d4,d5⟩:=H7.o.1.order (i:=ix) (x:=⟨xref,qq,qo,qm,qn,y⟩) HX4.o;have hgg7:gr=g7:=by rw[H7.o.2.2.2.2] at hv7;have e:cc.vr=_:=hv7;rw[HXX.o.2.1] at e;simp at e;exact e.1
        subst hgg7;simp only at d0 d1 d2 d3 d4 d5;have m7:W7.cell? ⟨b,7,none⟩=some (.int .i64 (M:Nat)):=by have:=H7.o.1.at_.is.cell 7;rw[show c7.cells[7]?=some (.int .i64 (c7.qi:Nat)) from rfl,H7.o.1.qi] at this;exact this
        have hbb7:b<W7.heap.size:=H7.o.1.at_.is.lt;obtain⟨p0,p1,p2,p3,p4,p5⟩:=Xl ⟨ref,qf,qe,qd,qc,z⟩ (Zm _ _) H7.o.2.2.1;simp only at p0 p1 p2 p3 p4 p5;have hbl7:bx<W7.heap.size:=(Ze.1 H7.o.2.2.1).1;clear hv7;clear hgl6 hbb6 hbl6;have HEX:Hid ((Rf.put (Rf.say (Rf.say ({rc with S:=rc.S.set ix ⟨xref,qq,qo,qm,qn,y⟩,qi:=M}) (Rf.head rc 70++[enc qq 4,enc n 2,enc qn 2,enc M 4].flatten)) (Rf.head rc 70++[enc qf 4,enc n 2,enc qn 2,enc M 4].flatten)) (Rf.head rc 101++[enc xref 4,enc n 2,enc M 4].flatten))=rc.exec0 ⟨ref,qf,qe,qd,qc,sh⟩ ⟨xref,qq,qo,qm,qn,qp⟩ ix n):=by have h1:=HXX.o.2.2.2.2.2.1;have h2:=HXX.o.2.2.2.1;show _=_;unfold Rf.exec0 Rf.fill;rw[h1];simp only[ZR,ZZ,ZG,Zo];rw[h2]
        by_cases hy0:y=0
        ·have b1:((y:Int)==0)=true:=by simp[hy0]
         have hil:ix<(rc.S.set ix ⟨xref,qq,qo,qm,qn,y⟩).length:=by rw[Yf];exact(Zl.1 HXX.o.1).1
         have HWO:=Zc (XV W7 0 c7.vr (rc.S.set ix ⟨xref,qq,qo,qm,qn,y⟩) ix H7.o.1.at_.rest hil (by rw[Yf];have:=HM.o.len;omega));have k3:W7.cell? ⟨b,3,none⟩=some c7.vr:=H7.o.1.at_.is.cell 3;have hvv:c7.vr=.slice (some ⟨gr,0,none⟩) rc.S.length cap:=H7.o.2.2.2.2.trans HXX.o.2.1;rw[hvv] at k3 HWO;have HE0:Hid (y=0):=hy0;clear hy0 hvv;go_wp2_with fail;refine HWO.o.mono ?_;rintro e W8 ⟨v8,rfl,hr8,hB8⟩;obtain⟨ra8,cap8,hv8,-,-,-⟩:=hr8.form;obtain⟨N8,hN8⟩:=Za (((rc.S.set ix ⟨xref,qq,qo,qm,qn,y⟩).eraseIdx ix).length);rw[hN8] at hv8;subst hv8;obtain⟨A8,S8⟩:=H7.o.1.setRow hB8 hr8;have hx8:=H7.o.1.below hB8;have k8:W8.cell? ⟨b,3,none⟩=some c7.vr:=hx8.at_.is.cell 3;have f8:=hx8.at_.is.frozen 3;have hbx8:=S8.box H7.o.2.2.1 H7.o.2.2.2.1;have H8:=Zc (Zd A8 (Zd S8 hbx8));clear A8 S8 hbx8 hx8 hr8 hB8 HWO k3;go_wp2_with fail;have hfin:Hid (MtI w (W8.setCell ⟨b,3,none⟩ (.slice ra8 N8 cap8)) b bx c {c7 with vr:=.slice ra8 N8 cap8} r (rc.exec ⟨ref,qf,qe,qd,qc,sh⟩ ⟨xref,qq,qo,qm,qn,qp⟩ ix n) came ⟨ref,qf,qe,qd,qc,z⟩ k1 X):=by
          obtain⟨hx,-,hn,hy,hz,hM,hk1,-⟩:=HXX.o;have hil2:=(Zl.1 hx).1;have hxe:rc.exec ⟨ref,qf,qe,qd,qc,sh⟩ ⟨xref,qq,qo,qm,qn,qp⟩ ix n={rc.exec0 ⟨ref,qf,qe,qd,qc,sh⟩ ⟨xref,qq,qo,qm,qn,qp⟩ ix n with S:=(rc.exec0 ⟨ref,qf,qe,qd,qc,sh⟩ ⟨xref,qq,qo,qm,qn,qp⟩ ix n).S.eraseIdx ix}:=by unfold Rf.exec;rw[Zg (show qp-n=0 by rw[hy];exact HE0.o)]
          have hlen:=Zc0 rc ⟨ref,qf,qe,qd,qc,sh⟩ ⟨xref,qq,qo,qm,qn,qp⟩ ix n hil2;have ho:=Zbm rc ⟨ref,qf,qe,qd,qc,sh⟩ ⟨xref,qq,qo,qm,qn,qp⟩ ix n;have htm2:=Zag rc ⟨ref,qf,qe,qd,qc,sh⟩ ⟨xref,qq,qo,qm,qn,qp⟩ ix n;have e1:=HM.o.out;have e2:=HM.o.on;have e3:=HM.o.qi;have e4:=HM.o.len;have e5:=HE0.o;refine⟨?_,H7.o.2.1.trans H8.o.2.1,H8.o.2.2.1,H8.o.2.2.2,?_,?_,Zf7 rc _ _ ix n HM.o.sml (HM.o.sml _ (ZW hx)),by omega,by rw[htm2.2];omega,by rw[ho.1];omega,by rw[ho.2];omega,by rw[htm2.1];exact HM.o.time⟩
          ·rw[hxe,←HEX.o];exact H8.o.1
          ·have:=HM.o.eq;rw[hk1,HNX.o] at this;rw[←this];simp only[hn,hz]
          ·have:=hlen.2 (by show qp≤n;omega);rcases HM.o.fuel with e|e
           ·exact absurd e HS0.o
           ·right;omega
         refine⟨⟨k1,z,_,_,hfin,?_⟩,?_⟩
         ·have h1:=HZ.o;have h2:=HLE.o;show _≤_;omega
         ·have q5:=(Xl ⟨ref,qf,qe,qd,qc,z⟩ (Zm _ _) hfin.out.box).2.2.2.2.2;have:Qq (W8.setCell ⟨b,3,none⟩ (.slice ra8 N8 cap8)) bx=z:=by simp[Qq,q5]
          rw[this,hmz];exact HZ.o
        ·have b1:((y:Int)==0)=false:=by rw[Zz];omega
         have HE0:Hid (y≠0):=hy0;clear hy0;go_wp2_with fail;have hfin:Hid (MtI w W7 b bx c c7 r (rc.exec ⟨ref,qf,qe,qd,qc,sh⟩ ⟨xref,qq,qo,qm,qn,qp⟩ ix n) came ⟨ref,qf,qe,qd,qc,z⟩ k1 X):=by
          obtain⟨hx,-,hn,hy,hz,hM,hk1,-⟩:=HXX.o;have hil2:=(Zl.1 hx).1;have hxe:rc.exec ⟨ref,qf,qe,qd,qc,sh⟩ ⟨xref,qq,qo,qm,qn,qp⟩ ix n=rc.exec0 ⟨ref,qf,qe,qd,qc,sh⟩ ⟨xref,qq,qo,qm,qn,qp⟩ ix n:=by unfold Rf.exec;rw[Zj (show ¬qp-n=0 by rw[hy];exact HE0.o)]
          have hlen:=Zc0 rc ⟨ref,qf,qe,qd,qc,sh⟩ ⟨xref,qq,qo,qm,qn,qp⟩ ix n hil2;have ho:=Zbm rc ⟨ref,qf,qe,qd,qc,sh⟩ ⟨xref,qq,qo,qm,qn,qp⟩ ix n;have htm2:=Zag rc ⟨ref,qf,qe,qd,qc,sh⟩ ⟨xref,qq,qo,qm,qn,qp⟩ ix n;have e1:=HM.o.out;have e2:=HM.o.on;have e3:=HM.o.qi;have e4:=HM.o.len;have e5:=HE0.o;refine⟨?_,H7.o.2.1,H7.o.2.2.1,H7.o.2.2.2.1,?_,?_,Zf7 rc _ _ ix n HM.o.sml (HM.o.sml _ (ZW hx)),by omega,by rw[htm2.2];omega,by rw[ho.1];omega,by rw[ho.2];omega,by rw[htm2.1];exact HM.o.time⟩
          ·rw[hxe,←HEX.o];exact H7.o.1
          ·have:=HM.o.eq;rw[hk1,HNX.o] at this;rw[←this];simp only[hn,hz]
          ·left;show z=0;omega
         refine⟨⟨k1,z,_,_,hfin,?_⟩,?_⟩
         ·have h1:=HZ.o;have h2:=HLE.o;show _≤_;omega
         ·have:Qq W7 bx=z:=by simp[Qq,p5]
          rw[this,hmz];exact HZ.o
end
end Go.Proofs.YtphkchjejbffeaaGreat
