/- DC, DD0 -/
import Derived.Test.YtphkchjejbffeaaGreatK22
set_option maxHeartbeats 16000000
set_option maxRecDepth 100000
namespace Go.Proofs.YtphkchjejbffeaaGreat
open Tryz
open Go.RowKit
variable {M came:List UInt8}{b g o:Nat}{c:Rc}{w:World}
section
open Go.RowKit
attribute [local go_sem ↓] Go.wp_at_zero Go.wp_at_succ
theorem Qg (h:Lies w g o M)(n cap t:Nat)(h1:n≤M.length)(h2:n≤7)(ht:at_ M 0 n=t):
  Calls prog 124 #[.slice (some ⟨g,o,none⟩) n cap] w λe w'=>e=.returned (.int .i64 t)∧w'=w:=by
 have:=XH h 0 n cap t (by omega) h2 ht
 rwa [Nat.add_zero] at this
theorem Zfr {F:Nat→Prop}(h:Lies w g o M)(hg:g<w.heap.size)(hF:¬F g)(j n cap:Nat)(h1:j+n≤M.length)(h2:n≤cap)(h3:cap≤maxLen):Rd w F (.slice (some ⟨g,o+j,none⟩) n cap) ((M.drop j).take n):=by
 have hl:((M.drop j).take n).length=n:=by rw[ZD,Zt];omega
 refine .inr ⟨g,o+j,cap,by rw[hl],(h.drop j).take n,by rw[hl];exact h2,h3,hF,hg⟩
theorem TH {F:Nat→Prop}(h:Lies w g o M)(hg:g<w.heap.size)(hF:¬F g)(n cap:Nat)(h1:n≤M.length)(h2:n≤cap)(h3:cap≤maxLen):Rd w F (.slice (some ⟨g,o,none⟩) n cap) (M.take n):=by
 have hl:(M.take n).length=n:=by rw[ZD];omega
 refine .inr ⟨g,o,cap,by rw[hl],h.take n,by rw[hl];exact h2,h3,hF,hg⟩
theorem Zg0 {r:Rf}(h:RBo w b c r came)(gm om cm:Nat)(m:List UInt8)(hl:m.length=6)(hc:6≤cm)(hcm:cm≤9223372036854775807)(hM:Lies w gm om m)(hg:gm<w.heap.size)(hn:¬RGx b c gm)
  (hsm:∀x∈r.S,Sml x) (hS:r.S.length≤64) (ht:r.time≤9223372036854775807) (hout:r.out.length+100≤140737488355328) (hon:r.on.length+100≤140737488355328):
  Calls prog 96 #[.pointer (some ⟨b,0,none⟩),.slice (some ⟨gm,om,none⟩) 6 cm] w λe w'=>e=.returned (.tuple #[])∧∃c',RBo w' b c' (r.cancel m) came∧RStp w w' b c c':=by
 obtain⟨t,hte⟩:=Za (at_ m 0 4);obtain⟨d,hde⟩:=Za (at_ m 4 2);have HV1:=Zc (Qg hM 4 cm t (by omega) (by omega) hte);have HV2:=Zc (XH hM 4 2 (cm-4) d (by omega) (by omega) hde);have HOF:=Zc (Zi7 w b c r.S t h.at_.is h.at_.rest (by omega));have i4:(6:Int)≤(cm:Int):=by omega
 have i5:(cm:Int)≤9223372036854775807:=by omega
 have i6:¬cm=4:=by omega
 have HMS:=Zc (Zd hM (Zd hg (Zd hn (Zd hl hc))));have HT:=Zc (Zd hte hde);have HH:=Zc h;have c3:w.cell? ⟨b,3,none⟩=some c.vr:=h.at_.is.cell 3;clear h hM hg hn hl hc hte hde;go_enter func96,ntmps96;go_wp2_with fail;refine HV1.o.mono (Zb ?_);go_wp2_with fail;refine HOF.o.mono (Zb ?_);go_wp2_with fail;refine HV2.o.mono (Zb ?_);clear HV1 HV2 HOF;cases hof:ofI r.S t with
 | none=>
  have HE:Hid (r.cancel m=r):=by show _=_;unfold Rf.cancel;rw[HT.o.1,hof]
  clear hof;simp only[ixI];go_wp2_with fail;refine ZC (Yu rfl _ _ _) rfl ?_;exact⟨rfl,c,by rw[HE.o];exact HH.o,RStp.refl _ _ _⟩
 | some ix=>
  have hil:ix<r.S.length:=by unfold ofI at hof;exact(Yy.1 hof).1
  obtain⟨x,hx⟩:∃x,r.S[ix]?=some x:=⟨_,Zp hil⟩;have hxs:=hsm x (ZW hx);obtain⟨gr,cap,hvr,hc1,hc2,hgl,hgx,hgb,hfz,-,d0,d1,d2,d3,d4,d5⟩:=HH.o.order hx;obtain⟨xref,qq,qo,qm,qn,qp⟩:=x;obtain⟨N,hN⟩:=Za (r.S.length);have HVR:=Zc hvr;rw[hN] at hvr hc1 hil;rw[hvr] at c3;simp only at d0 d1 d2 d3 d4 d5;have i1:(0:Int)≤(ix:Int):=by omega
  have i2:(ix:Int)<(N:Int):=by omega
  have i3:¬(ix:Int)<0:=by omega
  obtain⟨hs1,hs2,hs3,hs4,hs5⟩:=hxs;simp only at hs1 hs2 hs3 hs4 hs5;simp only[ixI];by_cases hle:qp≤d
  ·have HE:Hid (r.cancel m=r):=by show _=_;unfold Rf.cancel;rw[HT.o.1,hof];simp only[hx,HT.o.2];rw[Zg hle]
   have b1:(qp:Int)≤(d:Int):=by omega
   clear hof hx hvr;go_wp2_with fail;refine ZC (Yu rfl _ _ _) rfl ?_;exact⟨rfl,c,by rw[HE.o];exact HH.o,RStp.refl _ _ _⟩
  ·have b1:¬(qp:Int)≤(d:Int):=by omega
   obtain⟨y,hy⟩:=Za (qp-d);have w1:IntKind.i64.wrap ((qp:Int)-(d:Int))=(y:Int):=by rw[Zq];omega
   have hyy:y≤9223372036854775807:=by omega
   have HNU:=Zc (Xu y 2 w hyy (by decide));have HX:Hid (r.S[ix]?=some ⟨xref,qq,qo,qm,qn,qp⟩∧ofI r.S t=some ix∧qp-d=y∧¬qp≤d∧r.S.length=N):=⟨hx,hof,hy,hle,hN⟩;clear hx hof hy hle hvr hN;go_wp2_with fail;refine HNU.o.mono ?_;rintro e W1 ⟨rfl,hW1⟩;have hB1:Below w.heap.size w W1:=by rw[hW1];exact(Zm _ w).alloc (Zh _) _
   have hgn:W1.heap[w.heap.size]?=some (.cells ((enc y 2).map B).toArray 5):=by rw[hW1,YX,Zg rfl]
   have hnG:¬RGx b c w.heap.size:=λe=>by have:=HH.o.at_.lt _ e;omega
   have A1:=HH.o.below hB1;obtain⟨A2,S2⟩:=A1.setShares HX.o.1 HVR.o d;have k5:W1.cell? ⟨gr,ix*6+5,none⟩=some (.int .i64 (qp:Nat)):=(hB1.cell (p:=⟨gr,ix*6+5,none⟩) hgl).trans d5;have f5:W1.frozen? ⟨gr,ix*6+5,none⟩=false:=by obtain⟨g',cap',hv',-,-,-,-,-,hfz',-⟩:=A1.order HX.o.1;have e:c.vr=_:=hv';rw[HVR.o] at e;simp at e;rw[e.1];exact hfz' _
   have hgr1:gr≠w.heap.size:=by omega
   have hgn2:(W1.setCell ⟨gr,ix*6+5,none⟩ (.int .i64 (d:Nat))).heap[w.heap.size]?=some (.cells ((enc y 2).map B).toArray 5):=((Fr.setCell W1 ⟨gr,ix*6+5,none⟩ (.int .i64 (d:Nat))).block w.heap.size (Ze.1 hgn).1 (λe=>hgr1 e.symm)).trans hgn;have hlw2:Lies (W1.setCell ⟨gr,ix*6+5,none⟩ (.int .i64 (d:Nat))) gm om m:=(HMS.o.1.keep (hB1.block gm HMS.o.2.1)).keep ((Fr.setCell W1 ⟨gr,ix*6+5,none⟩ (.int .i64 (d:Nat))).block gm (Zn HMS.o.2.1 hB1.size) (λe=>HMS.o.2.2.1 (by rw[show gm=gr from e];exact hgx)));have H2:Hid (RBo (W1.setCell ⟨gr,ix*6+5,none⟩ (.int .i64 (d:Nat))) b c {r with S:=r.S.set ix ⟨xref,qq,qo,qm,qn,d⟩} came∧RStp w (W1.setCell ⟨gr,ix*6+5,none⟩ (.int .i64 (d:Nat))) b c c∧(W1.setCell ⟨gr,ix*6+5,none⟩ (.int .i64 (d:Nat))).heap[w.heap.size]?=some (.cells ((enc y 2).map B).toArray 5)∧Lies (W1.setCell ⟨gr,ix*6+5,none⟩ (.int .i64 (d:Nat))) gm om m∧gm<(W1.setCell ⟨gr,ix*6+5,none⟩ (.int .i64 (d:Nat))).heap.size):=⟨A2,(RStp.below hB1).trans S2,hgn2,hlw2,by rw[Xw];exact Zn HMS.o.2.1 hB1.size⟩;clear hW1 A1 A2 S2 hgn hgn2 hlw2 HNU hB1 d0 d1 d2 d3 d4 d5 c3 hfz;obtain⟨W3,hW3⟩:=Za ((W1.setCell ⟨gr,ix*6+5,none⟩ (.int .i64 (d:Nat))).alloc (.cells #[.int .u8 85] 5));have hs2:(W1.setCell ⟨gr,ix*6+5,none⟩ (.int .i64 (d:Nat))).heap.size=W1.heap.size:=Xw _ _ _;go_wp2_with fail;have hB3:Below (W1.setCell ⟨gr,ix*6+5,none⟩ (.int .i64 (d:Nat))).heap.size (W1.setCell ⟨gr,ix*6+5,none⟩ (.int .i64 (d:Nat))) W3:=by rw[←hW3];exact(Zm _ _).alloc (Zh _) _
   have h85:W3.heap[W1.heap.size]?=some (.cells (([85]:List UInt8).map B).toArray 5):=by rw[←hW3,YX,Zg hs2.symm];rfl
   have hy3:W3.heap[w.heap.size]?=some (.cells ((enc y 2).map B).toArray 5):=(hB3.block _ (Ze.1 H2.o.2.2.1).1).trans H2.o.2.2.1;have hl3:Lies W3 gm om m:=H2.o.2.2.2.1.keep (hB3.block gm H2.o.2.2.2.2);have hn85:¬RGx b c W1.heap.size:=λe=>by have:=H2.o.1.at_.lt _ e;omega
   have hFS:FsAt (W3.alloc (.cells #[.slice (some ⟨gm,om,none⟩) 4 cm,.slice (some ⟨w.heap.size,0,none⟩) 2 2,.slice (some ⟨W1.heap.size,0,none⟩) 1 1] 36)) (RGx b c) (.slice (some ⟨W3.heap.size,0,none⟩) 3 3) [m.take 4,enc y 2,[85]]:=by
    refine Ut [.slice (some ⟨gm,om,none⟩) 4 cm,.slice (some ⟨w.heap.size,0,none⟩) 2 2,.slice (some ⟨W1.heap.size,0,none⟩) 1 1] _ 3 rfl rfl ?_;intro i v l hv hl;have hi:i=0∨i=1∨i=2:=by have:=(Zl.1 hv).1;simp at this;omega
    rcases hi with rfl|rfl|rfl
    ·cases hv;cases hl;exact TH hl3 (Zn H2.o.2.2.2.2 hB3.size) HMS.o.2.2.1 4 cm (by rw[HMS.o.2.2.2.1];decide) (by have:=HMS.o.2.2.2.2;omega) (by unfold maxLen;omega)
    ·cases hv;cases hl;exact XG (by rw[YZ]) hnG (by rw[YZ];decide) hy3
    ·cases hv;cases hl;exact XG rfl hn85 (by simp) h85
   have h4l:(m.take 4).length=4:=by rw[ZD,HMS.o.2.2.2.1];rfl
   refine(Uz (letter:=88) H2.o.1 (hB3.alloc hB3.size _) ht _ _ hFS (by simp only[ZR,ZZ,Zf,YZ,Zu,ZT,h4l];show r.out.length+_+_≤_;omega) (by simp)).mono ?_;rintro e W4 ⟨rfl,c4,hb4,hst4,hv4⟩;have hy4:W4.heap[w.heap.size]?=some (.cells ((enc y 2).map B).toArray 5)∧¬RGx b c4 w.heap.size:=hst4.box H2.o.2.2.1 hnG;have H4:=Zc (Zd hb4 (Zd (H2.o.2.1.trans hst4) (Zd hv4 hy4)));have HX4:Hid ((r.S.set ix ⟨xref,qq,qo,qm,qn,d⟩)[ix]?=some ⟨xref,qq,qo,qm,qn,d⟩):=by show _=_;rw[List.getElem?_set_self (Zl.1 HX.o.1).1]
   obtain⟨g4,cap4,hvr4,-,-,hgl4,-,-,-,-,d0,d1,d2,d3,d4,d5⟩:=hb4.order (i:=ix) HX4.o;have hg4:gr=g4:=by rw[hv4,HVR.o] at hvr4;simp at hvr4;exact hvr4.1
   subst hg4;simp only at d0 d1 d2 d3 d4 d5;clear hvr4 hb4 hst4 hv4 hy4 hFS h85 hy3 hl3 hn85 hB3 hW3 hs2 k5 f5;have HNU:=Zc (Xu xref 4 W4 hs1 (by decide));by_cases hd0:d=0
   ·have b2:¬(0:Int)<(d:Int):=by omega
    have HD:Hid (d=0):=hd0;clear hd0;go_wp2_with fail;refine HNU.o.mono ?_;rintro e W5 ⟨rfl,hW5⟩;have hB5:Below W4.heap.size W4 W5:=by rw[hW5];exact(Zm _ _).alloc (Zh _) _
    have hr5:W5.heap[W4.heap.size]?=some (.cells ((enc xref 4).map B).toArray 5):=by rw[hW5,YX,Zg rfl]
    have hn5:¬RGx b c4 W4.heap.size:=λe=>by have:=H4.o.1.at_.lt _ e;omega
    have hFS:FsAt (W5.alloc (.cells #[.slice (some ⟨W4.heap.size,0,none⟩) 4 4] 36)) (RGx b c4) (.slice (some ⟨W5.heap.size,0,none⟩) 1 1) [enc xref 4]:=by
     refine Ut [.slice (some ⟨W4.heap.size,0,none⟩) 4 4] _ 1 rfl rfl ?_;intro i v l hv hl;have hi:i=0:=by have:=(Zl.1 hv).1;simp at this;omega
     subst hi;cases hv;cases hl;exact XG (by rw[YZ]) hn5 (by rw[YZ];decide) hr5
    have HON:=Zc (Zds (letter:=100) H4.o.1 (hB5.alloc hB5.size _) ht _ _ hFS (by simp only[ZR,ZZ,Zf,YZ,ZT];show r.on.length+_+_≤_;omega) (by simp));clear hFS hn5 hr5 hB5 hW5 HNU;go_wp2_with fail;refine HON.o.mono ?_;rintro e W6 ⟨rfl,c6,hb6,hst6,hv6⟩;clear HON d0 d1 d2 d3 d4 d5;have hil6:ix<(r.S.set ix ⟨xref,qq,qo,qm,qn,d⟩).length:=by rw[Yf];exact(Zl.1 HX.o.1).1
    have HWO:=Zc (XV W6 0 c6.vr (r.S.set ix ⟨xref,qq,qo,qm,qn,d⟩) ix hb6.at_.rest hil6 (by rw[Yf];omega));have k3:W6.cell? ⟨b,3,none⟩=some c6.vr:=hb6.at_.is.cell 3;have hvv:c6.vr=.slice (some ⟨gr,0,none⟩) N cap:=by rw[hv6,H4.o.2.2.1,HVR.o,HX.o.2.2.2.2]
    rw[hvv] at k3 HWO;have H6:=Zc (Zd hb6 hst6);clear hb6 hst6 hv6 hvv hil6;go_wp2_with fail;refine HWO.o.mono ?_;rintro e W8 ⟨v8,rfl,hr8,hB8⟩;obtain⟨ra8,cap8,hv8,-,-,-⟩:=hr8.form;obtain⟨N8,hN8⟩:=Za (((r.S.set ix ⟨xref,qq,qo,qm,qn,d⟩).eraseIdx ix).length);rw[hN8] at hv8;subst hv8;obtain⟨A8,S8⟩:=H6.o.1.setRow hB8 hr8;have hx8:=H6.o.1.below hB8;have k8:W8.cell? ⟨b,3,none⟩=some c6.vr:=hx8.at_.is.cell 3;have f8:=hx8.at_.is.frozen 3;have H8:=Zc (Zd A8 S8);clear A8 S8 hx8 hr8 hB8 HWO k3;go_wp2_with fail;go_end0
    refine⟨rfl,_,?_,H4.o.2.1.trans (H6.o.2.trans H8.o.2)⟩;have hres:=H8.o.1;have e:r.cancel m=({(({r with S:=r.S.set ix ⟨xref,qq,qo,qm,qn,d⟩}:Rf).say (r.head 88++[m.take 4,enc y 2,[85]].flatten)).put (r.head 100++[enc xref 4].flatten) with S:=(r.S.set ix ⟨xref,qq,qo,qm,qn,d⟩).eraseIdx ix}:Rf):=by unfold Rf.cancel;rw[HT.o.1,HX.o.2.1];simp only[HX.o.1,HT.o.2];rw[Zj HX.o.2.2.2.1,Zj (by rw[HD.o];decide),HX.o.2.2.1];simp only[ZR,ZZ,ZG,Zo];rfl
    rw[e];exact hres
   ·have b2:(0:Int)<(d:Int):=by omega
    have HD:Hid (0<d):=Nat.pos_of_ne_zero hd0;clear hd0;go_wp2_with fail;refine HNU.o.mono ?_;rintro e W5 ⟨rfl,hW5⟩;have hB5:Below W4.heap.size W4 W5:=by rw[hW5];exact(Zm _ _).alloc (Zh _) _
    have hr5:W5.heap[W4.heap.size]?=some (.cells ((enc xref 4).map B).toArray 5):=by rw[hW5,YX,Zg rfl]
    have hn5:¬RGx b c4 W4.heap.size:=λe=>by have:=H4.o.1.at_.lt _ e;omega
    have hy5:W5.heap[w.heap.size]?=some (.cells ((enc y 2).map B).toArray 5):=(hB5.block _ (Ze.1 H4.o.2.2.2.1).1).trans H4.o.2.2.2.1;have hFS:FsAt (W5.alloc (.cells #[.slice (some ⟨W4.heap.size,0,none⟩) 4 4,.slice (some ⟨w.heap.size,0,none⟩) 2 2] 36)) (RGx b c4) (.slice (some ⟨W5.heap.size,0,none⟩) 2 2) [enc xref 4,enc y 2]:=by
     refine Ut [.slice (some ⟨W4.heap.size,0,none⟩) 4 4,.slice (some ⟨w.heap.size,0,none⟩) 2 2] _ 2 rfl rfl ?_;intro i v l hv hl;have hi:i=0∨i=1:=by have:=(Zl.1 hv).1;simp at this;omega
     rcases hi with rfl|rfl
     ·cases hv;cases hl;exact XG (by rw[YZ]) hn5 (by rw[YZ];decide) hr5
     ·cases hv;cases hl;exact XG (by rw[YZ]) H4.o.2.2.2.2 (by rw[YZ];decide) hy5
    have HON:=Zc (Zds (letter:=120) H4.o.1 (hB5.alloc hB5.size _) ht _ _ hFS (by simp only[ZR,ZZ,Zf,YZ,ZT];show r.on.length+_+_≤_;omega) (by simp));clear hFS hn5 hr5 hB5 hW5 HNU hy5;go_wp2_with fail;refine HON.o.mono ?_;rintro e W6 ⟨rfl,c6,hb6,hst6,hv6⟩;have H6:=Zc (Zd hb6 hst6);clear HON hb6 hst6 hv6;go_wp2_with fail;refine ZC (Yu rfl _ _ _) rfl ?_;refine⟨rfl,c6,?_,H4.o.2.1.trans H6.o.2⟩;have hres:=H6.o.1;have e:r.cancel m=(({r with S:=r.S.set ix ⟨xref,qq,qo,qm,qn,d⟩}:Rf).say (r.head 88++[m.take 4,enc y 2,[85]].flatten)).put (r.head 120++[enc xref 4,enc y 2].flatten):=by unfold Rf.cancel;rw[HT.o.1,HX.o.2.1];simp only[HX.o.1,HT.o.2];rw[Zj HX.o.2.2.2.1,Zg HD.o,HX.o.2.2.1];simp only[ZR,ZZ,ZG,Zo]
    rw[e];exact hres
end
section
open Go.RowKit
theorem infoInt0 :(prog.info? 3).map (λi=>(i.zero,i.size,i.bytes))=some (some (.int .i64 0),1,8):=by kernel_rfl
theorem Zkd :prog.underlying 48=some (.slice 3):=by kernel_rfl
theorem RAt.setU {w3:World}{S:List Ord}{us us':List Nat}{out on:List UInt8}{v':Value}(h:RAt w b c S us came out on)(hf:Fr (λk=>c.vu.ownBlock=some k) w w3)(hu:UsAt w3 v' us')(hv:v'.ownBlock=c.vu.ownBlock∨∃g,v'.ownBlock=some g∧w.heap.size≤g):
  IsR w3 b c∧RAt (w3.setCell ⟨b,4,none⟩ v') b {c with vu:=v'} S us' came out on∧RStp w (w3.setCell ⟨b,4,none⟩ v') b c {c with vu:=v'}:=by
 obtain⟨⟨n1,n2,n3,n4,n5⟩,m1,m2⟩:=h.ne;have hi3:IsR w3 b c:=h.is.keep (hf.block b h.is.lt n2);have hf4:=Fr.setCell w3 ⟨b,4,none⟩ v';have kp:∀k,k<w.heap.size→k≠b→c.vu.ownBlock≠some k→(w3.setCell ⟨b,4,none⟩ v').heap[k]?=w.heap[k]?:=λk hk h1 h2=>(hf4.block k (Zn hk hf.size) h1).trans (hf.block k hk h2);have hub:v'.ownBlock≠some b:=hi3.ne_row hu (by decide);refine⟨hi3,⟨hi3.set 4 v' rfl,?_,?_,?_,?_,?_,h.d1,h.d2⟩,?_,?_,rfl⟩
 ·exact YY h.rest (λg hg=>kp g (Zs h.rest g hg).2 (λe=>n1 (by rw[hg,e])) (λe=>(m1 g hg).1 e))
 ·exact YY hu (λg hg=>hf4.block g (Zs hu g hg).2 (λe=>hub (by rw[hg,e])))
 ·exact h.out.keep (λg hg=>kp g (h.out.lt g hg).2 (λe=>n3 (by rw[hg,e])) (λe=>(m2 g e).1 hg))
 ·exact h.on.keep (λg hg=>kp g (h.on.lt g hg).2 (λe=>n4 (by rw[hg,e])) (λe=>(m2 g e).2.1 hg))
 ·exact h.came.keep (λg hg=>kp g (h.came.lt hg) (λe=>n5 (by rw[hg,e])) (λe=>(m2 g e).2.2 hg))
 ·refine(hf.mono (G:=RGx b c) (λk _ e=>.inr (.inr (.inl e)))).trans hf4 (λk _ e=>.inl e)
 ·rintro k (e|e|e|e|e)
  ·exact .inl (.inl e)
  ·exact .inl (.inr (.inl e))
  ·have e:v'.ownBlock=some k:=e;rcases hv with e1|⟨g',e1,e2⟩
   ·exact .inl (.inr (.inr (.inl (by rw[←e1];exact e))))
   ·rw[e1] at e;cases e;exact .inr e2
  ·exact .inl (.inr (.inr (.inr (.inl e))))
  ·exact .inl (.inr (.inr (.inr (.inr e))))
theorem Zf0 {r:Rf}(h:RBo w b c r came)(t:Nat)(hn:r.us.length≤1000000000):∃ra n n1 cap rb capb w3,c.vu=.slice ra n cap∧n+1=n1∧
  (Zd7 #[48,48] 48 #[.slice ra n cap,.slice (some ⟨w.heap.size,0,none⟩) 1 1]).run prog ((w.alloc (.cells #[.int .i64 t] 3)).drew)=.ok (.slice rb n1 capb) w3∧
  IsR w3 b c∧RBo (w3.setCell ⟨b,4,none⟩ (.slice rb n1 capb)) b {c with vu:=.slice rb n1 capb} {r with us:=r.us++[t]} came∧RStp w (w3.setCell ⟨b,4,none⟩ (.slice rb n1 capb)) b c {c with vu:=.slice rb n1 capb}:=by
 obtain⟨i0,hi,hz0,hz1,hz2⟩:=info_parts infoInt0;have hu:=h.at_.used;obtain⟨ra,cap,hv,-,-⟩:=Xf hu;obtain⟨O,hO⟩:∃O:Obj,O=.cells #[.int .i64 t] 3:=⟨_,rfl⟩;have hOA:(w.drew.alloc O).ownsRow 0 3 1 (.slice ra r.us.length cap) r.us.length (r.us.map λ(n:Nat)=>Value.int .i64 (n:Int)):=by
  rw[←hv];exact YY hu (λg hg=>by show(w.alloc O).heap[g]?=_;rw[YX,Zj (by have:=(Zs hu g hg).2;omega)])
 have hrd:∀j u,[Value.int .i64 (t:Int)][j]?=some u→(w.drew.alloc O).cell? ((⟨w.heap.size,0,none⟩:Addr).add j)=some u:=by
  intro j u hj;have hblk:(w.drew.alloc O).heap[w.heap.size]?=some O:=by show(w.alloc O).heap[w.heap.size]?=_;rw[YX,Zg rfl]
  rw[hO] at hblk ⊢;rw[Yg,ZN,Zk _ w.heap.size j _ 3 (0,0) hblk];simpa using hj
 obtain⟨v3,w3,hrun,hown3,hg3,-,hb3⟩:=run_append_own_at (P:=prog) (w.drew.alloc O) 0 48 48 3 i0 _ 1 8 Zkd hi hz0 hz1 hz2 rfl (by decide) _ r.us.length _ hOA ⟨w.heap.size,0,none⟩ 1 1 [.int .i64 t] rfl hrd (by intro u hu;simp at hu;subst hu;rfl) (by unfold maxLen;omega) (by omega) (Zy _);have hf3:Fr (λk=>c.vu.ownBlock=some k) w w3:=by rw[hv];exact((((Fr.drew (λk=>some k=Value.ownBlock (.slice ra r.us.length cap)) w).trans (Fr.alloc (λk=>some k=Value.ownBlock (.slice ra r.us.length cap)) w.drew O) (λ_ _ e=>e)).trans (Fr.of_grown hg3) (λ_ _ e=>e))).mono (λk _ e=>e.symm)
 obtain⟨rb,capb,rfl,-,-⟩:=Xf hown3;obtain⟨n1,hn1⟩:=Za (r.us.length+1);rw[hn1] at hrun hown3 hb3;have hu3:UsAt w3 (.slice rb n1 capb) (r.us++[t]):=by unfold UsAt;rw[Zf,ZH];show w3.ownsRow 0 _ 1 _ (r.us.length+1) _;rw[hn1];exact hown3
 obtain⟨k1,k2,k3⟩:=h.at_.setU hf3 hu3 (hb3.elim (λe=>.inl (by rw[hv];exact e)) (λe=>.inr ⟨_,e,by show _≤(w.alloc O).heap.size;rw[Xb];omega⟩));refine⟨ra,_,n1,cap,rb,capb,w3,hv,hn1,?_,k1,⟨k2,h.qk,h.qj,h.pool,h.time,h.qg,h.qi,h.opn⟩,k3⟩;rw[hO] at hrun;exact hrun
theorem Zdd (k:Nat):∀(r:Rf) (o:Ord),(r.meet k o).2={o with qa:=(r.meet k o).2.qa}∧(r.meet k o).2.qa≤o.qa∧(r.meet k o).1.out.length≤r.out.length+38*k∧(r.meet k o).1.on.length≤r.on.length+17*k∧(r.meet k o).1.time=r.time∧(r.meet k o).1.S.length≤r.S.length:=by
 induction k with
 | zero=>intro r o;exact⟨rfl,Zh _,Zh _,Zh _,rfl,Zh _⟩
 | succ k ih=>
  intro r o;have triv:r.meet (k+1) o=(r,o)→(r.meet (k+1) o).2={o with qa:=(r.meet (k+1) o).2.qa}∧(r.meet (k+1) o).2.qa≤o.qa∧(r.meet (k+1) o).1.out.length≤r.out.length+38*(k+1)∧(r.meet (k+1) o).1.on.length≤r.on.length+17*(k+1)∧(r.meet (k+1) o).1.time=r.time∧(r.meet (k+1) o).1.S.length≤r.S.length:=by intro e;rw[e];exact⟨rfl,Zh _,by show r.out.length≤_;omega,by show r.on.length≤_;omega,rfl,Zh _⟩
  by_cases h0:o.qa=0
  ·exact triv (Qn _ _ _ h0)
  ·cases hop:oppI r.S o with
   | none=>exact triv (Qe _ _ _ hop)
   | some i=>
    obtain⟨x,hx⟩:=Zbx hop;rw[Qk k r o x i h0 hop hx];obtain⟨a1,a2,a3,a4,a5,a6⟩:=ih (r.exec o x i (min o.qa x.qa)) {o with qa:=o.qa-min o.qa x.qa};obtain⟨b1,b2⟩:=Zbm r o x i (min o.qa x.qa);obtain⟨b3,-⟩:=Zag r o x i (min o.qa x.qa);have b4:=(Zc0 r o x i (min o.qa x.qa) (Zl.1 hx).1).1;exact⟨a1,Zw a2 (Nat.sub_le _ _),by omega,by omega,a5.trans b3,Zw a6 b4⟩
theorem whyN_lt (us:List Nat)(s l p n:Nat)(o:Ord)(k:UInt8):whyN us s l p n o k<256:=by unfold whyN;rcases Zae l o.qc o.qa with e|e|e<;>rw[e]<;>(repeat' split)<;>decide
theorem Zkc {us:List Nat}{s l p n:Nat}{o:Ord}{k:UInt8}(h:whyN us s l p n o k=0):(o.qe=66∨o.qe=83)∧1≤o.qa∧o.qa≤9999:=by
 unfold whyN at h;split at h
 ·cases h
 split at h
 ·cases h
 rename_i hs;split at h
 ·cases h
 split at h
 ·rename_i hb;exact absurd h hb
 rename_i hb;refine⟨?_,?_⟩
 ·by_cases e:o.qe=66
  ·exact .inl e
  ·by_cases e2:o.qe=83
   ·exact .inr e2
   ·exact absurd ⟨e,e2⟩ hs
 ·unfold badN at hb;simp only[ne_eq,Decidable.not_not] at hb;split at hb
  ·cases hb
  ·split at hb
   ·cases hb
   ·rename_i h1 h2;omega
end
end Go.Proofs.YtphkchjejbffeaaGreat
