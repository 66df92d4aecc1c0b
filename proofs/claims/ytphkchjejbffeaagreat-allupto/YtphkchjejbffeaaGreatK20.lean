/- V7, W7, V8, D2, D3 -/
import Derived.Test.YtphkchjejbffeaaGreatK19
set_option maxHeartbeats 16000000
set_option maxRecDepth 100000
namespace Go.Proofs.YtphkchjejbffeaaGreat
open Tryz
open Go.RowKit
variable {l l1 out:List UInt8}{xs:List Value}{b k n wb:Nat}{F:Nat→Prop}{v v1:Value}{x x':Vw}{w w' w2 wr:World}
section
open Go.RowKit
attribute [local go_sem ↓] Go.wp_at_zero Go.wp_at_succ
theorem rep_succ (N:Nat)(m:UInt8):List.replicate (N+1) (B m)=List.replicate N (B m)++[.int .u8 m.toNat]:=by rw[List.replicate_succ'];rfl
structure Bp (w wr:World)(U:Nat→Prop)(wb nn n k:Nat)(m:UInt8)(x:Vw)(vl:Value):Prop where
 ex:∃new vb vc,VC wr U wb {x with nn:=nn,bys:=x.bys++new,vb:=vb,vc:=vc}∧new.length=k∧(∀g,vl.ownBlock=some g→Ziv (x.bys++new) g (n+k) m)∧Apt {x with vc:=vc} vl
 row:wr.ownsRow 0 5 1 vl (n+k) (List.replicate (n+k) (B m))
 fr:Fr (λk=>¬U k) w wr
 nu:∀g,vl.ownBlock=some g→¬U g
theorem Zi2 {w4 w6:World}{U:Nat→Prop}{nn N:Nat}{m:UInt8}{new OR:List (Value×UInt8)}{vb vb2 vc vc2 vl v6:Value}(h:B2s wr w4 U wb N m {x with nn:=nn,bys:=OR,vb:=vb,vc:=vc} vb2 vc2 vl (List.replicate N (B m)))(hfr:Fr (λk=>¬U k) w wr)(hU:∀k,U k→k<w.heap.size)(hOR:OR=x.bys++new)(hnew:new.length=k)(hN:N=n+k)(hnu:∀g,vl.ownBlock=some g→¬U g)(hap:Apt {x with vc:=vc} vl)
  (hin:∀g,vl.ownBlock=some g→Ziv OR g N m) (O:Obj) (h1:((w4.setCell ⟨wb,4,none⟩ vc2).alloc O).grownBy w6 vl.ownBlock) (h2:∀g,vl.ownBlock=some g→(vl=.slice (some ⟨g,0,none⟩) N (match vl with | .slice _ _ c=>c|_=>0))∧(∀j u,(List.replicate N (B m))[j]?=some u→w6.cell? ⟨g,j,none⟩=some u)∧∃cur,w6.heap[g]?=some (.cells cur 5 (0,0)))
  (h3:v6.ownBlock=vl.ownBlock∨v6.ownBlock=some ((w4.setCell ⟨wb,4,none⟩ vc2).alloc O).heap.size) (hrow:w6.ownsRow 0 5 1 v6 (N+1) (List.replicate N (B m)++[.int .u8 m.toNat])):Bp w w6 U wb nn n (k+1) m x v6:=by
 have hs5:=Xx w4 ⟨wb,4,none⟩ vc2;have hsz:=h.sz;have hwc:VC (w4.setCell ⟨wb,4,none⟩ vc2) U wb {x with nn:=nn,bys:=OR++[(vl,m)],vb:=vb2,vc:=vc2}:=h.wc;have hwa:VC ((w4.setCell ⟨wb,4,none⟩ vc2).alloc O) U wb {x with nn:=nn,bys:=OR++[(vl,m)],vb:=vb2,vc:=vc2}:=hwc.below ((Zm _ _).alloc (Zh _) O);have hw6:VC w6 U wb {x with nn:=nn,bys:=OR++[(vl,m)],vb:=vb2,vc:=vc2}:=by
  cases hv:vl.ownBlock with
  | none=>
   rw[hv] at h1;exact hwa.below ((Zm _ _).grown h1 (Zh _) (λg hg=>by cases hg))
  | some g=>
   obtain⟨e1,e2,e3⟩:=h2 g hv;have hty:Ty ((w4.setCell ⟨wb,4,none⟩ vc2).alloc O) g 5:=Xd (XL h.rl O) hv;rw[hv] at h1;refine hwa.stayB hty (N:=N) (m:=m) ?_ (h.apc g hv) (hap.i g hv) (hap.e g hv) h1 e2 e3;intro p hp e;rcases ZE.1 hp with hp|hp
   ·exact hin g hv p hp e
   ·simp at hp;rw[hp];exact⟨N,_,e1,Zh _,rfl⟩
 refine⟨⟨new++[(vl,m)],vb2,vc2,?_,by rw[Zf];simp[hnew],?_,?_⟩,?_,?_,?_⟩
 ·rw[←Zo,←hOR];exact hw6
 ·intro g' hg';rw[←Zo,←hOR];intro p hp e;rcases h3 with h3|h3
  ·rw[h3] at hg';rcases ZE.1 hp with hp|hp
   ·obtain⟨np,cp,x1,x2,x3⟩:=hin g' hg' p hp e;exact⟨np,cp,x1,by omega,x3⟩
   ·simp at hp;rw[hp];exact⟨N,_,(h2 g' hg').1,by omega,rfl⟩
  ·rw[h3] at hg';cases hg';exfalso;have hlt:=(hwc.bob p hp _ e).lt;rw[Xb] at hlt;omega
 ·rcases h3 with h3|h3
  ·exact⟨λg hg=>h.apc g (by rw[←h3];exact hg),λg hg=>hap.i g (by rw[←h3];exact hg),λg hg=>hap.e g (by rw[←h3];exact hg)⟩
  ·have hbig:∀g,v6.ownBlock=some g→(w4.setCell ⟨wb,4,none⟩ vc2).heap.size≤g:=λg hg=>by rw[h3] at hg;cases hg;rw[Xb];omega
   exact⟨λg hg e=>by have h4:=hbig g hg;have h5:=(Xd hwc.rbm e).lt;omega,λg hg v hv e=>by have h4:=hbig g hg;have h5:=((hwc.ful v hv).ty e).lt;omega,λg hg v hv e=>by have h4:=hbig g hg;have h5:=(hwc.exo v hv g e).lt;omega⟩
 ·rw[show n+(k+1)=N+1 by omega,rep_succ];exact hrow
 ·have hf6:Fr (λk=>¬U k) (w4.setCell ⟨wb,4,none⟩ vc2) w6:=(Fr.alloc (λk=>¬U k) (w4.setCell ⟨wb,4,none⟩ vc2) O).trans (Fr.of_grown h1) (λi hi e hu=>hnu i e.symm hu);exact(hfr.trans h.fr (λ_ _ e=>e)).trans hf6 (λ_ _ e=>e)
 ·intro g hg hu;rcases h3 with h3|h3
  ·exact hnu g (by rw[←h3];exact hg) hu
  ·rw[h3] at hg;cases hg;have h4:=hU _ hu;have h5:=hfr.size;rw[Xb] at h4;omega
def To (m:UInt8)(xs:List Value)(i:Nat):List Value:=List.replicate i (B m)++xs.drop i
theorem by_step (m:UInt8)(xs:List Value)(i:Nat)(h:i<xs.length):(To m xs i).set i (B m)=To m xs (i+1):=by unfold To;rw[Yb _ _ (by rw[List.length_replicate];exact Zh _),List.length_replicate,YH,YI h,List.set_cons_zero,List.replicate_succ',Zo];rfl
theorem by_full (m:UInt8)(xs:List Value)(n:Nat)(h:xs.length=n):To m xs n=List.replicate n (B m):=by unfold To;rw[YT (by omega),ZG]
theorem Zb6 (W:World)(s:Nat)(m:UInt8)(hs:W.heap.size=s):∀j u,[Value.int .u8 (m.toNat:Int)][j]?=some u→(W.alloc (.cells #[.int .u8 m.toNat] 5)).cell? ((⟨s,0,none⟩:Addr).add j)=some u:=by subst hs;intro j u hu;rw[Yg,ZN,Zk _ W.heap.size j _ 5 (0,0) (by rw[YX,Zg rfl])];simpa using hu
theorem Zcp {U:Nat→Prop}{cap:Nat}{r:Option Addr}(h:VC w U wb x)(hU:∀k,U k→k<w.heap.size)(hnn:x.nn≤1000000000)(hn:n≤1000000000)(ho:x.bys.length≤4000000000)
  (hrow:w.ownsRow 0 5 1 (.slice r n cap) n xs) (hnv:∀g,Value.ownBlock (.slice r n cap)=some g→¬U g∧¬VS wb x g):
  Calls prog 34 #[.pointer (some ⟨wb,0,none⟩),.slice r n cap] w λe w'=>e=.returned (.tuple #[])∧∃m vl,Bp w w' U wb (x.nn+1) n 4 m x vl:=by
 obtain⟨n1,hn1⟩:=Za (x.nn+1);obtain⟨m,hm⟩:∃m:UInt8,m.toNat=n1%251:=⟨UInt8.ofNat (n1%251),by simp;omega⟩;obtain⟨-,g1,-,-,-,-,-,fz,hwl⟩:=h.cells;have f1:=fz 1;have w1:(x.nn:Int)+1=(n1:Int):=by omega
 have hj1:n1≤4000000000000:=by omega
 have HM:=Zc hn1;have HWC:=Zc (h.setN n1);have hrw:(w.setCell ⟨wb,1,none⟩ (.int .i64 n1)).ownsRow 0 5 1 (.slice r n cap) n xs:=YY hrow (λg hg=>by exact(Fr.setCell w ⟨wb,1,none⟩ (.int .i64 n1)).block g (Xd hrow hg).lt (λe=>(Xd hrow hg).ne h.wty (by decide) e))
 have HRW:=Zc hrw;have HB1:Hid (Fr (λk=>¬U k) w (w.setCell ⟨wb,1,none⟩ (.int .i64 n1))):=(Fr.setCell w ⟨wb,1,none⟩ (.int .i64 n1)).mono (λk _ e=>h.nU k (.inl e));have HAP:Hid (∀g,Value.ownBlock (.slice r n cap)=some g→Apt x (.slice r n cap)):=λg hg=>⟨λg' hg' e=>(hnv g' hg').2 (.inr (.inr (.inr (.inr (.inl e))))),λg' hg' v hv e=>(hnv g' hg').2 (.inr (.inr (.inr (.inr (.inr (.inr (.inr (.inl ⟨v,hv,e⟩)))))))),λg' hg' v hv e=>(hnv g' hg').2 (.inr (.inr (.inr (.inr (.inr (.inr (.inr (.inr (.inl ⟨v,hv,e⟩)))))))))⟩;have HU:=Zc hU;have HNV:=Zc hnv;have w3:=Uw n1 hj1;have w4:=UW n1 hj1;have w5:Int.tmod (n1:Int) 251=(m.toNat:Int):=by rw[Int.tmod_eq_emod_of_nonneg (by omega)];omega
 have w6:IntKind.u8.wrap (m.toNat:Int)=(m.toNat:Int):=by have:=m.toNat_lt;rw[IntKind.wrap_u8];omega
 clear h hrow hrw fz hn1 hm hU hnv;go_enter func34,ntmps34;go_wp2_with fail;generalize w.setCell ⟨wb,1,none⟩ (.int .i64 n1)=W1 at *;have hrr:(r=none∧n=0∧cap=0)∨∃g,r=some ⟨g,0,none⟩:=by
  rcases HRW.o.2 with⟨e,e2⟩|⟨g,c,cur,e,-⟩
  ·simp only[ZX] at e;exact .inl ⟨e.1,e2,e.2.2⟩
  ·simp only[ZX] at e;exact .inr ⟨g,e.1⟩
 rcases hrr with⟨rfl,rfl,rfl⟩|⟨g,rfl⟩
 ·have HKP:Hid (Bp w W1 U wb n1 0 0 m x (.slice none 0 0)):=⟨⟨[],x.vb,x.vc,by rw[ZG];exact HWC.o,rfl,λg hg=>(by cases hg),⟨λg hg=>(by cases hg),λg hg=>(by cases hg),λg hg=>(by cases hg)⟩⟩,ZO _ _ _ _,HB1.o,λg hg=>(by cases hg)⟩;go_loopw [5] (λvi wr=>vi=.int .i64 0∧wr=W1) (λ_ _=>0)
  case atStart=>exact⟨rfl,rfl⟩
  case round=>
   obtain⟨rfl,hw⟩:=hrel;subst hw;go_wp2_with fail;clear w1 w3 w4 w5 w6;obtain⟨i0,hi0,hz0,hz1,hz2⟩:=info_parts infoBys;obtain⟨i2,hi20,hz20,hz21,hz22⟩:=info_parts info5;have HI:=Zc (Zd (Zd hi0 (Zd hz0 (Zd hz1 hz2))) (Zd hi20 (Zd hz20 (Zd hz21 hz22))));clear hi0 hz0 hz1 hz2 hi20 hz20 hz21 hz22;go_loopw [1,6] (λvl vk wr=>∃k:Nat,k≤4∧vk=.int .i64 k∧Hid (Bp w wr U wb n1 0 k m x vl)) (λ_ vk _=>4-(intOf vk).toNat)
   case atStart=>exact⟨0,Zy _,rfl,HKP⟩
   case round=>
    obtain⟨k,hk,rfl,HK⟩:=hrel;by_cases hk4:k<4
    ·obtain⟨⟨new,vb',vc',hwc,hnl,hin,hap⟩,hrow,hbel,hnu⟩:=HK.o;obtain⟨OR,hOR⟩:∃OR,OR=x.bys++new:=⟨_,rfl⟩;obtain⟨N,hN⟩:∃N,N=0+k:=⟨_,rfl⟩;rw[←hOR] at hwc hin;rw[←hN] at hin hrow;obtain⟨q,hq⟩:=Za (OR.length);have hqm:q≤4000000010:=by rw[←hq,hOR,Zf];omega
     have hNm:N≤1000000010:=by omega
     have hrby:=hwc.rby;have hrbm:=hwc.rbm;simp only at hrby hrbm;rw[hq] at hrby hrbm;obtain⟨ro,co,hvo,-,-⟩:=Xf hrby;obtain⟨rm,cm,hvm,-,-⟩:=Xf hrbm;obtain⟨r1,c1,hv1,-,-⟩:=Xf hrow;subst hv1;obtain⟨-,-,-,e3,e4,-,-,-⟩:=hwc.cells;simp only at e3 e4 hvo hvm;subst hvo hvm;have HB:Hid (∀k,U k→k<wr.heap.size):=λk hk=>Zn (HU.o k hk) hbel.size;have HR1:Hid (∀O,(wr.alloc O).ownsRow 0 36 1 (.slice ro q co) q (OR.map (·.1))):=λO=>XL hrby O;have HWR:=Zc hwc;have HRL:=Zc hrow;have HQ:=Zc (Zd hq (Zd hOR (Zd hnl (Zd hN (Zd hin (Zd hbel (Zd hnu hap)))))));have hk4':(k:Int)<4:=by omega
     clear hq hOR hnl hN hin hbel hnu hap hwc hrow hrby hrbm HK;go_upto_region 10 with(at_builtin;(refine Xc rfl _ _ 46 rfl 0 36 i0 _ 1 24 Zcr HI.o.1.1 HI.o.1.2.1 HI.o.1.2.2.1 HI.o.1.2.2.2 rfl (by decide) (.slice ro q co) q (OR.map (·.1)) rfl (HR1.o _) (.slice (some ⟨wr.heap.size,0,none⟩) 1 1) 1 [.slice r1 N c1] rfl (VK wr _ _) (by intro u hu;simp at hu;subst hu;rfl) (by unfold maxLen;omega) (by omega) (Zy _) ?_);intro ra2 ca2 w2 ho2 hg2 hv2;have hk1:=Zd4 HWR.o _ hg2 (by show w2.ownsRow 0 _ 1 _ (OR.length+1) _;rw[HQ.o.1];exact ho2) HRL.o hv2;have c3:=hk1.c3;have f3:=hk1.f3;have c4:=hk1.c4;replace hk1:=Zc hk1;have hs2:=Zc (Xx w2 ⟨wb,3,none⟩ (.slice ra2 (q+1) ca2));clear hg2 hv2 ho2)
     go_upto_region 11 with(at_builtin;(refine Xc rfl _ _ 36 rfl 0 5 i2 _ 1 1 underlying36 HI.o.2.1 HI.o.2.2.1 HI.o.2.2.2.1 HI.o.2.2.2.2 rfl (by decide) (.slice rm q cm) q (OR.map λp=>.int .u8 p.2.toNat) rfl (XL (HQ.o.1▸hk1.out.r2) _) (.slice (some ⟨w2.heap.size,0,none⟩) 1 1) 1 [.int .u8 m.toNat] rfl (Te _ _ _ _ hs2.out) (by intro u hu;simp at hu;subst hu;rfl) (by unfold maxLen;omega) (by omega) (Zy _) ?_);intro ra4 ca4 w4 ho4 hg4 hv4;have hk2:=Zee HWR.o HB.o (Zw hNm (by decide)) HRL.o HQ.o.2.2.2.2.2.2.1 ⟨HQ.o.2.2.2.2.2.2.2.c,HQ.o.2.2.2.2.2.2.2.i,HQ.o.2.2.2.2.2.2.2.e⟩ hk1.out _ hg4 (by show w4.ownsRow 0 _ 1 _ (OR.length+1) _;rw[HQ.o.1];exact ho4) hv4;have c7:=hk2.c4;have f7:=hk2.f4;replace hk2:=Zc hk2;have hs4:=Zc (Xx w4 ⟨wb,4,none⟩ (.slice ra4 (q+1) ca4));clear hg4 hv4 ho4)
     go_wp2_with (at_builtin;(refine Vh rfl _ _ 36 rfl 0 5 i2 _ 1 1 underlying36 HI.o.2.1 HI.o.2.2.1 HI.o.2.2.2.1 HI.o.2.2.2.2 rfl (by decide) (.slice r1 N c1) N (List.replicate N (B m)) rfl (XL hk2.out.rl _) ⟨w4.heap.size,0,none⟩ 1 1 [.int .u8 m.toNat] rfl rfl (Zb6 _ _ _ hs4.out) (by intro u hu;simp at hu;subst hu;rfl) (by unfold maxLen;omega) (by omega) (Zy _) ?_);intro ra6 ca6 w6 ho6 hg6)
     have HKN:Hid (Bp w w6 U wb n1 0 (k+1) m x (.slice ra6 (N+1) ca6)):=Zi2 hk2.out HQ.o.2.2.2.2.2.1 HU.o HQ.o.2.1 HQ.o.2.2.1 HQ.o.2.2.2.1 HQ.o.2.2.2.2.2.2.1 HQ.o.2.2.2.2.2.2.2 HQ.o.2.2.2.2.1 _ hg6.out.1 (λg hg=>⟨Qu HRL.o g hg,(hg6.out.2.1 g hg).1,(hg6.out.2.1 g hg).2⟩) hg6.out.2.2 ho6.out;exact⟨⟨k+1,by omega,by go_num,HKN⟩,by simp[intOf];omega⟩
    ·have hke:k=4:=by omega
     subst hke;go_wp2_with fail;go_end0
     refine⟨rfl,m,u1,?_⟩;rw[HM.o];exact HK.o
 ·have hxl:xs.length=n*1:=HRW.o.1;rw[Nat.mul_one] at hxl;have hty0:Ty W1 g 5:=Xd HRW.o rfl;have HTY:=Zc hty0;clear hty0;go_loopw [5] (λv5 wr=>∃i:Nat,i≤n∧v5=.int .i64 i∧Hid (wr.ownsRow 0 5 1 (.slice (some ⟨g,0,none⟩) n cap) n (To m xs i))∧Hid (Fr (λk=>k=g) W1 wr)) (λv5 _=>n-(intOf v5).toNat)
  case atStart=>exact⟨0,Zy _,rfl,by show World.ownsRow _ _ _ _ _ _ _;unfold To;simpa using HRW.o,Fr.refl _ _⟩
  case round=>
   obtain⟨i,hi,rfl,HRi,HFi⟩:=hrel;by_cases hil:i<n
   ·have j1:(i:Int)<(n:Int):=by omega
    have j2:(0:Int)≤(i:Int):=by omega
    have hl2:(To m xs i).length=n*1:=HRi.o.1;obtain⟨u,d0⟩:∃u,wr.cell? ⟨g,i,none⟩=some u:=by
     have hlt:i<(To m xs i).length:=by rw[hl2];omega
     have:=HRi.o.cells (g:=g) rfl i _ (Zp hlt);rw[Yg,ZN] at this;exact⟨_,this⟩
    have f0:wr.frozen? ⟨g,i,none⟩=false:=by obtain⟨c,hc⟩:=Xq HRi.o g rfl;simp[World.frozen?,hc]
    have HN:Hid ((wr.setCell ⟨g,i,none⟩ (.int .u8 m.toNat)).ownsRow 0 5 1 (.slice (some ⟨g,0,none⟩) n cap) n (To m xs (i+1))):=by have:=UX HRi.o i (.int .u8 m.toNat);rw[show(To m xs i).set i (.int .u8 m.toNat)=To m xs (i+1) from by_step m xs i (by omega)] at this;exact this
    have HFn:Hid (Fr (λk=>k=g) W1 (wr.setCell ⟨g,i,none⟩ (.int .u8 m.toNat))):=HFi.o.trans (Fr.setCell wr ⟨g,i,none⟩ _) (λ_ _ e=>e);clear w1 w3 w4 w5 w6 hl2;go_wp2_with fail;exact⟨⟨i+1,by omega,by go_num,HN,HFn⟩,by simp[intOf];omega⟩
   ·have hin:i=n:=by omega
    subst hin;have j1:¬(i:Int)<(i:Int):=by omega
    have HKP:Hid (Bp w wr U wb n1 i 0 m x (.slice (some ⟨g,0,none⟩) i cap)):=by have hnvs:=HNV.o g rfl;have hr2:=HRi.o;rw[by_full m xs i hxl] at hr2;refine⟨⟨[],x.vb,x.vc,by rw[ZG];exact HWC.o.off HFi.o hnvs.2,rfl,?_,HAP.o g rfl⟩,hr2,HB1.o.trans HFi.o (λk _ e hu=>hnvs.1 (by rw[←show k=g from e];exact hu)),λg' hg'=>by cases hg';exact hnvs.1⟩;intro g' hg' p hp e;cases hg';rw[ZG] at hp;exact absurd (.inr (.inr (.inr (.inr (.inr (.inr (.inr (.inr (.inr (.inl ⟨p,hp,e⟩)))))))))) hnvs.2
    go_wp2_with fail;clear w1 w3 w4 w5 w6;have hk1:i≤1000000000:=hn;obtain⟨i0,hi0,hz0,hz1,hz2⟩:=info_parts infoBys;obtain⟨i2,hi20,hz20,hz21,hz22⟩:=info_parts info5;have HI:=Zc (Zd (Zd hi0 (Zd hz0 (Zd hz1 hz2))) (Zd hi20 (Zd hz20 (Zd hz21 hz22))));clear hi0 hz0 hz1 hz2 hi20 hz20 hz21 hz22;go_loopw [1,6] (λvl vk wr=>∃k:Nat,k≤4∧vk=.int .i64 k∧Hid (Bp w wr U wb n1 i k m x vl)) (λ_ vk _=>4-(intOf vk).toNat)
    case atStart=>exact⟨0,Zy _,rfl,HKP⟩
    case round=>
     obtain⟨k,hk,rfl,HK⟩:=hrel;by_cases hk4:k<4
     ·obtain⟨⟨new,vb',vc',hwc,hnl,hin,hap⟩,hrow,hbel,hnu⟩:=HK.o;obtain⟨OR,hOR⟩:∃OR,OR=x.bys++new:=⟨_,rfl⟩;obtain⟨N,hN⟩:∃N,N=i+k:=⟨_,rfl⟩;rw[←hOR] at hwc hin;rw[←hN] at hin hrow;obtain⟨q,hq⟩:=Za (OR.length);have hqm:q≤4000000010:=by rw[←hq,hOR,Zf];omega
      have hNm:N≤1000000010:=by omega
      have hrby:=hwc.rby;have hrbm:=hwc.rbm;simp only at hrby hrbm;rw[hq] at hrby hrbm;obtain⟨ro,co,hvo,-,-⟩:=Xf hrby;obtain⟨rm,cm,hvm,-,-⟩:=Xf hrbm;obtain⟨r1,c1,hv1,-,-⟩:=Xf hrow;subst hv1;obtain⟨-,-,-,e3,e4,-,-,-⟩:=hwc.cells;simp only at e3 e4 hvo hvm;subst hvo hvm;have HB:Hid (∀k,U k→k<wr.heap.size):=λk hk=>Zn (HU.o k hk) hbel.size;have HR1:Hid (∀O,(wr.alloc O).ownsRow 0 36 1 (.slice ro q co) q (OR.map (·.1))):=λO=>XL hrby O;have HWR:=Zc hwc;have HRL:=Zc hrow;have HQ:=Zc (Zd hq (Zd hOR (Zd hnl (Zd hN (Zd hin (Zd hbel (Zd hnu hap)))))));have hk4':(k:Int)<4:=by omega
      clear hq hOR hnl hN hin hbel hnu hap hwc hrow hrby hrbm HK;go_upto_region 10 with(at_builtin;(refine Xc rfl _ _ 46 rfl 0 36 i0 _ 1 24 Zcr HI.o.1.1 HI.o.1.2.1 HI.o.1.2.2.1 HI.o.1.2.2.2 rfl (by decide) (.slice ro q co) q (OR.map (·.1)) rfl (HR1.o _) (.slice (some ⟨wr.heap.size,0,none⟩) 1 1) 1 [.slice r1 N c1] rfl (VK wr _ _) (by intro u hu;simp at hu;subst hu;rfl) (by unfold maxLen;omega) (by omega) (Zy _) ?_);intro ra2 ca2 w2 ho2 hg2 hv2;have hk1:=Zd4 HWR.o _ hg2 (by show w2.ownsRow 0 _ 1 _ (OR.length+1) _;rw[HQ.o.1];exact ho2) HRL.o hv2;have c3:=hk1.c3;have f3:=hk1.f3;have c4:=hk1.c4;replace hk1:=Zc hk1;have hs2:=Zc (Xx w2 ⟨wb,3,none⟩ (.slice ra2 (q+1) ca2));clear hg2 hv2 ho2)
      go_upto_region 11 with(at_builtin;(refine Xc rfl _ _ 36 rfl 0 5 i2 _ 1 1 underlying36 HI.o.2.1 HI.o.2.2.1 HI.o.2.2.2.1 HI.o.2.2.2.2 rfl (by decide) (.slice rm q cm) q (OR.map λp=>.int .u8 p.2.toNat) rfl (XL (HQ.o.1▸hk1.out.r2) _) (.slice (some ⟨w2.heap.size,0,none⟩) 1 1) 1 [.int .u8 m.toNat] rfl (Te _ _ _ _ hs2.out) (by intro u hu;simp at hu;subst hu;rfl) (by unfold maxLen;omega) (by omega) (Zy _) ?_);intro ra4 ca4 w4 ho4 hg4 hv4;have hk2:=Zee HWR.o HB.o (Zw hNm (by decide)) HRL.o HQ.o.2.2.2.2.2.2.1 ⟨HQ.o.2.2.2.2.2.2.2.c,HQ.o.2.2.2.2.2.2.2.i,HQ.o.2.2.2.2.2.2.2.e⟩ hk1.out _ hg4 (by show w4.ownsRow 0 _ 1 _ (OR.length+1) _;rw[HQ.o.1];exact ho4) hv4;have c7:=hk2.c4;have f7:=hk2.f4;replace hk2:=Zc hk2;have hs4:=Zc (Xx w4 ⟨wb,4,none⟩ (.slice ra4 (q+1) ca4));clear hg4 hv4 ho4)
      go_wp2_with (at_builtin;(refine Vh rfl _ _ 36 rfl 0 5 i2 _ 1 1 underlying36 HI.o.2.1 HI.o.2.2.1 HI.o.2.2.2.1 HI.o.2.2.2.2 rfl (by decide) (.slice r1 N c1) N (List.replicate N (B m)) rfl (XL hk2.out.rl _) ⟨w4.heap.size,0,none⟩ 1 1 [.int .u8 m.toNat] rfl rfl (Zb6 _ _ _ hs4.out) (by intro u hu;simp at hu;subst hu;rfl) (by unfold maxLen;omega) (by omega) (Zy _) ?_);intro ra6 ca6 w6 ho6 hg6)
      have HKN:Hid (Bp w w6 U wb n1 i (k+1) m x (.slice ra6 (N+1) ca6)):=Zi2 hk2.out HQ.o.2.2.2.2.2.1 HU.o HQ.o.2.1 HQ.o.2.2.1 HQ.o.2.2.2.1 HQ.o.2.2.2.2.2.2.1 HQ.o.2.2.2.2.2.2.2 HQ.o.2.2.2.2.1 _ hg6.out.1 (λg hg=>⟨Qu HRL.o g hg,(hg6.out.2.1 g hg).1,(hg6.out.2.1 g hg).2⟩) hg6.out.2.2 ho6.out;exact⟨⟨k+1,by omega,by go_num,HKN⟩,by simp[intOf];omega⟩
     ·have hke:k=4:=by omega
      subst hke;go_wp2_with fail;go_end0
      refine⟨rfl,m,u1,?_⟩;rw[HM.o];exact HK.o
theorem Zcs (w:World)(l:List UInt8)(hl:l.length≤40000000000000):∃cap w',(convert 9 36 (.string ⟨l.toArray⟩)).run prog w=.ok (.slice (some ⟨w.heap.size,0,none⟩) l.length cap) w'∧Below w.heap.size w w'∧Rd w' (λ_=>False) (.slice (some ⟨w.heap.size,0,none⟩) l.length cap) l:=by
 have hr:=run_bytes_of_string (P:=prog) w 9 36 5 ⟨l.toArray⟩ underlying9 underlying36 underlying5;have hsz:(⟨l.toArray⟩:ByteArray).size=l.length:=rfl;rw[hsz] at hr;refine⟨_,_,hr,(XX w 1).alloc (Zh _) _,.inr ⟨w.heap.size,0,_,rfl,?_,?_,?_,λh=>h,?_⟩⟩
 ·intro j c hc;have hj:j<l.length:=(Zl.1 hc).1;rw[ZN];have hg:∀O:Obj,(w.drew.alloc O).heap[w.heap.size]?=some O:=λO=>by show(w.heap.push O)[w.heap.size]?=some O;simp
  rw[Zk _ w.heap.size j _ _ _ (hg _)];simp[bytesRow,hj,Array.getElem?_append,(Zl.1 hc).2];rfl
 ·exact grownCap_ge w l.length 0 _
 ·exact grownCap_le_maxLen w l.length 0 _ (by unfold maxLen;omega)
 ·rw[Xb];exact Nat.lt_succ_self _
theorem WC.held {B0 nn:Nat}{ins:List Value}{ords:List (Value×Int)}{vi vo vm:Value}(h:WC w B0 wb nn ins [] ords vi vo vm):Hlds w wb ins [] ords vi (.slice none 0 0) (.slice none 0 0) vo vm:=by obtain⟨-,c2,c5,c6,c3,c4,-,hl⟩:=h.cell;have hri:=h.rin;rw[ZG] at hri;exact⟨hl,c2,c3,c4,c5,c6,⟨_,hri⟩,⟨0,ZO _ _ _ _⟩,⟨0,ZO _ _ _ _⟩,⟨_,h.ror⟩,⟨_,h.rom⟩,h.ful,λp hp=>(by cases hp),h.ink⟩
structure Vg (x x':Vw)(k:Nat):Prop where
 ex:x'.ex=[]
 ts:x'.ts=x.ts
 va:(x'.va,x'.E,x'.ob,x'.w0)=(x.va,x.E,x.ob,x.w0)
 nn:x'.nn≤x.nn+k
 ins:x'.ins.length≤x.ins.length+k
 bys:x'.bys.length≤x.bys.length+4*k
 ords:x'.ords.length≤x.ords.length+4*k
theorem Vg.trans {x'':Vw}{a:Nat}(h:Vg x x' a)(k:Vg x' x'' b):Vg x x'' (a+b):=
 ⟨k.ex,k.ts.trans h.ts,k.va.trans h.va,by have:=h.nn;have:=k.nn;omega,by have:=h.ins;have:=k.ins;omega,by have:=h.bys;have:=k.bys;omega,by have:=h.ords;have:=k.ords;omega⟩
theorem Vg.mono {a:Nat}(h:Vg x x' a)(hab:a≤b):Vg x x' b:=⟨h.ex,h.ts,h.va,by have:=h.nn;omega,by have:=h.ins;omega,by have:=h.bys;omega,by have:=h.ords;omega⟩
theorem Vg.E (h:Vg x x' k):x'.E=x.E:=by have:=h.va;simp only[Prod.mk.injEq] at this;exact this.2.1
theorem Vg.ob (h:Vg x x' k):x'.ob=x.ob:=by have:=h.va;simp only[Prod.mk.injEq] at this;exact this.2.2.1
theorem Vg.w0 (h:Vg x x' k):x'.w0=x.w0:=by have:=h.va;simp only[Prod.mk.injEq] at this;exact this.2.2.2
theorem Vg.refl (h:x.ex=[]):Vg x x 0:=⟨h,rfl,rfl,Zh _,Zh _,Zh _,Zh _⟩
theorem Xu (v n:Nat)(w:World)(hv:v≤9223372036854775807)(hn:n≤8):
  Calls prog 85 #[.int .i64 v,.int .i64 n] w λe w'=>e=.returned (.slice (some ⟨w.heap.size,0,none⟩) n n)∧w'=w.alloc (.cells ((enc v n).map B).toArray 5):=by
 have hm:(Instr.makeSlice 36 (.int .i64 n) (.int .i64 n)).run prog w=.ok (.slice (some ⟨w.heap.size,0,none⟩) n n) (w.alloc (.cells (half v n 0) 5)):=by obtain⟨i0,hi,hz0,hz1,hz2⟩:=info_parts info5;have:=run_make (P:=prog) w 36 5 i0 (.int .u8 0) underlying36 hi hz0 .i64 .i64 n n (by omega) (by omega) (by rw[hz2];omega) (by omega);rw[this,hz1,Yz,Zb2,TR,TR]
 go_enter func85,ntmps85;go_wp2
 clear hm;go_loopw [0,6] (λx i wr=>∃j:Nat,j≤n∧i=.int .i64 ((n:Int)-1-j)∧x=.int .i64 (v / 256^j:Nat)∧wr=w.alloc (.cells (half v n j) 5)) (λ_ i _=>(intOf i+1).toNat)
 case atStart=>exact⟨0,by omega,by simp,by simp,rfl⟩
 case round=>
  obtain⟨j,hj,rfl,rfl,rfl⟩:=hrel;by_cases hlt:j<n
  ·have hsz:=Zkb v n j hj;have h1:(0:Int)≤(n:Int)-1-j:=by omega
   have h2:(n:Int)-1-j<n:=by omega
   have hq:v / 256^j≤9223372036854775807:=Zw (Nat.div_le_self _ _) hv;have HS:Hid (v / 256^(j+1)=v / 256^j / 256):=by show _=_;rw[Nat.pow_succ,Nat.div_div_eq_div_mul]
   have hT:=half_set v n j hlt;rw[Zem] at hT;have HT:Hid ((half v n j).setIfInBounds (n-1-j) (.int .u8 (((v / 256^j:Nat):Int)%256))=half v n (j+1)):=hT;clear hT;have hg:=half_get v n j hlt;generalize v / 256^j=q at *;go_wp2
   go_roundw
   case rel=>exact⟨j+1,by omega,by go_num,by rw[HS.o];simp,by rw[HT.o]⟩
   case measure=>simp[intOf];omega
  ·go_wp2
   go_ret;have:j=n:=by omega
   subst this;exact⟨rfl,by rw[Zkp]⟩
structure Rc  where
 qk:Nat
 qj:Nat
 pool:Nat
 vr:Value
 vu:Value
 time:Nat
 qg:Nat
 qi:Nat
 opn:Bool
 vc:Value
 vo:Value
 vn:Value
def Rc.cells (c:Rc):List Value:=[.int .i64 c.qk,.int .i64 c.qj,.int .i64 c.pool,c.vr,c.vu,.int .i64 c.time,.int .i64 c.qg,.int .i64 c.qi,.bool c.opn,c.vc,c.vo,c.vn]
def IsR (w:World)(b:Nat)(c:Rc):Prop:=w.heap[b]?=some (.cells c.cells.toArray 116)
theorem IsR.cell {c:Rc}(h:IsR w b c)(j:Nat):w.cell? ⟨b,j,none⟩=c.cells[j]?:=by rw[Zk w b j _ _ (0,0) h,Yh]
theorem IsR.frozen {c:Rc}(h:IsR w b c)(j:Nat):w.frozen? ⟨b,j,none⟩=false:=by have h':w.heap[b]?=_:=h;simp[World.frozen?,h']
theorem IsR.lt {c:Rc}(h:IsR w b c):b<w.heap.size:=(Ze.1 h).1
theorem IsR.keep {c:Rc}(h:IsR w b c)(e:w'.heap[b]?=w.heap[b]?):IsR w' b c:=e.trans h
theorem IsR.fr {c:Rc}(h:IsR w b c)(hf:Fr F w w')(hF:¬F b):IsR w' b c:=h.keep (hf.block b h.lt hF)
theorem IsR.set {c c':Rc}(h:IsR w b c)(j:Nat)(v:Value)(e:c.cells.set j v=c'.cells):IsR (w.setCell ⟨b,j,none⟩ v) b c':=by unfold IsR;rw[Zi w b j _ _ _ h,Yp,e]
theorem Tg {size:Nat}{e:TypeId}(h:w.ownsRow b e size v n xs){g:Nat}(hg:v.ownBlock=some g):∃cur,w.heap[g]?=some (.cells cur e (0,0)):=by
 rcases h.2 with⟨h1,-⟩|⟨g',cap,cur,h1,-,h3,-⟩
 ·rw[h1] at hg;cases hg
 ·rw[h1] at hg;cases hg;exact⟨cur,h3⟩
theorem IsR.ne_row {size:Nat}{c:Rc}{e:TypeId}(h:IsR w b c)(hr:w.ownsRow k e size v n xs)(he:e≠116):v.ownBlock≠some b:=by intro hg;obtain⟨cur,hc⟩:=Tg hr hg;rw[h] at hc;simp at hc;exact he hc.2.symm
theorem IsR.ne_own {c:Rc}(h:IsR w b c)(hr:Own w k v l):v.ownBlock≠some b:=h.ne_row hr (by decide)
structure Tk (w w':World)(b:Nat)(c:Rc)(v':Value)(l:List UInt8):Prop where
 is:IsR w' b {c with vo:=v'}
 own:Own w' 0 v' l
 fr:Fr (λk=>k=b∨c.vo.ownBlock=some k) w w'
 at_:v'.ownBlock=c.vo.ownBlock∨∃g,v'.ownBlock=some g∧w.heap.size≤g
structure Tr (w w':World)(b:Nat)(c:Rc)(v':Value)(l:List UInt8):Prop where
 is:IsR w' b {c with vn:=v'}
 own:Own w' 0 v' l
 fr:Fr (λk=>k=b∨c.vn.ownBlock=some k) w w'
 at_:v'.ownBlock=c.vn.ownBlock∨∃g,v'.ownBlock=some g∧w.heap.size≤g
theorem Tk.refl {c:Rc}(h:IsR w b c)(ho:Own w 0 c.vo l):Tk w w b c c.vo l:=⟨h,ho,Fr.refl _ _,.inl rfl⟩
theorem Tr.refl {c:Rc}(h:IsR w b c)(ho:Own w 0 c.vn l):Tr w w b c c.vn l:=⟨h,ho,Fr.refl _ _,.inl rfl⟩
theorem Tk.step {c:Rc}{v2:Value}{l2:List UInt8}(h:Tk w wr b c v1 l1)(hf:Fr (λk=>v1.ownBlock=some k) wr w2)(h2:Own w2 0 v2 l2)(ha:v2.ownBlock=v1.ownBlock∨∃g,v2.ownBlock=some g∧wr.heap.size≤g):
  IsR w2 b {c with vo:=v1}∧Tk w (w2.setCell ⟨b,10,none⟩ v2) b c v2 l2:=by
 have hne:=h.is.ne_own h.own;have hi2:IsR w2 b {c with vo:=v1}:=h.is.fr hf hne;refine⟨hi2,hi2.set 10 v2 rfl,h2.keep (λg hg=>(Fr.setCell w2 ⟨b,10,none⟩ v2).block g (h2.lt g hg).2 (λe=>hi2.ne_own h2 (by rw[hg,e]))),?_,?_⟩
 ·refine(h.fr.trans hf ?_).trans (Fr.setCell w2 ⟨b,10,none⟩ v2) (λ_ _ e=>.inl e);intro i hi e;rcases h.at_ with e1|⟨g,e1,e2⟩
  ·exact .inr (by rw[←e1];exact e)
  ·rw[e1] at e;cases e;omega
 ·have hs:=h.fr.size;rcases ha with e|⟨g,e,hg⟩
  ·rw[e];exact h.at_
  ·exact .inr ⟨g,e,by omega⟩
theorem Tr.step {c:Rc}{v2:Value}{l2:List UInt8}(h:Tr w wr b c v1 l1)(hf:Fr (λk=>v1.ownBlock=some k) wr w2)(h2:Own w2 0 v2 l2)(ha:v2.ownBlock=v1.ownBlock∨∃g,v2.ownBlock=some g∧wr.heap.size≤g):
  IsR w2 b {c with vn:=v1}∧Tr w (w2.setCell ⟨b,11,none⟩ v2) b c v2 l2:=by
 have hne:=h.is.ne_own h.own;have hi2:IsR w2 b {c with vn:=v1}:=h.is.fr hf hne;refine⟨hi2,hi2.set 11 v2 rfl,h2.keep (λg hg=>(Fr.setCell w2 ⟨b,11,none⟩ v2).block g (h2.lt g hg).2 (λe=>hi2.ne_own h2 (by rw[hg,e]))),?_,?_⟩
 ·refine(h.fr.trans hf ?_).trans (Fr.setCell w2 ⟨b,11,none⟩ v2) (λ_ _ e=>.inl e);intro i hi e;rcases h.at_ with e1|⟨g,e1,e2⟩
  ·exact .inr (by rw[←e1];exact e)
  ·rw[e1] at e;cases e;omega
 ·have hs:=h.fr.size;rcases ha with e|⟨g,e,hg⟩
  ·rw[e];exact h.at_
  ·exact .inr ⟨g,e,by omega⟩
theorem Tk.below {c:Rc}(h:Tk w wr b c v1 l1)(hb:Below wr.heap.size wr w2):Tk w w2 b c v1 l1:=
 ⟨h.is.keep (hb.block b h.is.lt),h.own.keep (λg hg=>hb.block g (h.own.lt g hg).2),h.fr.trans (Fr.of_below hb (λ_=>False)) (λ_ _ e=>e.elim),h.at_⟩
theorem Tr.below {c:Rc}(h:Tr w wr b c v1 l1)(hb:Below wr.heap.size wr w2):Tr w w2 b c v1 l1:=
 ⟨h.is.keep (hb.block b h.is.lt),h.own.keep (λg hg=>hb.block g (h.own.lt g hg).2),h.fr.trans (Fr.of_below hb (λ_=>False)) (λ_ _ e=>e.elim),h.at_⟩
def FsAt (w:World)(F:Nat→Prop)(vf:Value)(fs:List (List UInt8)):Prop:=
 (vf=.slice none 0 0∧fs=[])∨∃gf cap vs,vf=.slice (some ⟨gf,0,none⟩) fs.length cap∧fs.length≤cap∧w.heap[gf]?=some (.cells (List.toArray vs) 36)∧vs.length=fs.length∧∀(i:Nat) (v:Value) (l:List UInt8),vs[i]?=some v→fs[i]?=some l→Rd w F v l
theorem VQ {vo vx:Value}(hown:Own w 0 vo out)(hrd:Rd w F vx l)(hlen:out.length+l.length≤140737488355328):
  ∃ra n cap w',(Builtin.append_ #[36,36] 36 #[vo,vx]).run prog w=.ok (.slice ra n cap) w'∧Own w' 0 (.slice ra n cap) (out++l)∧w.grownBy w' vo.ownBlock∧(Value.ownBlock (.slice ra n cap)=vo.ownBlock∨Value.ownBlock (.slice ra n cap)=some w.heap.size):=by
 obtain⟨i0,hi,hz0,hz1,hz2⟩:=info_parts info5;rcases hrd with⟨rfl,rfl⟩|⟨g,off,cap,rfl,hl,hc1,hc2,_,_⟩
 ·obtain⟨ra,cap,rfl,_,_⟩:=hown.len;exact⟨ra,_,cap,w,run_append_owned_none w 0 _ _ 5 i0 1 underlying36 hi _ _ _ hown,by rw[ZG];exact hown,⟨rfl,rfl,rfl,Zh _,λ_ _ _=>rfl⟩,.inl rfl⟩
 ·obtain⟨v',w',hr,h2,h3,-,h5⟩:=run_append_own_at (P:=prog) w 0 36 36 5 i0 (.int .u8 0) 1 1 underlying36 hi hz0 hz1 hz2 rfl (by decide) vo _ _ hown ⟨g,off,none⟩ l.length cap (l.map B) (by simp) (by
   intro j u hu;rw[Yi,YA] at hu;obtain⟨c,hc',rfl⟩:=hu;rw[Yg];exact hl j c hc') (by
   intro u hu;simp at hu;obtain⟨c,_,rfl⟩:=hu;rfl) (by unfold maxLen;omega) (by omega) (Zy _)
  have h2':Own w' 0 v' (out++l):=by unfold Own;rw[Zf,ZH];exact h2
  obtain⟨ra,cap,rfl,_,_⟩:=h2'.len;exact⟨ra,_,cap,w',hr,h2',h3,h5⟩
end
section
open Go.RowKit
attribute [local go_sem ↓] Go.wp_at_zero Go.wp_at_succ
def Zd7 (ts:Array TypeId)(ty:TypeId)(args:Array Value):Sem Value:=Builtin.append_ ts ty args
theorem app_rd (ts:Array TypeId)(ty:TypeId)(args:Array Value):Builtin.append_ ts ty args=Zd7 ts ty args:=rfl
attribute [local go_sem ↓] app_rd
theorem rd_num (w:World)(v n:Nat)(F:Nat→Prop)(hF:¬F w.heap.size)(hn:n≤8):Rd (w.alloc (.cells ((enc v n).map B).toArray 5)) F (.slice (some ⟨w.heap.size,0,none⟩) n n) (enc v n):=by refine .inr ⟨w.heap.size,0,n,by rw[YZ],?_,by rw[YZ];omega,by unfold maxLen;omega,hF,by rw[Xb];omega⟩;intro j c hc;rw[ZN,Zk _ w.heap.size j _ 5 (0,0) (by rw[YX,Zg rfl]),Yh,Yi,hc];rfl
theorem FsAt.form {vf:Value}{fs:List (List UInt8)}(h:FsAt w F vf fs):∃rf cf,vf=.slice rf fs.length cf∧fs.length≤cf∧∀i l,fs[i]?=some l→∃gf v cur,rf=some ⟨gf,0,none⟩∧w.heap[gf]?=some (.cells cur 36)∧w.cell? ⟨gf,i,none⟩=some v∧Rd w F v l:=by
 rcases h with⟨rfl,rfl⟩|⟨gf,cap,vs,rfl,hc,h1,h2,h3⟩
 ·exact⟨none,0,rfl,by simp,λi l h=>by simp at h⟩
 ·refine⟨_,cap,rfl,hc,λi l hl => ?_⟩;have hi:i<vs.length:=by rw[h2];exact(Zl.1 hl).1
  exact⟨gf,vs[i],_,rfl,h1,by rw[Zk w gf i _ _ (0,0) h1,Yh,Zp hi],h3 i _ l (Zp hi) hl⟩
theorem Rd.fr {G:Nat→Prop}(h:Rd w F v l)(hf:Fr G w w')(hG:∀k,k<w.heap.size→G k→F k):Rd w' F v l:=by
 rcases h with h|⟨g,o,cap,h1,h2,h3,h4,h5,h6⟩
 ·exact .inl h
 ·exact .inr ⟨g,o,cap,h1,h2.keep (hf.block g h6 (λe=>h5 (hG g h6 e))),h3,h4,h5,Zn h6 hf.size⟩
theorem Rd.form (h:Rd w F v l):∃ra cap,v=.slice ra l.length cap:=by
 rcases h with⟨rfl,rfl⟩|⟨g,o,cap,h1,-⟩
 ·exact⟨none,0,rfl⟩
 ·exact⟨_,cap,h1⟩
theorem Xw (w:World)(a:Addr)(v:Value):(w.setCell a v).heap.size=w.heap.size:=by simp[World.setCell]
theorem Zic {c:Rc}(h:IsR w b c)(ho:Own w 0 c.vo out)(ht:c.time≤9223372036854775807)(letter:UInt8)(vf:Value)(fs:List (List UInt8))(hf:FsAt w (λk=>k=b∨c.vo.ownBlock=some k) vf fs)(hl:out.length+7+fs.flatten.length≤140737488355328)(hk:fs.length≤100):
  Calls prog 60 #[.pointer (some ⟨b,0,none⟩),.int .u8 letter.toNat,vf] w λe w'=>e=.returned (.tuple #[])∧∃v',Tk w w' b c v' (out++letter::enc c.time 6++fs.flatten):=by
 obtain⟨rf,cf,rfl,hcf,hfs⟩:=hf.form;obtain⟨F,hF⟩:∃F:Nat→Prop,F=λk=>k=b∨c.vo.ownBlock=some k:=⟨_,rfl⟩;rw[←hF] at hfs;have hFs:¬F w.heap.size:=by
  rw[hF];rintro(e|e)
  ·have:=h.lt;omega
  ·have:=(ho.lt _ e).2;omega
 obtain⟨nf,hnf⟩:=Za (fs.length);rw[hnf] at hcf hk ⊢;obtain⟨ra,cap,hvo,-,-⟩:=ho.len;have c10:w.cell? ⟨b,10,none⟩=some c.vo:=h.cell 10;have HFS:=Zc (Zd hfs (Zd hF (Zd hFs hnf)));have H0:=Zc (Tk.refl h ho);have HL:=Zc hl;have HT:=Zc ht;rw[hvo] at c10;clear hfs hF hFs hnf h ho hf hl ht;go_enter func60,ntmps60;go_wp2_with (at_builtin;(refine XE rfl _ _ rfl 0 (.slice ra out.length cap) out rfl (VL (hvo▸H0.o.own) _) (.slice (some ⟨w.heap.size,0,none⟩) 1 1) [letter] rfl F (Zal w letter _ rfl F HFS.o.2.2.1) (by have:=HL.o;simp only[Zu,ZT];omega) (Zy _) ?_);intro ra2 n2 ca2 w2 ho2 hg2 hv2;have hs1:=Tk.step H0.o ((Fr.alloc (λk=>c.vo.ownBlock=some k) w _).trans (Fr.of_grown hg2) (λk _ e=>by rw[hvo];exact e.symm)) ho2 (hv2.elim (λe=>.inl (by rw[hvo];exact e)) (λe=>.inr ⟨_,e,by rw[Xb];omega⟩));have d10:w2.cell? ⟨b,10,none⟩=some c.vo:=hs1.1.cell 10;have d5:w2.cell? ⟨b,5,none⟩=some (.int .i64 c.time):=hs1.1.cell 5;have f10:=hs1.1.frozen 10;replace hs1:=Zc hs1;clear ho2 hg2 hv2)
 refine(Xu c.time 6 _ HT.o (by decide)).mono ?_;rintro e w3 ⟨rfl,rfl⟩;have hsz:=Xw w2 ⟨b,10,none⟩ (.slice ra2 n2 ca2);have H1:Hid (Tk w (w2.setCell ⟨b,10,none⟩ (.slice ra2 n2 ca2)) b c (.slice ra2 n2 ca2) (out++[letter])):=hs1.out.2;clear d10 d5 f10 hs1 c10;obtain⟨n3,hn3⟩:=Za ((w2.setCell ⟨b,10,none⟩ (.slice ra2 n2 ca2)).heap.size);rw[hn3];rw[hn3] at hsz;have hn3':w2.heap.size=n3:=hsz.symm;generalize w2.setCell ⟨b,10,none⟩ (.slice ra2 n2 ca2)=W1 at *;have hFW:¬F W1.heap.size:=by
  rw[HFS.o.2.1];have hs:=H1.o.fr.size;rintro(e|e)
  ·have:=H0.o.is.lt;omega
  ·have:=(H0.o.own.lt _ e).2;omega
 have H2:Hid (Tk w (W1.alloc (.cells ((enc c.time 6).map B).toArray 5)) b c (.slice ra2 n2 ca2) (out++[letter])):=H1.o.below ((Zm _ W1).alloc (Zh _) _);have HRD:Hid (Rd (W1.alloc (.cells ((enc c.time 6).map B).toArray 5)) F (.slice (some ⟨n3,0,none⟩) 6 6) (enc c.time 6)):=by show Rd _ _ _ _;rw[←hn3];exact rd_num W1 c.time 6 F hFW (by decide)
 clear H1 hFW hsz hn3' hn3;generalize W1.alloc (.cells ((enc c.time 6).map B).toArray 5)=W2 at *;have e10:W2.cell? ⟨b,10,none⟩=some (.slice ra2 n2 ca2):=H2.o.is.cell 10;go_wp2_with (at_builtin;(refine XE rfl _ _ rfl 0 (.slice ra2 n2 ca2) (out++[letter]) rfl H2.o.own (.slice (some ⟨n3,0,none⟩) 6 6) (enc c.time 6) rfl F HRD.o (by have:=HL.o;rw[YZ,Zf];simp only[Zu,ZT];omega) (Zy _) ?_);intro ra4 n4 ca4 w4 ho4 hg4 hv4;have hs2:=Tk.step H2.o ((Fr.of_grown hg4).mono (λk _ e=>e.symm)) ho4 (hv4.elim (λe=>.inl e) (λe=>.inr ⟨_,e,Zh _⟩));have d10:w4.cell? ⟨b,10,none⟩=some (.slice ra2 n2 ca2):=hs2.1.cell 10;have f10:=hs2.1.frozen 10;replace hs2:=Zc hs2;clear ho4 hg4 hv4)
 have HS:Hid (∃v',Tk w (w4.setCell ⟨b,10,none⟩ (.slice ra4 n4 ca4)) b c v' (out++letter::enc c.time 6)):=⟨_,by
  have:=hs2.out.2
  rwa [Zo] at this⟩
 clear d10 f10 e10 hs2 H2 HRD;generalize w4.setCell ⟨b,10,none⟩ (.slice ra4 n4 ca4)=W5 at *;go_loopw [7] (λv7 wr=>∃i:Nat,i≤nf∧v7=.int .i64 i∧Hid (∃v',Tk w wr b c v' (out++letter::enc c.time 6++(fs.take i).flatten))) (λv7 _=>nf-(intOf v7).toNat)
 case atStart=>exact⟨0,Zy _,rfl,by show ∃_,_;simpa using HS.o⟩
 case round=>
  obtain⟨i,hi,rfl,HTi⟩:=hrel;by_cases hil:i<nf
  ·have j1:(i:Int)<(nf:Int):=by omega
   have j2:(0:Int)≤(i:Int):=by omega
   obtain⟨v1,h1⟩:=HTi.o;obtain⟨r1,q1,hv1,-,-⟩:=h1.own.len;generalize (out++letter::enc c.time 6++(fs.take i).flatten).length=k1 at hv1;have hlen:fs.length=nf:=HFS.o.2.2.2;obtain⟨l,hfl⟩:∃l,fs[i]?=some l:=⟨_,Zp (by omega)⟩;obtain⟨gf,v,cur,rfl,hgf,hcv,hrd⟩:=HFS.o.1 i l hfl;obtain⟨rv,cv,rfl⟩:=hrd.form;have hfr:Fr F w wr:=HFS.o.2.1▸h1.fr;have hgl:=(Ze.1 hgf).1;have hgn:¬F gf:=by
    rw[HFS.o.2.1];rintro(e|e)
    ·have h0:w.heap[b]?=_:=H0.o.is;rw[e,h0] at hgf;simp at hgf
    ·obtain⟨cur',hc'⟩:=Tg H0.o.own e;rw[hgf] at hc';simp at hc'
   have k1:wr.cell? ⟨gf,i,none⟩=some (.slice rv l.length cv):=hfr.cell hcv hgn;have k2:wr.cell? ⟨b,10,none⟩=some v1:=h1.is.cell 10;have hrw:Rd wr.drew F (.slice rv l.length cv) l:=(hrd.fr hfr (λ_ _ e=>e)).fr (Fr.drew (λ_=>False) wr) (λ_ _ e=>e.elim);have hsum:(out++letter::enc c.time 6++(fs.take i).flatten).length+l.length≤140737488355328:=by
    have h3:(fs.take i).flatten.length+l.length≤fs.flatten.length:=by
     have e1:fs=fs.take i++l::fs.drop (i+1):=by
      have hd:fs.drop i=l::fs.drop (i+1):=by rw[YI (by omega),(Zl.1 hfl).2]
      rw[←hd,Yr]
     have e2:=congrArg (λx=>x.flatten.length) e1;simp only[List.flatten_append,Zf,ZR] at e2;omega
    have h4:=HL.o;have h5:=YZ c.time 6;simp only[Zf,Zu] at *;omega
   obtain⟨r3,m3,c3,w3,hrun,hown3,hg3,hb3⟩:=VQ (w:=wr.drew) (h1.own.keep (λ_ _=>rfl)) hrw hsum;have hst:=Tk.step h1 (((Fr.drew (λk=>v1.ownBlock=some k) wr).trans (Fr.of_grown hg3) (λk _ e=>e.symm))) hown3 (hb3.elim (λe=>.inl e) (λe=>.inr ⟨_,e,Zh _⟩));have k3:w3.cell? ⟨b,10,none⟩=some v1:=hst.1.cell 10;have k4:=hst.1.frozen 10;have hrun2:(Zd7 #[36,36] 36 #[v1,.slice rv l.length cv]).run prog wr.drew=.ok (.slice r3 m3 c3) w3:=hrun;have HST:Hid (∃v',Tk w (w3.setCell ⟨b,10,none⟩ (.slice r3 m3 c3)) b c v' (out++letter::enc c.time 6++(fs.take (i+1)).flatten)):=⟨_,by
    have:=hst.2
    rwa [Zo,show(fs.take i).flatten++l=(fs.take (i+1)).flatten by rw[List.take_add_one,hfl];simp] at this⟩
   subst hv1;clear hrun hown3 hg3 hb3 hst hrw hsum hfr hgn hgl hrd hcv hgf hfl hlen h1 HTi HS;go_wp2_with fail;go_region_with fail
   all_goals
    go_wp2_with fail;exact⟨⟨i+1,by omega,by go_num,HST⟩,by simp[intOf];omega⟩
  ·have j1:¬(i:Int)<(nf:Int):=by omega
   have hin:i=nf:=by omega
   subst hin;go_wp2_with fail;go_end0
   obtain⟨v',hv'⟩:=HTi.o;refine⟨rfl,v',?_⟩;rw[show fs.take i=fs from by rw[←HFS.o.2.2.2];exact List.take_length] at hv';simpa using hv'
theorem on_any {c:Rc}(h:IsR w b c)(ho:Own w 0 c.vn out)(ht:c.time≤9223372036854775807)(letter:UInt8)(vf:Value)(fs:List (List UInt8))(hf:FsAt w (λk=>k=b∨c.vn.ownBlock=some k) vf fs)(hl:out.length+7+fs.flatten.length≤140737488355328)(hk:fs.length≤100):
  Calls prog 132 #[.pointer (some ⟨b,0,none⟩),.int .u8 letter.toNat,vf] w λe w'=>e=.returned (.tuple #[])∧∃v',Tr w w' b c v' (out++letter::enc c.time 6++fs.flatten):=by
 obtain⟨rf,cf,rfl,hcf,hfs⟩:=hf.form;obtain⟨F,hF⟩:∃F:Nat→Prop,F=λk=>k=b∨c.vn.ownBlock=some k:=⟨_,rfl⟩;rw[←hF] at hfs;have hFs:¬F w.heap.size:=by
  rw[hF];rintro(e|e)
  ·have:=h.lt;omega
  ·have:=(ho.lt _ e).2;omega
 obtain⟨nf,hnf⟩:=Za (fs.length);rw[hnf] at hcf hk ⊢;obtain⟨ra,cap,hvo,-,-⟩:=ho.len;have c10:w.cell? ⟨b,11,none⟩=some c.vn:=h.cell 11;have HFS:=Zc (Zd hfs (Zd hF (Zd hFs hnf)));have H0:=Zc (Tr.refl h ho);have HL:=Zc hl;have HT:=Zc ht;rw[hvo] at c10;clear hfs hF hFs hnf h ho hf hl ht;go_enter func132,ntmps132;go_wp2_with (at_builtin;(refine XE rfl _ _ rfl 0 (.slice ra out.length cap) out rfl (VL (hvo▸H0.o.own) _) (.slice (some ⟨w.heap.size,0,none⟩) 1 1) [letter] rfl F (Zal w letter _ rfl F HFS.o.2.2.1) (by have:=HL.o;simp only[Zu,ZT];omega) (Zy _) ?_);intro ra2 n2 ca2 w2 ho2 hg2 hv2;have hs1:=Tr.step H0.o ((Fr.alloc (λk=>c.vn.ownBlock=some k) w _).trans (Fr.of_grown hg2) (λk _ e=>by rw[hvo];exact e.symm)) ho2 (hv2.elim (λe=>.inl (by rw[hvo];exact e)) (λe=>.inr ⟨_,e,by rw[Xb];omega⟩));have d10:w2.cell? ⟨b,11,none⟩=some c.vn:=hs1.1.cell 11;have d5:w2.cell? ⟨b,5,none⟩=some (.int .i64 c.time):=hs1.1.cell 5;have f10:=hs1.1.frozen 11;replace hs1:=Zc hs1;clear ho2 hg2 hv2)
 refine(Xu c.time 6 _ HT.o (by decide)).mono ?_;rintro e w3 ⟨rfl,rfl⟩;have hsz:=Xw w2 ⟨b,11,none⟩ (.slice ra2 n2 ca2);have H1:Hid (Tr w (w2.setCell ⟨b,11,none⟩ (.slice ra2 n2 ca2)) b c (.slice ra2 n2 ca2) (out++[letter])):=hs1.out.2;clear d10 d5 f10 hs1 c10;obtain⟨n3,hn3⟩:=Za ((w2.setCell ⟨b,11,none⟩ (.slice ra2 n2 ca2)).heap.size);rw[hn3];rw[hn3] at hsz;have hn3':w2.heap.size=n3:=hsz.symm;generalize w2.setCell ⟨b,11,none⟩ (.slice ra2 n2 ca2)=W1 at *;have hFW:¬F W1.heap.size:=by
  rw[HFS.o.2.1];have hs:=H1.o.fr.size;rintro(e|e)
  ·have:=H0.o.is.lt;omega
  ·have:=(H0.o.own.lt _ e).2;omega
 have H2:Hid (Tr w (W1.alloc (.cells ((enc c.time 6).map B).toArray 5)) b c (.slice ra2 n2 ca2) (out++[letter])):=H1.o.below ((Zm _ W1).alloc (Zh _) _);have HRD:Hid (Rd (W1.alloc (.cells ((enc c.time 6).map B).toArray 5)) F (.slice (some ⟨n3,0,none⟩) 6 6) (enc c.time 6)):=by show Rd _ _ _ _;rw[←hn3];exact rd_num W1 c.time 6 F hFW (by decide)
 clear H1 hFW hsz hn3' hn3;generalize W1.alloc (.cells ((enc c.time 6).map B).toArray 5)=W2 at *;have e10:W2.cell? ⟨b,11,none⟩=some (.slice ra2 n2 ca2):=H2.o.is.cell 11;go_wp2_with (at_builtin;(refine XE rfl _ _ rfl 0 (.slice ra2 n2 ca2) (out++[letter]) rfl H2.o.own (.slice (some ⟨n3,0,none⟩) 6 6) (enc c.time 6) rfl F HRD.o (by have:=HL.o;rw[YZ,Zf];simp only[Zu,ZT];omega) (Zy _) ?_);intro ra4 n4 ca4 w4 ho4 hg4 hv4;have hs2:=Tr.step H2.o ((Fr.of_grown hg4).mono (λk _ e=>e.symm)) ho4 (hv4.elim (λe=>.inl e) (λe=>.inr ⟨_,e,Zh _⟩));have d10:w4.cell? ⟨b,11,none⟩=some (.slice ra2 n2 ca2):=hs2.1.cell 11;have f10:=hs2.1.frozen 11;replace hs2:=Zc hs2;clear ho4 hg4 hv4)
 have HS:Hid (∃v',Tr w (w4.setCell ⟨b,11,none⟩ (.slice ra4 n4 ca4)) b c v' (out++letter::enc c.time 6)):=⟨_,by
  have:=hs2.out.2
  rwa [Zo] at this⟩
 clear d10 f10 e10 hs2 H2 HRD;generalize w4.setCell ⟨b,11,none⟩ (.slice ra4 n4 ca4)=W5 at *;go_loopw [7] (λv7 wr=>∃i:Nat,i≤nf∧v7=.int .i64 i∧Hid (∃v',Tr w wr b c v' (out++letter::enc c.time 6++(fs.take i).flatten))) (λv7 _=>nf-(intOf v7).toNat)
 case atStart=>exact⟨0,Zy _,rfl,by show ∃_,_;simpa using HS.o⟩
 case round=>
  obtain⟨i,hi,rfl,HTi⟩:=hrel;by_cases hil:i<nf
  ·have j1:(i:Int)<(nf:Int):=by omega
   have j2:(0:Int)≤(i:Int):=by omega
   obtain⟨v1,h1⟩:=HTi.o;obtain⟨r1,q1,hv1,-,-⟩:=h1.own.len;generalize (out++letter::enc c.time 6++(fs.take i).flatten).length=k1 at hv1;have hlen:fs.length=nf:=HFS.o.2.2.2;obtain⟨l,hfl⟩:∃l,fs[i]?=some l:=⟨_,Zp (by omega)⟩;obtain⟨gf,v,cur,rfl,hgf,hcv,hrd⟩:=HFS.o.1 i l hfl;obtain⟨rv,cv,rfl⟩:=hrd.form;have hfr:Fr F w wr:=HFS.o.2.1▸h1.fr;have hgl:=(Ze.1 hgf).1;have hgn:¬F gf:=by
    rw[HFS.o.2.1];rintro(e|e)
    ·have h0:w.heap[b]?=_:=H0.o.is;rw[e,h0] at hgf;simp at hgf
    ·obtain⟨cur',hc'⟩:=Tg H0.o.own e;rw[hgf] at hc';simp at hc'
   have k1:wr.cell? ⟨gf,i,none⟩=some (.slice rv l.length cv):=hfr.cell hcv hgn;have k2:wr.cell? ⟨b,11,none⟩=some v1:=h1.is.cell 11;have hrw:Rd wr.drew F (.slice rv l.length cv) l:=(hrd.fr hfr (λ_ _ e=>e)).fr (Fr.drew (λ_=>False) wr) (λ_ _ e=>e.elim);have hsum:(out++letter::enc c.time 6++(fs.take i).flatten).length+l.length≤140737488355328:=by
    have h3:(fs.take i).flatten.length+l.length≤fs.flatten.length:=by
     have e1:fs=fs.take i++l::fs.drop (i+1):=by
      have hd:fs.drop i=l::fs.drop (i+1):=by rw[YI (by omega),(Zl.1 hfl).2]
      rw[←hd,Yr]
     have e2:=congrArg (λx=>x.flatten.length) e1;simp only[List.flatten_append,Zf,ZR] at e2;omega
    have h4:=HL.o;have h5:=YZ c.time 6;simp only[Zf,Zu] at *;omega
   obtain⟨r3,m3,c3,w3,hrun,hown3,hg3,hb3⟩:=VQ (w:=wr.drew) (h1.own.keep (λ_ _=>rfl)) hrw hsum;have hst:=Tr.step h1 (((Fr.drew (λk=>v1.ownBlock=some k) wr).trans (Fr.of_grown hg3) (λk _ e=>e.symm))) hown3 (hb3.elim (λe=>.inl e) (λe=>.inr ⟨_,e,Zh _⟩));have k3:w3.cell? ⟨b,11,none⟩=some v1:=hst.1.cell 11;have k4:=hst.1.frozen 11;have hrun2:(Zd7 #[36,36] 36 #[v1,.slice rv l.length cv]).run prog wr.drew=.ok (.slice r3 m3 c3) w3:=hrun;have HST:Hid (∃v',Tr w (w3.setCell ⟨b,11,none⟩ (.slice r3 m3 c3)) b c v' (out++letter::enc c.time 6++(fs.take (i+1)).flatten)):=⟨_,by
    have:=hst.2
    rwa [Zo,show(fs.take i).flatten++l=(fs.take (i+1)).flatten by rw[List.take_add_one,hfl];simp] at this⟩
   subst hv1;clear hrun hown3 hg3 hb3 hst hrw hsum hfr hgn hgl hrd hcv hgf hfl hlen h1 HTi HS;go_wp2_with fail;go_region_with fail
   all_goals
    go_wp2_with fail;exact⟨⟨i+1,by omega,by go_num,HST⟩,by simp[intOf];omega⟩
  ·have j1:¬(i:Int)<(nf:Int):=by omega
   have hin:i=nf:=by omega
   subst hin;go_wp2_with fail;go_end0
   obtain⟨v',hv'⟩:=HTi.o;refine⟨rfl,v',?_⟩;rw[show fs.take i=fs from by rw[←HFS.o.2.2.2];exact List.take_length] at hv';simpa using hv'
end
end Go.Proofs.YtphkchjejbffeaaGreat
