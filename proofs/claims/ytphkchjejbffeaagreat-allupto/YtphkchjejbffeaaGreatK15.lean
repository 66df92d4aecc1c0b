/- JZ, M1, P8, M2 -/
import Derived.Test.YtphkchjejbffeaaGreatK14
import Derived.ScopeJumps
set_option maxHeartbeats 16000000
set_option maxRecDepth 100000
namespace Go.Proofs.YtphkchjejbffeaaGreat
open Tryz
open Go.RowKit
variable {c:BC}{l:List UInt8}{b n:Nat}{k:SK}{st:St}{w w':World}
section
open Go.RowKit
attribute [local go_sem ↓] Go.wp_at_zero Go.wp_at_succ
theorem Zel (b:Nat)(c:BC)(k:SK)(st:St)(t n qc qa:Nat)(w:World)(h:Rel w b c k st)(ht:t<4294967296)(hn:n<4294967296)(hp:qc<65536)(hs:qa<65536)(hra:st.ans.length≤70368744270000)(hrt:st.tape.length≤70368744270000):
  Calls prog 89 #[.pointer (some ⟨b,0,none⟩),XW t n qc qa] w λe w'=>e=.returned (.tuple #[])∧Does w b c k w' (st.replace t n qc qa):=by
 have hgb:∀j,GB b c k j→j<w.heap.size:=h.lt;have g18:=h.map;have g19:=h.books;have hblt:=h.B.lt;obtain⟨M,od,ps,fl,j1,j2,j3⟩:=h.ex;have hne:∀s d p,VV k.S k.L s d p→∀y∈ps s d p,y<k.n∧y≠0:=λs d p hv=>(j1.nodup hv).2.1;obtain⟨x,hx⟩:=Za ((M t).getD 0);have hcase:=j3.getD t x hx (λs d p hv y hy=>(hne s d p hv y hy).2);have HH:Hid (Holds w c k st M od ps fl):=⟨j1,j2,j3⟩;have HR:=Zc h;have HC:=Zc hcase;have HNE:=Zc hne;have HX:=Zc hx;clear h j1 j2 j3 hcase hne hx;unfold XW;go_enter func89,ntmps89;go_wp2_with fail;generalize hOb:Obj.cells _ 161=Ob;have hF:Fr (λ_=>False) w (w.alloc Ob):=Fr.alloc _ w Ob;have cc:∀i v,(#[Value.int .u32 t,.int .u32 n,.int .u16 qc,.int .u16 qa]:Array Value)[i]?=some v→(w.alloc Ob).cell? ⟨w.heap.size,i,none⟩=some v:=by intro i v hv;rw[Zk _ w.heap.size i _ 161 (0,0) (by rw[YX,Zg rfl,←hOb])];exact hv
 clear hOb;generalize w.alloc Ob=W at hF cc ⊢;have q0:=cc 0 _ rfl;have q1:=cc 1 _ rfl;have q2:=cc 2 _ rfl;have q3:=cc 3 _ rfl;have HHW:Hid (Holds W c k st M od ps fl):=HH.o.quiet hF;have HRW:Hid (Rel W b c k st):=HR.o.quiet hF;have h18:=hF.cell g18 (λe=>e);have h19:=hF.cell g19 (λe=>e);have hlk:(Instr.lookup 62 (.map (some c.pm)) (.int .u32 t) false).run prog W.drew=.ok (.int .i64 x) W.drew:=by have:=(HHW.o.quiet (Fr.drew _ W)).2.1.look t ht;rw[HX.o] at this;exact this
 have m0:W.drew.cell? ⟨b,18,none⟩=some (.map (some c.pm))∧W.drew.cell? ⟨w.heap.size,0,none⟩=some (.int .u32 t)∧(Instr.lookup 62 (.map (some c.pm)) (.int .u32 t) false).run prog W.drew=.ok (.int .i64 x) W.drew:=⟨h18,q0,hlk⟩;have HF:=Zc hF;clear hF g18 g19 hlk cc;go_region_held3 (λw'=>w'.cell? ⟨b,18,none⟩=some (.map (some c.pm))∧w'.cell? ⟨w.heap.size,0,none⟩=some (.int .u32 t)∧(Instr.lookup 62 (.map (some c.pm)) (.int .u32 t) false).run prog w'=.ok (.int .i64 x) w') (first|with_reducible exact m0|go_keep) (fail)
 have HF1:Hid (Fr (λ_=>False) w W.drew):=HF.o.trans (Fr.drew _ W) (λ_ _ e=>e);have HH1:Hid (Holds W.drew c k st M od ps fl):=HHW.o.quiet (Fr.drew _ W);have HR1:Hid (Rel W.drew b c k st):=HRW.o.quiet (Fr.drew _ W);have p0:W.drew.cell? ⟨w.heap.size,0,none⟩=some (.int .u32 t):=q0;have p1:W.drew.cell? ⟨w.heap.size,1,none⟩=some (.int .u32 n):=q1;have p2:W.drew.cell? ⟨w.heap.size,2,none⟩=some (.int .u16 qc):=q2;have p3:W.drew.cell? ⟨w.heap.size,3,none⟩=some (.int .u16 qa):=q3;rename_i hHeld;clear hHeld m0 q0 q1 q2 q3 h18 h19 HF HHW HRW;generalize W.drew=V at *;rcases HC.o with⟨hx0,hfn⟩|⟨hx0,hMx,hfs⟩
 ·have HFN:=Zc hfn;clear hfn;have b0:((x:Int)==0)=true:=by simp[hx0]
  clear hx0;go_wp2_with fail;refine ZC (Yu rfl _ _ _) rfl ?_;refine⟨rfl,c,?_,Stp.quiet HF1.o⟩;unfold St.replace;rw[HFN.o];exact HR1.o
 ·have b0:((x:Int)==0)=false:=by simp;omega
  obtain⟨s,d,p,hv,hxp,htk⟩:=HH.o.2.2.mto t x hMx hx0;obtain⟨f1,f2,f3,f4,f5,f6,f7⟩:=HH.o.2.2.fits hv hxp;have hxn:=(HNE.o _ _ _ hv x hxp).1;obtain⟨f,hf⟩:=Za (od x);rw[hf] at f1 f2 f3 f4 f5 f6 f7 htk hfs;subst f1 f2 f3;have HFS:=Zc hfs;have HV:=Zc (Zd hv (Zd hxp htk));clear hv hxp htk hfs hMx;go_wp2_with fail;refine(QS b c k st t n qc qa V HR1.o hn hp hs).mono ?_;rintro e w1 ⟨rfl,hf1⟩;have r0:=hf1.out.cell p0 (λe=>e);have r1:=hf1.out.cell p1 (λe=>e);have r2:=hf1.out.cell p2 (λe=>e);have r3:=hf1.out.cell p3 (λe=>e);have HF2:Hid (Fr (λ_=>False) w w1):=HF1.o.trans hf1.out (λ_ _ e=>e);have HR2:=Zc (HR1.o.quiet hf1.out);have HH2:=Zc (HH1.o.quiet hf1.out);have hgl1:w.heap.size<w1.heap.size:=ZU w1 _ r1;clear p0 p1 p2 p3 hf1;cases hwr:st.whyR n qc qa with
  | some r=>
   have HWR:=Zc hwr;clear hwr;unfold whyV;simp only;go_wp2_with fail;refine(UL b c st.ans n r w1 HR2.o.B HR2.o.tm.1 HR2.o.tm.2 HR2.o.A HR2.o.dist.ab (by omega) hn).mono ?_;rintro e w2 ⟨rfl,ht2⟩;obtain⟨c2,hR2,hS2,-,-⟩:=HR2.o.tellA (l:=st.head 74++enc n 4++[r]) ht2 (by rw[HR2.o.time];unfold St.head;simp)
   have HFIN:Hid (Does w b c k w2 (st.replace t n qc qa)):=by refine⟨c2,?_,(Stp.quiet HF2.o).trans hS2⟩;unfold St.replace;rw[HFS.o];simp only;rw[HWR.o];exact hR2
   clear hR2 hS2 ht2;go_wp2_with fail;refine ZC (Yu rfl _ _ _) rfl ?_;exact⟨rfl,HFIN.o⟩
  | none=>
   obtain⟨c1',c2',c3',c4',c5'⟩:=Zki hwr;have HWR:=Zc hwr;clear hwr;unfold whyV;simp only;have g19b:=HR2.o.books;go_wp2_with fail;refine(QQ k w1 st.ql x od ps fl HH2.o.1 hxn).mono ?_;rintro e w2 ⟨aa,zz,rfl,hf2⟩;have s0:=hf2.out.cell r0 (λe=>e);have s1:=hf2.out.cell r1 (λe=>e);have s2:=hf2.out.cell r2 (λe=>e);have s3:=hf2.out.cell r3 (λe=>e);have HF3:Hid (Fr (λ_=>False) w w2):=HF2.o.trans hf2.out (λ_ _ e=>e);have HR3:=Zc (HR2.o.quiet hf2.out);have HH3:=Zc (HH2.o.quiet hf2.out);have hgl2:w.heap.size<w2.heap.size:=ZU w2 _ s1;have g19c:=hf2.out.cell g19b (λe=>e);rw[hf];unfold ordV ordL;clear r0 r1 r2 r3 hf2 g19b;go_wp2_with fail;have hFA:Fr (λ_=>False) w2 (w2.alloc (Obj.cells #[Value.int .i64 aa,Value.int .i64 zz,Value.int .u32 f.ref,Value.int .u32 f.qf,Value.int .u8 f.qe.toNat,Value.int .u8 f.qd,Value.int .u16 f.qc,Value.int .u16 f.qa] 108)):=Fr.alloc _ _ _;have hbf:Box (w2.alloc (Obj.cells #[Value.int .i64 aa,Value.int .i64 zz,Value.int .u32 f.ref,Value.int .u32 f.qf,Value.int .u8 f.qe.toNat,Value.int .u8 f.qd,Value.int .u16 f.qc,Value.int .u16 f.qa] 108)) w2.heap.size aa zz f:=Box.of (t:=108) (by rw[YX,Zg rfl];rfl);have hgl3:w2.heap.size<(w2.alloc (Obj.cells #[Value.int .i64 aa,Value.int .i64 zz,Value.int .u32 f.ref,Value.int .u32 f.qf,Value.int .u8 f.qe.toNat,Value.int .u8 f.qd,Value.int .u16 f.qc,Value.int .u16 f.qa] 108)).heap.size:=by rw[Xb];omega
   generalize w2.alloc (Obj.cells #[Value.int .i64 aa,Value.int .i64 zz,Value.int .u32 f.ref,Value.int .u32 f.qf,Value.int .u8 f.qe.toNat,Value.int .u8 f.qd,Value.int .u16 f.qc,Value.int .u16 f.qa] 108)=W2 at hFA hbf hgl3 ⊢;have HFW2:Hid (Fr (λ_=>False) w W2):=HF3.o.trans hFA (λ_ _ e=>e);have HRW2:Hid (Rel W2 b c k st):=HR3.o.quiet hFA;have HHW2:Hid (Holds W2 c k st M od ps fl):=HH3.o.quiet hFA;obtain⟨r,hr⟩:=Za ((st.qg+1)%4294967296);have hrl:r<4294967296:=by rw[←hr];exact YF _ (by decide)
   have HRr:=Zc hr;clear hr;obtain⟨g1,hg1⟩:=Za (w2.heap.size);rw[hg1] at hbf hgl3 ⊢;have n1:¬GB b c k g1:=λe=>by have:=hgb _ e;omega
   have hfst:f.qd<256:=by have a1:=HV.o.1.1;have a2:=HR.o.ok.S;omega
   refine(Zbc b aa zz c k st f t n qc qa r W2 HRW2.o hn f7 hfst hp hs c1' (by omega) HRr.o).mono ?_;rintro e w3 ⟨rfl,c3,hR3,hS3,hT3⟩;have hH3:=hT3 M od ps fl HHW2.o;have nG:∀g,g<W2.heap.size→¬GB b c k g→¬GB b c3 k g:=λg hg hn e=>(hS3.sub g e).elim hn (λe=>by omega);have n1c:=nG g1 hgl3 n1;have hbf3:=hbf.fr hS3.fr n1;have HBF3:=Zc hbf3;have HST:Hid (Stp w b c k w3 c3):=(Stp.quiet HFW2.o).trans hS3;have g19d:=hR3.books;have hg1w3:g1<w3.heap.size:=Zn hgl3 hS3.fr.size;obtain⟨st1,hst1⟩:∃st1,({st with qg:=r,used:=n::st.used}:St).say (st.head 85++enc n 4++enc qc 2++enc qa 2++enc r 4++enc f.qf 4)=st1:=⟨_,rfl⟩;rw[hst1] at hR3 hH3;have HR4:=Zc hR3;have HH4:=Zc hH3;have HS1:=Zc hst1;have HN1:=Zc n1c;clear hFA hbf hbf3 hS3 hT3 hR3 hH3 nG n1 n1c hst1 hg1 s0 s1 s2 s3 g19c;obtain⟨y,hy⟩:∃y,({ref:=r,qf:=n,qe:=f.qe,qd:=f.qd,qc:=qc,qa:=qa}:Ord)=y:=⟨_,rfl⟩;have yrf:y.ref=r:=by rw[←hy]
   have ytk:y.qf=n:=by rw[←hy]
   have ysd:y.qe=f.qe:=by rw[←hy]
   have yst:y.qd=f.qd:=by rw[←hy]
   have ypr:y.qc=qc:=by rw[←hy]
   have ysh:y.qa=qa:=by rw[←hy]
   have HYE:=Zc (Zd yrf (Zd ytk (Zd ysd (Zd yst (Zd ypr ysh)))));have ey:ordV 0 0 {f with ref:=r,qf:=n,qc:=qc,qa:=qa}=ordV 0 0 y:=by rw[←hy]
   rw[ey];have HYY:=Zc hy;clear yrf ytk ysd yst ypr ysh ey hy;unfold ordV ordL;go_wp2_with fail;have hFA:Fr (λ_=>False) w3 (w3.alloc (Obj.cells #[Value.int .i64 0,Value.int .i64 0,Value.int .u32 y.ref,Value.int .u32 y.qf,Value.int .u8 y.qe.toNat,Value.int .u8 y.qd,Value.int .u16 y.qc,Value.int .u16 y.qa] 108)):=Fr.alloc _ _ _;have hbyb:(w3.alloc (Obj.cells #[Value.int .i64 0,Value.int .i64 0,Value.int .u32 y.ref,Value.int .u32 y.qf,Value.int .u8 y.qe.toNat,Value.int .u8 y.qd,Value.int .u16 y.qc,Value.int .u16 y.qa] 108)).heap[w3.heap.size]?=some (.cells (ordL 0 0 y).toArray 108):=by rw[YX,Zg rfl];rfl
   have hgl4:w3.heap.size<(w3.alloc (Obj.cells #[Value.int .i64 0,Value.int .i64 0,Value.int .u32 y.ref,Value.int .u32 y.qf,Value.int .u8 y.qe.toNat,Value.int .u8 y.qd,Value.int .u16 y.qc,Value.int .u16 y.qa] 108)).heap.size:=by rw[Xb];omega
   have n2:¬GB b c3 k w3.heap.size:=λe=>by have:=HR4.o.lt _ e;omega
   generalize w3.alloc (Obj.cells #[Value.int .i64 0,Value.int .i64 0,Value.int .u32 y.ref,Value.int .u32 y.qf,Value.int .u8 y.qe.toNat,Value.int .u8 y.qd,Value.int .u16 y.qc,Value.int .u16 y.qa] 108)=W3 at hFA hbyb hgl4 ⊢;obtain⟨g2,hg2⟩:=Za (w3.heap.size);rw[hg2] at hbyb hgl4 n2 ⊢;have hg2w:w.heap.size≤g2:=by have:=HST.o.fr.size;omega
   clear hg2;obtain⟨q0,q1,q2,q3,q4,q5,q6,q7⟩:=(Box.of hbyb:Box W3 g2 0 0 y);have h19:=hFA.cell g19d (λe=>e);have HR5:Hid (Rel W3 b c3 k st1):=HR4.o.quiet hFA;have HH5:Hid (Holds W3 c3 k st1 (updM M n (some 0)) od ps fl):=HH4.o.quiet hFA;have HST5:Hid (Stp w b c k W3 c3):=HST.o.trans (Stp.quiet hFA);have HBF5:Hid (Box W3 g1 aa zz f):=HBF3.o.fr hFA (λe=>e);have HBY:=Zc hbyb;have HN2:=Zc n2;have hg1W3:g1<W3.heap.size:=Zn hg1w3 hFA.size;clear hFA hbyb n2 g19d;obtain⟨yrf,ytk,ysd,yst,ypr,ysh⟩:=HYE.o;have hkS:k.S=st.qk:=HH.o.2.2.hS;have hkL:k.L=st.qj:=HH.o.2.2.hL;have hkL64:=HR.o.ok.L;have hvy:Hid (VV k.S k.L y.qd y.qe y.qc):=by have a1:=HV.o.1;refine⟨by rw[yst];exact a1.1,by rw[ysd];exact a1.2.1,by rw[ypr];omega,by rw[ypr,hkL];exact c3'⟩
   have hys:y.qd<k.S:=hvy.out.1;have hyd:y.qe=66∨y.qe=83:=hvy.out.2.1;have hyp:y.qc≤1000:=by have:=hvy.out.2.2.2;omega
   have y1:1≤y.qa:=by rw[ysh];exact c4'
   have y2:y.qa≤9999:=by rw[ysh];exact c5'
   have y3:y.ref<4294967296:=by rw[yrf];exact hrl
   have y4:y.qf<4294967296:=by rw[ytk];exact hn
   clear yrf ytk ysd yst ypr ysh hkS hkL;go_region_held3 (λw'=>(w'.cell? ⟨g2,0,none⟩=some (.int .i64 0)∧w'.cell? ⟨g2,1,none⟩=some (.int .i64 0)∧w'.cell? ⟨g2,2,none⟩=some (.int .u32 y.ref)∧w'.cell? ⟨g2,3,none⟩=some (.int .u32 y.qf)∧w'.cell? ⟨g2,4,none⟩=some (.int .u8 y.qe.toNat)∧w'.cell? ⟨g2,5,none⟩=some (.int .u8 y.qd)∧w'.cell? ⟨g2,6,none⟩=some (.int .u16 y.qc)∧w'.cell? ⟨g2,7,none⟩=some (.int .u16 y.qa))∧w'.cell? ⟨b,19,none⟩=some (.pointer (some ⟨k.bk,0,none⟩))) (first|with_reducible exact m1|go_keep)
    ((go_at_call 118;refine(Zdi k W3.drew st1.ql 0 0 y od ps fl (HH5.o.1.keep (λ_ _=>rfl)) hys hyd hyp).mono ?_;rintro e w4 ⟨rfl,hf4⟩;have m1:=Zd ((Box.fr (w:=W3.drew) ⟨q0,q1,q2,q3,q4,q5,q6,q7⟩ hf4.out (λe=>e)).all) (hf4.out.cell (w:=W3.drew) h19 (λe=>e))))
   have hF4:Hid (Fr (λ_=>False) W3 w4):=(Fr.drew _ W3).trans hf4.out (λ_ _ e=>e);obtain⟨⟨u0,u1,u2,u3,u4,u5,u6,u7⟩,u19⟩:=m1;have HR6:Hid (Rel w4 b c3 k st1):=HR5.o.quiet hF4.out;have HH6:Hid (Holds w4 c3 k st1 (updM M n (some 0)) od ps fl):=HH5.o.quiet hF4.out;have HST6:Hid (Stp w b c k w4 c3):=HST5.o.trans (Stp.quiet hF4.out);have hbf6:=HBF5.o.fr hF4.out (λe=>e);have HBF6:=Zc hbf6;have hbk6:Hid (w4.heap[g2]?=some (.cells (ordL 0 0 y).toArray 108)):=(hF4.out.block _ hgl4 (λe=>e)).trans HBY.o;have hg1w4:g1<w4.heap.size:=Zn hg1W3 hF4.out.size;have hg2w4:g2<w4.heap.size:=Zn hgl4 hF4.out.size;clear hf4 q0 q1 q2 q3 q4 q5 q6 q7 h19;have hrep:Hid (st.replace t n qc qa=match st1.meets y with
     | none=>if qc=f.qc∧qa≤f.qa then (st1.put (st1.head 117++enc f.ref 4++enc y.ref 4++enc qa 2++enc qc 2)).upd f.qd f.qe f.qc (subO t y) else ((st1.put (st1.head 117++enc f.ref 4++enc y.ref 4++enc qa 2++enc qc 2)).upd f.qd f.qe f.qc (delO t)).upd f.qd f.qe qc (·++[y])
     | some _=>if ((((st1.put (st1.head 100++enc f.ref 4)).upd f.qd f.qe f.qc (delO t)).meet 65 y).2.qa=0) then (((st1.put (st1.head 100++enc f.ref 4)).upd f.qd f.qe f.qc (delO t)).meet 65 y).1 else (((st1.put (st1.head 100++enc f.ref 4)).upd f.qd f.qe f.qc (delO t)).meet 65 y).1.rest (((st1.put (st1.head 100++enc f.ref 4)).upd f.qd f.qe f.qc (delO t)).meet 65 y).2):=by
    show _=_;unfold St.replace;rw[HFS.o];simp only;rw[HWR.o];simp only;rw[HRr.o,←HS1.o,←HYY.o,HV.o.2.2];rfl
   have hans1:st1.ans.length=st.ans.length+23:=by rw[←HS1.o];simp[St.say,St.head,YZ]
   have htap1:st1.tape=st.tape:=by rw[←HS1.o];rfl
   have htape1:st1.tape.length≤70368744270000:=by rw[htap1];exact hrt
   have hmets:=HH6.o.2.2.meets y hys;have HMETS:=Zc hmets;have HTAP:=Zc htap1;clear hmets htap1;cases hmp:Ui k.L ps y with
   | none=>
    have HMP:Hid (st1.meets y=none):=by show _=_;rw[HMETS.o,hmp];rfl
    clear hmp;dsimp only[Option.getD_none];obtain⟨v0,v1,v2,v3,v4,v5,v6,v7⟩:=hbf6;go_wp2_with fail;refine(Zks b aa zz c3 k st1 (updM M n (some 0)) od ps fl x f y w4 HR6.o HH6.o hf HV.o.1 HV.o.2.1 HYE.o.2.2.2.1 HYE.o.2.2.1 hvy.out y1 y2 y3 y4 (by rw[HYE.o.2.1,Xt]) HMP.o (by omega)).mono ?_;rintro e w5 ⟨rfl,c5,hR5,hS5⟩;have HEND:Hid (Does w b c k w5 (st.replace t n qc qa)):=by
     refine⟨c5,?_,HST6.o.trans hS5⟩;rw[hrep.out,HMP.o];simp only;have e:(if qc=f.qc∧qa≤f.qa then (st1.put (st1.head 117++enc f.ref 4++enc y.ref 4++enc qa 2++enc qc 2)).upd f.qd f.qe f.qc (subO t y) else ((st1.put (st1.head 117++enc f.ref 4++enc y.ref 4++enc qa 2++enc qc 2)).upd f.qd f.qe f.qc (delO t)).upd f.qd f.qe qc (·++[y]))=(st1.swapQ f y).put (st1.head 117++enc f.ref 4++enc y.ref 4++enc y.qa 2++enc y.qc 2):=by obtain⟨-,-,-,-,ypr,ysh⟩:=HYE.o;unfold St.swapQ;rw[ypr,ysh,HV.o.2.2];split<;>rfl
     rw[e];exact hR5
    clear hR5 hS5;go_wp2_with fail;refine ZC (Yu rfl _ _ _) rfl ?_;exact⟨rfl,HEND.o⟩
   | some x2=>
    obtain⟨i1,i2,i3⟩:=HH6.o.2.2.met y hys x2 hmp;have hx20:=((HH6.o.1.nodup i2).2.1 x2 i3).2;have HMP:Hid (st1.meets y=some (od x2)):=i1;have bx2:((x2:Int)==0)=false:=by simp;omega
    clear hmp i1 i2 i3;dsimp only[Option.getD_some];obtain⟨v0,v1,v2,v3,v4,v5,v6,v7⟩:=hbf6;go_wp2_with fail;refine(Qv b c3 st1.tape f.ref w4 HR6.o.B HR6.o.tm.1 HR6.o.tm.2 HR6.o.T HR6.o.dist.tb (by omega) f6).mono ?_;rintro e w5 ⟨rfl,ht5⟩;obtain⟨c5,hR5,hS5,hp5,-⟩:=HR6.o.tellT (l:=st1.head 100++enc f.ref 4) ht5 (by rw[HR6.o.time];unfold St.head;simp)
    have hH5:=HH6.o.tellT (l:=st1.head 100++enc f.ref 4) (c':=c5) HR6.o.dist ht5 hp5;have a7:=hS5.fr.cell HBF6.o.c7 HN1.o;have HR7:=Zc hR5;have HH7:=Zc hH5;have HS5:=Zc hS5;have HST7:Hid (Stp w b c k w5 c5):=HST6.o.trans hS5;clear hR5 hH5 hS5 ht5 v0 v1 v2 v3 v4 v5 v6 v7 u0 u1 u2 u3 u4 u5 u6 u7 u19;go_wp2_with fail;refine(VT b c5 k _ (updM M n (some 0)) od ps fl x f.qa f w5 HR7.o HH7.o hf HV.o.1 HV.o.2.1 (Zh _)).mono ?_;rintro e w6 ⟨rfl,c6,hR6,hS6⟩;obtain⟨st3,hst3⟩:=Za ((st1.put (st1.head 100++enc f.ref 4)).upd f.qd f.qe f.qc (delO t));have hnd:=(HH7.o.1.nodup HV.o.1).1;obtain⟨la,lb,hab⟩:=YV HV.o.2.1;have hcut:=HH7.o.2.2.cut HV.o.1 hab hnd;rw[hf] at hcut;have hqq:(st1.put (st1.head 100++enc f.ref 4)).q f.qd f.qe f.qc=la.map od++f::lb.map od:=by rw[HH7.o.2.2.q _ _ _ HV.o.1,hab,ZH,ZV,hf]
    have e3:(st1.put (st1.head 100++enc f.ref 4)).upd f.qd f.qe f.qc (redO f.qf f.qa)=st3:=by
     rw[←hst3,←HV.o.2.2];unfold St.upd
     congr 1
     funext s' d' p'
     rw[hqq,Zcz f.qf f.qa (la.map od) f (lb.map od) hcut.1 rfl,Zgo f.qf (la.map od) f (lb.map od) hcut.1 rfl,Zg (Zh _)]
    rw[e3] at hR6;have hS46:=HS5.o.trans hS6;have hbk6b:w6.heap[g2]?=some (.cells (ordL 0 0 y).toArray 108):=(hS46.fr.block _ hg2w4 HN2.o).trans hbk6.out;obtain⟨k0,k1,k2,k3,k4,k5,k6,k7⟩:=(Box.of hbk6b:Box w6 g2 0 0 y);have n6:¬GB b c6 k g2:=λe=>(hS46.sub g2 e).elim HN2.o (λe=>by omega);have hval3:Valid st3 y.qd y.qe y.qc:=by have a1:=HH6.o.2.2.valid hvy.out;rw[←hst3];exact a1
    have hall1:st1.all=st.all:=by rw[←HS1.o];rfl
    have hused1:st1.used=n::st.used:=by rw[←HS1.o];rfl
    have hrest1:st1.ql=st.ql:=by unfold St.ql;rw[hall1]
    have hdel:=Zbi (st:=st1.put (st1.head 100++enc f.ref 4)) f.qd f.qe f.qc t (HH7.o.2.2.valid HV.o.1) ⟨f,by rw[hqq];simp,HV.o.2.2⟩;rw[hst3] at hdel;have hnew3:∀o∈st3.all,o.qf≠y.qf:=by
     intro o ho e;have:=hdel.2.subset ho;have h2:o∈st.all:=by rw[←hall1];exact this
     exact c1' (by rw[←HYE.o.2.1,←e];exact HR.o.inv.used o h2)
    have hus3:y.qf∈st3.used:=by rw[←hst3];show y.qf∈st1.used;rw[hused1,HYE.o.2.1];simp
    obtain⟨st',o',hm⟩:∃st' o',st3.meet 65 y=(st',o'):=⟨_,_,rfl⟩;have haft:=Zcx hR6.inv hm hval3 hnew3 hus3;have hla3:st3.ans.length=st1.ans.length:=by rw[←hst3];rfl
    have hlt3:st3.tape.length=st1.tape.length+11:=by rw[←hst3];simp[St.upd,St.put,St.head,YZ]
    have hr3:st3.ql+1=st1.ql:=hdel.1;have hp3:st3.pool=st.pool:=by rw[←hst3];show st1.pool=st.pool;rw[←HS1.o];rfl
    have HMEET:=Zc (Zd8 b 0 0 c6 k st3 y o' st' w6 hR6 hm y4 y2 hys hyd hyp (by rw[hla3,hans1];omega) (by rw[hlt3];omega));have hrep2:Hid (st.replace t n qc qa=if o'.qa=0 then st' else st'.rest o'):=by show _=_;rw[hrep.out,HMP.o];simp only;rw[hst3,hm]
    have HAFT:=Zc haft;have HK6:=Zc hbk6b;have HN6:=Zc n6;have HST8:Hid (Stp w b c k w6 c6):=HST7.o.trans hS6;have hg2w6:g2<w6.heap.size:=(Ze.1 hbk6b).1;have HNUM:Hid (st3.ql+1=st1.ql∧st1.ql=st.ql∧st3.pool=st.pool∧st3.ans.length≤st.ans.length+23∧st3.tape.length≤st.tape.length+11):=⟨hr3,hrest1,hp3,by rw[hla3,hans1];omega,by rw[hlt3,HTAP.o];omega⟩;clear hR6 hS6 hS46 hbk6b n6 hval3 hall1 hused1 hrest1 hdel hnew3 hus3 hm haft hla3 hlt3 hr3 hp3 e3 hst3 hqq hcut hab hnd a7;go_wp2_with fail;refine HMEET.o.mono ?_;rintro e w7 ⟨rfl,c7,hR7,hS7⟩;have hbk7:Hid (w7.heap[g2]?=some (.cells (ordL 0 0 y).toArray 108)):=(hS7.fr.block _ hg2w6 HN6.o).trans HK6.o;obtain⟨l0,l1,l2,l3,l4,l5,l6,l7⟩:=(Box.of hbk7.out:Box w7 g2 0 0 y);have fro:∀j,w7.frozen? ⟨g2,j,none⟩=false:=λj=>by have:=hbk7.out;simp[World.frozen?,this]
    have fr0:=fro 0;have fr1:=fro 1;have fr2:=fro 2;have fr3:=fro 3;have fr4:=fro 4;have fr5:=fro 5;have fr6:=fro 6;have fr7:=fro 7;have n7:¬GB b c7 k g2:=λe=>(hS7.sub g2 e).elim HN6.o (λe=>by omega);have HR8:=Zc hR7;have HST9:Hid (Stp w b c k w7 c7):=HST8.o.trans hS7;have HN7:=Zc n7;obtain⟨b1,b2,b3,b4,b5,b6,b7,b8,b9,b10⟩:=HAFT.o;have HB:=Zc (Zd b1 (Zd b3 (Zd b4 (Zd b5 b8))));have otk:o'.qf<4294967296:=by rw[b1];exact y4
    have orf:o'.ref<4294967296:=by rw[b1];exact y3
    have osh:o'.qa≤9999:=by omega
    obtain⟨m1',m2',m3',m4',m5'⟩:=HNUM.o;have hrm:=HR.o.inv.room;have hrp:st'.ql<st'.pool:=by rw[b7,m3'];omega
    have htap':st'.tape.length≤70368744280000:=by omega
    clear fro hR7 hS7 n7 b1 b2 b3 b4 b5 b6 b7 b8 b9 b10 k0 k1 k2 k3 k4 k5 k6 k7 m1' m2' m3' m4' m5' hrm;unfold ordV ordL;have hfr9:Fr (λj=>j=g2) w7 ((((((((w7.setCell ⟨g2,0,none⟩ (.int .i64 0)).setCell ⟨g2,1,none⟩ (.int .i64 0)).setCell ⟨g2,2,none⟩ (.int .u32 o'.ref)).setCell ⟨g2,3,none⟩ (.int .u32 o'.qf)).setCell ⟨g2,4,none⟩ (.int .u8 o'.qe.toNat)).setCell ⟨g2,5,none⟩ (.int .u8 o'.qd)).setCell ⟨g2,6,none⟩ (.int .u16 o'.qc)).setCell ⟨g2,7,none⟩ (.int .u16 o'.qa)):=XA g2 (ordL 0 0 o') 0 w7;have hR9:Rel ((((((((w7.setCell ⟨g2,0,none⟩ (.int .i64 0)).setCell ⟨g2,1,none⟩ (.int .i64 0)).setCell ⟨g2,2,none⟩ (.int .u32 o'.ref)).setCell ⟨g2,3,none⟩ (.int .u32 o'.qf)).setCell ⟨g2,4,none⟩ (.int .u8 o'.qe.toNat)).setCell ⟨g2,5,none⟩ (.int .u8 o'.qd)).setCell ⟨g2,6,none⟩ (.int .u16 o'.qc)).setCell ⟨g2,7,none⟩ (.int .u16 o'.qa)) b c7 k st':=HR8.o.keep (λj hj=>hfr9.block j (HR8.o.lt j hj) (λe=>HN7.o (by rw[←(show j=g2 from e)];exact hj)));have hS9:Stp w b c k ((((((((w7.setCell ⟨g2,0,none⟩ (.int .i64 0)).setCell ⟨g2,1,none⟩ (.int .i64 0)).setCell ⟨g2,2,none⟩ (.int .u32 o'.ref)).setCell ⟨g2,3,none⟩ (.int .u32 o'.qf)).setCell ⟨g2,4,none⟩ (.int .u8 o'.qe.toNat)).setCell ⟨g2,5,none⟩ (.int .u8 o'.qd)).setCell ⟨g2,6,none⟩ (.int .u16 o'.qc)).setCell ⟨g2,7,none⟩ (.int .u16 o'.qa)) c7:=⟨HST9.o.fr.trans hfr9 (λi hi e=>by have e:i=g2:=e;omega),HST9.o.sub,HST9.o.bytes,HST9.o.have_,HST9.o.opn⟩;have HR9:=Zc hR9;have HS9:=Zc hS9;clear hfr9 hR9 hS9;by_cases hz:o'.qa=0
    ·have bz:¬((0:Int)<(o'.qa:Int)):=by omega
     have bz2:¬(0<o'.qa):=by omega
     have HZ:=Zc hz;clear hz;go_wp2_with fail;go_end0
     refine⟨rfl,c7,?_,HS9.o⟩;rw[hrep2.out,Zg HZ.o];exact HR9.o
    ·have bz:(0:Int)<(o'.qa:Int):=by omega
     have bz2:0<o'.qa:=by omega
     have HZ:=Zc hz;clear hz;go_wp2_with fail;generalize ((((((((w7.setCell ⟨g2,0,none⟩ (.int .i64 0)).setCell ⟨g2,1,none⟩ (.int .i64 0)).setCell ⟨g2,2,none⟩ (.int .u32 o'.ref)).setCell ⟨g2,3,none⟩ (.int .u32 o'.qf)).setCell ⟨g2,4,none⟩ (.int .u8 o'.qe.toNat)).setCell ⟨g2,5,none⟩ (.int .u8 o'.qd)).setCell ⟨g2,6,none⟩ (.int .u16 o'.qc)).setCell ⟨g2,7,none⟩ (.int .u16 o'.qa))=w9 at HR9 HS9 ⊢;obtain⟨b1,b3,b4,b5,b8⟩:=HB.o;refine(Zdu b c7 k st' o' w9 HR9.o b3 (by omega) osh orf otk b4 b5 hrp (b8.resolve_left HZ.o) (by omega)).mono ?_;rintro e w10 ⟨rfl,c10,hR10,hS10⟩;have HR10:=Zc hR10;have HS10:Hid (Stp w b c k w10 c10):=HS9.o.trans hS10;clear hR10 hS10 b1 b3 b4 b5 b8;go_wp2_with fail;go_end0
     refine⟨rfl,c10,?_,HS10.o⟩;rw[hrep2.out,Zj HZ.o];exact HR10.o
structure Stq (w:World)(b:Nat)(c:BC)(k:SK)(w':World)(c':BC):Prop where
 fr:Fr (GB b c k) w w'
 sub:∀j,GB b c' k j→GB b c k j∨w.heap.size≤j
 bytes:c'.bytes=c.bytes
 have_:c'.have_=c.have_
theorem Stp.q {c':BC}(h:Stp w b c k w' c'):Stq w b c k w' c':=⟨h.fr,h.sub,h.bytes,h.have_⟩
def Tj (w:World)(b:Nat)(c:BC)(k:SK)(w':World)(st':St)(o:Bool):Prop:=∃c',Rel w' b c' k st'∧Stq w b c k w' c'∧c'.opn=o
theorem Does.o {st':St}(h:Does w b c k w' st'):Tj w b c k w' st' c.opn:=by obtain⟨c',h1,h2⟩:=h;exact⟨c',h1,h2.q,h2.opn⟩
theorem Zkl (b:Nat)(c:BC)(k:SK)(st:St)(w:World)(h:Rel w b c k st)(hra:st.ans.length≤70368744270000):
  Calls prog 93 #[.pointer (some ⟨b,0,none⟩)] w λe w'=>e=.returned (.tuple #[])∧Tj w b c k w' st.shut false:=by
 have g0:w.cell? ⟨b,0,none⟩=some (.bool c.opn):=by rw[h.B.cell];exact(c.get h.B.len).1
 have f0:=h.B.frozen 0;have hF1:Fr (λj=>j=b) w (w.setCell ⟨b,0,none⟩ (.bool false)):=Fr.setCell w ⟨b,0,none⟩ _;have hi:Inv {st with opn:=false}:=h.inv.of_q rfl rfl rfl rfl (λ_ q=>q) h.inv.qg h.inv.qi h.inv.time;have hown:=h.own (c':={c with opn:=false}) (st':={st with opn:=false}) (h.B.setOpn false) hF1 rfl rfl rfl rfl rfl rfl h.time h.qg h.qi hi rfl rfl rfl rfl rfl;have HR:=Zc h;have HO:=Zc hown;clear h hF1 hi hown;go_enter func93,ntmps93;go_wp2_with fail;generalize w.setCell ⟨b,0,none⟩ (.bool false)=W at HO ⊢;have hR1:=HO.o.1;refine(Zce b {c with opn:=false} st.ans W hR1.B hR1.tm.1 hR1.tm.2 hR1.A hR1.dist.ab (by omega)).mono ?_;rintro e w2 ⟨rfl,ht2⟩;obtain⟨c2,hR2,hS2,-,-⟩:=hR1.tellA (l:=st.head 90) ht2 (by have:c.time=st.time:=HR.o.time;show st.ans++90::enc c.time 6=st.ans++st.head 90;unfold St.head;rw[this])
 have HFIN:Hid (Tj w b c k w2 st.shut false):=by have hs:=Stp.trans (c1:={c with opn:=false}) (w:=w) (c:={c with opn:=false}) (w1:=W) ⟨HO.o.2.1,λj hj=>Or.inl hj,rfl,rfl,rfl⟩ hS2;exact⟨c2,hR2,⟨hs.fr,λj hj=>(hs.sub j hj).imp (λe=>HO.o.2.2 j e) id,hs.bytes,hs.have_⟩,hs.opn⟩
 clear hR1 hR2 hS2 ht2;go_wp2_with fail;go_end0
 exact⟨rfl,HFIN.o⟩
theorem Zej (m:List UInt8)(i n:Nat):num (((m.drop 1).drop i).take n) 0=at_ m (1+i) n:=by unfold at_;rw[List.drop_drop]
theorem Ziz (m:List UInt8)(n:Nat):num ((m.drop 1).take n) 0=at_ m 1 n:=rfl
theorem QB (m:List UInt8)(i:Nat)(h:i<m.length):num ((m.drop i).take 1) 0=(Xa m i).toNat:=by
 have:(m.drop i).take 1=[m[i]]:=by rw[YI h];rfl
 rw[this];unfold Xa;simp[num,h]
theorem XY (m:List UInt8)(i:Nat):at_ m i 2<65536:=by
 unfold at_;have h:((m.drop i).take 2).length≤2:=by simp;omega
 generalize (m.drop i).take 2=l at h
 match l,h with
 | [],_=>simp[num]
 | [a],_=>have:=a.toNat_lt;simp[num];omega
 | [a,b],_=>have:=a.toNat_lt;have:=b.toNat_lt;simp[num];omega
theorem do_E (b:Nat)(c:BC)(k:SK)(st:St)(m:List UInt8)(w:World)(h:Rel w b c k st)(hl:Lies w b 2 m)(hlen:m.length=12)(h0:Xa m 0=69)(hra:st.ans.length≤70368744270000)(hrt:st.tape.length≤70368744270000):
  Calls prog 62 #[.pointer (some ⟨b,0,none⟩),.slice (some ⟨b,2,none⟩) 12 13] w λe w'=>e=.returned (.tuple #[])∧Tj w b c k w' (st.act m) c.opn:=by
 have hblt:=h.B.lt;have c2:w.cell? ⟨b,2,none⟩=some (.int .u8 69):=by have:=hl.cell 0 (by omega);rw[show m.getD 0 0=69 from h0] at this;exact this
 have hl1:Lies w b 3 (m.drop 1):=hl.drop 1;have hld:(m.drop 1).length=11:=by rw[Zt,hlen]
 have HR:=Zc h;have HL:=Zc hl1;have HLEN:=Zc (Zd hlen (Zd hld h0));clear h hl hl1 hlen hld h0;go_enter func62,ntmps62;go_wp2_with fail;refine(Zc4 b 3 (m.drop 1) w HLEN.o.2.1 HL.o hblt).mono ?_;rintro e w1 ⟨rfl,hb1⟩;have hf1:Fr (λ_=>False) w w1:=Fr.of_below hb1 _;have hR1:=HR.o.quiet hf1;have HR1:=Zc hR1;have HF1:=Zc hf1;clear hb1 hf1 hR1;have hval:(Value.agg #[.int .u32 (num ((m.drop 1).take 4) 0:Nat),.int .u8 (num (((m.drop 1).drop 4).take 1) 0:Nat),.int .u8 (num (((m.drop 1).drop 5).take 1) 0:Nat),.int .u16 (num (((m.drop 1).drop 6).take 2) 0:Nat),.int .u16 (num (((m.drop 1).drop 8).take 2) 0:Nat),.int .u8 (num (((m.drop 1).drop 10).take 1) 0:Nat)])=UE (at_ m 1 4) (Xa m 5) (Xa m 6).toNat (at_ m 7 2) (at_ m 9 2) (Xa m 11):=by have e:=HLEN.o.1;rw[Ziz,Zej m 6 2,Zej m 8 2,List.drop_drop,List.drop_drop,List.drop_drop,QB m (1+4) (by omega),QB m (1+5) (by omega),QB m (1+10) (by omega)];rfl
 rw[hval];clear hval;go_wp2_with fail;refine(Zih b c k st (at_ m 1 4) (Xa m 5) (Xa m 6).toNat (at_ m 7 2) (at_ m 9 2) (Xa m 11) w1 HR1.o (Zcd m 1) (UInt8.toNat_lt _) (XY m 7) (XY m 9) hra hrt).mono ?_;rintro e w2 ⟨rfl,hd⟩;have HD:Hid (Tj w b c k w2 (st.act m) c.opn):=by
  obtain⟨c',h1,h2⟩:=hd;have e:st.act m=st.enter (at_ m 1 4) (Xa m 5) (Xa m 6).toNat (at_ m 7 2) (at_ m 9 2) (Xa m 11):=by unfold St.act;rw[HLEN.o.2.2];rfl
  rw[e];exact Does.o ⟨c',h1,(Stp.quiet HF1.o).trans h2⟩
 clear hd;go_wp2_with fail;go_end0
 exact⟨rfl,HD.o⟩
theorem do_R (b:Nat)(c:BC)(k:SK)(st:St)(m:List UInt8)(w:World)(h:Rel w b c k st)(hl:Lies w b 2 m)(hlen:m.length=13)(h0:Xa m 0=82)(hra:st.ans.length≤70368744270000)(hrt:st.tape.length≤70368744270000):
  Calls prog 62 #[.pointer (some ⟨b,0,none⟩),.slice (some ⟨b,2,none⟩) 13 13] w λe w'=>e=.returned (.tuple #[])∧Tj w b c k w' (st.act m) c.opn:=by
 have hblt:=h.B.lt;have c2:w.cell? ⟨b,2,none⟩=some (.int .u8 82):=by have:=hl.cell 0 (by omega);rw[show m.getD 0 0=82 from h0] at this;exact this
 have hl1:Lies w b 3 (m.drop 1):=hl.drop 1;have hld:(m.drop 1).length=12:=by rw[Zt,hlen]
 have HR:=Zc h;have HL:=Zc hl1;have HLEN:=Zc (Zd hlen (Zd hld h0));clear h hl hl1 hlen hld h0;go_enter func62,ntmps62;go_wp2_with fail;refine(Za7 b 3 (m.drop 1) w HLEN.o.2.1 HL.o hblt).mono ?_;rintro e w1 ⟨rfl,hb1⟩;have hf1:Fr (λ_=>False) w w1:=Fr.of_below hb1 _;have hR1:=HR.o.quiet hf1;have HR1:=Zc hR1;have HF1:=Zc hf1;clear hb1 hf1 hR1;have hval:(Value.agg #[.int .u32 (num ((m.drop 1).take 4) 0:Nat),.int .u32 (num (((m.drop 1).drop 4).take 4) 0:Nat),.int .u16 (num (((m.drop 1).drop 8).take 2) 0:Nat),.int .u16 (num (((m.drop 1).drop 10).take 2) 0:Nat)])=XW (at_ m 1 4) (at_ m 5 4) (at_ m 9 2) (at_ m 11 2):=by have e:=HLEN.o.1;rw[Ziz,Zej m 4 4,Zej m 8 2,Zej m 10 2];rfl
 rw[hval];clear hval;go_wp2_with fail;refine(Zel b c k st (at_ m 1 4) (at_ m 5 4) (at_ m 9 2) (at_ m 11 2) w1 HR1.o (Zcd m 1) (Zcd m 5) (XY m 9) (XY m 11) hra hrt).mono ?_;rintro e w2 ⟨rfl,hd⟩;have HD:Hid (Tj w b c k w2 (st.act m) c.opn):=by
  obtain⟨c',h1,h2⟩:=hd;have e:st.act m=st.replace (at_ m 1 4) (at_ m 5 4) (at_ m 9 2) (at_ m 11 2):=by unfold St.act;rw[HLEN.o.2.2];rfl
  rw[e];exact Does.o ⟨c',h1,(Stp.quiet HF1.o).trans h2⟩
 clear hd;go_wp2_with fail;go_end0
 exact⟨rfl,HD.o⟩
theorem do_C (b:Nat)(c:BC)(k:SK)(st:St)(m:List UInt8)(w:World)(h:Rel w b c k st)(hl:Lies w b 2 m)(hlen:m.length=7)(h0:Xa m 0=67)(hra:st.ans.length≤70368744270000)(hrt:st.tape.length≤70368744270000):
  Calls prog 62 #[.pointer (some ⟨b,0,none⟩),.slice (some ⟨b,2,none⟩) 7 13] w λe w'=>e=.returned (.tuple #[])∧Tj w b c k w' (st.act m) c.opn:=by
 have hblt:=h.B.lt;have c2:w.cell? ⟨b,2,none⟩=some (.int .u8 67):=by have:=hl.cell 0 (by omega);rw[show m.getD 0 0=67 from h0] at this;exact this
 have hl1:Lies w b 3 (m.drop 1):=hl.drop 1;have hld:(m.drop 1).length=6:=by rw[Zt,hlen]
 have HR:=Zc h;have HL:=Zc hl1;have HLEN:=Zc (Zd hlen (Zd hld h0));clear h hl hl1 hlen hld h0;go_enter func62,ntmps62;go_wp2_with fail;refine(Zbl b 3 (m.drop 1) w HLEN.o.2.1 HL.o hblt).mono ?_;rintro e w1 ⟨rfl,hb1⟩;have hf1:Fr (λ_=>False) w w1:=Fr.of_below hb1 _;have hR1:=HR.o.quiet hf1;have HR1:=Zc hR1;have HF1:=Zc hf1;clear hb1 hf1 hR1;have hval:(Value.agg #[.int .u32 (num ((m.drop 1).take 4) 0:Nat),.int .u16 (num (((m.drop 1).drop 4).take 2) 0:Nat)])=Zfq (at_ m 1 4) (at_ m 5 2):=by have e:=HLEN.o.1;rw[Ziz,Zej m 4 2];rfl
 rw[hval];clear hval;go_wp2_with fail;refine(Zf6 b c k st (at_ m 1 4) (at_ m 5 2) w1 HR1.o (Zcd m 1) (XY m 5) hra hrt).mono ?_;rintro e w2 ⟨rfl,hd⟩;have HD:Hid (Tj w b c k w2 (st.act m) c.opn):=by
  obtain⟨c',h1,h2⟩:=hd;have e:st.act m=st.cancel (at_ m 1 4) (at_ m 5 2):=by unfold St.act;rw[HLEN.o.2.2];rfl
  rw[e];exact Does.o ⟨c',h1,(Stp.quiet HF1.o).trans h2⟩
 clear hd;go_wp2_with fail;go_end0
 exact⟨rfl,HD.o⟩
theorem do_Z (b:Nat)(c:BC)(k:SK)(st:St)(m:List UInt8)(w:World)(h:Rel w b c k st)(hl:Lies w b 2 m)(hlen:m.length=1)(h1:Xa m 0≠69)(h2:Xa m 0≠82)(h3:Xa m 0≠67)(hra:st.ans.length≤70368744270000):
  Calls prog 62 #[.pointer (some ⟨b,0,none⟩),.slice (some ⟨b,2,none⟩) 1 13] w λe w'=>e=.returned (.tuple #[])∧Tj w b c k w' (st.act m) false:=by
 have c2:w.cell? ⟨b,2,none⟩=some (.int .u8 (Xa m 0).toNat):=hl.cell 0 (by omega);have n1:(((Xa m 0).toNat:Int)==69)=false:=Zcl _ 69 h1;have n2:(((Xa m 0).toNat:Int)==82)=false:=Zcl _ 82 h2;have n3:(((Xa m 0).toNat:Int)==67)=false:=Zcl _ 67 h3;have HE:Hid (st.act m=st.shut):=by show _=_;unfold St.act;rw[Zj h1,Zj h2,Zj h3]
 have HR:=Zc h;generalize (Xa m 0).toNat=q at *;clear h hl hlen h1 h2 h3;go_enter func62,ntmps62;go_wp2_with fail;refine(Zkl b c k st w HR.o hra).mono ?_;rintro e w2 ⟨rfl,hd⟩;have HD:Hid (Tj w b c k w2 (st.act m) false):=by rw[HE.o];exact hd
 clear hd;go_wp2_with fail;go_end0
 exact⟨rfl,HD.o⟩
end
section
structure Mon (a b:St):Prop where
 ans:a.ans <+: b.ans
 tape:a.tape <+: b.tape
theorem Mon.refl (a:St):Mon a a:=⟨YU _,YU _⟩
theorem Mon.trans {a b c:St}(h:Mon a b)(k:Mon b c):Mon a c:=⟨h.ans.trans k.ans,h.tape.trans k.tape⟩
theorem Mon.of_eq {a b:St}(h:b.ans=a.ans)(k:b.tape=a.tape):Mon a b:=⟨by rw[h];exact YU _,by rw[k];exact YU _⟩
theorem VO (st:St)(l:List UInt8):Mon st (st.say l):=⟨List.prefix_append _ _,YU _⟩
theorem UY (st:St)(l:List UInt8):Mon st (st.put l):=⟨YU _,List.prefix_append _ _⟩
theorem Uq (st:St)(s:Nat)(d:UInt8)(p:Nat)(f:List Ord→List Ord):Mon st (st.upd s d p f):=⟨YU _,YU _⟩
theorem Zhj (st:St)(o f:Ord)(n:Nat):Mon st (st.execute o f n):=by unfold St.execute;exact((((Mon.of_eq rfl rfl:Mon st {st with qi:=(st.qi+1)%4294967296}).trans (VO _ _)).trans (VO _ _)).trans (UY _ _)).trans (Uq _ _ _ _ _)
theorem Zcj (k:Nat):∀(st:St) (o:Ord),Mon st (st.meet k o).1:=by
 induction k with
 | zero=>intro st o;exact Mon.refl _
 | succ k ih=>
  intro st o;simp only[St.meet];split
  ·exact Mon.refl _
  ·split
   ·exact Mon.refl _
   ·exact(Zhj _ _ _ _).trans (ih _ _)
theorem Zgx (st:St)(o:Ord):Mon st (st.rest o):=(Uq _ _ _ _ _).trans (UY _ _)
theorem Zil (st:St)(o:Ord)(kind:UInt8):Mon st (st.accept o kind):=(Mon.of_eq rfl rfl:Mon st {st with qg:=o.ref,used:=o.qf::st.used}).trans (VO _ _)
theorem Zj2 (st:St)(t:Nat)(qe:UInt8)(qd qc qa:Nat)(kind:UInt8):Mon st (st.enter t qe qd qc qa kind):=by
 unfold St.enter;split
 ·exact VO _ _
 ·dsimp only;have h:=(Zil st {ref:=(st.qg+1)%4294967296,qf:=t,qe:=qe,qd:=qd,qc:=qc,qa:=qa} kind).trans (Zcj 65 _ {ref:=(st.qg+1)%4294967296,qf:=t,qe:=qe,qd:=qd,qc:=qc,qa:=qa});split
  ·exact h
  ·split
   ·exact h.trans (Zgx _ _)
   ·exact h.trans (VO _ _)
theorem Zig (st:St)(t n:Nat):Mon st (st.cancel t n):=by
 unfold St.cancel;split
 ·exact Mon.refl _
 ·split
  ·exact Mon.refl _
  ·dsimp only;split
   ·exact((VO _ _).trans (UY _ _)).trans (Uq _ _ _ _ _)
   ·exact((VO _ _).trans (UY _ _)).trans (Uq _ _ _ _ _)
theorem Zgz (st:St)(t n qc qa:Nat):Mon st (st.replace t n qc qa):=by
 unfold St.replace;split
 ·exact Mon.refl _
 ·split
  ·exact VO _ _
  ·dsimp only;have h1:Mon st (({st with qg:=(st.qg+1)%4294967296,used:=n::st.used}:St).say (st.head 85++enc n 4++enc qc 2++enc qa 2++enc ((st.qg+1)%4294967296) 4++enc t 4)):=(Mon.of_eq rfl rfl:Mon st {st with qg:=(st.qg+1)%4294967296,used:=n::st.used}).trans (VO _ _);generalize (({st with qg:=(st.qg+1)%4294967296,used:=n::st.used}:St).say (st.head 85++enc n 4++enc qc 2++enc qa 2++enc ((st.qg+1)%4294967296) 4++enc t 4))=b at *;split
   ·split
    ·exact(h1.trans (UY _ _)).trans (Uq _ _ _ _ _)
    ·exact((h1.trans (UY _ _)).trans (Uq _ _ _ _ _)).trans (Uq _ _ _ _ _)
   ·rename_i o _ _ _ _ _ _;have h2:=((h1.trans (UY _ _)).trans (Uq _ o.qd o.qe o.qc (delO t)):Mon st ((b.put (b.head 100++enc o.ref 4)).upd o.qd o.qe o.qc (delO t)));split
    ·exact h2.trans (Zcj 65 _ _)
    ·exact(h2.trans (Zcj 65 _ _)).trans (Zgx _ _)
theorem mon_act (st:St)(m:List UInt8):Mon st (st.act m):=by
 unfold St.act;split
 ·exact Zj2 _ _ _ _ _ _ _
 ·split
  ·exact Zgz _ _ _ _ _
  ·split
   ·exact Zig _ _ _
   ·exact(Mon.of_eq rfl rfl:Mon st {st with opn:=false}).trans (VO _ _)
theorem mon_step (st:St)(c:UInt8):Mon st (st.step c):=by
 unfold St.step;split
 ·split
  ·exact(Mon.of_eq rfl rfl:Mon st {st with part:=[]}).trans (mon_act _ _)
  ·exact Mon.of_eq rfl rfl
 ·exact Mon.refl _
theorem mon_feed (l:List UInt8):∀st:St,Mon st (st.feed l):=by
 induction l with
 | nil=>intro st;exact Mon.refl _
 | cons c l ih=>intro st;exact(mon_step st c).trans (ih _)
theorem Zcu (a b c:List UInt8)(h:0<a.length):Xa (a++b) 0=Xa (a++c) 0:=by
 rcases a with _|⟨x,a⟩
 ·simp at h
 ·rfl
theorem TS (l:List UInt8):∀(st:St),st.opn=true→(l=[]∨st.part.length+l.length<sizeOf (Xa (st.part++l) 0))→st.feed l={st with part:=st.part++l}:=by
 induction l with
 | nil=>intro st _ _;rw[ZG];rfl
 | cons c l ih=>
  intro st ho h;have h:st.part.length+(l.length+1)<sizeOf (Xa (st.part++c::l) 0):=by
   rcases h with h|h
   ·cases h
   ·exact h
  have e0:st.part++c::l=(st.part++[c])++l:=by simp
  have e1:Xa ((st.part++[c])++l) 0=Xa (st.part++[c]) 0:=by have:=Zcu (st.part++[c]) l [] (by simp);rw[this,ZG]
  rw[e0] at h ⊢;have hs:st.step c={st with part:=st.part++[c]}:=by unfold St.step;rw[Zg ho,Zj (by rw[←e1];simp only[Zf,Zu,ZT];omega)]
  show(st.step c).feed l=_;rw[hs];exact ih {st with part:=st.part++[c]} ho (Or.inr (by show(st.part++[c]).length+l.length<_;simp only[Zf,Zu,ZT];omega))
theorem Zak (st:St)(l:List UInt8)(ho:st.opn=true)(h0:0<l.length)(h:st.part.length+l.length=sizeOf (Xa (st.part++l) 0)):st.feed l=({st with part:=[]}:St).act (st.part++l):=by
 obtain⟨l',c,rfl⟩:∃l' c,l=l'++[c]:=⟨l.dropLast,l.getLast (by intro e;rw[e] at h0;simp at h0),(Ym _).symm⟩;have hless:l'=[]∨st.part.length+l'.length<sizeOf (Xa (st.part++l') 0):=by
  by_cases hn:(st.part++l').length=0
  ·left
   simp at hn;exact hn.2
  ·right
   rw[←Zo,Zcu (st.part++l') [c] [] (by omega),ZG] at h;simp only[Zf,Zu,ZT] at h;omega
 rw[Vi,TS l' st ho hless];show St.step _ c=_;unfold St.step;dsimp only;rw[Zg ho,Zo,Zg (by rw[←h];simp)]
theorem Zas (l:List UInt8):∀st:St,st.opn=false→st.feed l=st:=by
 induction l with
 | nil=>intro st _;rfl
 | cons c l ih=>
  intro st h;show(st.step c).feed l=st;have:st.step c=st:=by unfold St.step;rw[Zj (by rw[h];simp)]
  rw[this,ih st h]
theorem Zjp (st:St)(m:List UInt8):(st.act m).opn=if Xa m 0=69∨Xa m 0=82∨Xa m 0=67 then st.opn else false:=by
 unfold St.act;by_cases h1:Xa m 0=69
 ·rw[Zg h1,Zg (Or.inl h1)];exact(Tx _ _ _ _ _ _ _).opn
 ·rw[Zj h1];by_cases h2:Xa m 0=82
  ·rw[Zg h2,Zg (Or.inr (Or.inl h2))];exact(UC _ _ _ _ _).opn
  ·rw[Zj h2];by_cases h3:Xa m 0=67
   ·rw[Zg h3,Zg (Or.inr (Or.inr h3))];exact(Th _ _ _).opn
   ·rw[Zj h3,Zj (by simp[h1,h2,h3])];rfl
theorem Zck (st:St)(m:List UInt8):(st.act m).part=st.part:=by
 unfold St.act;split
 ·exact(Tx _ _ _ _ _ _ _).part
 ·split
  ·exact(UC _ _ _ _ _).part
  ·split
   ·exact(Th _ _ _).part
   ·rfl
end
section
open Go.RowKit
theorem Zcq {P:Program}{a:Go.Act}{Q:Exit→Go.Act→World→Prop}{rest:Code}(l:Nat)(J:Go.Act→World→Prop)(μ:Go.Act→World→Nat)
  (hJ:J a w) (pass:∀a w,J a w→rest.wp P (Exit.jump l (λa' w'=>J a' w'∧μ a' w'<μ a w) Q) a w):(Code.scope ((Code.label l).seq rest)).wp P Q a w:=by
 refine wp_scope_jumps (rest:=Code.skip.seq rest) l J μ (by simp[findLabel]) (wp_seq (wp_label ?_)) (λa w h=>wp_seq (wp_skip (pass a w h)));refine wp_mono (pass a w hJ) ?_;intro e a' w' h;cases e with
 | goto l'=>exact⟨h.1,h.2.1⟩
 | _=>exact h
structure Inb (c:BC)(st:St):Prop where
 opn:c.opn=st.opn
 len:c.have_=st.part.length
 took:c.bytes.take c.have_=st.part
 less:c.have_=0∨c.have_<sizeOf (Xa c.bytes 0)
theorem Rd.move {F F':Nat→Prop}{v:Value}(h:Rd w F v l)(hf:Fr F w w')(hs:∀j,F' j→F j∨w.heap.size≤j):Rd w' F' v l:=by
 rcases h with h|⟨g,o,cap,h1,h2,h3,h4,h5,h6⟩
 ·exact Or.inl h
 ·exact Or.inr ⟨g,o,cap,h1,h2.keep (hf.block g h6 h5),h3,h4,λe=>(hs g e).elim h5 (λe=>by omega),Zn h6 hf.size⟩
theorem do_any (b:Nat)(c:BC)(k:SK)(st:St)(m:List UInt8)(w:World)(h:Rel w b c k st)(hl:Lies w b 2 m)(hlen:m.length=sizeOf (Xa m 0))(hra:st.ans.length≤big)(hrt:st.tape.length≤big):
  Calls prog 62 #[.pointer (some ⟨b,0,none⟩),.slice (some ⟨b,2,none⟩) m.length 13] w λe w'=>e=.returned (.tuple #[])∧Tj w b c k w' (st.act m) (if Xa m 0=69∨Xa m 0=82∨Xa m 0=67 then c.opn else false):=by
 unfold big at hra hrt;by_cases h1:Xa m 0=69
 ·have e:m.length=12:=by rw[hlen,h1];rfl
  rw[e,Zg (Or.inl h1)];exact do_E b c k st m w h hl e h1 (by omega) (by omega)
 ·by_cases h2:Xa m 0=82
  ·have e:m.length=13:=by rw[hlen,h2];rfl
   rw[e,Zg (Or.inr (Or.inl h2))];exact do_R b c k st m w h hl e h2 (by omega) (by omega)
  ·by_cases h3:Xa m 0=67
   ·have e:m.length=7:=by rw[hlen,h3];rfl
    rw[e,Zg (Or.inr (Or.inr h3))];exact do_C b c k st m w h hl e h3 (by omega) (by omega)
   ·have e:m.length=1:=by rw[hlen];unfold sizeOf;rw[Zj h1,Zj h2,Zj h3]
    rw[e,Zj (by simp[h1,h2,h3])];exact do_Z b c k st m w h hl e h1 h2 h3 (by omega)
theorem Zaq (bs:List UInt8)(n:Nat)(h:0<n):Xa (bs.take n) 0=Xa bs 0:=by unfold Xa;obtain⟨n,rfl⟩:∃j,n=j+1:=⟨n-1,by omega⟩;cases bs<;>rfl
def Fed (w:World)(b:Nat)(c:BC)(k:SK)(w':World)(st':St):Prop:=∃c',Rel w' b c' k st'∧Inb c' st'∧Fr (GB b c k) w w'∧(∀j,GB b c' k j→GB b c k j∨w.heap.size≤j)
theorem Rel.withPart {bytes:List UInt8}(h:Rel w b c k st)(hB:IsB w' b {c with bytes:=bytes,have_:=n})(hf:Fr (λj=>j=b) w w')(part:List UInt8):
  Rel w' b {c with bytes:=bytes,have_:=n} k {st with part:=part}∧Fr (GB b c k) w w'∧(∀j,GB b {c with bytes:=bytes,have_:=n} k j→GB b c k j):=
 h.own hB hf rfl rfl rfl rfl rfl rfl h.time h.qg h.qi (h.inv.of_q rfl rfl rfl rfl (λ_ q=>q) h.inv.qg h.inv.qi h.inv.time) rfl rfl rfl rfl rfl
theorem fed_less {v':Value}{bytes':List UInt8}(h:Rel w b c k st)(hi:Inb c st)(ho:c.opn=true)(hg:Gath (GB b c k) w w' b c l v' false n bytes'):Fed w b c k w' (st.feed l):=by
 obtain⟨hn,hno⟩:=hg.no rfl;subst hn;have htook:=hg.took;rw[hi.took,List.take_length] at htook;have hless:l=[]∨st.part.length+l.length<sizeOf (Xa (st.part++l) 0):=by
  rcases hno with e|e
  ·left
   exact Zx.1 (by omega)
  ·by_cases hz:c.have_+l.length=0
   ·left
    exact Zx.1 (by omega)
   ·right
    rw[←htook,Zaq _ _ (by omega),←hi.len];exact e
 rw[TS l st (by rw[←hi.opn];exact ho) hless];obtain⟨h1,h2,h3⟩:=h.withPart hg.isB hg.fr (st.part++l);exact⟨_,h1,⟨hi.opn,by show c.have_+l.length=(st.part++l).length;rw[Zf,hi.len],htook,hno⟩,h2,λj hj=>Or.inl (h3 j hj)⟩
theorem Zh5 (h:IsB w b c)(n:Nat):Lies w b 2 (c.bytes.take n):=by
 have:Lies w b 2 c.bytes:=by
  intro j u hu;rw[h.cell,c.cells_list];have hj:j<13:=by rw[←h.len];exact(Zl.1 hu).1
  unfold BC.list;rw[Zo];simp only[Yh];rw[Yx (by simp),Ye (by simp[h.len];omega)];simp[hu]
 exact this.take n
theorem Zk2 {w1 w2:World}{v':Value}{bytes':List UInt8}(h:Rel w b c k st)(hi:Inb c st)(ho:c.opn=true)(hg:Gath (GB b c k) w w1 b c l v' true n bytes')
  (hB:IsB w2 b {c with bytes:=bytes',have_:=0}) (hf:Fr (λj=>j=b) w1 w2):
  ∃m,m.length=c.have_+n∧m.length=sizeOf (Xa m 0)∧Lies w2 b 2 m∧st.feed (l.take n)=({st with part:=[]}:St).act m∧0<n∧Rel w2 b {c with bytes:=bytes',have_:=0} k {st with part:=[]}∧Fr (GB b c k) w w2∧(∀j,GB b {c with bytes:=bytes',have_:=0} k j→GB b c k j)∧Rd w2 (GB b c k) v' (l.drop n):=by
 obtain⟨y1,y2,y3⟩:=hg.yes rfl;have hs:=TI (Xa bytes' 0);have hlen13:bytes'.length=13:=hB.len;have hml:(bytes'.take (c.have_+n)).length=c.have_+n:=by rw[ZD];omega
 have hm0:Xa (bytes'.take (c.have_+n)) 0=Xa bytes' 0:=Zaq _ _ y1;have htook:=hg.took;rw[hi.took] at htook;have hn:0<n:=by
  rcases hi.less with e|e
  ·omega
  ·by_cases hz:n=0
   ·subst hz;have h2:Xa bytes' 0=Xa c.bytes 0:=by rw[←hm0,htook,←hi.took];simp only[ZI,ZG];exact Zaq _ _ (by omega)
    rw[h2] at y2;omega
   ·omega
 have hfr:Fr (λj=>j=b) w w2:=hg.fr.trans hf (λ_ _ e=>e);obtain⟨h1,h2,h3⟩:=h.withPart hB hfr [];refine⟨bytes'.take (c.have_+n),hml,by rw[hml,hm0];exact y2,Zh5 hB _,?_,hn,h1,h2,h3,y3.move (hf.mono (λj _ e=>Or.inl e)) (λj hj=>Or.inl hj)⟩;have hln:(l.take n).length=n:=by rw[ZD];have:=hg.le;omega
 rw[htook];exact Zak st (l.take n) (by rw[←hi.opn];exact ho) (by omega) (by rw[←htook,hm0,hln,←hi.len];exact y2)
end
end Go.Proofs.YtphkchjejbffeaaGreat
