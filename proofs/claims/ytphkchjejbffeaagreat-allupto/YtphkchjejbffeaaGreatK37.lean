/- B5, S9, S11, S12 -/
import Derived.Test.YtphkchjejbffeaaGreatK36
import Derived.Deep.CutBlock
import Derived.Deep.DeepCutAuto
import Derived.Shelf.SlSortCmp.KitK
import Derived.Sort.WalkB2
import Derived.Sort.WalkB12
import Derived.Deep.LoopGhost
set_option maxHeartbeats 16000000
set_option maxRecDepth 100000
namespace Go.Proofs.YtphkchjejbffeaaGreat
open Tryz
open Go.RowKit
variable {L:List Ord}{base k r:Nat}{y:Ord}{P:Program}
section
open Go.RowKit
attribute [local go_sem ↓] Go.wp_at_zero Go.wp_at_succ
attribute [local go_sem] Qb Za4
theorem Zjj {w:World}{A B:Obj}{z:Ord}(hA:A=.cells (ordL 0 0 y).toArray 108)(hB:B=.cells (ordL 0 0 z).toArray 108):
  Box ((w.alloc A).alloc B) w.heap.size 0 0 y∧Box ((w.alloc A).alloc B) (w.heap.size+1) 0 0 z:=by
 refine⟨Ze1 ?_,Ze1 ?_⟩
 ·rw[YX,Zj (by rw[Xb];omega),YX,Zg rfl,hA]
 ·rw[YX,Zg (by rw[Xb]),hB]
theorem Zgj {W:World}{v:Value}{pm n n6 t pl:Nat}{M:Nat→Option Nat}{od:Ord}(h2:Ix L M)(h3:n≤L.length)(h4:∀o∈L,o.small)(hM:M t=some pl)(hp:L[pl]?=some od)(hy:y.qa≠0)(hs:y.small)(hu:y.ref=t∨Xz L y.ref=0)(hn:n6+1=n)
  (h:RbC W base r ((L.set pl {od with qa:=0}).set pl y) v pm (if ((updM M t none) y.ref).isSome then n6 else n6+1) (updM (updM M t none) y.ref (some pl))):RbAt W base r (chL t (λ_=>y) L):=by
 obtain⟨e1,e2,e3⟩:=set_ix h2 hM hp hy hu;rw[YJ,e1] at h;rw[h2.ch hM hp];refine⟨v,pm,n6+1,_,h,e3,by rw[Yf];omega,?_⟩;intro x hx;rcases Zbd hx with rfl|hx
 ·exact hs
 ·exact h4 x hx
theorem Zhm {W:World}{v:Value}{pm n n6 t pl:Nat}{M:Nat→Option Nat}{od:Ord}(h2:Ix L M)(h3:n≤L.length)(h4:∀o∈L,o.small)(hM:M t=some pl)(hp:L[pl]?=some od)(hy:y.qa≠0)(hs:y.small)(hu:y.ref=t∨Xz L y.ref=0)(hn:n6+1=n)
  (h:RbC W base r (L.set pl {od with qa:=0}++[y]) v pm (if ((updM M t none) y.ref).isSome then n6 else n6+1) (updM (updM M t none) y.ref (some (L.set pl {od with qa:=0}).length))):RbAt W base r (XP t od.qa L++[y]):=by
 obtain⟨e1,e2,-⟩:=set_ix h2 hM hp hy hu;have hd:=h2.dead hM hp (y:={od with qa:=0}) rfl;rw[e1] at h;have hc:XP t od.qa L=L.set pl {od with qa:=0}:=by unfold XP;rw[h2.ch hM hp,YH]
 rw[hc];refine⟨v,pm,n6+1,_,h,hd.add e1 hy,by rw[Zf,Yf];simp;omega,?_⟩;intro x hx;have ho:=h4 od (ZW hp);rcases ZE.1 hx with hx|hx
 ·rcases Zbd hx with rfl|hx
  ·exact⟨ho.ref,ho.qf,ho.qd,ho.qc,by show 0<65536;omega⟩
  ·exact h4 x hx
 ·simp at hx;rw[hx];exact hs
theorem Zf1 {w:World}(h:RbAt w base r L)(hb:base≤w.heap.size)(hL:L.length<4398046511104)(g o cap:Nat)(f:List UInt8)(hf:f.length=12)(hc:12≤cap)(hc2:cap≤9223372036854775807)(hl:Lies w g o f):
  Calls prog 54 #[.pointer (some ⟨r,0,none⟩),.slice (some ⟨g,o,none⟩) 12 cap] w (FolP (Za1 L f) base r w):=by
 have ht:=UA f 0;have hu:=UA f 4;have hm:=XY f 8;have hp:=XY f 10;have HS:Hid (∀t u m p,at_ f 0 4=t→at_ f 4 4=u→at_ f 8 2=m→at_ f 10 2=p→Za1 L f=match liv L t with
   | none=>none
   | some o=>if (u≠t∧Xz L u≠0)∨m=0 then none else if p=o.qc∧m≤o.qa then some (chL t (λ_=>{ref:=u,qf:=0,qe:=o.qe,qd:=o.qd,qc:=p,qa:=m}) L) else some (XP t o.qa L++[{ref:=u,qf:=0,qe:=o.qe,qd:=o.qd,qc:=p,qa:=m}])):=by
  rintro t u m p rfl rfl rfl rfl;rfl
 obtain⟨t,hte⟩:=Za (at_ f 0 4);obtain⟨u,hue⟩:=Za (at_ f 4 4);obtain⟨m,hme⟩:=Za (at_ f 8 2);obtain⟨p,hpe⟩:=Za (at_ f 10 2);have HR:=Zc (HS.o t u m p hte hue hme hpe);have HT:Hid (num (f.take 4) 0=t):=hte;have HU:Hid (num ((f.drop 4).take 4) 0=u):=hue;have HM:Hid (num ((f.drop 8).take 2) 0=m):=hme;have HP:Hid (num ((f.drop 10).take 2) 0=p):=hpe;rw[hte] at ht;rw[hue] at hu;rw[hme] at hm;rw[hpe] at hp;generalize Za1 L f=res at *;have HH:=Zc (Zd h hl);clear h hl HS hte hue hme hpe;go_enter func54,ntmps54;go_wp2_with fail;refine(QW g o 12 cap t f w hf (by omega) hc hc2 HH.o.2 HT.o).mono ?_;rintro e w1 ⟨o1,rfl,ho1,q1,rfl⟩;obtain rfl:=ho1 (by omega);clear ho1;go_wp2_with fail;refine(QW g (o+4) 8 (cap-4) u (f.drop 4) (w.drewN q1) (by rw[Zt,hf]) (by omega) (by omega) (by omega) (Lies.keep (HH.o.2.drop 4) rfl) HU.o).mono ?_;rintro e w2 ⟨o2,rfl,ho2,q2,rfl⟩;obtain rfl:=ho2 (by omega);clear ho2;go_wp2_with fail;refine(Zbg g (o+4+4) 4 (cap-4-4) m (f.drop 8) (w.drewN (q1+q2)) (by rw[Zt,hf]) (by omega) (by omega) (by omega) (Lies.keep (HH.o.2.drop 8) rfl) HM.o).mono ?_;rintro e w3 ⟨o3,rfl,ho3,q3,rfl⟩;obtain rfl:=ho3 (by omega);clear ho3;go_wp2_with fail;refine(Zbg g (o+4+4+2) 2 (cap-4-4-2) p (f.drop 10) (w.drewN (q1+q2+q3)) (by rw[Zt,hf]) (by omega) (by omega) (by omega) (Lies.keep (HH.o.2.drop 10) rfl) HP.o).mono ?_;rintro e w4 ⟨o4,rfl,ho4,q4,rfl⟩;clear ho4;have HRB:Hid (RbAt ((w.drewN (q1+q2+q3)).drewN q4) base r L):=(HH.o.1.drewN _).drewN q4;have HB:Hid (Below base w ((w.drewN (q1+q2+q3)).drewN q4)):=(XX w _).trans (XX _ q4);generalize (w.drewN (q1+q2+q3)).drewN q4=W at *;have hbW:base≤W.heap.size:=Zw hb HB.o.size;have HLF:=Zc (TT HRB.o t ht);have HLU:=Zc (TT HRB.o u hu);obtain⟨lf,hlf⟩:=Za (Xz L t);obtain⟨lu,hlu⟩:=Za (Xz L u);rw[hlf] at HLF;rw[hlu] at HLU HR;have HLE:=Zc (Zd hlf hlu);clear hlf hlu;go_wp2_with fail;refine HLF.o.mono ?_;rintro e w5 ⟨rfl,hw⟩;replace hw:=hw.symm;subst hw;clear HLF;by_cases hl0:lf=0
 ·have b0:((lf:Int)==0)=true:=by simp[hl0]
  have HE:Hid (res=none):=by
   have:=HR.o;cases hv:liv L t with
   | none=>rw[hv] at this;exact this
   | some x=>have h1:=(Zjh hv).2.1;have h2:=VD hv;have h3:=HLE.o.1;omega
  clear hl0 HR;go_wp2_with fail;go_ret;exact⟨HB.o,Or.inl ⟨HE.o,rfl⟩⟩
 ·have b0:((lf:Int)==0)=false:=by rw[Zz];omega
  obtain⟨od,hod1,hod2,-⟩:=QF (L:=L) (t:=t) (by rw[HLE.o.1];omega);have HR2:Hid (res=if (u≠t∧lu≠0)∨m=0 then none else if p=od.qc∧m≤od.qa then some (chL t (λ_=>{ref:=u,qf:=0,qe:=od.qe,qd:=od.qd,qc:=p,qa:=m}) L) else some (XP t od.qa L++[{ref:=u,qf:=0,qe:=od.qe,qd:=od.qd,qc:=p,qa:=m}])):=by have:=HR.o;rw[hod1] at this;exact this
  have HOD:=Zc (Zd hod1 hod2);clear HR hl0 hod1 hod2;by_cases hbad:u≠t∧lu≠0
  ·have b1:((u:Int)==(t:Int))=false:=by rw[Zz];have:=hbad.1;omega
   have b1':((u:Int) !=(t:Int))=true:=by rw[bne,b1];rfl
   have b2:(0:Int)<(lu:Int):=by have:=hbad.2;omega
   have HE:Hid (res=none):=by have:=HR2.o;rw[Zg (Or.inl hbad)] at this;exact this
   clear hbad HR2;go_wp2_with fail;refine HLU.o.mono ?_;rintro e w6 ⟨rfl,hw⟩;replace hw:=hw.symm;subst hw;go_wp2_with fail;go_ret;exact⟨HB.o,Or.inl ⟨HE.o,rfl⟩⟩
  ·have HRM:Hid (u=t∨lu=0):=by
    by_cases e:u=t
    ·exact Or.inl e
    ·right
     by_cases e2:lu=0
     ·exact e2
     ·exact absurd ⟨e,e2⟩ hbad
   have HR3:Hid (res=if m=0 then none else if p=od.qc∧m≤od.qa then some (chL t (λ_=>{ref:=u,qf:=0,qe:=od.qe,qd:=od.qd,qc:=p,qa:=m}) L) else some (XP t od.qa L++[{ref:=u,qf:=0,qe:=od.qe,qd:=od.qd,qc:=p,qa:=m}])):=by
    have:=HR2.o;by_cases e:m=0
    ·rw[Zg (Or.inr e)] at this;rw[Zg e];exact this
    ·rw[Zj (by intro hh;rcases hh with hh|hh;exact hbad hh;exact e hh)] at this;rw[Zj e];exact this
   clear hbad HR2;obtain⟨v,pm,n,M,r1,r2,r3,r4⟩:=HRB.o;obtain⟨pl,hM,hpl⟩:=r2.place HOD.o.1;obtain⟨g0,g1,-,hrl⟩:=r1.cells;have hlk0:=r1.map.look t ht;rw[hM] at hlk0;have hlk:(Instr.lookup 62 (.map (some pm)) (.int .u32 t) false).run prog W=.ok (.int .i64 (pl:Int)) W:=hlk0;obtain⟨ra,cap',rfl,hcc1,hcc2,hcs⟩:=r1.row.form;obtain⟨gr,rfl,hbg,hgl,hfz,hrg⟩:=hcs pl od hpl;have t0:W.cell? ⟨gr,pl*8,none⟩=some (.int .i64 0):=hrg 0 _ rfl;have t1:W.cell? ⟨gr,pl*8+1,none⟩=some (.int .i64 0):=hrg 1 _ rfl;have t2:W.cell? ⟨gr,pl*8+2,none⟩=some (.int .u32 od.ref):=hrg 2 _ rfl;have t3:W.cell? ⟨gr,pl*8+3,none⟩=some (.int .u32 od.qf):=hrg 3 _ rfl;have t4:W.cell? ⟨gr,pl*8+4,none⟩=some (.int .u8 od.qe.toNat):=hrg 4 _ rfl;have t5:W.cell? ⟨gr,pl*8+5,none⟩=some (.int .u8 od.qd):=hrg 5 _ rfl;have t6:W.cell? ⟨gr,pl*8+6,none⟩=some (.int .u16 od.qc):=hrg 6 _ rfl;have t7:W.cell? ⟨gr,pl*8+7,none⟩=some (.int .u16 od.qa):=hrg 7 _ rfl;have hpll:=(Zl.1 hpl).1;have i1:(pl:Int)<(L.length:Int):=by omega
   have i2:(0:Int)≤(pl:Int):=by omega
   have hpml:=r1.map.lt;have HC:=Zc (Zd r1 (Zd r2 (Zd r3 (Zd r4 (Zd hM hpl)))));clear hlk0 hcs hfz hrg r1 r2 r3 r4 hM hpl;by_cases hut:u=t
   ·have b1:((u:Int)==(t:Int))=true:=by simp[hut]
    have b1':((u:Int) !=(t:Int))=false:=by rw[bne,b1];rfl
    clear hut;by_cases hm0:m=0
    ·have b2:((m:Int)==0)=true:=by simp[hm0]
     have HE:Hid (res=none):=by have:=HR3.o;rw[Zg hm0] at this;exact this
     clear hm0 HR3;go_wp2_with fail;go_ret;exact⟨HB.o,Or.inl ⟨HE.o,rfl⟩⟩
    ·have b2:((m:Int)==0)=false:=by rw[Zz];omega
     have HM0:=Zc hm0;clear hm0;go_wp2_with fail;generalize hWW:(W.alloc _).alloc _=W2;have hbx:Box W2 W.heap.size 0 0 od∧Box W2 (W.heap.size+1) 0 0 {ref:=u,qf:=0,qe:=od.qe,qd:=od.qd,qc:=p,qa:=m}:=by rw[←hWW];exact Zjj rfl rfl
     have hR2:RbC W2 base r L (.slice (some ⟨gr,0,none⟩) L.length cap') pm n M:=by rw[←hWW];exact(HC.o.1.alloc _).alloc _
     have hB2:Below base W W2:=by rw[←hWW];exact Below.alloc ((Zm base W).alloc hbW _) (by rw[Xb];omega) _
     clear hWW t0 t1 t2 t3 t4 t5 t6 t7 g0 g1 hlk;have hbW2:base≤W2.heap.size:=Zw hbW hB2.size;have hsm:=HC.o.2.2.2.1 od (ZW HC.o.2.2.2.2.2);refine(Qp hR2 hbW2 t pl od.qa od ht HC.o.2.2.2.2.1 HC.o.2.2.2.2.2 rfl hsm.qa).mono ?_;rintro e w6 ⟨rfl,n6,hn6,hR6,hB6,hF6⟩;obtain⟨q0,q1',q2',q3',q4',q5',q6',q7'⟩:=hbx.1.fr hF6 (by rintro(e|e);simp[Value.ownBlock] at e;omega;omega);have hz6:=hbx.2.fr hF6 (by rintro(e|e);simp[Value.ownBlock] at e;omega;omega);have HZ:=Zc hz6;obtain⟨s0,s1,s2,s3,s4,s5,s6,s7⟩:=hz6;have H6:=Zc (Zd hR6 (Zd hn6 (HB.o.trans (hB2.trans hB6))));have HYS:Hid (Ord.small {ref:=u,qf:=0,qe:=od.qe,qd:=od.qd,qc:=p,qa:=m}):=⟨hu,by show 0<4294967296;omega,hsm.qd,hp,hm⟩;have HYU:Hid (u=t∨Xz L u=0):=by
      rcases HRM.o with e|e
      ·exact Or.inl e
      ·exact Or.inr (HLE.o.2.trans e)
     clear hbx hR2 hB2 hbW2 hR6 hB6 hF6 hn6 hsm;go_wp2_with fail;by_cases hk:p=od.qc∧m≤od.qa
     ·have HE:Hid (res=some (chL t (λ_=>{ref:=u,qf:=0,qe:=od.qe,qd:=od.qd,qc:=p,qa:=m}) L)):=by have:=HR3.o;rw[Zj HM0.o,Zg hk] at this;exact this
      refine(Um _ _ _ _ _ _ _ _ _ _ _ _ od.qc od.qa p m w6 hk.1 hk.2).mono ?_;rintro e w7 ⟨rfl,hb7⟩;have hz7:Box w7 (W.heap.size+1) 0 0 {ref:=u,qf:=0,qe:=od.qe,qd:=od.qd,qc:=p,qa:=m}:=HZ.o.fr (Fr.of_below hb7 (λ_=>False)) (λe=>e);have hR7:=H6.o.1.keep (w':=w7) (λk _ hk=>hb7.block k hk);have hB7:Below base w w7:=H6.o.2.2.trans (hb7.mono (Zw hb H6.o.2.2.size));have hl6:(L.set pl {od with qa:=0})[pl]?=some {od with qa:=0}:=by rw[YO,Zg rfl,Zg hpll]
      have HPU:Hid (Calls prog 78 #[.pointer (some ⟨r,0,none⟩),.int .i64 pl,.agg #[.int .i64 0,.int .i64 0,.int .u32 u,.int .u32 0,.int .u8 od.qe.toNat,.int .u8 od.qd,.int .u16 p,.int .u16 m]] w7 _):=Zjq hR7 (Zw hb hB7.size) pl _ {ref:=u,qf:=0,qe:=od.qe,qd:=od.qd,qc:=p,qa:=m} hl6 hu (by have h1:=H6.o.2.1;have h2:=HC.o.2.2.1;unfold maxLen;omega);obtain⟨y0,y1,y2,y3,y4,y5,y6,y7⟩:=hz7;have HB7:=Zc hB7;clear s0 s1 s2 s3 s4 s5 s6 s7 q0 q1' q2' q3' q4' q5' q6' q7' hb7 hR7 hB7 hk hl6 HR3;go_wp2_with fail;refine HPU.o.mono ?_;rintro e w8 ⟨rfl,hR8,hB8⟩;have H8:=Zc (Zd hR8 hB8);clear hR8 hB8 HPU;go_wp2_with fail;go_ret;exact⟨HB7.o.trans H8.o.2,Or.inr ⟨_,HE.o,rfl,Zgj HC.o.2.1 HC.o.2.2.1 HC.o.2.2.2.1 HC.o.2.2.2.2.1 HC.o.2.2.2.2.2 HM0.o HYS.o HYU.o H6.o.2.1 H8.o.1⟩⟩
     ·have HE:Hid (res=some (XP t od.qa L++[{ref:=u,qf:=0,qe:=od.qe,qd:=od.qd,qc:=p,qa:=m}])):=by have:=HR3.o;rw[Zj HM0.o,Zj hk] at this;exact this
      refine(UB _ _ _ _ _ _ _ _ _ _ _ _ od.qc od.qa p m w6 (by by_cases e:p=od.qc;right;exact⟨e,by by_cases e2:m≤od.qa;exact absurd ⟨e,e2⟩ hk;omega⟩;left;exact e)).mono ?_;rintro e w7 ⟨rfl,hb7⟩;have hz7:Box w7 (W.heap.size+1) 0 0 {ref:=u,qf:=0,qe:=od.qe,qd:=od.qd,qc:=p,qa:=m}:=HZ.o.fr (Fr.of_below hb7 (λ_=>False)) (λe=>e);have hR7:=H6.o.1.keep (w':=w7) (λk _ hk=>hb7.block k hk);have hB7:Below base w w7:=H6.o.2.2.trans (hb7.mono (Zw hb H6.o.2.2.size));have HPU:Hid (Calls prog 75 #[.pointer (some ⟨r,0,none⟩),.agg #[.int .i64 0,.int .i64 0,.int .u32 u,.int .u32 0,.int .u8 od.qe.toNat,.int .u8 od.qd,.int .u16 p,.int .u16 m]] w7 _):=Zfl hR7 (Zw hb hB7.size) {ref:=u,qf:=0,qe:=od.qe,qd:=od.qd,qc:=p,qa:=m} hu (by have h1:=H6.o.2.1;have h2:=HC.o.2.2.1;unfold maxLen;omega) (by rw[Yf];exact hL);obtain⟨y0,y1,y2,y3,y4,y5,y6,y7⟩:=hz7;have HB7:=Zc hB7;clear s0 s1 s2 s3 s4 s5 s6 s7 q0 q1' q2' q3' q4' q5' q6' q7' hb7 hR7 hB7 hk HR3;go_wp2_with fail;refine HPU.o.mono ?_;rintro e w8 ⟨rfl,v8,hR8,hB8⟩;have H8:=Zc (Zd hR8 hB8);clear hR8 hB8 HPU;go_wp2_with fail;go_ret;exact⟨HB7.o.trans H8.o.2,Or.inr ⟨_,HE.o,rfl,Zhm HC.o.2.1 HC.o.2.2.1 HC.o.2.2.2.1 HC.o.2.2.2.2.1 HC.o.2.2.2.2.2 HM0.o HYS.o HYU.o H6.o.2.1 H8.o.1⟩⟩
   ·have b1:((u:Int)==(t:Int))=false:=by rw[Zz];omega
    have b1':((u:Int) !=(t:Int))=true:=by rw[bne,b1];rfl
    have b3:¬(0:Int)<(lu:Int):=by have:=HRM.o;omega
    clear hut;go_wp2_with fail;refine HLU.o.mono ?_;rintro e w6 ⟨rfl,hw⟩;replace hw:=hw.symm;subst hw;by_cases hm0:m=0
    ·have b2:((m:Int)==0)=true:=by simp[hm0]
     have HE:Hid (res=none):=by have:=HR3.o;rw[Zg hm0] at this;exact this
     clear hm0 HR3;go_wp2_with fail;go_ret;exact⟨HB.o,Or.inl ⟨HE.o,rfl⟩⟩
    ·have b2:((m:Int)==0)=false:=by rw[Zz];omega
     have HM0:=Zc hm0;clear hm0;go_wp2_with fail;generalize hWW:(W.alloc _).alloc _=W2;have hbx:Box W2 W.heap.size 0 0 od∧Box W2 (W.heap.size+1) 0 0 {ref:=u,qf:=0,qe:=od.qe,qd:=od.qd,qc:=p,qa:=m}:=by rw[←hWW];exact Zjj rfl rfl
     have hR2:RbC W2 base r L (.slice (some ⟨gr,0,none⟩) L.length cap') pm n M:=by rw[←hWW];exact(HC.o.1.alloc _).alloc _
     have hB2:Below base W W2:=by rw[←hWW];exact Below.alloc ((Zm base W).alloc hbW _) (by rw[Xb];omega) _
     clear hWW t0 t1 t2 t3 t4 t5 t6 t7 g0 g1 hlk;have hbW2:base≤W2.heap.size:=Zw hbW hB2.size;have hsm:=HC.o.2.2.2.1 od (ZW HC.o.2.2.2.2.2);refine(Qp hR2 hbW2 t pl od.qa od ht HC.o.2.2.2.2.1 HC.o.2.2.2.2.2 rfl hsm.qa).mono ?_;rintro e w6 ⟨rfl,n6,hn6,hR6,hB6,hF6⟩;obtain⟨q0,q1',q2',q3',q4',q5',q6',q7'⟩:=hbx.1.fr hF6 (by rintro(e|e);simp[Value.ownBlock] at e;omega;omega);have hz6:=hbx.2.fr hF6 (by rintro(e|e);simp[Value.ownBlock] at e;omega;omega);have HZ:=Zc hz6;obtain⟨s0,s1,s2,s3,s4,s5,s6,s7⟩:=hz6;have H6:=Zc (Zd hR6 (Zd hn6 (HB.o.trans (hB2.trans hB6))));have HYS:Hid (Ord.small {ref:=u,qf:=0,qe:=od.qe,qd:=od.qd,qc:=p,qa:=m}):=⟨hu,by show 0<4294967296;omega,hsm.qd,hp,hm⟩;have HYU:Hid (u=t∨Xz L u=0):=by
      rcases HRM.o with e|e
      ·exact Or.inl e
      ·exact Or.inr (HLE.o.2.trans e)
     clear hbx hR2 hB2 hbW2 hR6 hB6 hF6 hn6 hsm;go_wp2_with fail;by_cases hk:p=od.qc∧m≤od.qa
     ·have HE:Hid (res=some (chL t (λ_=>{ref:=u,qf:=0,qe:=od.qe,qd:=od.qd,qc:=p,qa:=m}) L)):=by have:=HR3.o;rw[Zj HM0.o,Zg hk] at this;exact this
      refine(Um _ _ _ _ _ _ _ _ _ _ _ _ od.qc od.qa p m w6 hk.1 hk.2).mono ?_;rintro e w7 ⟨rfl,hb7⟩;have hz7:Box w7 (W.heap.size+1) 0 0 {ref:=u,qf:=0,qe:=od.qe,qd:=od.qd,qc:=p,qa:=m}:=HZ.o.fr (Fr.of_below hb7 (λ_=>False)) (λe=>e);have hR7:=H6.o.1.keep (w':=w7) (λk _ hk=>hb7.block k hk);have hB7:Below base w w7:=H6.o.2.2.trans (hb7.mono (Zw hb H6.o.2.2.size));have hl6:(L.set pl {od with qa:=0})[pl]?=some {od with qa:=0}:=by rw[YO,Zg rfl,Zg hpll]
      have HPU:Hid (Calls prog 78 #[.pointer (some ⟨r,0,none⟩),.int .i64 pl,.agg #[.int .i64 0,.int .i64 0,.int .u32 u,.int .u32 0,.int .u8 od.qe.toNat,.int .u8 od.qd,.int .u16 p,.int .u16 m]] w7 _):=Zjq hR7 (Zw hb hB7.size) pl _ {ref:=u,qf:=0,qe:=od.qe,qd:=od.qd,qc:=p,qa:=m} hl6 hu (by have h1:=H6.o.2.1;have h2:=HC.o.2.2.1;unfold maxLen;omega);obtain⟨y0,y1,y2,y3,y4,y5,y6,y7⟩:=hz7;have HB7:=Zc hB7;clear s0 s1 s2 s3 s4 s5 s6 s7 q0 q1' q2' q3' q4' q5' q6' q7' hb7 hR7 hB7 hk hl6 HR3;go_wp2_with fail;refine HPU.o.mono ?_;rintro e w8 ⟨rfl,hR8,hB8⟩;have H8:=Zc (Zd hR8 hB8);clear hR8 hB8 HPU;go_wp2_with fail;go_ret;exact⟨HB7.o.trans H8.o.2,Or.inr ⟨_,HE.o,rfl,Zgj HC.o.2.1 HC.o.2.2.1 HC.o.2.2.2.1 HC.o.2.2.2.2.1 HC.o.2.2.2.2.2 HM0.o HYS.o HYU.o H6.o.2.1 H8.o.1⟩⟩
     ·have HE:Hid (res=some (XP t od.qa L++[{ref:=u,qf:=0,qe:=od.qe,qd:=od.qd,qc:=p,qa:=m}])):=by have:=HR3.o;rw[Zj HM0.o,Zj hk] at this;exact this
      refine(UB _ _ _ _ _ _ _ _ _ _ _ _ od.qc od.qa p m w6 (by by_cases e:p=od.qc;right;exact⟨e,by by_cases e2:m≤od.qa;exact absurd ⟨e,e2⟩ hk;omega⟩;left;exact e)).mono ?_;rintro e w7 ⟨rfl,hb7⟩;have hz7:Box w7 (W.heap.size+1) 0 0 {ref:=u,qf:=0,qe:=od.qe,qd:=od.qd,qc:=p,qa:=m}:=HZ.o.fr (Fr.of_below hb7 (λ_=>False)) (λe=>e);have hR7:=H6.o.1.keep (w':=w7) (λk _ hk=>hb7.block k hk);have hB7:Below base w w7:=H6.o.2.2.trans (hb7.mono (Zw hb H6.o.2.2.size));have HPU:Hid (Calls prog 75 #[.pointer (some ⟨r,0,none⟩),.agg #[.int .i64 0,.int .i64 0,.int .u32 u,.int .u32 0,.int .u8 od.qe.toNat,.int .u8 od.qd,.int .u16 p,.int .u16 m]] w7 _):=Zfl hR7 (Zw hb hB7.size) {ref:=u,qf:=0,qe:=od.qe,qd:=od.qd,qc:=p,qa:=m} hu (by have h1:=H6.o.2.1;have h2:=HC.o.2.2.1;unfold maxLen;omega) (by rw[Yf];exact hL);obtain⟨y0,y1,y2,y3,y4,y5,y6,y7⟩:=hz7;have HB7:=Zc hB7;clear s0 s1 s2 s3 s4 s5 s6 s7 q0 q1' q2' q3' q4' q5' q6' q7' hb7 hR7 hB7 hk HR3;go_wp2_with fail;refine HPU.o.mono ?_;rintro e w8 ⟨rfl,v8,hR8,hB8⟩;have H8:=Zc (Zd hR8 hB8);clear hR8 hB8 HPU;go_wp2_with fail;go_ret;exact⟨HB7.o.trans H8.o.2,Or.inr ⟨_,HE.o,rfl,Zhm HC.o.2.1 HC.o.2.2.1 HC.o.2.2.2.1 HC.o.2.2.2.2.1 HC.o.2.2.2.2.2 HM0.o HYS.o HYU.o H6.o.2.1 H8.o.1⟩⟩
end
section
open Go.Shelf Go.RowKit Go.Lib Go.Sort
attribute [local go_sem ↓] Go.wp_at_zero Go.wp_at_succ
structure SrtF (P:Program):Prop where
 fm:P.funcs[103]?=some Tryz.f103
 fr:P.funcs[139]?=some Tryz.f139
 fs:P.funcs[159]?=some Tryz.f159
 em:∀args w,(callFunc 103 args).run P w=.ok (.enter 103 args) w
 er:∀args w,(callFunc 139 args).run P w=.ok (.enter 139 args) w
 es:∀args w,(callFunc 159 args).run P w=.ok (.enter 159 args) w
theorem Zen (T:SrtT P k)(F:SrtF P)
  (enc:Ord→List Value) (cf:Ord→Ord→Int) (hw:Swo (ltc cf)) (gc:Nat) (eg:∀args w,(callFunc gc args).run P w=.ok (.enter gc args) w) (w0:World) (g cap len:Nat) (d0:Array Ord) (hcmp:CmpLays P gc #[] enc k cf g 0 len w0) (R:RowK enc k w0 g 0 d0) (hs:d0.size=len) (hsz:len<4611686018427387904):
  ∀(N:Nat) (w:World) (X A B Y:List Ord) (a m b:Nat),A.length+B.length≤N→(X++A++B++Y).length=len→SWL enc k w0 g (X++A++B++Y) w→a=X.length→m=X.length+A.length→b=X.length+A.length+B.length→1≤A.length→1≤B.length→Srt (ltc cf) A→Srt (ltc cf) B→
  Calls P 103 #[.slice (some ⟨g,0,none⟩) len cap,.int .i64 a,.int .i64 m,.int .i64 b,.func (.func gc) #[] #[]] w λe w'=>e=.returned (.tuple #[])∧Merged enc k w0 g cf X A B Y w':=by
 intro N;induction N with
 | zero=>intro w X A B Y a m b h0 _ _ _ _ _ h1;omega
 | succ N IH=>
  intro w X A B Y a m b hN hlen S ha hm hb hA1 hB1 hA hB;by_cases hone:A.length=1
  ·obtain⟨x,rfl⟩:=List.length_eq_one_iff.1 hone;exact Zeo T F.fm enc cf hw gc eg w0 w g cap len a m b d0 X B Y x hcmp R (by simpa using hlen) hs (by simpa using S) ha (by simpa using hm) (by simpa using hb) hB hsz
  ·by_cases htwo:B.length=1
   ·obtain⟨y,rfl⟩:=List.length_eq_one_iff.1 htwo;exact Ze7 T F.fm enc cf hw gc eg w0 w g cap len a m b d0 X A Y y hcmp R (by simpa using hlen) hs (by simpa using S) ha hm (by simpa using hb) hA (by omega) hsz
   ·have FG:=F.fm;have mixed:=T.mixed;have t0:=T.t0;have a0:=T.a0;have z0:=T.z0;have v0:=T.v0;have t3:=T.t3;have a3:=T.a3;have z3:=T.z3;have v3:=T.v3;have t4:=T.t4;have a4:=T.a4;have z4:=T.z4;have v4:=T.v4;have t22:=T.t22;have a22:=T.a22;have z22:=T.z22;have v22:=T.v22;have t25:=T.t25;have a25:=T.a25;have z25:=T.z25;have v25:=T.v25;have tu:=T.tu;have au:=T.au;have zu:=T.zu;have vu:=T.vu;have aE:=T.aE;have zE:=T.zE;have uu:=YN T.t22;have em:=F.em;have er:=F.er;have HROT:=Zc (λ(w:World) (a m b:Nat) (X A B Y:List Ord) hlen S ha hm hb hA hB=>Zhw T F.fr F.fs F.es enc w0 w g cap len a m b d0 (.func (.func gc) #[] #[]) X A B Y R hlen hs S ha hm hb hA hB hsz);have HIH:=Zc IH;have HC:Aside (CmpLays P gc #[] enc k cf g 0 len w0):=hcmp;have hlX:X.length+A.length+B.length+Y.length=len:=by simp only[Zf] at hlen;omega
    have hzD:(X++A++B++Y).toArray.size=len:=by simpa using hlen
    have hma:((m:Int)-(a:Int)==1)=false:=by rw[Zz];omega
    have rma:IntKind.i64.wrap ((m:Int)-(a:Int))=(m:Int)-(a:Int):=by rw[Zq];omega
    have hbm:((b:Int)-(m:Int)==1)=false:=by rw[Zz];omega
    have rbm:IntKind.i64.wrap ((b:Int)-(m:Int))=(b:Int)-(m:Int):=by rw[Zq];omega
    have rab:IntKind.i64.wrap ((a:Int)+(b:Int))=(a:Int)+(b:Int):=by rw[Zq];omega
    obtain⟨mid,hmid,hm1,hm2⟩:∃mid:Nat,((a:Int)+(b:Int)) / 2=(mid:Int)∧a+b≤2*mid+1∧2*mid≤a+b:=⟨(a+b) / 2,by omega,by omega,by omega⟩;have rn:IntKind.i64.wrap ((mid:Int)+(m:Int))=(mid:Int)+(m:Int):=by rw[Zq];omega
    have HS0:=Zc (Zd S (Zd hA (Zd hB (Zd hzD (Zd ha (Zd hm hb))))));have ham:a+2≤m:=by omega
    have hmb:m+2≤b:=by omega
    have hbl:b≤len:=by omega
    clear S T F IH hcmp hA hB ha hm hb hzD hlen hA1 hB1 hone htwo;obtain⟨s0,r0,hsel,hs1,hs2,hs3,hs4⟩:∃s0 r0:Nat,(((mid:Int)<(m:Int)∧(mid:Int)+(m:Int)-(b:Int)=(s0:Int)∧r0=mid∧s0+b=mid+m)∨(¬(mid:Int)<(m:Int)∧s0=a∧r0=m))∧a≤s0∧s0≤r0∧r0≤m∧r0≤mid:=by
     by_cases h:mid<m
     ·exact⟨mid+m-b,mid,.inl ⟨by omega,by omega,rfl,by omega⟩,by omega,by omega,by omega,by omega⟩
     ·exact⟨a,m,.inr ⟨by omega,rfl,rfl⟩,by omega,by omega,by omega,by omega⟩
    have HSEL:=Zc hsel;have rs0:IntKind.i64.wrap ((mid:Int)+(m:Int)-(b:Int))=(mid:Int)+(m:Int)-(b:Int):=by rw[Zq];omega
    have rp:IntKind.i64.wrap ((mid:Int)+(m:Int)-1)=(mid:Int)+(m:Int)-1:=by rw[Zq];omega
    have e0:∃nn:Nat,nn=mid+m:=⟨_,rfl⟩;go_enter FG,ntmps103;go_upto_if 140 with(fail)
    go_cut [20,21] (λvs vr wc=>vs=.int .i64 s0∧vr=.int .i64 r0∧Hid (wc=w))
    case first=>as_aux_lemma=>
     rcases hsel with⟨k1,k2,k3,k4⟩|⟨k1,k2,k3⟩
     ·have k3:=Zc k3;go_wp2_with fail;go_meet
      case rel=>exact⟨rfl,by rw[k3.out],rfl⟩
     ·have k3:=Zc (Zd k2 k3);clear k2;go_wp2_with fail;go_meet
      case rel=>exact⟨by rw[k3.out.1],by rw[k3.out.2],rfl⟩
    case rest=>
     obtain⟨rfl,rfl,HW⟩:=hcut;rename_i wc;have HWS:Hid (SWL enc k w0 g (X++A++B++Y) wc):=by show SWL _ _ _ _ _ _;rw[HW.o];exact HS0.o.1
     clear hsel HW;go_wp2_with fail;go_loopw [20,21] (λvs vr wq=>∃s r:Nat,vs=.int .i64 s∧vr=.int .i64 r∧s0≤s∧s≤r∧r≤r0∧Hid ((s=s0∨ltc cf (X++A++B++Y).toArray[mid+m-s]! (X++A++B++Y).toArray[s-1]! = false)∧(r=r0∨ltc cf (X++A++B++Y).toArray[mid+m-r-1]! (X++A++B++Y).toArray[r]! = true)∧SWL enc k w0 g (X++A++B++Y) wq))
      (λvs vr _=>(intOf vr).toNat-(intOf vs).toNat)
     case atStart=>exact⟨s0,r0,rfl,rfl,Zh _,hs2,Zh _,.inl rfl,.inl rfl,HWS.o⟩
     case round=>
      clear HWS;obtain⟨s,r,rfl,rfl,hss,hsr,hrr,HR⟩:=hrel;by_cases hlt:s<r
      ·as_aux_lemma=>
       have p0:(s:Int)<(r:Int):=by omega
       have r1:IntKind.i64.wrap ((s:Int)+(r:Int))=(s:Int)+(r:Int):=by rw[Zq];omega
       obtain⟨c,hc1,hc2,hc3⟩:∃c:Nat,((s:Int)+(r:Int)) / 2=(c:Int)∧s≤c∧c<r:=⟨(s+r) / 2,by omega,by omega,by omega⟩;obtain⟨q,hq1,hq2⟩:∃q:Nat,(mid:Int)+(m:Int)-1-(c:Int)=(q:Int)∧q=mid+m-c-1:=⟨mid+m-c-1,by omega,rfl⟩;have r2:IntKind.i64.wrap ((mid:Int)+(m:Int)-1-(c:Int))=(mid:Int)+(m:Int)-1-(c:Int):=by rw[Zq];omega
       rw[hq1] at r2;have hql:q<len:=by have:=HSEL.o;omega
       have z1:(c:Int)<(len:Int):=by omega
       have z2:(0:Int)≤(c:Int):=by omega
       have z3':(q:Int)<(len:Int):=by omega
       have z4':(0:Int)≤(q:Int):=by omega
       obtain⟨x,hx⟩:∃x,(X++A++B++Y).toArray[c]! = x:=⟨_,rfl⟩;obtain⟨y,hy⟩:∃y,(X++A++B++Y).toArray[q]! = y:=⟨_,rfl⟩;have lj:∀n' os',Sem.run P (loadCellsFrom ⟨g,c*k,none⟩ 0 k #[]) (grow (wr.drewN n') os')=.ok (enc x).toArray (grow (wr.drewN n') os'):=λn' os'=>by
        have:=SWK.ld HR.o.2.2 R (by rw[HS0.o.2.2.2.1,hs]) P c (by rw[HS0.o.2.2.2.1];omega) n' os'
        rwa [ZN,hx] at this
       have lp:∀n' os',Sem.run P (loadCellsFrom ⟨g,q*k,none⟩ 0 k #[]) (grow (wr.drewN n') os')=.ok (enc y).toArray (grow (wr.drewN n') os'):=λn' os'=>by
        have:=SWK.ld HR.o.2.2 R (by rw[HS0.o.2.2.2.1,hs]) P q (by rw[HS0.o.2.2.2.1];omega) n' os'
        rwa [ZN,hy] at this
       have hcg:∀n' os',Calls P gc #[.agg (enc y).toArray,.agg (enc x).toArray] (grow (wr.drewN n') os') λe w'=>e=.returned (.int .i64 (cf y x))∧∃q os'',w'=grow ((grow (wr.drewN n') os').drewN q) os'':=λn' os'=>SWK.cmp HR.o.2.2 HC.out HS0.o.2.2.2.1 y x n' os';have CLS:Hid (∀n' os',SWL enc k w0 g (X++A++B++Y) (grow (wr.drewN n') os')):=λn' os'=>SWK.grown HR.o.2.2 n' os';have HXY:=Zc (Zd hx (Zd hy hq2));clear hx hy hq2;by_cases hlv:cf y x<0
       ·go_wp2_with fail;go_quiet_grown (first|(go_at_fn gc;refine Calls.grown_of (hcg _ _)))
        go_wp2
        exact⟨⟨s,c,rfl,by go_num,hss,by omega,by omega,HR.o.1,.inr (by rw[←HXY.o.2.2,HXY.o.1,HXY.o.2.1];exact YD hlv),CLS.out _ _⟩,by simp[intOf];omega⟩
       ·have hd:decide (cf y x<0)=false:=Yo hlv;have hd2:¬(cf y x<0):=hlv;go_wp2_with fail;go_quiet_grown (first|(go_at_fn gc;refine Calls.grown_of (hcg _ _)))
        go_wp2
        exact⟨⟨c+1,r,by go_num,rfl,by omega,by omega,hrr,.inr (by rw[Nat.add_sub_cancel,show mid+m-(c+1)=q by rw[HXY.o.2.2];omega,HXY.o.1,HXY.o.2.1];exact Yo (by omega)),HR.o.2.1,CLS.out _ _⟩,by simp[intOf];omega⟩
      ·have hsre:s=r:=by omega
       subst hsre;obtain⟨e,he1,he2,he3,he4,he5⟩:∃e:Nat,(mid:Int)+(m:Int)-(s:Int)=(e:Int)∧e+s=mid+m∧m≤e∧e≤b∧a≤s:=by have:=HSEL.o;exact⟨mid+m-s,by omega,by omega,by omega,by omega,by omega⟩
       have r3:IntKind.i64.wrap ((mid:Int)+(m:Int)-(s:Int))=(mid:Int)+(m:Int)-(s:Int):=by rw[Zq];omega
       rw[he1] at r3;have hsm:s≤m:=by omega
       obtain⟨A1,A2,hAA,hA1⟩:=UF A (s-a) (by have:=HS0.o.2.2.2.2;omega);obtain⟨B1,B2,hBB,hB1⟩:=UF B (e-m) (by have:=HS0.o.2.2.2.2;omega);have hlA:A1.length+A2.length=A.length:=by rw[hAA,Zf]
       have hlB:B1.length+B2.length=B.length:=by rw[hBB,Zf]
       have q1:a=X.length:=HS0.o.2.2.2.2.1;have q2:m=X.length+A.length:=HS0.o.2.2.2.2.2.1;have q3:b=X.length+A.length+B.length:=HS0.o.2.2.2.2.2.2;have HCUT:Hid ((∀x∈A2,∀y∈B1,ltc cf y x=true)∧(∀x∈A1,∀y∈B2,ltc cf y x=false)∧Srt (ltc cf) (A1++A2)∧Srt (ltc cf) (B1++B2)):=by
        obtain⟨c1,c2,hq⟩:=HR.o;have hA:=HS0.o.2.1;have hB:=HS0.o.2.2.1;have hse:=HSEL.o;rw[hAA] at hA c1 c2;rw[hBB] at hB c1 c2;have:=sym_cut (X:=X) (Y:=Y) (s:=s) (e:=e) hw hA hB (by omega) (by rw[Zf];omega)
         (by
          rcases c1 with c1|c1
          ·rcases hse with hse|hse
           ·right;left;exact Zx.1 (by omega)
           ·left;exact Zx.1 (by omega)
          ·right;right;rw[show mid+m-s=e by omega] at c1;exact c1)
         (by
          rcases c2 with c2|c2
          ·rcases hse with hse|hse
           ·right;left;exact Zx.1 (by omega)
           ·left;exact Zx.1 (by omega)
          ·right;right;rw[show mid+m-s-1=e-1 by omega] at c2;exact c2)
        exact⟨this.1,this.2,hA,hB⟩
       have HSW:Hid (SWL enc k w0 g (X++A1++A2++B1++B2++Y) wr):=by have:=HR.o.2.2;rw[hAA,hBB] at this;show SWL _ _ _ _ _ _;simpa using this
       have HAB:=Zc (Zd hAA (Zd hBB (Zd q1 (Zd q2 q3))));have l1:X.length+A1.length=s:=by omega
       have l2:A1.length+A2.length+X.length=m:=by omega
       have l3:B1.length+m=e:=by omega
       have l4:e+B2.length=b:=by omega
       clear hAA hBB q1 q2 q3 HR HS0 hA1 hB1 HSEL;have HE2:=Zc (Zd he2 HAB.o.2.2.1);clear he2;go_upto_region 39 with(fail)
       go_cut [185] (λv wc=>v=.bool (decide (s<m∧m<e))∧Hid (SWL enc k w0 g (X++A1++A2++B1++B2++Y) wc))
       case first=>as_aux_lemma=>
        by_cases g1:(s:Int)<(m:Int)
        ·by_cases g2:(m:Int)<(e:Int)
         ·go_wp2
          go_meet
          case rel=>exact⟨congrArg Value.bool (YD (p:=s<m∧m<e) (by omega)).symm,HSW⟩
         ·go_wp2
          go_meet
          case rel=>exact⟨congrArg Value.bool (Yo (p:=s<m∧m<e) (by omega)).symm,HSW⟩
        ·go_wp2
         go_meet
         case rel=>exact⟨congrArg Value.bool (Yo (p:=s<m∧m<e) (by omega)).symm,HSW⟩
       case rest=>
        obtain⟨rfl,HSW1⟩:=hcut;clear HSW;go_upto_if 185 with(fail)
        go_cut [] (λwc=>Hid (SWL enc k w0 g (X++A1++B1++A2++B2++Y) wc))
        case first=>as_aux_lemma=>
         by_cases hr:s<m∧m<e
         ·have hd:decide (s<m∧m<e)=true:=YD hr;go_wp2_with fail;have he2:=HE2.o;refine(HROT.o _ s m e (X++A1) A2 B1 (B2++Y) (by simp only[Zf];omega) (by simpa using HSW1.o) (by simp;omega) (by simp;omega) (by simp;omega) (by intro h;rw[h] at l2;simp at l2;omega) (by intro h;rw[h] at l3;simp at l3;omega)).mono ?_;rintro e' w2 ⟨rfl,h⟩;clear he2;have H2:=Zc h;clear h;go_wp2_with fail;go_meet
          case rel=>
           show SWL _ _ _ _ _ _;simpa using H2.o
         ·have hd:decide (s<m∧m<e)=false:=Yo hr;go_wp2_with fail;go_meet
          case rel=>
           have he2:=HE2.o;have h0:A2=[]∨B1=[]:=by
            by_cases h:s<m
            ·right;exact Zx.1 (by omega)
            ·left;exact Zx.1 (by omega)
           have h1:=HSW1.o;show SWL _ _ _ _ _ _;rcases h0 with h0|h0<;>(rw[h0] at h1 ⊢;simpa using h1)
        case rest=>
         have HSW:Hid (SWL enc k w0 g (X++A1++B1++A2++B2++Y) _):=hcut;clear hcut HSW1;try clear he1
         go_upto_region 41 with(fail)
         go_cut [199] (λv wc=>v=.bool (decide (a<s∧s<mid))∧Hid (SWL enc k w0 g (X++A1++B1++A2++B2++Y) wc))
         case first=>as_aux_lemma=>
          by_cases g1:(a:Int)<(s:Int)
          ·by_cases g2:(s:Int)<(mid:Int)
           ·go_wp2
            go_meet
            case rel=>exact⟨congrArg Value.bool (YD (p:=a<s∧s<mid) (by omega)).symm,HSW⟩
           ·go_wp2
            go_meet
            case rel=>exact⟨congrArg Value.bool (Yo (p:=a<s∧s<mid) (by omega)).symm,HSW⟩
          ·go_wp2
           go_meet
           case rel=>exact⟨congrArg Value.bool (Yo (p:=a<s∧s<mid) (by omega)).symm,HSW⟩
         case rest=>
          obtain⟨rfl,HSW1⟩:=hcut;clear HSW;go_upto_if 199 with(fail)
          go_cut [] (λwc=>Hid (∃Pl,Srt (ltc cf) Pl∧Cls (ltc cf) (A1++B1) Pl∧Pl.length=A1.length+B1.length∧SWL enc k w0 g (X++Pl++A2++B2++Y) wc))
          case first=>as_aux_lemma=>
           by_cases hr:a<s∧s<mid
           ·have hd:decide (a<s∧s<mid)=true:=YD hr;go_wp2_with fail;have he2:=HE2.o;refine(HIH.o _ X A1 B1 (A2++B2++Y) a s mid (by omega) (by simp only[Zf];omega) (by simpa using HSW1.o) (by omega) (by omega) (by omega) (by omega) (by omega) (Xm.1 HCUT.o.2.2.1).1 (Xm.1 HCUT.o.2.2.2).1).mono ?_;rintro e' w2 ⟨rfl,h⟩;clear he2;have H2:=Zc h;clear h;go_wp2_with fail;go_meet
            case rel=>
             obtain⟨C,c1,c2,c3,c4⟩:=H2.o;exact⟨C,c1,c2,c3,by simpa using c4⟩
           ·have hd:decide (a<s∧s<mid)=false:=Yo hr;go_wp2_with fail;go_meet
            case rel=>
             have he2:=HE2.o;have h0:A1=[]∨B1=[]:=by
              by_cases h:a<s
              ·right;exact Zx.1 (by omega)
              ·left;exact Zx.1 (by omega)
             refine⟨A1++B1,?_,Cls.refl _ _,Zf,by simpa using HSW1.o⟩;rcases h0 with h0|h0
             ·rw[h0,Zr];exact(Xm.1 HCUT.o.2.2.2).1
             ·rw[h0,ZG];exact(Xm.1 HCUT.o.2.2.1).1
          case rest=>
           have HSW:Hid (∃Pl,Srt (ltc cf) Pl∧Cls (ltc cf) (A1++B1) Pl∧Pl.length=A1.length+B1.length∧SWL enc k w0 g (X++Pl++A2++B2++Y) _):=hcut;clear hcut HSW1;go_upto_region 43 with(fail)
           go_cut [213] (λv wc=>v=.bool (decide (mid<e∧e<b))∧Hid (∃Pl,Srt (ltc cf) Pl∧Cls (ltc cf) (A1++B1) Pl∧Pl.length=A1.length+B1.length∧SWL enc k w0 g (X++Pl++A2++B2++Y) wc))
           case first=>as_aux_lemma=>
            by_cases g1:(mid:Int)<(e:Int)
            ·by_cases g2:(e:Int)<(b:Int)
             ·go_wp2
              go_meet
              case rel=>exact⟨congrArg Value.bool (YD (p:=mid<e∧e<b) (by omega)).symm,HSW⟩
             ·go_wp2
              go_meet
              case rel=>exact⟨congrArg Value.bool (Yo (p:=mid<e∧e<b) (by omega)).symm,HSW⟩
            ·go_wp2
             go_meet
             case rel=>exact⟨congrArg Value.bool (Yo (p:=mid<e∧e<b) (by omega)).symm,HSW⟩
           case rest=>
            obtain⟨rfl,HSW1⟩:=hcut;clear HSW;obtain⟨Pl,p1,p2,p3,p4⟩:=HSW1.o;have HP:=Zc (Zd p1 (Zd p2 p4));clear p1 p2 p4 HSW1;by_cases hr:mid<e∧e<b
            ·as_aux_lemma=>
             have hd:decide (mid<e∧e<b)=true:=YD hr;go_wp2_with fail;have he2:=HE2.o;refine(HIH.o _ (X++Pl) A2 B2 Y mid e b (by omega) (by simp only[Zf];omega) (by simpa using HP.o.2.2) (by simp;omega) (by simp;omega) (by simp;omega) (by omega) (by omega) (Xm.1 HCUT.o.2.2.1).2.1 (Xm.1 HCUT.o.2.2.2).2.1).mono ?_;rintro e' w2 ⟨rfl,h⟩;clear he2;have H2:=Zc h;clear h;go_wp2
             go_end0
             obtain⟨C,c1,c2,c3,c4⟩:=H2.o;have hmc:=TJ hw HCUT.o.2.2.1 HCUT.o.2.2.2 HCUT.o.1 HCUT.o.2.1 HP.o.1 c1 HP.o.2.1 c2;refine⟨rfl,Pl++C,hmc.1,?_,by rw[Zf];omega,by simpa using c4⟩;rw[HAB.o.1,HAB.o.2.1];exact hmc.2
            ·as_aux_lemma=>
             have hd:decide (mid<e∧e<b)=false:=Yo hr;go_wp2
             go_end0
             have he2:=HE2.o;have h0:A2=[]∨B2=[]:=by
              by_cases h:mid<e
              ·right;exact Zx.1 (by omega)
              ·left;exact Zx.1 (by omega)
             have hQ:Srt (ltc cf) (A2++B2):=by
              rcases h0 with h0|h0
              ·rw[h0,Zr];exact(Xm.1 HCUT.o.2.2.2).2.1
              ·rw[h0,ZG];exact(Xm.1 HCUT.o.2.2.1).2.1
             have hmc:=TJ hw HCUT.o.2.2.1 HCUT.o.2.2.2 HCUT.o.1 HCUT.o.2.1 HP.o.1 hQ HP.o.2.1 (Cls.refl _ _);refine⟨rfl,Pl++(A2++B2),hmc.1,?_,by simp only[Zf];omega,by simpa using HP.o.2.2⟩;rw[HAB.o.1,HAB.o.2.1];exact hmc.2
theorem Zg5 (T:SrtT P k)(FG:P.funcs[79]?=some Tryz.f79)
  (ei:∀args w,(callFunc 102 args).run P w=.ok (.enter 102 args) w) (em:∀args w,(callFunc 103 args).run P w=.ok (.enter 103 args) w)
  (enc:Ord→List Value) (cf:Ord→Ord→Int) (gc:Nat) (w0 w:World) (g cap len:Nat) (L:List Ord)
  (HI:∀(w:World) (X A Y:List Ord) (a b:Nat),(X++A++Y).length=len→SWL enc k w0 g (X++A++Y) w→a=X.length→b=X.length+A.length→Calls P 102 #[.slice (some ⟨g,0,none⟩) len cap,.int .i64 a,.int .i64 b,.func (.func gc) #[] #[]] w λe w'=>e=.returned (.tuple #[])∧∃A',Srt (ltc cf) A'∧Cls (ltc cf) A A'∧A'.length=A.length∧SWL enc k w0 g (X++A'++Y) w')
  (HM:∀(w:World) (X A B Y:List Ord) (a m b:Nat),(X++A++B++Y).length=len→SWL enc k w0 g (X++A++B++Y) w→a=X.length→m=X.length+A.length→b=X.length+A.length+B.length→1≤A.length→1≤B.length→Srt (ltc cf) A→Srt (ltc cf) B→Calls P 103 #[.slice (some ⟨g,0,none⟩) len cap,.int .i64 a,.int .i64 m,.int .i64 b,.func (.func gc) #[] #[]] w λe w'=>e=.returned (.tuple #[])∧Merged enc k w0 g cf X A B Y w')
  (hL:L.length=len) (S:SWL enc k w0 g L w) (hsz:len<1152921504606846976):
  Calls P 79 #[.slice (some ⟨g,0,none⟩) len cap,.int .i64 len,.func (.func gc) #[] #[]] w λe w'=>e=.returned (.tuple #[])∧∃C,Srt (ltc cf) C∧Cls (ltc cf) L C∧C.length=len∧SWL enc k w0 g C w':=by
 have mixed:=T.mixed;have t0:=T.t0;have a0:=T.a0;have z0:=T.z0;have v0:=T.v0;have t3:=T.t3;have a3:=T.a3;have z3:=T.z3;have v3:=T.v3;have t4:=T.t4;have a4:=T.a4;have z4:=T.z4;have v4:=T.v4;have t22:=T.t22;have a22:=T.a22;have z22:=T.z22;have v22:=T.v22;have t25:=T.t25;have a25:=T.a25;have z25:=T.z25;have v25:=T.v25;have tu:=T.tu;have au:=T.au;have zu:=T.zu;have vu:=T.vu;have aE:=T.aE;have zE:=T.zE;have uu:=YN T.t22;have QI:=Zc HI;have QM:=Zc HM;have HS0:=Zc (Zd hL S);clear T HI HM S hL;go_enter FG,ntmps79;go_wp2_with fail;go_loopg [7,8] len (λg1 va vb wr=>∃a b:Nat,va=.int .i64 a∧vb=.int .i64 b∧b=a+20∧a≤len∧len-a≤g1∧Hid (PA (ltc cf) L len (λl=>SWL enc k w0 g l wr) a))
 case atStart=>exact⟨0,20,rfl,rfl,rfl,by omega,by omega,PA.start HS0.o.1 HS0.o.2⟩
 case round=>
  clear HS0;obtain⟨a,b,rfl,rfl,hb,ha,hg1,HA⟩:=hrel;have HB0:=Zc hb;by_cases hlt:b≤len
  ·as_aux_lemma=>
   have hz:(b:Int)≤(len:Int):=by omega
   obtain⟨X,A,Y,x1,x2,x3,x4,x5⟩:=HA.o.step (by omega);have HX:=Zc (Zd x3 (Zd x4 (Zd (show a=X.length by omega) (Zd (show b=X.length+A.length by omega) x5))));have hm:len-b<len-a:=by omega
   have rb:IntKind.i64.wrap ((b:Int)+20)=(b:Int)+20:=by rw[Zq];omega
   clear x1 x2 x3 x4 x5 HA hb;go_wp2_with fail;refine(QI.out _ X A Y a b HX.o.1 HX.o.2.1 HX.o.2.2.1 HX.o.2.2.2.1).mono ?_;rintro e' w2 ⟨rfl,h⟩;have H2:=Zc h;clear h;go_wp2
   go_roundg (len-b)
   case measure=>omega
   case rel=>
    obtain⟨A',c1,c2,c3,c4⟩:=H2.o;refine⟨b,b+20,by first|rfl|go_num,by go_num,rfl,hlt,Zh _,?_⟩;have h9:=HX.o.2.2.2.2 (λl=>SWL enc k w0 g l _) A' c1 c2 c3 c4;rw[←HB0.o] at h9;exact h9
  ·have hz:¬(b:Int)≤(len:Int):=by omega
   obtain⟨X,A,x1,x2,x3,x4,x5⟩:=HA.o.last (by omega);have HX:=Zc (Zd x3 (Zd x4 (Zd (show a=X.length by omega) (Zd (show len=X.length+A.length by omega) x5))));clear x1 x2 x3 x4 x5 HA hb HB0;go_wp2_with fail;refine(QI.out _ X A [] a len HX.o.1 HX.o.2.1 HX.o.2.2.1 HX.o.2.2.2.1).mono ?_;rintro e' w2 ⟨rfl,h⟩;have HB:Hid (PB (ltc cf) L len (λl=>SWL enc k w0 g l w2) 20):=by obtain⟨A',c1,c2,c3,c4⟩:=h;exact HX.o.2.2.2.2 (λl=>SWL enc k w0 g l _) A' c1 c2 c3 c4
   clear h HX hg1 hz hlt ha;go_wp2_with fail;go_loopg [6,7,8] len (λg2 vk va vb wr=>∃K x y:Nat,vk=.int .i64 K∧va=.int .i64 x∧vb=.int .i64 y∧20≤K∧len-K≤g2∧Hid (PB (ltc cf) L len (λl=>SWL enc k w0 g l wr) K))
   case atStart=>exact⟨20,a,b,rfl,rfl,rfl,by omega,by omega,HB.o⟩
   case round=>
    clear HB;obtain⟨K,x,y,rfl,rfl,rfl,hK,hg2,HB⟩:=hrel;by_cases hKl:K<len
    ·have hKz:(K:Int)<(len:Int):=by omega
     obtain⟨K2,hK2,hK3⟩:∃K2:Nat,2*(K:Int)=(K2:Int)∧K2=2*K:=⟨2*K,by omega,rfl⟩;have r2:IntKind.i64.wrap (2*(K:Int))=2*(K:Int):=by rw[Zq];omega
     have r2':IntKind.i64.wrap ((K:Int)*2)=(K2:Int):=by rw[Zq];omega
     rw[hK2] at r2;have HCC:=Zc HB.o.open;have HK3:=Zc hK3;clear HB hK3;go_wp2_with fail;go_loopg [7,8] len (λg3 va vb wr=>∃a b:Nat,va=.int .i64 a∧vb=.int .i64 b∧b=a+K2∧a≤len∧len-a≤g3∧Hid (PC (ltc cf) L len (λl=>SWL enc k w0 g l wr) K a))
     case atStart=>exact⟨0,K2,rfl,by first|rfl|go_num,by omega,by omega,by omega,HCC.o⟩
     case round=>
      clear HCC;obtain⟨a,b,rfl,rfl,hb,ha,hg3,HC⟩:=hrel;obtain⟨mm,hm1,hm2⟩:∃mm:Nat,(a:Int)+(K:Int)=(mm:Int)∧mm=a+K:=⟨a+K,by omega,rfl⟩;have rm:IntKind.i64.wrap ((a:Int)+(K:Int))=(a:Int)+(K:Int):=by have:=HK3.o;rw[Zq];omega
      rw[hm1] at rm;have HB0:=Zc (Zd hb (Zd HK3.o hm2));by_cases hlt:b≤len
      ·as_aux_lemma=>
       have hz:(b:Int)≤(len:Int):=by omega
       obtain⟨X,A,B,Y,x1,x2,x3,x4,x5,x6,x7,x8⟩:=HC.o.step (by have:=HK3.o;omega);have HX:=Zc (Zd x4 (Zd x7 (Zd (show a=X.length by omega) (Zd (show mm=X.length+A.length by omega) (Zd (show b=X.length+A.length+B.length by have:=HK3.o;omega) (Zd (show 1≤A.length by omega) (Zd (show 1≤B.length by omega) (Zd x5 (Zd x6 x8)))))))));have hmz:len-b<len-a:=by have:=HK3.o;omega
       obtain⟨b2,hb2,hb3⟩:∃b2:Nat,(b:Int)+(K2:Int)=(b2:Int)∧b2=b+K2:=⟨b+K2,by omega,rfl⟩;have rb:IntKind.i64.wrap ((b:Int)+(K2:Int))=(b:Int)+(K2:Int):=by have:=HK3.o;rw[Zq];omega
       rw[hb2] at rb;have HB3:=Zc hb3;clear x1 x2 x3 x4 x5 x6 x7 x8 HC hb hm2 hb3;go_wp2_with fail;refine(QM.out _ X A B Y a mm b HX.o.1 HX.o.2.1 HX.o.2.2.1 HX.o.2.2.2.1 HX.o.2.2.2.2.1 HX.o.2.2.2.2.2.1 HX.o.2.2.2.2.2.2.1 HX.o.2.2.2.2.2.2.2.1 HX.o.2.2.2.2.2.2.2.2.1).mono ?_;rintro e' w2 ⟨rfl,h⟩;have H2:=Zc h;clear h;go_wp2
       go_roundg (len-b)
       case measure=>omega
       case rel=>
        obtain⟨C,c1,c2,c3,c4⟩:=H2.o;refine⟨b,b2,by first|rfl|go_num,by first|rfl|go_num,HB3.o,hlt,Zh _,?_⟩;have h9:=HX.o.2.2.2.2.2.2.2.2.2 (λl=>SWL enc k w0 g l _) C c1 c2 c3 c4;rw[←HK3.o,←HB0.o.1] at h9;exact h9
      ·have hz:¬(b:Int)≤(len:Int):=by omega
       by_cases hml:mm<len
       ·as_aux_lemma=>
        have hmz:(mm:Int)<(len:Int):=by omega
        obtain⟨X,A,B,x1,x2,x3,x4,x5,x6,x7,x8⟩:=HC.o.tail (by have:=HK3.o;omega) (by omega);have HX:=Zc (Zd x4 (Zd x7 (Zd (show a=X.length by omega) (Zd (show mm=X.length+A.length by omega) (Zd (show len=X.length+A.length+B.length by omega) (Zd (show 1≤A.length by omega) (Zd (show 1≤B.length by omega) (Zd x5 (Zd x6 x8)))))))));clear x1 x2 x3 x4 x5 x6 x7 x8 HC hb hm2;go_wp2_with fail;refine(QM.out _ X A B [] a mm len HX.o.1 HX.o.2.1 HX.o.2.2.1 HX.o.2.2.2.1 HX.o.2.2.2.2.1 HX.o.2.2.2.2.2.1 HX.o.2.2.2.2.2.2.1 HX.o.2.2.2.2.2.2.2.1 HX.o.2.2.2.2.2.2.2.2.1).mono ?_;rintro e' w2 ⟨rfl,h⟩;have H2:=Zc h;clear h;go_wp2
        go_roundg (len-K2)
        case measure=>have:=HK3.o;omega
        case rel=>
         obtain⟨C,c1,c2,c3,c4⟩:=H2.o;refine⟨K2,a,b,by first|rfl|go_num,by first|rfl|go_num,by first|rfl|go_num,by have:=HK3.o;omega,Zh _,?_⟩;have h9:=HX.o.2.2.2.2.2.2.2.2.2 (λl=>SWL enc k w0 g l _) C c1 c2 c3 c4;rw[←HK3.o] at h9;exact h9
       ·as_aux_lemma=>
        have hmz:¬(mm:Int)<(len:Int):=by omega
        have h9:=HC.o.none (by omega);rw[←HK3.o] at h9;have H9:=Zc h9;clear h9;clear HC hb hm2;go_wp2
        go_roundg (len-K2)
        case measure=>have:=HK3.o;omega
        case rel=>exact⟨K2,a,b,by first|rfl|go_num,by first|rfl|go_num,by first|rfl|go_num,by have:=HK3.o;omega,Zh _,H9.o⟩
    ·as_aux_lemma=>
     have hKz:¬(K:Int)<(len:Int):=by omega
     go_wp2
     go_end0
     exact⟨rfl,HB.o.done (by omega)⟩
structure SrtG (P:Program):Prop extends SrtF P where
 fi:P.funcs[102]?=some Tryz.f102
 ft:P.funcs[79]?=some Tryz.f79
 fo:P.funcs[55]?=some Tryz.f55
 ei:∀args w,(callFunc 102 args).run P w=.ok (.enter 102 args) w
 et:∀args w,(callFunc 79 args).run P w=.ok (.enter 79 args) w
theorem Ziu (T:SrtT P k)(F:SrtG P)
  (enc:Ord→List Value) (cf:Ord→Ord→Int) (hw:Swo (ltc cf)) (gc:Nat) (eg:∀args w,(callFunc gc args).run P w=.ok (.enter gc args) w) (w0 w:World) (g cap len:Nat) (d0:Array Ord) (L:List Ord) (hcmp:CmpLays P gc #[] enc k cf g 0 len w0) (R:RowK enc k w0 g 0 d0) (hs:d0.size=len) (hL:L.length=len) (S:SWL enc k w0 g L w) (hsz:len<1152921504606846976):
  Calls P 79 #[.slice (some ⟨g,0,none⟩) len cap,.int .i64 len,.func (.func gc) #[] #[]] w λe w'=>e=.returned (.tuple #[])∧∃C,Srt (ltc cf) C∧Cls (ltc cf) L C∧C.length=len∧SWL enc k w0 g C w':=
 Zg5 T F.ft F.ei F.em enc cf gc w0 w g cap len L
  (λw X A Y a b hl hS ha hb=>Zc2 T F.fi enc cf hw gc eg w0 w g cap len a b d0 X A Y hcmp R hl hs hS ha hb (by omega))
  (λw X A B Y a m b hl hS ha hm hb h1 h2 h3 h4=>Zen T F.toSrtF enc cf hw gc eg w0 g cap len d0 hcmp R hs (by omega) _ w X A B Y a m b (Zh _) hl hS ha hm hb h1 h2 h3 h4)
  hL S hsz
theorem Zb0 (T:SrtT P k)(F:SrtG P)
  (enc:Ord→List Value) (cf:Ord→Ord→Int) (hw:Swo (ltc cf)) (gc:Nat) (eg:∀args w,(callFunc gc args).run P w=.ok (.enter gc args) w) (w0 w:World) (g cap len:Nat) (d0:Array Ord) (L:List Ord) (hcmp:CmpLays P gc #[] enc k cf g 0 len w0) (R:RowK enc k w0 g 0 d0) (hs:d0.size=len) (hL:L.length=len) (S:SWL enc k w0 g L w) (hsz:len<1152921504606846976):
  Calls P 55 #[.slice (some ⟨g,0,none⟩) len cap,.func (.func gc) #[] #[]] w λe w'=>e=.returned (.tuple #[])∧∃C,Srt (ltc cf) C∧Cls (ltc cf) L C∧C.length=len∧SWL enc k w0 g C w':=by
 have FG:=F.fo;have et:=F.et;have Q:=Zc (λ(w:World) (S:SWL enc k w0 g L w)=>Ziu T F enc cf hw gc eg w0 w g cap len d0 L hcmp R hs hL S hsz);have mixed:=T.mixed;have t0:=T.t0;have a0:=T.a0;have z0:=T.z0;have v0:=T.v0;have t3:=T.t3;have a3:=T.a3;have z3:=T.z3;have v3:=T.v3;have t4:=T.t4;have a4:=T.a4;have z4:=T.z4;have v4:=T.v4;have t22:=T.t22;have a22:=T.a22;have z22:=T.z22;have v22:=T.v22;have t25:=T.t25;have a25:=T.a25;have z25:=T.z25;have v25:=T.v25;have tu:=T.tu;have au:=T.au;have zu:=T.zu;have vu:=T.vu;have aE:=T.aE;have zE:=T.zE;have uu:=YN T.t22;have HS0:=Zc S;clear T F S hcmp R hs hL;go_enter FG,ntmps55;go_wp2_with fail;refine(Q.out _ HS0.o).mono ?_;rintro e' w2 ⟨rfl,h⟩;have H2:=Zc h;clear h;go_wp2
 go_end0
 exact⟨rfl,H2.o⟩
end
end Go.Proofs.YtphkchjejbffeaaGreat
