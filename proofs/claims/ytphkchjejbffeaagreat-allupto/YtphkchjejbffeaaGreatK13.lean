/- JU, JV, JW -/
import Derived.Test.YtphkchjejbffeaaGreatK12
set_option maxHeartbeats 16000000
set_option maxRecDepth 100000
namespace Go.Proofs.YtphkchjejbffeaaGreat
open Tryz
open Go.RowKit
variable {st:St}
section
open Go.RowKit
attribute [local go_sem ↓] Go.wp_at_zero Go.wp_at_succ
theorem why_none {t:Nat}{qe:UInt8}{qd qc qa:Nat}{kind:UInt8}(h:st.why t qe qd qc qa kind=none):
  t∉st.used∧(qe=66∨qe=83)∧qd<st.qk∧1≤qc∧qc≤st.qj∧1≤qa∧qa≤9999∧(kind=68∨kind=73)∧(kind=68→st.ql<st.pool):=by
 unfold St.why at h;split at h
 ·cases h
 split at h
 ·cases h
 split at h
 ·cases h
 split at h
 ·cases h
 split at h
 ·cases h
 split at h
 ·cases h
 split at h
 ·cases h
 rename_i h1 h2 h3 h4 h5 h6 h7;refine⟨h1,?_,by omega,by omega,by omega,by omega,by omega,?_,?_⟩
 ·by_cases e:qe=66
  ·exact Or.inl e
  ·by_cases e2:qe=83
   ·exact Or.inr e2
   ·exact absurd ⟨e,e2⟩ h2
 ·by_cases e:kind=68
  ·exact Or.inl e
  ·by_cases e2:kind=73
   ·exact Or.inr e2
   ·exact absurd ⟨e,e2⟩ h6
 ·intro e;by_cases e2:st.pool≤st.ql
  ·exact absurd ⟨e,e2⟩ h7
  ·omega
theorem Zcx {a b:St}{o y:Ord}(h:Inv a)(hm:a.meet 65 o=(b,y))(hv:Valid a o.qd o.qe o.qc)(hnew:∀x∈a.all,x.qf≠o.qf)(hu:o.qf∈a.used):
  y={o with qa:=y.qa}∧y.qa≤o.qa∧Valid b y.qd y.qe y.qc∧y.qf∈b.used∧(∀x∈b.all,x.qf≠y.qf)∧b.ql≤a.ql∧b.pool=a.pool∧(y.qa=0∨b.meets y=none)∧b.ans.length≤a.ans.length+2470∧b.tape.length≤a.tape.length+2470:=by
 obtain⟨j1,j2,j3,j4,j5⟩:=QK 65 a o h;have hg:=Zab 65 a o;rw[hm] at j1 j2 j3 j4 j5 hg;simp only at j1 j2 j3 j4 j5 hg;have hroom:=h.room;have hp:=h.pool;have e1:y.qd=o.qd:=by rw[j3]
 have e2:y.qe=o.qe:=by rw[j3]
 have e3:y.qc=o.qc:=by rw[j3]
 have e4:y.qf=o.qf:=by rw[j3]
 refine⟨j3,j4,?_,?_,?_,j2.le,j2.pool,j5 (by omega),?_,?_⟩
 ·unfold Valid at *;rw[e1,e2,e3,j2.qk,j2.qj];exact hv
 ·rw[e4,j2.used];exact hu
 ·intro x hx e;obtain⟨x',hx',e'⟩:=j2.mem hx;exact hnew x' hx' (by rw[e',e,e4])
 ·have:=hg.ans;omega
 ·have:=hg.tape;omega
theorem Zfs (b:Nat)(c:BC)(k:SK)(st:St)(t:Nat)(qe:UInt8)(qd qc qa:Nat)(kind r:UInt8)(w:World)(h:Rel w b c k st)(ht:t<4294967296)(hst:qd<256)(hp:qc<65536)(hs:qa<65536)(hra:st.ans.length≤70368744280000)(hw:st.why t qe qd qc qa kind=some r):
  Calls prog 87 #[.pointer (some ⟨b,0,none⟩),UE t qe qd qc qa kind] w λe w'=>e=.returned (.tuple #[])∧Does w b c k w' (st.reject t r):=by
 have HR:=Zc h;have HW:=Zc hw;clear h hw;unfold UE;go_enter func87,ntmps87;go_wp2_with fail;generalize hOb:Obj.cells _ 157=Ob;have hF:Fr (λ_=>False) w (w.alloc Ob):=Fr.alloc _ w Ob;have cc:∀i v,(#[Value.int .u32 t,.int .u8 qe.toNat,.int .u8 qd,.int .u16 qc,.int .u16 qa,.int .u8 kind.toNat]:Array Value)[i]?=some v→(w.alloc Ob).cell? ⟨w.heap.size,i,none⟩=some v:=by intro i v hv;rw[Zk _ w.heap.size i _ 157 (0,0) (by rw[YX,Zg rfl,←hOb])];exact hv
 generalize w.alloc Ob=W at hF cc ⊢;have HRW:Hid (Rel W b c k st):=HR.o.quiet hF;refine(Tm b c k st t qe qd qc qa kind W HRW.o ht hst hp hs).mono ?_;rintro e w1 ⟨rfl,hf1⟩;have c1:∀i v,(#[Value.int .u32 t,.int .u8 qe.toNat,.int .u8 qd,.int .u16 qc,.int .u16 qa,.int .u8 kind.toNat]:Array Value)[i]?=some v→w1.cell? ⟨w.heap.size,i,none⟩=some v:=λi v hv=>hf1.out.cell (cc i v hv) (λe=>e);have q0:=c1 0 _ rfl;have q1:=c1 1 _ rfl;have q2:=c1 2 _ rfl;have q3:=c1 3 _ rfl;have q4:=c1 4 _ rfl;have q5:=c1 5 _ rfl;have HF1:Hid (Fr (λ_=>False) w w1):=hF.trans hf1.out (λ_ _ e=>e);have HR1:Hid (Rel w1 b c k st):=HRW.o.quiet hf1.out;rw[HW.o];unfold whyV;simp only;clear hF cc c1 hf1 HRW hOb;go_wp2_with fail;refine(UL b c st.ans t r w1 HR1.o.B HR1.o.tm.1 HR1.o.tm.2 HR1.o.A HR1.o.dist.ab (by omega) ht).mono ?_;rintro e w2 ⟨rfl,ht2⟩;obtain⟨c2,hR2,hS2,-,-⟩:=HR1.o.tellA (l:=st.head 74++enc t 4++[r]) ht2 (by rw[HR1.o.time];unfold St.head;simp)
 have HFIN:Hid (Does w b c k w2 (st.reject t r)):=⟨c2,hR2,(Stp.quiet HF1.o).trans hS2⟩;clear hR2 hS2 ht2;go_wp2_with fail;refine ZC (Yu rfl _ _ _) rfl ?_;exact⟨rfl,HFIN.o⟩
theorem Zib (b:Nat)(c:BC)(k:SK)(st st':St)(o':Ord)(t:Nat)(qe:UInt8)(qd qc qa:Nat)(kind:UInt8)(w:World)(h:Rel w b c k st)(ht:t<4294967296)(hst:qd<256)(hp:qc<65536)(hs:qa<65536)(hra:st.ans.length≤70368744270000)(hrt:st.tape.length≤70368744270000)(hw:st.why t qe qd qc qa kind=none)
  (o:Ord) (ho:({ref:=(st.qg+1)%4294967296,qf:=t,qe,qd,qc,qa}:Ord)=o) (hm:(st.accept o kind).meet 65 o=(st',o')):
  Calls prog 87 #[.pointer (some ⟨b,0,none⟩),UE t qe qd qc qa kind] w λe w'=>e=.returned (.tuple #[])∧Does w b c k w' (st.enter t qe qd qc qa kind):=by
 obtain⟨w1',w2',w3',w4',w5',w6',w7',w8',w9'⟩:=why_none hw;have HR:=Zc h;have HW:=Zc hw;have HO:=Zc ho;have HM:=Zc hm;have hent:Hid (st.enter t qe qd qc qa kind=if o'.qa=0 then st' else if kind=68 then st'.rest o' else st'.cancelled t o'.qa 73):=by show _=_;unfold St.enter;rw[hw];simp only;rw[ho,hm]
 clear h hw ho hm;unfold UE;go_enter func87,ntmps87;go_wp2_with fail;generalize hOb:Obj.cells _ 157=Ob;have hF:Fr (λ_=>False) w (w.alloc Ob):=Fr.alloc _ w Ob;have cc:∀i v,(#[Value.int .u32 t,.int .u8 qe.toNat,.int .u8 qd,.int .u16 qc,.int .u16 qa,.int .u8 kind.toNat]:Array Value)[i]?=some v→(w.alloc Ob).cell? ⟨w.heap.size,i,none⟩=some v:=by intro i v hv;rw[Zk _ w.heap.size i _ 157 (0,0) (by rw[YX,Zg rfl,←hOb])];exact hv
 generalize w.alloc Ob=W at hF cc ⊢;have HRW:Hid (Rel W b c k st):=HR.o.quiet hF;refine(Tm b c k st t qe qd qc qa kind W HRW.o ht hst hp hs).mono ?_;rintro e w1 ⟨rfl,hf1⟩;have c1:∀i v,(#[Value.int .u32 t,.int .u8 qe.toNat,.int .u8 qd,.int .u16 qc,.int .u16 qa,.int .u8 kind.toNat]:Array Value)[i]?=some v→w1.cell? ⟨w.heap.size,i,none⟩=some v:=λi v hv=>hf1.out.cell (cc i v hv) (λe=>e);have q0:=c1 0 _ rfl;have q1:=c1 1 _ rfl;have q2:=c1 2 _ rfl;have q3:=c1 3 _ rfl;have q4:=c1 4 _ rfl;have q5:=c1 5 _ rfl;have HF1:Hid (Fr (λ_=>False) w w1):=hF.trans hf1.out (λ_ _ e=>e);have HR1:Hid (Rel w1 b c k st):=HRW.o.quiet hf1.out;rw[HW.o];unfold whyV;simp only;clear hF cc c1 hf1 HRW hOb;have HGB:Hid (∀j,GB b c k j→j<w.heap.size):=HR.o.lt;have hgl1:w.heap.size<w1.heap.size:=ZU w1 _ q0;have nG1:¬GB b c k w.heap.size:=λe=>by have:=HGB.o _ e;omega
 go_wp2_with fail;refine(Zhi b c k st t qe qd qc qa kind o w1 HR1.o ht hst hp hs w1' (by omega) HO.o).mono ?_;rintro e w2 ⟨rfl,c2,hR2,hS2⟩;have q5b:=hS2.fr.cell q5 nG1;have hgl2:w.heap.size<w2.heap.size:=ZU w2 _ q5b;have nG2:¬GB b c2 k w.heap.size:=λe=>(hS2.sub _ e).elim nG1 (λe=>by omega);have HR2:=Zc hR2;have HS2:Hid (Stp w b c k w2 c2):=(Stp.quiet HF1.o).trans hS2;have hotok:o.qf=t:=by rw[←HO.o]
 have hosh:o.qa=qa:=by rw[←HO.o]
 have hkS:k.S=st.qk:=by obtain⟨M,od,ps,fl,-,-,h3⟩:=HR.o.ex;exact h3.hS
 have hkL:k.L≤64:=HR.o.ok.L;have hkL2:k.L=st.qj:=by obtain⟨M,od,ps,fl,-,-,h3⟩:=HR.o.ex;exact h3.hL
 have hval:Valid (st.accept o kind) o.qd o.qe o.qc:=by rw[←HO.o];exact⟨w3',w2',w4',w5'⟩
 have haft:=Zcx hR2.inv HM.o hval (λx hx e=>w1' (by rw[←hotok,←e];exact HR.o.inv.used x hx)) (by show o.qf∈o.qf::st.used;simp);have hla:(st.accept o kind).ans.length=st.ans.length+22:=by simp[St.accept,St.say,St.head,YZ]
 have hlt:(st.accept o kind).tape.length=st.tape.length:=rfl;have HAFT:=Zc haft;have hMEET:=Zd8 b 0 0 c2 k (st.accept o kind) o o' st' w2 hR2 HM.o (by rw[hotok];exact ht) (by rw[hosh];exact w7') (by rw[hkS];exact hval.1) hval.2.1 (by have:=hval.2.2.2;have:o.qc≤st.qj:=this;omega) (by rw[hla];omega) (by rw[hlt];omega);have HMEET:=Zc hMEET;have HOT:=Zc (Zd hotok hosh);have HLAT:=Zc (Zd hla hlt);have hpool:(st.accept o kind).pool=st.pool:=rfl;have hrest:(st.accept o kind).ql=st.ql:=rfl;have HPR:=Zc (Zd hpool hrest);have href:o.ref<4294967296:=by rw[←HO.o];exact YF _ (by decide)
 clear hR2 hS2 haft hMEET hotok hosh hkS hkL2 hval hla hlt q0 q1 q2 q3 q4 q5 hpool hrest;go_wp2_with fail;refine HMEET.o.mono ?_;rintro e w3 ⟨rfl,c3,hR3,hS3⟩;have q5c:=hS3.fr.cell q5b nG2;have hgl3:w.heap.size<w3.heap.size:=ZU w3 _ q5c;have nG3:¬GB b c3 k w.heap.size:=λe=>(hS3.sub _ e).elim nG2 (λe=>by omega);have HR3:=Zc hR3;have HS3:Hid (Stp w b c k w3 c3):=HS2.o.trans hS3;clear hR3 hS3 q5b;obtain⟨a1,a2,a3,a4,a5,a6,a7,a8,a9,a10⟩:=HAFT.o;have HA1:=Zc (Zd a1 (Zd a3 (Zd a4 (Zd a5 a8))));have otk:o'.qf<4294967296:=by rw[a1];show o.qf<_;rw[HOT.o.1];exact ht
 have orf:o'.ref<4294967296:=by rw[a1];exact href
 have HTK:Hid (o'.qf=t):=by show _=_;rw[a1];exact HOT.o.1
 have osh:o'.qa≤9999:=by rw[HOT.o.2] at a2;omega
 have hans:st'.ans.length≤70368744280000:=by rw[HLAT.o.1] at a9;omega
 have htap:st'.tape.length≤70368744280000:=by rw[HLAT.o.2] at a10;omega
 have hrp:kind=68→st'.ql<st'.pool:=by intro e;have:=w9' e;rw[a7,HPR.o.1];rw[HPR.o.2] at a6;omega
 clear a1 a2 a3 a4 a5 a6 a7 a8 a9 a10 w9';unfold ordV ordL;have hk68:kind=68∨kind=73:=w8';by_cases hz:o'.qa=0
 ·have bz:((o'.qa:Int)==0)=true:=by simp[hz]
  have HZ:=Zc hz;clear hz;go_wp2_with fail;go_end0
  refine⟨rfl,c3,?_,HS3.o.trans (Stp.quiet (Fr.alloc _ _ _))⟩;rw[hent.out,Zg HZ.o];exact HR3.o.quiet (Fr.alloc _ _ _)
 ·have bz:((o'.qa:Int)==0)=false:=by simp;omega
  have HZ:=Zc hz;clear w8';rcases hk68 with hk|hk
  ·have HK:=Zc hk;have hbk:((kind.toNat:Int)==68)=true:=by rw[hk];rfl
   have hrp':=hrp hk;clear hk hrp;go_wp2_with fail;have hFA:Fr (λ_=>False) w3 (w3.alloc (Obj.cells #[Value.int .i64 0,Value.int .i64 0,Value.int .u32 o'.ref,Value.int .u32 o'.qf,Value.int .u8 o'.qe.toNat,Value.int .u8 o'.qd,Value.int .u16 o'.qc,Value.int .u16 o'.qa] 108)):=Fr.alloc _ _ _;generalize w3.alloc (Obj.cells #[Value.int .i64 0,Value.int .i64 0,Value.int .u32 o'.ref,Value.int .u32 o'.qf,Value.int .u8 o'.qe.toNat,Value.int .u8 o'.qd,Value.int .u16 o'.qc,Value.int .u16 o'.qa] 108)=W3 at hFA ⊢;obtain⟨a1,a3,a4,a5,a8⟩:=HA1.o;refine(Zdu b c3 k st' o' W3 (HR3.o.quiet hFA) a3 (by omega) osh orf otk a4 a5 hrp' (a8.resolve_left HZ.o) (by omega)).mono ?_;rintro e w4 ⟨rfl,c4,hR4,hS4⟩;have HR4:=Zc hR4;have HS4:Hid (Stp w b c k w4 c4):=HS3.o.trans ((Stp.quiet hFA).trans hS4);clear hR4 hS4 a1 a3 a4 a5 a8;go_wp2_with fail;go_end0
   refine⟨rfl,c4,?_,HS4.o⟩;rw[hent.out,Zj HZ.o,Zg HK.o];exact HR4.o
  ·have HK:=Zc hk;have hbk:((kind.toNat:Int)==68)=false:=by rw[hk];rfl
   clear hk hrp;go_wp2_with fail;have hFA:Fr (λ_=>False) w3 (w3.alloc (Obj.cells #[Value.int .i64 0,Value.int .i64 0,Value.int .u32 o'.ref,Value.int .u32 o'.qf,Value.int .u8 o'.qe.toNat,Value.int .u8 o'.qd,Value.int .u16 o'.qc,Value.int .u16 o'.qa] 108)):=Fr.alloc _ _ _;generalize w3.alloc (Obj.cells #[Value.int .i64 0,Value.int .i64 0,Value.int .u32 o'.ref,Value.int .u32 o'.qf,Value.int .u8 o'.qe.toNat,Value.int .u8 o'.qd,Value.int .u16 o'.qc,Value.int .u16 o'.qa] 108)=W3 at hFA ⊢;have hRW:=HR3.o.quiet hFA;refine(UG b c3 st'.ans o'.qf o'.qa 73 W3 hRW.B hRW.tm.1 hRW.tm.2 hRW.A hRW.dist.ab (by omega) otk (by omega)).mono ?_;rintro e w4 ⟨rfl,ht4⟩;obtain⟨c4,hR4,hS4,-,-⟩:=hRW.tellA (l:=st'.head 88++enc t 4++enc o'.qa 2++[73]) ht4 (by rw[hRW.time,HTK.o];unfold St.head;simp)
   have HR4:=Zc hR4;have HS4:Hid (Stp w b c k w4 c4):=HS3.o.trans ((Stp.quiet hFA).trans hS4);clear hR4 hS4 hRW ht4;go_wp2_with fail;go_end0
   refine⟨rfl,c4,?_,HS4.o⟩;rw[hent.out,Zj HZ.o,Zj (by rw[HK.o];decide)];exact HR4.o
theorem Zih (b:Nat)(c:BC)(k:SK)(st:St)(t:Nat)(qe:UInt8)(qd qc qa:Nat)(kind:UInt8)(w:World)(h:Rel w b c k st)(ht:t<4294967296)(hst:qd<256)(hp:qc<65536)(hs:qa<65536)(hra:st.ans.length≤70368744270000)(hrt:st.tape.length≤70368744270000):
  Calls prog 87 #[.pointer (some ⟨b,0,none⟩),UE t qe qd qc qa kind] w λe w'=>e=.returned (.tuple #[])∧Does w b c k w' (st.enter t qe qd qc qa kind):=by
 cases hw:st.why t qe qd qc qa kind with
 | some r=>
  refine(Zfs b c k st t qe qd qc qa kind r w h ht hst hp hs (by omega) hw).mono ?_;rintro e w' ⟨rfl,hd⟩;refine⟨rfl,?_⟩;unfold St.enter;rw[hw];exact hd
 | none=>
  obtain⟨st',o',hm⟩:∃st' o',(st.accept ({ref:=(st.qg+1)%4294967296,qf:=t,qe,qd,qc,qa}:Ord) kind).meet 65 {ref:=(st.qg+1)%4294967296,qf:=t,qe,qd,qc,qa}=(st',o'):=⟨_,_,rfl⟩;exact Zib b c k st st' o' t qe qd qc qa kind w h ht hst hp hs hra hrt hw _ rfl hm
def Zfq (t n:Nat):Value:=.agg #[.int .u32 t,.int .u16 n]
theorem Fi.getD {S L n:Nat}{od:Nat→Ord}{ps:Nat→UInt8→Nat→List Nat}{fl:List Nat}{M:Nat→Option Nat}(h:Fi S L n od ps fl M st)(t x:Nat)(hx:(M t).getD 0=x)(hne:∀s d p,VV S L s d p→∀y∈ps s d p,y≠0):
  (x=0∧st.find t=none)∨(x≠0∧M t=some x∧st.find t=some (od x)):=by
 cases e:M t with
 | none=>
  rw[e] at hx;exact Or.inl ⟨hx.symm,h.find_none hne (Or.inl e)⟩
 | some y=>
  rw[e] at hx;have hx:y=x:=hx;subst hx;by_cases e0:y=0
  ·subst e0;exact Or.inl ⟨rfl,h.find_none hne (Or.inr e)⟩
  ·exact Or.inr ⟨e0,rfl,h.find e e0⟩
theorem Zf6 (b:Nat)(c:BC)(k:SK)(st:St)(t n:Nat)(w:World)(h:Rel w b c k st)(ht:t<4294967296)(hn:n<65536)(hra:st.ans.length≤70368744270000)(hrt:st.tape.length≤70368744270000):
  Calls prog 91 #[.pointer (some ⟨b,0,none⟩),Zfq t n] w λe w'=>e=.returned (.tuple #[])∧Does w b c k w' (st.cancel t n):=by
 have hgb:∀j,GB b c k j→j<w.heap.size:=h.lt;have g18:=h.map;have g19:=h.books;have hblt:=h.B.lt;obtain⟨M,od,ps,fl,j1,j2,j3⟩:=h.ex;have hne:∀s d p,VV k.S k.L s d p→∀y∈ps s d p,y<k.n∧y≠0:=λs d p hv=>(j1.nodup hv).2.1;obtain⟨x,hx⟩:=Za ((M t).getD 0);have hcase:=j3.getD t x hx (λs d p hv y hy=>(hne s d p hv y hy).2);have HH:Hid (Holds w c k st M od ps fl):=⟨j1,j2,j3⟩;have HR:=Zc h;have HC:=Zc hcase;have HNE:=Zc hne;have HX:=Zc hx;clear h j1 j2 j3 hcase hne hx;unfold Zfq;go_enter func91,ntmps91;go_wp2_with fail;generalize hOb:Obj.cells _ 165=Ob;have hF:Fr (λ_=>False) w (w.alloc Ob):=Fr.alloc _ w Ob;have q0:(w.alloc Ob).cell? ⟨w.heap.size,0,none⟩=some (.int .u32 t):=by rw[Zk _ w.heap.size 0 _ 165 (0,0) (by rw[YX,Zg rfl,←hOb])];rfl
 have q1:(w.alloc Ob).cell? ⟨w.heap.size,1,none⟩=some (.int .u16 n):=by rw[Zk _ w.heap.size 1 _ 165 (0,0) (by rw[YX,Zg rfl,←hOb])];rfl
 clear hOb;generalize w.alloc Ob=W at hF q0 q1 ⊢;have HHW:Hid (Holds W c k st M od ps fl):=HH.o.quiet hF;have HRW:Hid (Rel W b c k st):=HR.o.quiet hF;have h18:=hF.cell g18 (λe=>e);have h19:=hF.cell g19 (λe=>e);have hlk:(Instr.lookup 62 (.map (some c.pm)) (.int .u32 t) false).run prog W.drew=.ok (.int .i64 x) W.drew:=by have:=(HHW.o.quiet (Fr.drew _ W)).2.1.look t ht;rw[HX.o] at this;exact this
 have m0:W.drew.cell? ⟨b,18,none⟩=some (.map (some c.pm))∧W.drew.cell? ⟨w.heap.size,0,none⟩=some (.int .u32 t)∧(Instr.lookup 62 (.map (some c.pm)) (.int .u32 t) false).run prog W.drew=.ok (.int .i64 x) W.drew:=⟨h18,q0,hlk⟩;have HF:=Zc hF;clear hF g18 g19 hlk;go_region_held3 (λw'=>w'.cell? ⟨b,18,none⟩=some (.map (some c.pm))∧w'.cell? ⟨w.heap.size,0,none⟩=some (.int .u32 t)∧(Instr.lookup 62 (.map (some c.pm)) (.int .u32 t) false).run prog w'=.ok (.int .i64 x) w') (first|with_reducible exact m0|go_keep) (fail)
 have HF1:Hid (Fr (λ_=>False) w W.drew):=HF.o.trans (Fr.drew _ W) (λ_ _ e=>e);have HH1:Hid (Holds W.drew c k st M od ps fl):=HHW.o.quiet (Fr.drew _ W);have HR1:Hid (Rel W.drew b c k st):=HRW.o.quiet (Fr.drew _ W);have p1:W.drew.cell? ⟨w.heap.size,1,none⟩=some (.int .u16 n):=q1;have p19:W.drew.cell? ⟨b,19,none⟩=some (.pointer (some ⟨k.bk,0,none⟩)):=h19;rename_i hHeld;clear hHeld m0 q0 q1 h18 h19 HF HHW HRW;generalize W.drew=V at *;rcases HC.o with⟨hx0,hfn⟩|⟨hx0,hMx,hfs⟩
 ·have HFN:=Zc hfn;clear hfn;have b0:((x:Int)==0)=true:=by simp[hx0]
  clear hx0;go_wp2_with fail;refine ZC (Yu rfl _ _ _) rfl ?_;refine⟨rfl,c,?_,Stp.quiet HF1.o⟩;unfold St.cancel;rw[HFN.o];exact HR1.o
 ·have b0:((x:Int)==0)=false:=by simp;omega
  obtain⟨s,d,p,hv,hxp,htk⟩:=HH.o.2.2.mto t x hMx hx0;obtain⟨f1,f2,f3,f4,f5,f6,f7⟩:=HH.o.2.2.fits hv hxp;have hxn:=(HNE.o _ _ _ hv x hxp).1;obtain⟨f,hf⟩:=Za (od x);rw[hf] at f1 f2 f3 f4 f5 f6 f7 htk hfs;subst f1 f2 f3;have HFS:=Zc hfs;have HV:=Zc (Zd hv (Zd hxp htk));clear hv hxp htk hfs hMx;go_wp2_with fail;refine(QQ k V st.ql x od ps fl HH1.o.1 hxn).mono ?_;rintro e w1 ⟨aa,zz,rfl,hf1⟩;have r1:=hf1.out.cell p1 (λe=>e);have HF2:Hid (Fr (λ_=>False) w w1):=HF1.o.trans hf1.out (λ_ _ e=>e);have HR2:=Zc (HR1.o.quiet hf1.out);have HH2:=Zc (HH1.o.quiet hf1.out);have hgl1:w.heap.size<w1.heap.size:=ZU w1 _ r1;rw[hf];unfold ordV ordL;clear p1 p19 hf1;by_cases hle:f.qa≤n
  ·have hle2:(f.qa:Int)≤(n:Int):=by omega
   go_wp2_with fail;refine ZC (Yu rfl _ _ _) rfl ?_;refine⟨rfl,c,?_,(Stp.quiet HF2.o).trans (Stp.quiet (Fr.alloc _ _ _))⟩;unfold St.cancel;rw[HFS.o];show Rel _ b c k (if f.qa≤n then st else _);rw[Zg hle];exact HR2.o.quiet (Fr.alloc _ _ _)
  ·have hle2:¬((f.qa:Int)≤(n:Int)):=by omega
   obtain⟨m,hm⟩:=Za (f.qa-n);have wm:IntKind.u16.wrap ((f.qa:Int)-(n:Int))=(m:Int):=by rw[IntKind.wrap_u16];omega
   have HM:=Zc hm;have hmle:m≤f.qa:=by omega
   clear hm;go_wp2_with fail;have hFA:Fr (λ_=>False) w1 (w1.alloc (Obj.cells #[Value.int .i64 aa,Value.int .i64 zz,Value.int .u32 f.ref,Value.int .u32 f.qf,Value.int .u8 f.qe.toNat,Value.int .u8 f.qd,Value.int .u16 f.qc,Value.int .u16 f.qa] 108)):=Fr.alloc _ _ _;have hbf:Box (w1.alloc (Obj.cells #[Value.int .i64 aa,Value.int .i64 zz,Value.int .u32 f.ref,Value.int .u32 f.qf,Value.int .u8 f.qe.toNat,Value.int .u8 f.qd,Value.int .u16 f.qc,Value.int .u16 f.qa] 108)) w1.heap.size aa zz f:=Box.of (t:=108) (by rw[YX,Zg rfl];rfl);have hgl2:w1.heap.size<(w1.alloc (Obj.cells #[Value.int .i64 aa,Value.int .i64 zz,Value.int .u32 f.ref,Value.int .u32 f.qf,Value.int .u8 f.qe.toNat,Value.int .u8 f.qd,Value.int .u16 f.qc,Value.int .u16 f.qa] 108)).heap.size:=by rw[Xb];omega
   have r1':=hFA.cell r1 (λe=>e);generalize w1.alloc (Obj.cells #[Value.int .i64 aa,Value.int .i64 zz,Value.int .u32 f.ref,Value.int .u32 f.qf,Value.int .u8 f.qe.toNat,Value.int .u8 f.qd,Value.int .u16 f.qc,Value.int .u16 f.qa] 108)=V2 at hFA hbf hgl2 r1' ⊢;have hRV:=HR2.o.quiet hFA;have hHV:=HH2.o.quiet hFA;have HS2:Hid (Stp w b c k V2 c):=(Stp.quiet HF2.o).trans (Stp.quiet hFA);have n0:¬GB b c k w.heap.size:=λe=>by have:=hgb _ e;omega
   have n1:¬GB b c k w1.heap.size:=λe=>by have:=hgb _ e;have:=HF2.o.size;omega
   refine(UG b c st.ans f.qf m 85 V2 hRV.B hRV.tm.1 hRV.tm.2 hRV.A hRV.dist.ab (by omega) f7 (by omega)).mono ?_;rintro e w3 ⟨rfl,ht3⟩;obtain⟨c3,hR3,hS3,hp3,-⟩:=hRV.tellA (l:=st.head 88++enc t 4++enc m 2++[85]) ht3 (by rw[hRV.time,HV.o.2.2];unfold St.head;simp)
   have hH3:=hHV.tellA (l:=st.head 88++enc t 4++enc m 2++[85]) (c':=c3) hRV.dist ht3 hp3;have v1:=hS3.fr.cell r1' n0;have v2:=hS3.fr.cell hbf.c2 n1;have HR3:Hid (Rel w3 b c3 k (st.cancelled t m 85)):=hR3;have HH3:Hid (Holds w3 c3 k (st.cancelled t m 85) M od ps fl):=hH3;have HS3:Hid (Stp w b c k w3 c3):=HS2.o.trans hS3;clear hR3 hH3 hS3 ht3 hRV hHV hbf r1' r1 hFA;by_cases hn0:n=0
   ·have b1:((n:Int)==0)=true:=by simp[hn0]
    have HN0:Hid (n=0):=hn0;go_wp2_with fail;refine(Qv b c3 st.tape f.ref w3 HR3.o.B HR3.o.tm.1 HR3.o.tm.2 HR3.o.T HR3.o.dist.tb (by omega) f6).mono ?_;rintro e w4 ⟨rfl,ht4⟩;obtain⟨c4,hR4,hS4,hp4,-⟩:=HR3.o.tellT (l:=(st.cancelled t m 85).head 100++enc f.ref 4) ht4 (by rw[HR3.o.time];have e9:(st.cancelled t m 85).tape=st.tape:=rfl;rw[e9];unfold St.head;simp)
    have hH4:=HH3.o.tellT (l:=(st.cancelled t m 85).head 100++enc f.ref 4) (c':=c4) HR3.o.dist ht4 hp4;have HR4:=Zc hR4;have HH4:=Zc hH4;have HS4:Hid (Stp w b c k w4 c4):=HS3.o.trans hS4;clear hR4 hH4 hS4 ht4 v1 v2;go_wp2_with fail;refine(VT b c4 k _ M od ps fl x m f w4 HR4.o HH4.o hf HV.o.1 HV.o.2.1 hmle).mono ?_;rintro e w5 ⟨rfl,c5,hR5,hS5⟩;have HR5:=Zc hR5;have HS5:Hid (Stp w b c k w5 c5):=HS4.o.trans hS5;clear hR5 hS5;go_wp2_with fail;go_end0
    refine⟨rfl,c5,?_,HS5.o⟩;have e:st.cancel t n=((st.cancelled t m 85).put ((st.cancelled t m 85).head 100++enc f.ref 4)).upd f.qd f.qe f.qc (redO f.qf m):=by unfold St.cancel;rw[HFS.o];show(if f.qa≤n then st else _)=_;rw[Zj hle];simp only;rw[HM.o,HV.o.2.2,Zg HN0.o]
    rw[e];exact HR5.o
   ·have b1:((n:Int)==0)=false:=by simp;omega
    have HN0:Hid (n≠0):=hn0;go_wp2_with fail;refine(Zam b c3 st.tape f.ref m w3 HR3.o.B HR3.o.tm.1 HR3.o.tm.2 HR3.o.T HR3.o.dist.tb (by omega) f6 (by omega)).mono ?_;rintro e w4 ⟨rfl,ht4⟩;obtain⟨c4,hR4,hS4,hp4,-⟩:=HR3.o.tellT (l:=(st.cancelled t m 85).head 120++enc f.ref 4++enc m 2) ht4 (by rw[HR3.o.time];have e9:(st.cancelled t m 85).tape=st.tape:=rfl;rw[e9];unfold St.head;simp)
    have hH4:=HH3.o.tellT (l:=(st.cancelled t m 85).head 120++enc f.ref 4++enc m 2) (c':=c4) HR3.o.dist ht4 hp4;have HR4:=Zc hR4;have HH4:=Zc hH4;have HS4:Hid (Stp w b c k w4 c4):=HS3.o.trans hS4;clear hR4 hH4 hS4 ht4 v1 v2;go_wp2_with fail;refine(VT b c4 k _ M od ps fl x m f w4 HR4.o HH4.o hf HV.o.1 HV.o.2.1 hmle).mono ?_;rintro e w5 ⟨rfl,c5,hR5,hS5⟩;have HR5:=Zc hR5;have HS5:Hid (Stp w b c k w5 c5):=HS4.o.trans hS5;clear hR5 hS5;go_wp2_with fail;go_end0
    refine⟨rfl,c5,?_,HS5.o⟩;have e:st.cancel t n=((st.cancelled t m 85).put ((st.cancelled t m 85).head 120++enc f.ref 4++enc m 2)).upd f.qd f.qe f.qc (redO f.qf m):=by unfold St.cancel;rw[HFS.o];show(if f.qa≤n then st else _)=_;rw[Zj hle];simp only;rw[HM.o,HV.o.2.2,Zj HN0.o]
    rw[e];exact HR5.o
def XW (t n qc qa:Nat):Value:=.agg #[.int .u32 t,.int .u32 n,.int .u16 qc,.int .u16 qa]
theorem Za5 (b:Nat)(c:BC)(k:SK)(st:St)(t n qc qa:Nat)(w:World)(h:Rel w b c k st)(ht:n<4294967296)(_hp:qc<65536)(_hs:qa<65536)(h1:n∈st.used):
  Calls prog 115 #[.pointer (some ⟨b,0,none⟩),XW t n qc qa] w λe w'=>e=.returned (.tuple #[.int .u8 68,.bool true])∧Hid (Fr (λ_=>False) w w'):=by
 have HR:=Zc h;clear h;have HU:Hid (decide (n∈st.used)=true):=by show _=_;simp[h1]
 unfold XW;go_enter func115,ntmps115;go_wp2_with fail;generalize hOb:Obj.cells _ 161=Ob;have hF:Fr (λ_=>False) w (w.alloc Ob):=Fr.alloc _ w Ob;have cc:∀i v,(#[Value.int .u32 t,.int .u32 n,.int .u16 qc,.int .u16 qa]:Array Value)[i]?=some v→(w.alloc Ob).cell? ⟨w.heap.size,i,none⟩=some v:=by intro i v hv;rw[Zk _ w.heap.size i _ 161 (0,0) (by rw[YX,Zg rfl,←hOb])];exact hv
 generalize w.alloc Ob=W at hF cc ⊢;have q0:=cc 0 _ rfl;have q1:=cc 1 _ rfl;have q2:=cc 2 _ rfl;have q3:=cc 3 _ rfl;have HRW:Hid (Rel W b c k st):=HR.o.quiet hF;have HF:=Zc hF;clear hF cc hOb;refine(TG b c k st n W HRW.o ht).mono (Zb ?_);rw[HU.o];go_wp2_with fail;go_ret2
 exact⟨rfl,HF.o⟩
theorem Za9 (b:Nat)(c:BC)(k:SK)(st:St)(t n qc qa:Nat)(w:World)(h:Rel w b c k st)(ht:n<4294967296)(hp:qc<65536)(_hs:qa<65536)(h1:n∉st.used)(h4:¬(1≤qc∧qc≤st.qj)):
  Calls prog 115 #[.pointer (some ⟨b,0,none⟩),XW t n qc qa] w λe w'=>e=.returned (.tuple #[.int .u8 80,.bool true])∧Hid (Fr (λ_=>False) w w'):=by
 have HR:=Zc h;clear h;have HU:Hid (decide (n∈st.used)=false):=by show _=_;simp[h1]
 have HP:Hid (decide (1≤qc∧qc≤st.qj)=false):=by show _=_;simp only[h4,decide_false]
 unfold XW;go_enter func115,ntmps115;go_wp2_with fail;generalize hOb:Obj.cells _ 161=Ob;have hF:Fr (λ_=>False) w (w.alloc Ob):=Fr.alloc _ w Ob;have cc:∀i v,(#[Value.int .u32 t,.int .u32 n,.int .u16 qc,.int .u16 qa]:Array Value)[i]?=some v→(w.alloc Ob).cell? ⟨w.heap.size,i,none⟩=some v:=by intro i v hv;rw[Zk _ w.heap.size i _ 161 (0,0) (by rw[YX,Zg rfl,←hOb])];exact hv
 generalize w.alloc Ob=W at hF cc ⊢;have q0:=cc 0 _ rfl;have q1:=cc 1 _ rfl;have q2:=cc 2 _ rfl;have q3:=cc 3 _ rfl;have HRW:Hid (Rel W b c k st):=HR.o.quiet hF;have HF:=Zc hF;clear hF cc hOb;refine(TG b c k st n W HRW.o ht).mono (Zb ?_);rw[HU.o];go_wp2_with (first
  | (go_at_call 142;refine(Ua b c k st qc W HRW.o hp _ HP.o).mono (Zb ?_))
  | (go_at_call 143;refine(Vq qa W hs _ rfl).mono (Zb ?_)))
 go_ret2
 exact⟨rfl,HF.o⟩
theorem Zbb (b:Nat)(c:BC)(k:SK)(st:St)(t n qc qa:Nat)(w:World)(h:Rel w b c k st)(ht:n<4294967296)(hp:qc<65536)(hs:qa<65536)(h1:n∉st.used)(h4:1≤qc∧qc≤st.qj)(h5:¬(1≤qa∧qa≤9999)):
  Calls prog 115 #[.pointer (some ⟨b,0,none⟩),XW t n qc qa] w λe w'=>e=.returned (.tuple #[.int .u8 81,.bool true])∧Hid (Fr (λ_=>False) w w'):=by
 have HR:=Zc h;clear h;have HU:Hid (decide (n∈st.used)=false):=by show _=_;simp[h1]
 have HP:Hid (decide (1≤qc∧qc≤st.qj)=true):=by show _=_;simp only[h4,and_self,decide_true]
 have HS:Hid (decide (1≤qa∧qa≤9999)=false):=by show _=_;simp only[h5,decide_false]
 unfold XW;go_enter func115,ntmps115;go_wp2_with fail;generalize hOb:Obj.cells _ 161=Ob;have hF:Fr (λ_=>False) w (w.alloc Ob):=Fr.alloc _ w Ob;have cc:∀i v,(#[Value.int .u32 t,.int .u32 n,.int .u16 qc,.int .u16 qa]:Array Value)[i]?=some v→(w.alloc Ob).cell? ⟨w.heap.size,i,none⟩=some v:=by intro i v hv;rw[Zk _ w.heap.size i _ 161 (0,0) (by rw[YX,Zg rfl,←hOb])];exact hv
 generalize w.alloc Ob=W at hF cc ⊢;have q0:=cc 0 _ rfl;have q1:=cc 1 _ rfl;have q2:=cc 2 _ rfl;have q3:=cc 3 _ rfl;have HRW:Hid (Rel W b c k st):=HR.o.quiet hF;have HF:=Zc hF;clear hF cc hOb;refine(TG b c k st n W HRW.o ht).mono (Zb ?_);rw[HU.o];go_wp2_with (first
  | (go_at_call 142;refine(Ua b c k st qc W HRW.o hp _ HP.o).mono (Zb ?_))
  | (go_at_call 143;refine(Vq qa W hs _ HS.o).mono (Zb ?_)))
 go_ret2
 exact⟨rfl,HF.o⟩
theorem Zba (b:Nat)(c:BC)(k:SK)(st:St)(t n qc qa:Nat)(w:World)(h:Rel w b c k st)(ht:n<4294967296)(hp:qc<65536)(hs:qa<65536)(h1:n∉st.used)(h4:1≤qc∧qc≤st.qj)(h5:1≤qa∧qa≤9999):
  Calls prog 115 #[.pointer (some ⟨b,0,none⟩),XW t n qc qa] w λe w'=>e=.returned (.tuple #[.int .u8 0,.bool false])∧Hid (Fr (λ_=>False) w w'):=by
 have HR:=Zc h;clear h;have HU:Hid (decide (n∈st.used)=false):=by show _=_;simp[h1]
 have HP:Hid (decide (1≤qc∧qc≤st.qj)=true):=by show _=_;simp only[h4,and_self,decide_true]
 have HS:Hid (decide (1≤qa∧qa≤9999)=true):=by show _=_;simp only[h5,and_self,decide_true]
 unfold XW;go_enter func115,ntmps115;go_wp2_with fail;generalize hOb:Obj.cells _ 161=Ob;have hF:Fr (λ_=>False) w (w.alloc Ob):=Fr.alloc _ w Ob;have cc:∀i v,(#[Value.int .u32 t,.int .u32 n,.int .u16 qc,.int .u16 qa]:Array Value)[i]?=some v→(w.alloc Ob).cell? ⟨w.heap.size,i,none⟩=some v:=by intro i v hv;rw[Zk _ w.heap.size i _ 161 (0,0) (by rw[YX,Zg rfl,←hOb])];exact hv
 generalize w.alloc Ob=W at hF cc ⊢;have q0:=cc 0 _ rfl;have q1:=cc 1 _ rfl;have q2:=cc 2 _ rfl;have q3:=cc 3 _ rfl;have HRW:Hid (Rel W b c k st):=HR.o.quiet hF;have HF:=Zc hF;clear hF cc hOb;refine(TG b c k st n W HRW.o ht).mono (Zb ?_);rw[HU.o];go_wp2_with (first
  | (go_at_call 142;refine(Ua b c k st qc W HRW.o hp _ HP.o).mono (Zb ?_))
  | (go_at_call 143;refine(Vq qa W hs _ HS.o).mono (Zb ?_)))
 go_ret2
 exact⟨rfl,HF.o⟩
theorem QS (b:Nat)(c:BC)(k:SK)(st:St)(t n qc qa:Nat)(w:World)(h:Rel w b c k st)(ht:n<4294967296)(hp:qc<65536)(hs:qa<65536):
  Calls prog 115 #[.pointer (some ⟨b,0,none⟩),XW t n qc qa] w λe w'=>e=.returned (whyV (st.whyR n qc qa))∧Hid (Fr (λ_=>False) w w'):=by
 unfold St.whyR;by_cases h1:n∈st.used
 ·rw[Zg h1];exact Za5 b c k st t n qc qa w h ht hp hs h1
 rw[Zj h1];by_cases h4:1≤qc∧qc≤st.qj
 ·rw[Zj (by omega)];by_cases h5:1≤qa∧qa≤9999
  ·rw[Zj (by omega)];exact Zba b c k st t n qc qa w h ht hp hs h1 h4 h5
  ·rw[Zg (by omega)];exact Zbb b c k st t n qc qa w h ht hp hs h1 h4 h5
 ·rw[Zg (by omega)];exact Za9 b c k st t n qc qa w h ht hp hs h1 h4
theorem Zki {n qc qa:Nat}(h:st.whyR n qc qa=none):n∉st.used∧1≤qc∧qc≤st.qj∧1≤qa∧qa≤9999:=by
 unfold St.whyR at h;split at h
 ·cases h
 split at h
 ·cases h
 split at h
 ·cases h
 rename_i h1 h2 h3;exact⟨h1,by omega,by omega,by omega,by omega⟩
end
end Go.Proofs.YtphkchjejbffeaaGreat
