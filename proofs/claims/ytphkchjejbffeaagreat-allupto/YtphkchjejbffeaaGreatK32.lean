/- XC, XD, XE, XF, XG, Args, Args2, Args3, F9 -/
import Derived.Test.YtphkchjejbffeaaGreatK31
import Derived.Test.YtphkchjejbffeaaGreatRows
import Derived.ProofKit
import Derived.OpenShut
import Derived.ShutString
import Derived.ChangeOld
import Derived.Below
import Derived.SizedLaws
import Derived.Deep.Slices
import Derived.JoinedCond
import Derived.ChangeMaps
set_option maxHeartbeats 16000000
set_option maxRecDepth 100000
namespace Go.Proofs.YtphkchjejbffeaaGreat
open Go.Proofs.Tryz
open Go.RowKit
variable {held:Bool}{last:Int}{L:List Opr}{ts:List Tn}{j k n q wb:Nat}{sp:Nat→Bool}{o:Opr}{H:Type}{v:Value}{x x0:Vw}{W w wr:World}
section
open Go.RowKit
theorem LW.setE (h:LW w wb x ts){E':Nat→Prop}{ob':Nat→Option Obj}(hE:∀k,E' k→w.heap[k]?=ob' k∧k<w.heap.size)(hv:∀k,E' k→¬VS wb x k)(ht:∀t∈ts,∀k,TnS t k→¬E' k):LW w wb {x with E:=E',ob:=ob'} ts:=by
 have h1:VC w (LU {x with E:=E',ob:=ob'} ts) wb x:=h.vc.sub (by
  rintro k hk (e|e)
  ·exact h.vc.nU k hk (.inl e)
  ·exact hv k e hk)
 exact⟨⟨h1.blk,h1.ral,h1.rin,h1.rby,h1.rbm,h1.ror,h1.rom,h1.ful,h1.exo,h1.inb,h1.bob,h1.ink,h1.nib,h1.nuc,h1.nU⟩,h.tsx,h.tn,h.dj,h.ex,hE,ht,h.io⟩
theorem QZ {g:Nat}{f:Nat}(h:∀t u,o.cells[t]?=some u→W.cell? ⟨g,f+t,none⟩=some u):W.cell? ⟨g,f,none⟩=some (.int .i64 o.kind)∧W.cell? ⟨g,f+1,none⟩=some (.int .i64 o.on)∧W.cell? ⟨g,f+2,none⟩=some (.int .i64 o.a)∧W.cell? ⟨g,f+3,none⟩=some (.int .i64 o.b)∧W.cell? ⟨g,f+4,none⟩=some (.int .i64 o.c)∧W.cell? ⟨g,f+5,none⟩=some (.string ⟨o.s.toArray⟩):=
 ⟨h 0 _ rfl,h 1 _ rfl,h 2 _ rfl,h 3 _ rfl,h 4 _ rfl,h 5 _ rfl⟩
def km1 :List UInt8:=[69,0,0,0,7,83,0,0,5,0,100,68]
def km2 :List UInt8:=[69,0,0,0,8,66,0,0,6,0,30,73]
def km3 :List UInt8:=[82,0,0,0,7,0,0,0,9,0,4,0,50]
def kl :List Opr:=[⟨1,0,1,10,4,[]⟩,⟨2,0,0,0,0,km1⟩,⟨2,0,0,0,0,km2⟩,⟨4,0,0,0,0,[]⟩,⟨5,0,0,0,0,[]⟩,⟨8,0,0,0,0,km3⟩]
def kst (last:Int):Nat→List St
 | 0=>[]
 | 1=>[opened 1 10 4]
 | 2=>[(opened 1 10 4).feed km1]
 | 3=>[((opened 1 10 4).feed km1).feed km2]
 | 4=>[(((opened 1 10 4).feed km1).feed km2).told]
 | 5=>[(((opened 1 10 4).feed km1).feed km2).told.taped]
 | _=>[if last=9 then ((((opened 1 10 4).feed km1).feed km2).told.taped).feed km3 else (((opened 1 10 4).feed km1).feed km2).told.taped]
theorem kst_end (last:Int):∃s,kst last 6=[s]∧s.opn=true∧s.ql=1:=by
 refine⟨_,rfl,?_,?_⟩
 ·split<;>decide +kernel
 ·split<;>decide +kernel
structure KS (x0:Vw)(wb:Nat)(last:Int)(j:Nat)(W:World)(x:Vw)(ts:List Tn):Prop where
 lw:LW W wb x ts
 vz:Vz x0 x (2*j)
 fs:∀t∈ts,t.F≤20*j
 st:ts.map (·.st)=kst last j
theorem KS.one (h:KS x0 wb last j W x ts){s:St}(hs:kst last j=[s]):∃t,ts=[t]∧t.st=s:=by
 have h1:=h.st;rw[hs] at h1
 match ts,h1 with
 | [t],h1=>exact⟨t,rfl,by simpa using h1⟩
theorem KS.turn (h:KS x0 wb last j W x ts)(hok:Ok x)(hj:j≤6){s s':St}(hs:kst last j=[s])(hs':kst last (j+1)=[s'])(o:Opr)(ho:OpOk o)(hon:o.on=0)(hk:¬o.kind=1∧¬o.kind=9)(hl:o.s.length≤20)(hst:∀t t':Tn,t.st=s→(o.kind=2∨o.kind=8→t'.st=t.st.feed o.s)→(o.kind=4→t'.st=t.st.told)→(o.kind=5→t'.st=t.st.taped)→t'.st=s'):
  Calls prog 12 #[.pointer (some ⟨wb,0,none⟩),.agg o.cells.toArray] W λe w'=>e=.returned (.bool true)∧∃x' ts',KS x0 wb last (j+1) w' x' ts':=by
 obtain⟨t,rfl,hts⟩:=h.one hs;have hF:=h.fs t (by simp);have hlw:LW W wb x ([]++t::[]):=h.lw;refine(Zcf hlw hok (by simp) o ho (by rw[hon];rfl) hk.1 (by omega) (λe=>absurd e hk.2)).mono ?_;rintro e w' ⟨rfl,x',t',a1,a2,a3,a4,a5,a6⟩;refine⟨rfl,x',[t'],a1,(h.vz.trans a2).mono (by omega),λu hu => ?_,?_⟩
 ·simp at hu;rw[hu];omega
 ·rw[hs'];simp only[ZV,List.map_nil];rw[hst t t' hts a4 a5 a6]
theorem KS.step (h:KS x0 wb last j W x ts)(hok0:x0.nn≤1000∧x0.ins.length≤1000∧x0.bys.length≤1000∧x0.ords.length≤1000)(hl:last=7∨last=9)(ho:kl[j]?=some o):
  (o.kind≤last→Calls prog 12 #[.pointer (some ⟨wb,0,none⟩),.agg o.cells.toArray] W λe w'=>e=.returned (.bool true)∧∃x' ts',KS x0 wb last (j+1) w' x' ts')∧(¬o.kind≤last→KS x0 wb last (j+1) W x ts):=by
 have hj:j<6:=(Zl.1 ho).1;have hok:Ok x:=by have h1:=h.vz.nn;have h2:=h.vz.ins;have h3:=h.vz.bys;have h4:=h.vz.ords;exact⟨by omega,by omega,by omega,by omega⟩
 have hc:j=0∨j=1∨j=2∨j=3∨j=4∨j=5:=by omega
 rcases hc with rfl|rfl|rfl|rfl|rfl|rfl
 ·obtain rfl:=Zv ho;refine⟨λ_ => ?_,λe=>absurd (show(1:Int)≤last by omega) e⟩;have hts:ts=[]:=by have:=h.st;simpa[kst] using this
  subst hts;refine(Zdt h.lw (by simp) (M:=0) (λt ht=>by cases ht) _ rfl).mono ?_;rintro e w' ⟨rfl,-,hp⟩;obtain⟨x',ts',t,a1,a2,a3,a4,a5⟩:=hp 1 10 4 rfl rfl rfl (by omega) (by omega) (by omega) (by omega) (by omega) (by omega);refine⟨rfl,x',ts',a1,(h.vz.trans a2).mono (by omega),λu hu => ?_,?_⟩
  ·have:=a4 u hu;omega
  ·rw[a3];simp[kst,a5]
 ·obtain rfl:=Zv ho;exact⟨λ_=>h.turn hok (by omega) rfl rfl _ ⟨by decide,by decide,by decide,by decide,by decide,by decide⟩ rfl (by decide) (by decide) (λt t' e a _ _=>by rw[a (.inl rfl),e]),λe=>absurd (show(2:Int)≤last by omega) e⟩
 ·obtain rfl:=Zv ho;exact⟨λ_=>h.turn hok (by omega) rfl rfl _ ⟨by decide,by decide,by decide,by decide,by decide,by decide⟩ rfl (by decide) (by decide) (λt t' e a _ _=>by rw[a (.inl rfl),e]),λe=>absurd (show(2:Int)≤last by omega) e⟩
 ·obtain rfl:=Zv ho;exact⟨λ_=>h.turn hok (by omega) rfl rfl _ ⟨by decide,by decide,by decide,by decide,by decide,by decide⟩ rfl (by decide) (by decide) (λt t' e _ a _=>by rw[a rfl,e]),λe=>absurd (show(4:Int)≤last by omega) e⟩
 ·obtain rfl:=Zv ho;exact⟨λ_=>h.turn hok (by omega) rfl rfl _ ⟨by decide,by decide,by decide,by decide,by decide,by decide⟩ rfl (by decide) (by decide) (λt t' e _ _ a=>by rw[a rfl,e]),λe=>absurd (show(5:Int)≤last by omega) e⟩
 ·obtain rfl:=Zv ho;rcases hl with rfl|rfl
  ·exact⟨λe=>absurd e (by show ¬(8:Int)≤7;decide),λ_=>⟨h.lw,h.vz.mono (by omega),λt ht=>by have:=h.fs t ht;omega,h.st⟩⟩
  ·exact⟨λ_=>h.turn hok (by omega) rfl rfl _ ⟨by decide,by decide,by decide,by decide,by decide,by decide⟩ rfl (by decide) (by decide) (λt t' e a _ _=>by rw[a (.inr rfl),e];rfl),λe=>absurd (show(8:Int)≤9 by decide) e⟩
end
section
open Go.RowKit
attribute [local go_sem ↓] Go.wp_at_zero Go.wp_at_succ
def kcells :Array Value:=#[.int .i64 1,.int .i64 0,.int .i64 1,.int .i64 10,.int .i64 4,.string ⟨#[]⟩,.int .i64 2,.int .i64 0,.int .i64 0,.int .i64 0,.int .i64 0,.string ⟨#[69,0,0,0,7,83,0,0,5,0,100,68]⟩,.int .i64 2,.int .i64 0,.int .i64 0,.int .i64 0,.int .i64 0,.string ⟨#[69,0,0,0,8,66,0,0,6,0,30,73]⟩,.int .i64 4,.int .i64 0,.int .i64 0,.int .i64 0,.int .i64 0,.string ⟨#[]⟩,.int .i64 5,.int .i64 0,.int .i64 0,.int .i64 0,.int .i64 0,.string ⟨#[]⟩,.int .i64 8,.int .i64 0,.int .i64 0,.int .i64 0,.int .i64 0,.string ⟨#[82,0,0,0,7,0,0,0,9,0,4,0,50]⟩]
theorem Zke (k:Nat)(o:Opr)(ho:kl[k]?=some o)(t:Nat)(u:Value)(hu:o.cells[t]?=some u):kcells[k*6+t]?=some u:=by
 have hk:k<6:=(Zl.1 ho).1;have hc:k=0∨k=1∨k=2∨k=3∨k=4∨k=5:=by omega
 have ht:t<6:=(Zl.1 hu).1;have hd:t=0∨t=1∨t=2∨t=3∨t=4∨t=5:=by omega
 rcases hc with rfl|rfl|rfl|rfl|rfl|rfl;all_goals
  obtain rfl:=Zv ho;rcases hd with rfl|rfl|rfl|rfl|rfl|rfl;all_goals exact hu
theorem Zj4 (h:LW w wb x [])(hok:x.nn≤1000∧x.ins.length≤1000∧x.bys.length≤1000∧x.ords.length≤1000)(last:Int)(hl:last=7∨last=9):
  Calls prog 11 #[.pointer (some ⟨wb,0,none⟩),.int .i64 last] w λe w'=>e=.returned (.bool true)∧∃x' t,LW w' wb x' [t]∧Vz x x' 12∧t.F≤120:=by
 obtain⟨W0,hW0⟩:=Za (w.alloc (.cells #[.int .i64 1,.int .i64 0,.int .i64 1,.int .i64 10,.int .i64 4,.string ⟨#[]⟩,.int .i64 2,.int .i64 0,.int .i64 0,.int .i64 0,.int .i64 0,.string ⟨#[69,0,0,0,7,83,0,0,5,0,100,68]⟩,.int .i64 2,.int .i64 0,.int .i64 0,.int .i64 0,.int .i64 0,.string ⟨#[69,0,0,0,8,66,0,0,6,0,30,73]⟩,.int .i64 4,.int .i64 0,.int .i64 0,.int .i64 0,.int .i64 0,.string ⟨#[]⟩,.int .i64 5,.int .i64 0,.int .i64 0,.int .i64 0,.int .i64 0,.string ⟨#[]⟩,.int .i64 8,.int .i64 0,.int .i64 0,.int .i64 0,.int .i64 0,.string ⟨#[82,0,0,0,7,0,0,0,9,0,4,0,50]⟩] 43));obtain⟨lb,hlb⟩:=Za (w.heap.size);have hB0:Below w.heap.size w W0:=by rw[←hW0];exact(Zm _ w).alloc (Zh _) _
 have hxb:W0.heap[lb]?=some (.cells kcells 43):=by rw[←hW0,YX,Zg hlb.symm];rfl
 have hbl:lb<W0.heap.size:=(Ze.1 hxb).1;have h0:=h.below hB0;obtain⟨x1,hx1⟩:∃x1:Vw,x1={x with E:=λk=>x.E k∨k=lb,ob:=λk=>W0.heap[k]?}:=⟨_,rfl⟩;have h1:LW W0 wb x1 []:=by
  rw[hx1];refine h0.setE (λk e=>⟨rfl,e.elim (λe=>(h0.ek k e).2) (λe=>by omega)⟩) ?_ (λt ht=>by cases ht);rintro k (e|e) hv
  ·exact h0.vc.nU k hv (.inr e)
  ·have:=h.vc.lt k hv;omega
 have hok1:x1.nn≤1000∧x1.ins.length≤1000∧x1.bys.length≤1000∧x1.ords.length≤1000:=by rw[hx1];exact hok
 have HK0:Hid (KS x1 wb last 0 W0 x1 []):=⟨h1,Vz.refl _ _,(λt ht=>by cases ht),rfl⟩;have HX1:=Zc (Zd hx1 (Zd hok1 (Zd hl (Zd hxb h0))));clear h hok hB0 hxb h0 hx1 h1 hok1;go_enter func11,ntmps11;go_wp2_with fail;clear hW0;go_loopw [6] (λi wr=>∃k:Nat,k≤6∧i=.int .i64 k∧Hid (∃x' ts',KS x1 wb last k wr x' ts')) (λi _=>6-(intOf i).toNat)
 case atStart=>exact⟨0,by omega,rfl,x1,[],HK0.o⟩
 case round=>
  obtain⟨k,hk,rfl,HKS⟩:=hrel;obtain⟨x',ts',hks⟩:=HKS.o;clear HKS HK0;by_cases hkl:k<6
  ·obtain⟨o,ho⟩:∃o,kl[k]?=some o:=⟨_,Zp hkl⟩;have hE:x1.E lb:=by rw[HX1.o.1];exact .inr rfl
   have hblk:wr.heap[lb]?=some (.cells kcells 43):=by have:=(hks.lw.ek lb (by rw[hks.vz.E];exact hE)).1;rw[hks.vz.ob,HX1.o.1] at this;exact this.trans HX1.o.2.2.2.1
   obtain⟨b0,b1,b2,b3,b4,b5⟩:=QZ (W:=wr) (g:=lb) (f:=k*6) (o:=o) (λt u hu=>by rw[Zk wr lb (k*6+t) _ _ (0,0) hblk];exact Zke k o ho t u hu);have hst:=hks.step HX1.o.2.1 HX1.o.2.2.1 ho;obtain⟨kd,on,a,b,c,s⟩:=o;simp only at b0 b1 b2 b3 b4 b5 hst;have i3:(0:Int)≤(k:Int):=by omega
   have i4:(k:Int)<6:=by omega
   by_cases hle:kd≤last
   ·have HP:=Zc (hst.1 hle);clear hst hblk hE ho hks hl;go_wp2_with fail;refine HP.o.mono ?_;rintro e w' ⟨rfl,HK2⟩;have HK2:=Zc HK2;clear HP b0 b1 b2 b3 b4 b5;go_wp2_with fail;exact⟨⟨k+1,by omega,by go_num,HK2.o⟩,by simp[intOf];omega⟩
   ·have HP:=Zc (hst.2 hle);clear hst hblk hE ho hks hl;go_wp2_with fail;exact⟨⟨k+1,by omega,by go_num,_,_,HP.o⟩,by simp[intOf];omega⟩
  ·obtain rfl:k=6:=by omega
   obtain⟨s,hs6,hop,hre⟩:=kst_end last;obtain⟨t,rfl,hts⟩:=hks.one hs6;have hlw:LW wr wb x' ([]++t::[]):=hks.lw;obtain⟨gi,ci,hvi,hgi,-⟩:=hlw.pt;obtain⟨c0,-,-,-,-,-,-,-,-⟩:=hlw.vc.cells;rw[hvi] at c0;have c0:wr.cell? ⟨wb,0,none⟩=some (.slice (some ⟨gi,0,none⟩) 1 ci):=c0;have hgi:wr.cell? ⟨gi,0,none⟩=some (.pointer (some ⟨t.tb,0,none⟩)):=hgi;have htn:=hlw.tn t (by simp);obtain⟨d0,-,-,-⟩:=htn.cells;have HLK:=Zc (the_api.look t.bx t.G t.st wr htn.at_);unfold Uy at HLK;rw[hts,hop,hre] at HLK;generalize s.time=tm at *;generalize s.part.length=pl at *;have HKS:=Zc hks;clear hks hlw htn hvi hop hre hts hs6 hl;go_wp2_with fail;refine HLK.o.mono ?_;rintro e W1 ⟨rfl,hB1⟩;obtain⟨W2,hW2⟩:=Za (W1.alloc (.cells #[.int .i64 0,.int .i64 0,.bool false,.int .i64 0] 70));obtain⟨g,hg⟩:=Za (W1.heap.size);have hB2:Below W1.heap.size W1 W2:=by rw[←hW2];exact(Zm _ _).alloc (Zh _) _
   have hgx:W2.heap[g]?=some (.cells #[.int .i64 0,.int .i64 0,.bool false,.int .i64 0] 70):=by rw[←hW2,YX,Zg hg.symm]
   have z0:W2.cell? ⟨g,0,none⟩=some (.int .i64 0):=Zk W2 g 0 _ _ (0,0) hgx;have z1:W2.cell? ⟨g,1,none⟩=some (.int .i64 0):=Zk W2 g 1 _ _ (0,0) hgx;have z2:W2.cell? ⟨g,2,none⟩=some (.bool false):=Zk W2 g 2 _ _ (0,0) hgx;have z3:W2.cell? ⟨g,3,none⟩=some (.int .i64 0):=Zk W2 g 3 _ _ (0,0) hgx;have y0:W2.frozen? ⟨g,0,none⟩=false:=by simp[World.frozen?,hgx]
   have y1:W2.frozen? ⟨g,1,none⟩=false:=by simp[World.frozen?,hgx]
   have y2:W2.frozen? ⟨g,2,none⟩=false:=by simp[World.frozen?,hgx]
   have y3:W2.frozen? ⟨g,3,none⟩=false:=by simp[World.frozen?,hgx]
   have hX:((((W2.setCell ⟨g,0,none⟩ (.int .i64 (tm:Nat))).setCell ⟨g,1,none⟩ (.int .i64 1)).setCell ⟨g,2,none⟩ (.bool true)).setCell ⟨g,3,none⟩ (.int .i64 (pl:Nat))).heap[g]?=some (.cells #[.int .i64 (tm:Nat),.int .i64 1,.bool true,.int .i64 (pl:Nat)] 70):=by rw[Zi _ g 3 _ _ _ (Zi _ g 2 _ _ _ (Zi _ g 1 _ _ _ (Zi _ g 0 _ _ _ hgx)))];rfl
   have hFX:Fr (λk=>k=g) W2 ((((W2.setCell ⟨g,0,none⟩ (.int .i64 (tm:Nat))).setCell ⟨g,1,none⟩ (.int .i64 1)).setCell ⟨g,2,none⟩ (.bool true)).setCell ⟨g,3,none⟩ (.int .i64 (pl:Nat))):=(((Fr.setCell W2 ⟨g,0,none⟩ _).trans (Fr.setCell _ ⟨g,1,none⟩ _) (λ_ _ e=>e)).trans (Fr.setCell _ ⟨g,2,none⟩ _) (λ_ _ e=>e)).trans (Fr.setCell _ ⟨g,3,none⟩ _) (λ_ _ e=>e);have hs01:=hB1.size;have hBX:Below wr.heap.size wr ((((W2.setCell ⟨g,0,none⟩ (.int .i64 (tm:Nat))).setCell ⟨g,1,none⟩ (.int .i64 1)).setCell ⟨g,2,none⟩ (.bool true)).setCell ⟨g,3,none⟩ (.int .i64 (pl:Nat))):=(hB1.trans (hB2.mono hB1.size)).trans (hFX.below (Zw hB1.size hB2.size) (λk e=>by have e:k=g:=e;omega));have HX:=Zc (Zd hX hBX);clear hB1 hB2 hgx hX hFX hBX hs01 c0 hgi d0 HLK;go_upto_region 12 with(fail)
   clear z0 z1 z2 z3 y0 y1 y2 y3 hW2;generalize (((W2.setCell ⟨g,0,none⟩ (.int .i64 (tm:Nat))).setCell ⟨g,1,none⟩ (.int .i64 1)).setCell ⟨g,2,none⟩ (.bool true)).setCell ⟨g,3,none⟩ (.int .i64 (pl:Nat))=W3 at *;have u1:W3.cell? ⟨g,1,none⟩=some (.int .i64 1):=Zk W3 g 1 _ _ (0,0) HX.o.1;have u2:W3.cell? ⟨g,2,none⟩=some (.bool true):=Zk W3 g 2 _ _ (0,0) HX.o.1;go_wp2_with fail;go_ret;have hlw3:=HKS.o.lw.below HX.o.2;refine⟨rfl,{x' with E:=x.E,ob:=x.ob},t,?_,?_,HKS.o.fs t (by simp)⟩
   ·refine hlw3.setE (λk e => ?_) (λk e => ?_) (λu hu k e he => ?_)
    ·have h1:=hlw3.ek k (by rw[HKS.o.vz.E,HX1.o.1];exact .inl e);rw[HKS.o.vz.ob,HX1.o.1] at h1;exact⟨h1.1.trans (HX1.o.2.2.2.2.ek k e).1,h1.2⟩
    ·exact λhv=>hlw3.vc.nU k hv (.inr (by rw[HKS.o.vz.E,HX1.o.1];exact .inl e))
    ·exact hlw3.en u hu k e (by rw[HKS.o.vz.E,HX1.o.1];exact .inl he)
   ·have hz:=HKS.o.vz;rw[HX1.o.1] at hz;exact⟨hz.nn,hz.ins,hz.bys,hz.ords,rfl,rfl,hz.w0⟩
end
section
open Go.RowKit
def Zaz (w:World)(v:Value)(L:List Opr):Prop:=∃ra cap,v=.slice ra L.length cap∧∀(j:Nat) (o:Opr),L[j]?=some o→∃g f,ra=some ⟨g,f,none⟩∧g<w.heap.size∧∀t u,o.cells[t]?=some u→w.cell? ⟨g,f+j*6+t,none⟩=some u
def vw0 (w:World):Vw:={nn:=0,ts:=[],ins:=[],ex:=[],bys:=[],ords:=[],va:=.slice none 0 0,vi:=.slice none 0 0,vb:=.slice none 0 0,vc:=.slice none 0 0,vo:=.slice none 0 0,vm:=.slice none 0 0,E:=λk=>k<w.heap.size,ob:=λk=>w.heap[k]?,w0:=w}
theorem lw_new {W0:World}(hwb:w.heap.size=wb)(hB:Below w.heap.size w W0)(hb:W0.heap[wb]?=some (.cells #[.slice none 0 0,.int .i64 0,.slice none 0 0,.slice none 0 0,.slice none 0 0,.slice none 0 0,.slice none 0 0] 50)):LW W0 wb (vw0 w) [] where
 vc:={
  blk:=hb
  ral:=ZO _ _ _ _
  rin:=ZO _ _ _ _
  rby:=ZO _ _ _ _
  rbm:=ZO _ _ _ _
  ror:=ZO _ _ _ _
  rom:=ZO _ _ _ _
  ful:=λv hv=>by cases hv
  exo:=λv hv=>by cases hv
  inb:=λv hv=>by cases hv
  bob:=λv hv=>by cases hv
  ink:=λv hv=>by cases hv
  nib:=λv hv=>by cases hv
  nuc:=λv hv=>by cases hv
  nU:=by
   rintro k hk (⟨t,ht,-⟩|e)
   ·cases ht
   ·have e:k<w.heap.size:=e;rcases hk with e2|e2|e2|e2|e2|e2|e2|⟨v,hv,-⟩|⟨v,hv,-⟩|⟨v,hv,-⟩|⟨v,hv,-⟩
    ·omega
    all_goals first|cases e2|cases hv}
 tsx:=rfl
 tn:=λt ht=>by cases ht
 dj:=List.Pairwise.nil
 ex:=rfl
 ek:=λk hk=>by have hk:k<w.heap.size:=hk;exact⟨hB.block k hk,Zn hk hB.size⟩
 en:=λt ht=>by cases ht
 io:=⟨hB.os,hB.tape,hB.output⟩
def sumS (L:List Opr)(k:Nat):Nat:=((L.take k).map (·.s.length)).sum
theorem Zao (h:L[k]?=some o):sumS L (k+1)=sumS L k+o.s.length:=by unfold sumS;rw[List.take_add_one,h];simp
theorem Zfn (L:List Opr)(k:Nat):sumS L k≤(L.map (·.s.length)).sum:=by
 unfold sumS;conv=>rhs;rw[←Yr k L]
 rw[ZH,List.sum_append];exact ZM _ _
structure RL (w:World)(wb:Nat)(L:List Opr)(k:Nat)(wr:World)(x:Vw)(ts:List Tn):Prop where
 lw:LW wr wb x ts
 vz:Vz (vw0 w) x (12+2*k)
 len:ts.length≤1+k
 fs:∀t∈ts,t.F≤120+sumS L k
theorem RL.ok (h:RL w wb L k wr x ts)(hk:k≤1048576):Ok x:=by have h1:x.nn≤0+(12+2*k):=h.vz.nn;have h2:x.ins.length≤0+(12+2*k):=h.vz.ins;have h3:x.bys.length≤0+4*(12+2*k):=h.vz.bys;have h4:x.ords.length≤0+4*(12+2*k):=h.vz.ords;exact⟨by omega,by omega,by omega,by omega⟩
theorem RL.plays (h:RL w wb L k wr x ts)(hL:L.length≤1048576)(hS:(L.map (·.s.length)).sum≤1048576)(ho:L[k]?=some o)(hO:OpOk o)(hb:o.kind=9→Zbj):
  Calls prog 12 #[.pointer (some ⟨wb,0,none⟩),.agg o.cells.toArray] wr λe w'=>e=.returned (.bool true)∧∃x' ts',RL w wb L (k+1) w' x' ts':=by
 have hk:k<L.length:=(Zl.1 ho).1;have h1:=h.len;have h2:=Zao ho;have h3:=Zfn L (k+1);refine(Zk6 h.lw (h.ok (by omega)) (by omega) o hO h.fs (by omega) hb).mono ?_;rintro e w' ⟨rfl,x',ts',a1,a2,a3,a4⟩;exact⟨rfl,x',ts',a1,(h.vz.trans a2).mono (by omega),by omega,λt ht=>by have:=a4 t ht;omega⟩
theorem RL.skip (h:RL w wb L k wr x ts)(ho:L[k]?=some o):RL w wb L (k+1) wr x ts:=
 ⟨h.lw,h.vz.mono (by omega),by have:=h.len;omega,λt ht=>by have h1:=h.fs t ht;have h2:=Zao ho;omega⟩
theorem RL.holds (h:RL w wb L k wr x ts)(hk:k≤1048576):
  Calls prog 13 #[.pointer (some ⟨wb,0,none⟩)] wr λe w'=>e=.returned (.bool true)∧RL w wb L k w' x ts:=by
 have hok:=h.ok hk;refine(Zj1 (h.lw.vc.held h.lw.ex) (by have:=hok.ins;omega) (by have:=hok.bys;omega) (by have:=hok.ords;omega)).mono ?_;rintro e w' ⟨rfl,hB⟩;exact⟨rfl,h.lw.below hB,h.vz,h.len,h.fs⟩
structure RA (w:World)(wb q n:Nat)(wr:World)(x:Vw)(ts:List Tn):Prop where
 lw:LW wr wb x ts
 vz:Vz (vw0 w) x n
 len:ts.length=q
 fs:∀t∈ts,t.F≤1600000
theorem RA.pt (h:RA w wb q n wr x ts):∃ra ci,wr.cell? ⟨wb,0,none⟩=some (.slice ra q ci):=by obtain⟨c0,-⟩:=h.lw.vc.cells;obtain⟨ra,ca,hv,-,-⟩:=Xf h.lw.vc.ral;rw[hv,h.lw.tsx,Yl,h.len] at c0;exact⟨_,_,c0⟩
theorem RA.asks (h:RA w wb q n wr x ts)(hn:n≤800000000)(hj:j<q)(o:Opr)(hk:o.kind=4∨o.kind=5∨o.kind=6∨o.kind=7)(ha:-9223372036854775808≤o.a):
  ∃gi ci tb,wr.cell? ⟨wb,0,none⟩=some (.slice (some ⟨gi,0,none⟩) q ci)∧wr.cell? ⟨gi,j,none⟩=some (.pointer (some ⟨tb,0,none⟩))∧Calls prog 14 #[.pointer (some ⟨wb,0,none⟩),.pointer (some ⟨tb,0,none⟩),.agg o.cells.toArray] wr λe w'=>e=.returned (.bool true)∧∃x' ts',RA w wb q (n+1) w' x' ts':=by
 obtain⟨Ta,t,Tb,rfl,hl⟩:=Zgg ts j (by rw[h.len];exact hj);obtain⟨gi,ci,hvi,hgi,-⟩:=h.lw.pt;obtain⟨c0,-⟩:=h.lw.vc.cells;rw[hvi,h.len] at c0;rw[hl] at hgi;have h1:x.nn≤0+n:=h.vz.nn;have h2:x.ins.length≤0+n:=h.vz.ins;have h3:x.bys.length≤0+4*n:=h.vz.bys;have h4:x.ords.length≤0+4*n:=h.vz.ords;have hok:Ok x:=⟨by omega,by omega,by omega,by omega⟩;have hF:=h.fs t (by simp);have fin:∀w' x' t',LW w' wb x' (Ta++t'::Tb)→Vz x x' 1→t'.F=t.F→∃x' ts',RA w wb q (n+1) w' x' ts':=by
  intro w' x' t' a1 a2 a3;refine⟨x',_,a1,h.vz.trans a2,by rw[←h.len];simp,λs hs => ?_⟩;rcases ZE.1 hs with e|e
  ·exact h.fs s (by simp[e])
  ·rcases ZL.1 e with rfl|e
   ·omega
   ·exact h.fs s (by simp[e])
 refine⟨gi,ci,t.tb,c0,hgi,?_⟩;rcases hk with hk|hk|hk|hk
 ·refine(QO h.lw hok hF o hk).mono ?_;rintro e w' ⟨rfl,x',t',a1,a2,a3,-⟩;exact⟨rfl,fin w' x' t' a1 a2.z a3⟩
 ·refine(Zeb h.lw hok hF o hk).mono ?_;rintro e w' ⟨rfl,x',t',a1,a2,a3,-⟩;exact⟨rfl,fin w' x' t' a1 a2.z a3⟩
 ·refine(Zeg h.lw hok o hk ha).mono ?_;rintro e w' ⟨rfl,x',t',a1,a2,a3⟩;exact⟨rfl,fin w' x' t' a1 a2.z a3⟩
 ·refine(Zdm h.lw o hk).mono ?_;rintro e w' ⟨rfl,a1⟩;exact⟨rfl,fin w' x t (h.lw.below a1) (Vz.refl _ _) rfl⟩
theorem RL.ra (h:RL w wb L k wr x ts)(hk:k≤1048576)(hS:(L.map (·.s.length)).sum≤1048576):∃q,q≤1048577∧RA w wb q 2097164 wr x ts:=
 ⟨ts.length,by have:=h.len;omega,h.lw,h.vz.mono (by omega),rfl,λt ht=>by have h1:=h.fs t ht;have h2:=Zfn L k;omega⟩
theorem RA.end (h:RA w wb q n wr x ts):Below w.heap.size w wr:=by
 have hE:x.E=λk=>k<w.heap.size:=h.vz.E;have hob:x.ob=λk=>w.heap[k]?:=h.vz.ob;have hw:x.w0=w:=h.vz.w0;have hio:=h.lw.io;rw[hw] at hio;have hek:=h.lw.ek;rw[hE,hob] at hek;refine⟨hio.os,hio.tape,hio.output,?_,λk hk=>(hek k hk).1⟩;rcases Nat.eq_zero_or_pos w.heap.size with e|e
 ·omega
 ·have:=(hek (w.heap.size-1) (by show _<_;omega)).2;omega
end
section
open Go.RowKit
attribute [local go_sem ↓] Go.wp_at_zero Go.wp_at_succ
theorem Zew (hs:Zaz w v L)(hO:∀o∈L,OpOk o)(hL:L.length≤1048576)(hS:(L.map (·.s.length)).sum≤1048576)(last:Int)(hl:last=7∨last=9)(hb:last=9→Zbj):
  Calls prog 7 #[v,.int .i64 last] w λe w'=>e=.returned (.bool true)∧Below w.heap.size w w':=by
 obtain⟨ra,cap,rfl,hrd⟩:=hs;obtain⟨W0,hW0⟩:=Za (w.alloc (.cells #[.slice none 0 0,.int .i64 0,.slice none 0 0,.slice none 0 0,.slice none 0 0,.slice none 0 0,.slice none 0 0] 50));obtain⟨wb,hwb⟩:=Za (w.heap.size);have hB0:Below w.heap.size w W0:=by rw[←hW0];exact(Zm _ w).alloc (Zh _) _
 have hxb:W0.heap[wb]?=some (.cells #[.slice none 0 0,.int .i64 0,.slice none 0 0,.slice none 0 0,.slice none 0 0,.slice none 0 0,.slice none 0 0] 50):=by rw[←hW0,YX,Zg hwb.symm]
 have HKN:=Zc (Zj4 (lw_new hwb hB0 hxb) ⟨Zy _,Zy _,Zy _,Zy _⟩ last hl);obtain⟨n,hn⟩:=Za (L.length);have HRD:=Zc (Zd hrd (Zd hO (Zd hL hS)));have hn1:n≤1048576:=by omega
 have HBO:=Zc (Zd hl hb);have HN:=Zc hn;rw[hn];clear hrd hO hL hS hB0 hxb hl hb hn;go_enter func7,ntmps7;go_wp2_with fail;clear hW0;refine HKN.o.mono ?_;rintro e W1 ⟨rfl,x1,t1,hlw1,hvz1,hF1⟩;have HR0:Hid (RL w wb L 0 W1 x1 [t1]):=⟨hlw1,hvz1,Zh _,λt ht=>by simp at ht;rw[ht];omega⟩;clear HKN hlw1 hvz1 hF1;go_wp2_with fail;go_loopw [6,7] (λok i wr=>ok=.bool true∧∃k:Nat,k≤n∧i=.int .i64 k∧Hid (∃x' ts',RL w wb L k wr x' ts')) (λ_ i _=>n-(intOf i).toNat)
 case atStart=>exact⟨rfl,0,Zy _,rfl,x1,[t1],HR0.o⟩
 case round=>
  obtain⟨rfl,k,hk,rfl,HKS⟩:=hrel;obtain⟨x',ts',hks⟩:=HKS.o;clear HKS HR0;by_cases hkl:k<n
  ·obtain⟨o,ho⟩:∃o,L[k]?=some o:=⟨_,Zp (by rw[HN.o];exact hkl)⟩;obtain⟨g,f,rfl,hg,hc⟩:=HRD.o.1 k o ho;have hblk:wr.heap[g]?=w.heap[g]?:=by have:=(hks.lw.ek g (by rw[hks.vz.E];exact hg)).1;rw[hks.vz.ob] at this;exact this
   obtain⟨b0,b1,b2,b3,b4,b5⟩:=QZ (W:=wr) (g:=g) (f:=f+k*6) (o:=o) (λt u hu=>(YC (a:=⟨g,f+k*6+t,none⟩) hblk).trans (hc t u hu));have hP:=λhle:o.kind≤last=>hks.plays HRD.o.2.2.1 HRD.o.2.2.2 ho (HRD.o.2.1 o (ZW ho)) (λe=>HBO.o.2 (by rcases HBO.o.1 with e7|e7<;>omega));have hK:=hks.skip ho;obtain⟨kd,on,a,b,c,s⟩:=o;simp only at b0 b1 b2 b3 b4 b5;have i3:(0:Int)≤(k:Int):=by omega
   have i4:(k:Int)<(n:Int):=by omega
   by_cases hle:kd≤last
   ·have HP:=Zc (hP hle);clear hP hK hc hblk ho hks;go_wp2_with fail;refine HP.o.mono ?_;rintro e w1 ⟨rfl,x2,ts2,hr2⟩;have HH:=Zc (hr2.holds (by omega));clear HP hr2 b0 b1 b2 b3 b4 b5;go_wp2_with fail;refine HH.o.mono ?_;rintro e w2 ⟨rfl,hr3⟩;have HR3:=Zc hr3;clear hr3 HH;go_wp2_with fail;exact⟨⟨rfl,k+1,by omega,by go_num,_,_,HR3.o⟩,by simp[intOf];omega⟩
   ·have HH:=Zc (hK.holds (by omega));clear hP hK hc hblk ho hks;go_wp2_with fail;refine HH.o.mono ?_;rintro e w2 ⟨rfl,hr3⟩;have HR3:=Zc hr3;clear hr3 HH;go_wp2_with fail;exact⟨⟨rfl,k+1,by omega,by go_num,_,_,HR3.o⟩,by simp[intOf];omega⟩
  ·obtain⟨q,hq,hra⟩:=hks.ra (by omega) HRD.o.2.2.2;have HRA:=Zc hra;clear hks hra;go_wp2_with fail;go_loopw [6,8] (λok i wr=>ok=.bool true∧∃j:Nat,j≤q∧i=.int .i64 j∧Hid (∃x' ts',RA w wb q (2097164+12*j) wr x' ts')) (λ_ i _=>q-(intOf i).toNat)
   case atStart=>exact⟨rfl,0,Zy _,rfl,x',ts',HRA.o⟩
   case round=>
    obtain⟨rfl,j,hj,rfl,HKS⟩:=hrel;clear HRA;obtain⟨x2,ts2,hra⟩:=HKS.o;clear HKS;by_cases hjq:j<q
    ·have i3:(0:Int)≤(j:Int):=by omega
     have i4:(j:Int)<(q:Int):=by omega
     obtain⟨gi,ci,tb,c0,c1,hA⟩:=hra.asks (by omega) hjq ⟨4,0,0,0,0,[]⟩ (.inl rfl) (by decide);have HA:=Zc hA;clear hA hra;go_wp2_with fail;refine HA.o.mono ?_;rintro e w3 ⟨rfl,x3,ts3,hra3⟩;clear HA c0 c1;obtain⟨gi3,ci3,tb3,c0,c1,hA⟩:=hra3.asks (by omega) hjq ⟨5,0,0,0,0,[]⟩ (.inr (.inl rfl)) (by decide);have HA:=Zc hA;clear hA hra3;go_wp2_with fail;refine HA.o.mono ?_;rintro e w4 ⟨rfl,x4,ts4,hra4⟩;clear HA c0 c1;obtain⟨gi4,ci4,tb4,c0,c1,hA⟩:=hra4.asks (by omega) hjq ⟨7,0,0,0,0,[]⟩ (.inr (.inr (.inr rfl))) (by decide);have HA:=Zc hA;clear hA hra4;go_wp2_with fail;refine HA.o.mono ?_;rintro e w5 ⟨rfl,x5,ts5,hra5⟩;have HR5:=Zc hra5;clear HA c0 c1 hra5;go_wp2_with fail;go_loopw [6,12] (λok i wr=>ok=.bool true∧∃s:Nat,s≤9∧i=.int .i64 s∧Hid (∃x' ts',RA w wb q (2097164+12*j+3+s) wr x' ts')) (λ_ i _=>9-(intOf i).toNat)
     case atStart=>exact⟨rfl,0,Zy _,rfl,x5,ts5,HR5.o⟩
     case round=>
      obtain⟨rfl,s,hs9,rfl,HKS⟩:=hrel;clear HR5;obtain⟨x6,ts6,hra6⟩:=HKS.o;clear HKS;by_cases hs8:s<9
      ·obtain⟨gi6,ci6,tb6,c0,c1,hA⟩:=hra6.asks (by omega) hjq ⟨6,0,(s:Nat),0,0,[]⟩ (.inr (.inr (.inl rfl))) (by simp only;omega);have HA:=Zc hA;clear hA hra6;go_wp2_with fail;refine HA.o.mono ?_;rintro e w7 ⟨rfl,x7,ts7,hra7⟩;have HR7:=Zc hra7;clear HA c0 c1 hra7;go_wp2_with fail;exact⟨⟨rfl,s+1,by omega,by go_num,x7,ts7,HR7.o⟩,by simp[intOf];omega⟩
      ·obtain rfl:s=9:=by omega
       have HR6:=Zc hra6;clear hra6;go_wp2_with fail;exact⟨⟨rfl,j+1,by omega,by go_num,x6,ts6,HR6.o⟩,by simp[intOf];omega⟩
    ·obtain⟨ra5,ci5,c0⟩:=hra.pt;have HR6:=Zc hra;clear hra;go_wp2_with fail;go_ret;exact⟨rfl,HR6.o.end⟩
theorem Zev (hs:Zaz w v L)(hL:L.length≤1048576)(hS:(L.map (·.s.length)).sum≤1048576):
  Calls prog 6 #[v] w λe w'=>∃r,e=.returned (.bool r)∧w'=w:=by
 obtain⟨ra,cap,rfl,hrd⟩:=hs;obtain⟨n,hn⟩:=Za (L.length);have HRD:=Zc (Zd hrd (Zd hn hS));have hn1:n≤1048576:=by omega
 rw[hn];clear hrd hL hS hn;go_enter func6,ntmps6;go_wp2_with fail;go_loopw [3] (λi wr=>wr=w∧∃k:Nat,k≤n∧i=.int .i64 k) (λi _=>n-(intOf i).toNat)
 case atStart=>exact⟨rfl,0,Zy _,rfl⟩
 case round=>
  obtain⟨hwr,k,hk,rfl⟩:=hrel;subst hwr;by_cases hkl:k<n
  ·obtain⟨o,ho⟩:∃o,L[k]?=some o:=⟨_,Zp (by rw[HRD.o.2.1];exact hkl)⟩;obtain⟨g,f,rfl,hg,hc⟩:=HRD.o.1 k o ho;obtain⟨b0,b1,b2,b3,b4,b5⟩:=QZ (f:=f+k*6) (o:=o) hc;have hsl:o.s.length≤1048576:=by have h1:=Zao ho;have h2:=Zfn L (k+1);have h3:=HRD.o.2.2;omega
   obtain⟨kd,on,a,b,c,s⟩:=o;simp only at b0 b1 b2 b3 b4 b5 hsl;have i3:(0:Int)≤(k:Int):=by omega
   have i4:(k:Int)<(n:Int):=by omega
   obtain⟨m,hm⟩:=Za (s.length);have hm2:(⟨s.toArray⟩:ByteArray).size=m:=hm;clear hc ho;go_wp2_with fail;go_loopw [4] (λi w2=>w2=wr∧∃j:Nat,j≤m∧i=.int .i64 j) (λi _=>m-(intOf i).toNat)
   case atStart=>exact⟨rfl,0,Zy _,rfl⟩
   case round=>
    obtain⟨hw2,j,hj,rfl⟩:=hrel;subst hw2;by_cases hjm:j<m
    ·have i5:(0:Int)≤(j:Int):=by omega
     have i6:(j:Int)<(m:Int):=by omega
     by_cases hk2:kd=2
     ·subst hk2;go_wp2_with fail
      ·go_ret;exact⟨_,rfl,rfl⟩
      ·exact⟨⟨trivial,j+1,by omega,by go_num⟩,by simp[intOf];omega⟩
     ·have hk3:(kd==2)=false:=by simpa using hk2
      go_wp2_with fail;exact⟨⟨trivial,k+1,by omega,by go_num⟩,by simp[intOf];omega⟩
    ·go_wp2_with fail;all_goals
      exact⟨⟨trivial,k+1,by omega,by go_num⟩,by simp[intOf];omega⟩
  ·go_wp2_with fail;go_ret;exact⟨_,rfl,rfl⟩
theorem scr_nil (w:World):Zaz w (.slice none 0 0) []:=⟨none,0,rfl,λj o h=>by simp at h⟩
theorem Zgc (hs:Zaz w v L)(hO:∀o∈L,OpOk o)(hL:L.length≤1048576)(hS:(L.map (·.s.length)).sum≤1048576):
  Calls prog 3 #[v] w λe w'=>e=.returned (.bool true)∧Below w.heap.size w w':=by
 have HP:=Zc (Zev hs hL hS);have HR:=Zc (Zew hs hO hL hS 7 (.inl rfl) (λe=>absurd e (by decide)));have HE:=Zc (Zew (scr_nil w) (λo ho=>by cases ho) (Zy _) (Zy _) 7 (.inl rfl) (λe=>absurd e (by decide)));clear hs hO hL hS;go_enter func3,ntmps3;go_wp2_with fail;refine HP.o.mono ?_;rintro e w' ⟨r,rfl,hw⟩;replace hw:=hw.symm;subst hw;clear HP;cases r with
 | true=>
  go_wp2_with fail;refine HR.o.mono ?_;rintro e w' ⟨rfl,hB⟩;have HB:=Zc hB;clear hB HR HE;go_wp2_with fail;go_ret;exact⟨rfl,HB.o⟩
 | false=>
  go_wp2_with fail;refine HE.o.mono ?_;rintro e w' ⟨rfl,hB⟩;have HB:=Zc hB;clear hB HR HE;go_wp2_with fail;go_ret;exact⟨rfl,HB.o⟩
end
section
open Go.ChangeShapes Go.WideShapes Go.ChangeAt Go.RowKit Go.Deep
theorem own :ownKnob prog.godebug=none:=by kernel_rfl
theorem Zjg :laidOutB prog=true:=by kernel_rfl
theorem Tryz.cells3 :prog.cellsOf 3=1:=by kernel_rfl
theorem wf_i64 {x:Int}(h:(Lit.int .i64 x).wf=true):I64 x:=by simp[Lit.wf,IntKind.min,IntKind.max,IntKind.signed,IntKind.bits] at h;unfold I64;omega
theorem Qt {enc:TypeId×Value→H}{base:Nat}{x:DataW H×List MemPlace}
  (h:DataW.trod enc prog W base sp held n 3 [v]=some x):∃y:Int,v=.int .i64 y∧I64 y:=by
 obtain⟨y,e,-,wy⟩:=DataW.trod_int underlying3 h;simp at e;exact⟨y,e,wf_i64 wy⟩
theorem mapM_get {α β:Type}(f:α→Option β):∀(l:List α) (r:List β),l.mapM f=some r→∀(i:Nat) (a:α),l[i]?=some a→∃b,r[i]?=some b∧f a=some b:=by
 intro l;induction l with
 | nil=>intro r _ i a h;simp at h
 | cons x l ih=>
  intro r h i a hi;rw[List.mapM_cons] at h;cases hx:f x with
  | none=>rw[hx] at h;cases h
  | some b=>
   rw[hx] at h;cases hl:l.mapM f with
   | none=>rw[hl] at h;cases h
   | some r'=>
    rw[hl] at h;cases h;cases i with
    | zero=>simp at hi;subst hi;exact⟨b,rfl,hx⟩
    | succ i=>simp at hi;obtain⟨c,h1,h2⟩:=ih r' hl i a hi;exact⟨c,by simpa using h1,h2⟩
theorem add_add (a:Addr)(i j:Nat):a.add (i+j)=(a.add i).add j:=by
 obtain⟨b,o,s⟩:=a;by_cases hi:i=0
 ·subst hi;simp[Addr.add]
 ·by_cases hj:j=0
  ·subst hj;simp[Addr.add]
  ·simp only[Addr.add,Zj hi,Zj hj,Zj (by omega:¬i+j=0)]
   congr 1
   omega
theorem bulk_one (d:DataW H):1≤Rows.uptoBulk d:=by
 cases d with
 | lit l=>cases l<;>simp[Rows.uptoBulk]
 | nil=>simp[Rows.uptoBulk]
 | ptr d=>simp[Rows.uptoBulk]
 | slice elems spare=>simp[Rows.uptoBulk]
 | agg parts=>simp[Rows.uptoBulk]
 | iface t d=>simp[Rows.uptoBulk]
 | map entries=>simp[Rows.uptoBulk]
 | held h=>simp[Rows.uptoBulk]
theorem bulk_len (l:List (DataW H)):l.length≤Rows.uptoBulkAll l:=by
 induction l with
 | nil=>simp[Rows.uptoBulkAll]
 | cons x r ih=>have:=bulk_one x;simp only[Rows.uptoBulkAll,Zu];omega
theorem Zij (elems spare:List (DataW H)):elems.length≤Rows.uptoBulk (.slice elems spare):=by have h1:=bulk_len elems;simp only[Rows.uptoBulk];omega
theorem Zac {d:DataW H}{l:List (DataW H)}(h:d∈l):Rows.uptoBulk d≤Rows.uptoBulkAll l:=by
 induction l with
 | nil=>cases h
 | cons x r ih=>
  simp only[Rows.uptoBulkAll];cases ZL.1 h with
  | inl e=>subst e;omega
  | inr e=>have:=ih e;omega
theorem Zb8 {l:List (DataW H)}(hk:Rows.uptoSmall H l=true):Rows.uptoBulkAll l≤1048576:=of_decide_eq_true hk
theorem cells43 :prog.cellsOf 43=6:=by kernel_rfl
theorem cells9 :prog.cellsOf 9=1:=by kernel_rfl
theorem list6 {α:Type}(l:List α)(h:l.length=6):∃a b c d e f,l=[a,b,c,d,e,f]:=by
 match l,h with
 | [a,b,c,d,e,f],_=>exact⟨a,b,c,d,e,f,rfl⟩
theorem open_op {enc:TypeId×Value→H}{base:Nat}{cs:List Value}{x:DataW H×List MemPlace}
  (h:DataW.trod enc prog W base sp held n 43 cs=some x):∃o:Opr,OpOk o∧cs=o.cells∧o.s.length≤Rows.uptoBulk x.1:=by
 obtain⟨xs,m,-,hx,hl,hlen,hf⟩:=DataW.trod_struct underlying43 h;rw[cells43] at hl;obtain⟨v0,v1,v2,v3,v4,v5,rfl⟩:=list6 cs hl;obtain⟨y0,y1,y2,y3,y4,y5,rfl⟩:=list6 xs hlen;have f0:DataW.trod enc prog W base sp held m 3 (([v0,v1,v2,v3,v4,v5].drop 0).take (prog.cellsOf 3))=some y0:=hf 0 _ rfl;have f1:DataW.trod enc prog W base sp held m 3 (([v0,v1,v2,v3,v4,v5].drop 1).take (prog.cellsOf 3))=some y1:=hf 1 _ rfl;have f2:DataW.trod enc prog W base sp held m 3 (([v0,v1,v2,v3,v4,v5].drop 2).take (prog.cellsOf 3))=some y2:=hf 2 _ rfl;have f3:DataW.trod enc prog W base sp held m 3 (([v0,v1,v2,v3,v4,v5].drop 3).take (prog.cellsOf 3))=some y3:=hf 3 _ rfl;have f4:DataW.trod enc prog W base sp held m 3 (([v0,v1,v2,v3,v4,v5].drop 4).take (prog.cellsOf 3))=some y4:=hf 4 _ rfl;have f5:DataW.trod enc prog W base sp held m 9 (([v0,v1,v2,v3,v4,v5].drop 5).take (prog.cellsOf 9))=some y5:=hf 5 _ rfl;rw[Tryz.cells3] at f0 f1 f2 f3 f4;rw[cells9] at f5;obtain⟨a0,rfl,b0⟩:=Qt (v:=v0) f0;obtain⟨a1,rfl,b1⟩:=Qt (v:=v1) f1;obtain⟨a2,rfl,b2⟩:=Qt (v:=v2) f2;obtain⟨a3,rfl,-⟩:=Qt (v:=v3) f3;obtain⟨a4,rfl,-⟩:=Qt (v:=v4) f4;obtain⟨s,hs,hy,-⟩:=DataW.trod_string underlying9 f5;simp at hs;subst hs;refine⟨⟨a0,a1,a2,a3,a4,s.data.toList⟩,⟨b0.1,b0.2,b1.1,b1.2,b2.1,b2.2⟩,rfl,?_⟩;rw[hx];have h5:=Zac (d:=y5.1) (l:=[y0,y1,y2,y3,y4,y5].map (·.1)) (by simp);rw[hy] at h5;simp only[Rows.uptoBulk] at h5 ⊢;rw[hy];show s.data.toList.length≤_;omega
theorem bulk_sum {D:Nat→DataW H}(hn:L.length=n)(h:∀i o,L[i]?=some o→o.s.length≤Rows.uptoBulk (D i)):(L.map (·.s.length)).sum≤Rows.uptoBulkAll ((List.range n).map D):=by
 induction L generalizing D n with
 | nil=>simp
 | cons o L ih=>
  subst hn;simp only[Zu,List.range_succ_eq_map,ZV,List.map_map,List.sum_cons,Rows.uptoBulkAll];have h1:=h 0 o rfl;have h2:=ih (D:=D ∘ Nat.succ) rfl (λi o ho=>h (i+1) o (by simpa using ho));omega
theorem Zg3 {enc:TypeId×Value→H}{a:Option Addr}{len cap:Nat}{x:DataW H×List MemPlace}
  (h:DataW.trod enc prog W 0 sp held n 22 [.slice a len cap]=some x):
  ∃L:List Opr,Zaz W (.slice a len cap) L∧(∀o∈L,OpOk o)∧L.length≤Rows.uptoBulk x.1∧(L.map (·.s.length)).sum≤Rows.uptoBulk x.1:=by
 rcases open_slice underlying22 h with⟨h1,h2⟩|⟨ad,len',cap',m,k,D,Pl,h1,h2,h3,h4,h5,h6,h7⟩
 ·simp at h1;obtain⟨rfl,rfl,rfl⟩:=h1;exact⟨[],⟨_,_,rfl,λi a h=>by simp at h⟩,λo ho=>(by cases ho),Zy _,Zy _⟩
 ·simp at h1;obtain⟨rfl,rfl,rfl⟩:=h1;have hm:len≤m:=by rw[h5];split<;>omega
  have hel:∀i,i<len→∃b:Opr,OpOk b∧b.s.length≤Rows.uptoBulk (D i)∧∀j u,b.cells[j]?=some u→W.cell? (ad.add (i*6+j))=some u:=by
   intro i hi;obtain⟨cs,hc,ht⟩:=h7 i (by omega);obtain⟨b,hb,rfl,hbk⟩:=open_op ht;refine⟨b,hb,hbk,?_⟩;intro j u hu;rw[cells43] at hc;unfold World.cells? at hc;rw[Zg (Zy _)] at hc;have hj:j<6:=(Zl.1 hu).1;obtain⟨c,hc1,hc2⟩:=mapM_get _ _ _ hc j j (by rw[List.getElem?_range hj]);have:c=u:=by rw[hu] at hc1;exact(Zv hc1).symm
   subst this;rw[←hc2,add_add]
  have hb1:∀L:List Opr,L.length=len→(∀i o,L[i]?=some o→o.s.length≤Rows.uptoBulk (D i))→L.length≤Rows.uptoBulk x.1∧(L.map (·.s.length)).sum≤Rows.uptoBulk x.1:=by intro L hL hD;have q1:=bulk_sum hL hD;have q2:=Zij ((List.range len).map D) ((List.range (m-len)).map λj=>D (len+j));rw[h6];simp only[Rows.uptoBulk] at q2 ⊢;rw[Yl,List.length_range] at q2;omega
  rcases Nat.eq_zero_or_pos len with h0|h0
  ·subst h0;obtain⟨q1,q2⟩:=hb1 [] rfl (λi o ho=>by simp at ho);exact⟨[],⟨_,_,rfl,λi a h=>by simp at h⟩,λo ho=>(by cases ho),q1,q2⟩
  ·have:Inhabited Opr:=⟨⟨0,0,0,0,0,[]⟩⟩;obtain⟨f,hf⟩:=choose_lt hel;obtain⟨blk,off,spot⟩:=ad;have hsp:spot=none:=by have:=(hf 0 h0).2.2 0 _ rfl;simpa[Addr.add] using World.cell?_spot this
   subst hsp;have hblk:blk<W.heap.size:=by have:=(hf 0 h0).2.2 0 _ rfl;simpa[Addr.add] using ZU W _ this
   have hl:((List.range len).map f).length=len:=by simp
   have hat:∀i o,((List.range len).map f)[i]?=some o→i<len∧o=f i:=by
    intro i o ho;rw[Yi,YA] at ho;obtain⟨i',hi',rfl⟩:=ho;have hil:i<len:=by
     rcases Nat.lt_or_ge i len with h'|h'
     ·exact h'
     ·rw[List.getElem?_eq_none (by simpa using h')] at hi';cases hi'
    rw[List.getElem?_range hil] at hi';cases hi';exact⟨hil,rfl⟩
   obtain⟨q1,q2⟩:=hb1 _ hl (λi o ho=>by obtain⟨h1,rfl⟩:=hat i o ho;exact(hf i h1).2.1);refine⟨(List.range len).map f,⟨some ⟨blk,off,none⟩,cap,by rw[hl],?_⟩,?_,q1,q2⟩
   ·intro i o ho;obtain⟨hi,rfl⟩:=hat i o ho;refine⟨blk,off,rfl,hblk,?_⟩;intro j u hu;have:=(hf i hi).2.2 j u hu;rw[Yg] at this;rw[Nat.add_assoc];exact this
   ·intro o ho;obtain⟨i,hi⟩:=List.mem_iff_getElem?.1 ho;obtain⟨h1,rfl⟩:=hat i o hi;exact(hf i h1).1
end
section
open Go.ChangeShapes Go.WideShapes Go.ChangeAt Go.RowKit
theorem Zbz (os:Os)(started:os.Started)(H:Type)(enc:TypeId×Value→H)(F:Stop.Interp):
  ReturnsInHanded {} Tryz.checked os 3 .any ((Rows.OpenSpec.upto Rows.enteredSpec).pre6 enc prog Tryz.f3 Rows.enteredUptoRow.domain false) (((Rows.OpenSpec.upto Rows.enteredSpec).at F).post enc prog Tryz.f3 false true false false):=by
 refine returnsInHanded_of_cond (C:=Tryz.checked) (s:=Rows.OpenSpec.upto Rows.enteredSpec) (k:=Rows.uptoSmall) rfl own started (by kernel_rfl) func3
  (OpenSpec.witness (enc:=enc) (C:=Tryz.checked) (s:=Rows.OpenSpec.upto Rows.enteredSpec) (k:=Rows.uptoSmall) rfl false ⟨#[],#[.slice none 0 0],[]⟩ 8 (by kernel_rfl) (by kernel_rfl) (by kernel_rfl)
   (x:=([.nil],[],[])) (by kernel_rfl) rfl (by kernel_rfl)) ?_
 intro W base args ds gs before hval0 hW _ hk0 _;have hval:∀(j:Nat) t v,Tryz.f3.params[j]?=some t→args[j]?=some v→Value.okWide prog W .any base t v:=hval0;have hk:Rows.uptoSmall H (ds++gs)=true:=hk0;have hW':=hW;obtain⟨p,q,hA0,hV,rfl,hfz,hnd⟩:=hW;have hA:DataW.TrodAll enc prog W 0 (λ_=>true) true Tryz.f3.params.toList args.toList ds p:=hA0;rw[params3] at hA hval;obtain⟨v1,vs1,d1,ds1,p1,q1,hargs,rfl,rfl,h1,r1⟩:=trodAll_cons hA;obtain⟨rfl,rfl,rfl⟩:=trodAll_nil r1;obtain rfl:args=#[v1]:=by cases args;simp_all
 obtain⟨rfl,rfl⟩:=trodVars_none hV;obtain⟨a1,len1,cap1,rfl⟩:=okWide_slice underlying22 (hval 0 22 v1 rfl rfl);have k1:=h1;have lt1:∀x∈p1,x.block<W.heap.size:=by obtain⟨m,hm⟩:=k1;exact DataW.trod_lt m _ _ _ hm
 have hb:=Zb8 hk;obtain⟨L,hs,hO,hL,hS⟩:∃L:List Opr,Zaz W (.slice a1 len1 cap1) L∧(∀o∈L,OpOk o)∧L.length≤1048576∧(L.map (·.s.length)).sum≤1048576:=by obtain⟨fuel,hf⟩:=h1;obtain⟨L,q1,q2,q3,q4⟩:=Zg3 (by simpa[Value.cells] using hf);have h2:=Zac (d:=d1) (l:=[d1]++[]) (by simp);simp only at q3 q4;exact⟨L,q1,q2,by omega,by omega⟩
 clear hA0 hval0 hb hk0;refine(Zgc hs hO hL hS).mono λe W' ⟨he,bel⟩ => ?_;subst he;exact⟨_,rfl,_,_,_,[],_,[],hW',trodAll_mk1 (shut_bool underlying4 _),(trodAll_cons_mk (Below.trod Zjg (by kernel_rfl) (of_decide_eq_true (by kernel_rfl)) k1 bel lt1) trodAll_mk0),rfl,bel.frame _,λh=>by cases h⟩
theorem entered_said :Rows.EnteredUptoSaid:=
 OpenClaim.holds_of_cond 3 Tryz.f3 rfl rfl rfl rfl rfl rfl rfl ⟨rfl,rfl,rfl,rfl,rfl⟩ rfl rfl rfl rfl rfl (by kernel_rfl) func3 (by kernel_rfl)
  (of_decide_eq_true (by kernel_rfl)) (by unfold Func.isWrapper;first|(rw[Zg (by decide +kernel)];kernel_rfl)|(rw[Zj (by decide +kernel)];exact⟨rfl,rfl⟩))
  (λos started H enc _ F=>Zbz os started H enc F)
end
end Go.Proofs.YtphkchjejbffeaaGreat
