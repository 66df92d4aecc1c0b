/- S1, K8, S2, S5, S10, S13, S14, S15, S16, T4, R1 -/
import Derived.Test.YtphkchjejbffeaaGreatK03
import Derived.BigQuiet
import Derived.Deep.QuietTactic
import Derived.Shelf.SlSortCmp.KitK
import Derived.Sort.WalkB2
import Derived.Sort.WalkB12
import Derived.Deep.LoopGhost
set_option maxHeartbeats 16000000
set_option maxRecDepth 100000
namespace Go.Proofs.YtphkchjejbffeaaGreat
open Tryz
open Go.RowKit
variable {A B L R S S1 S2:List Ord}{Sw:List Ord→Prop}{K a i t:Nat}{o x y z:Ord}{lt:Ord→Ord→Bool}
section
structure Swo (lt:Ord→Ord→Bool):Prop where
 irr:∀x,lt x x=false
 tr:∀x y z,lt x y=true→lt y z=true→lt x z=true
 ntr:∀x y z,lt x z=true→lt x y=true∨lt y z=true
theorem Swo.asym (h:Swo lt)(hxy:lt x y=true):lt y x=false:=by
 cases hb:lt y x with
 | false=>rfl
 | true=>have:=h.tr x y x hxy hb;rw[h.irr] at this;cases this
theorem Swo.le_trans (h:Swo lt)(h1:lt y x=false)(h2:lt z y=false):lt z x=false:=by
 cases hb:lt z x with
 | false=>rfl
 | true=>
  rcases h.ntr z y x hb with h'|h'
  ·rw[h'] at h2;cases h2
  ·rw[h'] at h1;cases h1
theorem Swo.lt_le (h:Swo lt)(h1:lt x y=true)(h2:lt z y=false):lt x z=true:=by
 rcases h.ntr x z y h1 with h'|h'
 ·exact h'
 ·rw[h'] at h2;cases h2
theorem Swo.le_lt (h:Swo lt)(h1:lt y x=false)(h2:lt y z=true):lt x z=true:=by
 rcases h.ntr y x z h2 with h'|h'
 ·rw[h'] at h1;cases h1
 ·exact h'
def Srt (lt:Ord→Ord→Bool)(L:List Ord):Prop:=L.Pairwise λx y=>lt y x=false
def eqv (lt:Ord→Ord→Bool)(c x:Ord):Bool:=!lt c x && !lt x c
def Cls (lt:Ord→Ord→Bool)(L R:List Ord):Prop:=∀c,L.filter (eqv lt c)=R.filter (eqv lt c)
theorem Cls.refl (lt:Ord→Ord→Bool)(L:List Ord):Cls lt L L:=λ_=>rfl
theorem Cls.symm (h:Cls lt L R):Cls lt R L:=λc=>(h c).symm
theorem Cls.trans (h:Cls lt L R)(k:Cls lt R S):Cls lt L S:=λc=>(h c).trans (k c)
theorem Cls.app {A' B':List Ord}(h:Cls lt A A')(k:Cls lt B B'):Cls lt (A++B) (A'++B'):=λc=>by rw[ZS,ZS,h c,k c]
theorem Cls.swap (hw:Swo lt)(h:∀x∈A,∀y∈B,lt y x=true):Cls lt (A++B) (B++A):=by
 intro c;rw[ZS,ZS];by_cases ha:A.filter (eqv lt c)=[]
 ·rw[ha,Zr,ZG]
 ·have hb:B.filter (eqv lt c)=[]:=by rw[List.filter_eq_nil_iff];intro y hy hcy;obtain⟨x,hx⟩:=List.exists_mem_of_ne_nil _ ha;rw[Yt] at hx;have h1:=h x hx.1 y hy;have hx2:=hx.2;simp only[eqv,YM,Bool.not_eq_true'] at hcy hx2;have:=hw.le_lt hcy.2 h1;rw[hx2.1] at this;cases this
  rw[hb,Zr,ZG]
theorem Cls.mem (hw:Swo lt)(h:Cls lt L R)(x:Ord):x∈L↔x∈R:=by
 have:=h x;have e:∀L:List Ord,x∈L↔x∈L.filter (eqv lt x):=λL=>by rw[Yt];simp[eqv,hw.irr]
 rw[e L,e R,this]
theorem Xm :Srt lt (A++B)↔Srt lt A∧Srt lt B∧∀x∈A,∀y∈B,lt y x=false:=by unfold Srt;rw[Yq]
theorem Srt.get (hw:Swo lt)(h:Srt lt L){j:Nat}(hij:i≤j)(hx:L[i]?=some x)(hy:L[j]?=some y):lt y x=false:=by
 rcases Nat.lt_or_ge i j with h'|h'
 ·obtain⟨hi,rfl⟩:=Zl.1 hx;obtain⟨hj,rfl⟩:=Zl.1 hy;exact List.pairwise_iff_getElem.1 h i j hi hj h'
 ·have:i=j:=by omega
  subst this;rw[hx] at hy;cases hy;exact hw.irr _
end
section
open Go.RowKit
theorem UN (x:Ord){w w':World}{g o B:Nat}(hB:Below B w w')(hg:g<B)(h:∀(t:Nat) (u:Value),t<6→x.cells[t]?=some u→w.cell? ⟨g,o+t,none⟩=some u):
  w'.cell? ⟨g,o,none⟩=some (.int .i64 x.ref)∧w'.cell? ⟨g,o+1,none⟩=some (.int .i64 x.qf)∧w'.cell? ⟨g,o+2,none⟩=some (.int .u8 x.qe.toNat)∧w'.cell? ⟨g,o+3,none⟩=some (.int .i64 x.qd)∧
  w'.cell? ⟨g,o+4,none⟩=some (.int .i64 x.qc)∧w'.cell? ⟨g,o+5,none⟩=some (.int .i64 x.qa):=
 ⟨(hB.cell (p:=⟨g,o,none⟩) hg).trans (h 0 _ (by omega) rfl),(hB.cell (p:=⟨g,o+1,none⟩) hg).trans (h 1 _ (by omega) rfl),(hB.cell (p:=⟨g,o+2,none⟩) hg).trans (h 2 _ (by omega) rfl),
  (hB.cell (p:=⟨g,o+3,none⟩) hg).trans (h 3 _ (by omega) rfl),(hB.cell (p:=⟨g,o+4,none⟩) hg).trans (h 4 _ (by omega) rfl),(hB.cell (p:=⟨g,o+5,none⟩) hg).trans (h 5 _ (by omega) rfl)⟩
end
section
open Go.Shelf Go.RowKit Go.Lib Go.Sort
attribute [local go_sem ↓] Go.wp_at_zero Go.wp_at_succ
instance:Inhabited Ord:=⟨⟨0,0,0,0,0,0⟩⟩
abbrev ltc (cf:Ord→Ord→Int):Ord→Ord→Bool:=λx y=>decide (cf x y<0)
structure Ins (lt:Ord→Ord→Bool)(A S1:List Ord)(x:Ord)(S2 T:List Ord):Prop where
 srt:Srt lt (S1++S2)
 up:∀y∈S2,lt x y=true
 cls:Cls lt A (S1++x::S2++T)
 len:(S1++x::S2++T).length=A.length
theorem Ins.step (hw:Swo lt){T:List Ord}(h:Ins lt A (S1++[z]) x S2 T)(hz:lt x z=true):Ins lt A S1 x (z::S2) T:=by
 refine⟨?_,?_,?_,?_⟩
 ·have:=h.srt;rwa [Zo] at this
 ·intro y hy;rcases ZL.1 hy with rfl|hy
  ·exact hz
  ·exact h.up y hy
 ·have e1:S1++[z]++x::S2++T=S1++(([z]++[x])++(S2++T)):=by simp
  have e2:S1++x::(z::S2)++T=S1++(([x]++[z])++(S2++T)):=by simp
  rw[e2];have hc:=h.cls;rw[e1] at hc;refine hc.trans ((Cls.refl lt S1).app ((Cls.swap hw ?_).app (Cls.refl lt _)));intro u hu v hv;simp at hu hv;rw[hu,hv];exact hz
 ·have:=h.len;simp at this ⊢;omega
theorem Ins.done (hw:Swo lt){T:List Ord}(h:Ins lt A S1 x S2 T)(hz:S1=[]∨∃S z,S1=S++[z]∧lt x z=false):Srt lt (S1++x::S2):=by
 obtain⟨q1,q2,q3⟩:=Xm.1 h.srt;refine Xm.2 ⟨q1,Yn.2 ⟨λy hy=>hw.asym (h.up y hy),q2⟩,?_⟩;intro u hu v hv;have hux:lt x u=false:=by
  rcases hz with rfl|⟨S,z,rfl,hz⟩
  ·cases hu
  ·rcases ZE.1 hu with hu|hu
   ·exact hw.le_trans ((Xm.1 q1).2.2 u hu z (by simp)) hz
   ·simp at hu;rw[hu];exact hz
 rcases ZL.1 hv with rfl|hv
 ·exact hux
 ·exact q3 u hu v hv
end
section
def Blk (lt:Ord→Ord→Bool)(K:Nat)(bs:List (List Ord)):Prop:=∀c∈bs,c.length=K∧Srt lt c
theorem Blk.nil (lt:Ord→Ord→Bool)(K:Nat):Blk lt K []:=λc h=>by cases h
theorem Blk.len :∀ {bs:List (List Ord)},Blk lt K bs→bs.flatten.length=bs.length*K:=by
 intro bs;induction bs with
 | nil=>intro _;simp
 | cons c bs ih=>
  intro h;rw[ZR,Zf,ih (λd hd=>h d (Yw _ hd)),(h c (by simp)).1,Zu,Nat.succ_mul,Nat.add_comm]
theorem Blk.snoc {bs:List (List Ord)}(h:Blk lt K bs){c:List Ord}(h1:c.length=K)(h2:Srt lt c):Blk lt K (bs++[c]):=by
 intro d hd;rcases ZE.1 hd with hd|hd
 ·exact h d hd
 ·simp at hd;rw[hd];exact⟨h1,h2⟩
theorem Vy (bs:List (List Ord))(c:List Ord):(bs++[c]).flatten=bs.flatten++c:=by simp
def PA (lt:Ord→Ord→Bool)(L:List Ord)(len:Nat)(Sw:List Ord→Prop)(a:Nat):Prop:=
 ∃bs Y,Blk lt 20 bs∧bs.flatten.length=a∧(bs.flatten++Y).length=len∧Cls lt L (bs.flatten++Y)∧Sw (bs.flatten++Y)
def PB (lt:Ord→Ord→Bool)(L:List Ord)(len:Nat)(Sw:List Ord→Prop)(K:Nat):Prop:=
 ∃bs t,Blk lt K bs∧Srt lt t∧t.length<K∧(bs.flatten++t).length=len∧Cls lt L (bs.flatten++t)∧Sw (bs.flatten++t)
def PC (lt:Ord→Ord→Bool)(L:List Ord)(len:Nat)(Sw:List Ord→Prop)(K a:Nat):Prop:=
 ∃bs rs t,Blk lt (2*K) bs∧Blk lt K rs∧Srt lt t∧t.length<K∧bs.flatten.length=a∧(bs.flatten++(rs.flatten++t)).length=len∧Cls lt L (bs.flatten++(rs.flatten++t))∧Sw (bs.flatten++(rs.flatten++t))
theorem PA.step {len:Nat}(h:PA lt L len Sw a)(ha:a+20≤len):
  ∃X A Y,X.length=a∧A.length=20∧(X++A++Y).length=len∧Sw (X++A++Y)∧∀(Sw':List Ord→Prop) (A':List Ord),Srt lt A'→Cls lt A A'→A'.length=A.length→Sw' (X++A'++Y)→PA lt L len Sw' (a+20):=by
 obtain⟨bs,Y,h1,h2,h3,h4,h5⟩:=h;have hY:20≤Y.length:=by rw[Zf] at h3;omega
 have e:Y=Y.take 20++Y.drop 20:=(Yr 20 Y).symm;have hl:(Y.take 20).length=20:=by rw[ZD];omega
 generalize Y.take 20=A at e hl;generalize Y.drop 20=Y' at e;subst e;refine⟨bs.flatten,A,Y',h2,hl,by rw[Zo];exact h3,by rw[Zo];exact h5,?_⟩;intro Sw' A' k1 k2 k3 k4;refine⟨bs++[A'],Y',h1.snoc (by omega) k1,by rw[Vy,Zf];omega,?_,?_,?_⟩
 ·rw[Vy];simp only[Zf] at h3 ⊢;omega
 ·rw[Vy,Zo];exact h4.trans ((Cls.refl _ _).app (k2.app (Cls.refl _ _)))
 ·rw[Vy];exact k4
theorem PA.last {len:Nat}(h:PA lt L len Sw a)(ha:¬a+20≤len):
  ∃X A,X.length=a∧X.length+A.length=len∧(X++A++[]).length=len∧Sw (X++A++[])∧∀(Sw':List Ord→Prop) (A':List Ord),Srt lt A'→Cls lt A A'→A'.length=A.length→Sw' (X++A'++[])→PB lt L len Sw' 20:=by
 obtain⟨bs,Y,h1,h2,h3,h4,h5⟩:=h;rw[Zf] at h3;refine⟨bs.flatten,Y,h2,h3,by simp only[ZG,Zf];exact h3,by rw[ZG];exact h5,?_⟩;intro Sw' A' k1 k2 k3 k4;rw[ZG] at k4;exact⟨bs,A',h1,k1,by omega,by rw[Zf];omega,h4.trans ((Cls.refl _ _).app k2),k4⟩
theorem PB.done {len:Nat}(h:PB lt L len Sw K)(hK:len≤K):∃C,Srt lt C∧Cls lt L C∧C.length=len∧Sw C:=by
 obtain⟨bs,t,h1,h2,h3,h4,h5,h6⟩:=h;refine⟨bs.flatten++t,?_,h5,h4,h6⟩;have hl:=h1.len;rw[Zf,hl] at h4
 match bs,h1,h4 with
 | [],_,_=>simpa using h2
 | [c],h1,h4=>
  have:t=[]:=Zx.1 (by simp at h4;omega);rw[this];simpa using (h1 c (by simp)).2
 | c::d::bs,h1,h4=>
  simp only[Zu,Nat.succ_mul] at h4;omega
theorem PC.step {len:Nat}(h:PC lt L len Sw K a)(ha:a+2*K≤len):
  ∃X A B Y,X.length=a∧A.length=K∧B.length=K∧(X++A++B++Y).length=len∧Srt lt A∧Srt lt B∧Sw (X++A++B++Y)∧∀(Sw':List Ord→Prop) (C:List Ord),Srt lt C→Cls lt (A++B) C→C.length=A.length+B.length→Sw' (X++C++Y)→PC lt L len Sw' K (a+2*K):=by
 obtain⟨bs,rs,t,h1,h2,h3,h4,h5,h6,h7,h8⟩:=h;have hl:=h2.len;have h6':a+(rs.length*K+t.length)=len:=by rw[←h6,Zf,Zf,h5,hl]
 match rs,h2,h6,h6',h7,h8 with
 | [],_,_,h6',_,_=>simp at h6';omega
 | [c],_,_,h6',_,_=>simp at h6';omega
 | A::B::rs,h2,h6,h6',h7,h8=>
  obtain⟨a1,a2⟩:=h2 A (by simp);obtain⟨b1,b2⟩:=h2 B (by simp);have e:∀C:List Ord,bs.flatten++C++(rs.flatten++t)=bs.flatten++(C++(rs.flatten++t)):=λC=>Zo _ _ _;have e1:bs.flatten++A++B++(rs.flatten++t)=bs.flatten++((A::B::rs).flatten++t):=by simp
  refine⟨bs.flatten,A,B,rs.flatten++t,h5,a1,b1,by rw[e1];exact h6,a2,b2,by rw[e1];exact h8,?_⟩;intro Sw' C k1 k2 k3 k4;refine⟨bs++[C],rs,t,h1.snoc (by omega) k1,λd hd=>h2 d (by simp[hd]),h3,h4,by rw[Vy,Zf];omega,?_,?_,?_⟩
  ·rw[Vy];rw[←e1] at h6;simp only[Zf] at h6 ⊢;omega
  ·rw[Vy,e];rw[←e1,Zo,Zo,←Zo A] at h7;exact h7.trans ((Cls.refl _ _).app (k2.app (Cls.refl _ _)))
  ·rw[Vy];exact k4
theorem PC.none {len:Nat}(h:PC lt L len Sw K a)(hb:¬a+K<len):PB lt L len Sw (2*K):=by
 obtain⟨bs,rs,t,h1,h2,h3,h4,h5,h6,h7,h8⟩:=h;have hl:=h2.len;have h6':a+(rs.length*K+t.length)=len:=by rw[←h6,Zf,Zf,h5,hl]
 match rs,h2,h6,h6',h7,h8 with
 | [],_,h6,h6',h7,h8=>exact⟨bs,t,h1,h3,by omega,by simpa using h6,by simpa using h7,by simpa using h8⟩
 | [A],h2,h6,h6',h7,h8=>
  obtain⟨a1,a2⟩:=h2 A (by simp);have ht:t=[]:=Zx.1 (by simp at h6';omega);subst ht;exact⟨bs,A,h1,a2,by simp at h4;omega,by simpa using h6,by simpa using h7,by simpa using h8⟩
 | A::B::rs,_,_,h6',_,_=>simp only[Zu,Nat.succ_mul] at h6';omega
end
section
open Go.Shelf Go.RowKit Go.Lib Go.Sort
attribute [local go_sem ↓] Go.wp_at_zero Go.wp_at_succ
def cmpI (x y:Int):Int:=if x<y then -1 else if y<x then 1 else 0
def or3 (x y z:Int):Int:=if x=0 then (if y=0 then z else y) else x
def byB (x y:Ord):Int:=or3 (cmpI x.qd y.qd) (cmpI x.qe.toNat y.qe.toNat) (if x.qe=66 then-cmpI x.qc y.qc else cmpI x.qc y.qc)
theorem XM (w:World)(cs:Array Value)(t:TypeId)(i:Nat)(v:Value)(h:cs[i]?=some v):(w.alloc (.cells cs t)).cell? ⟨w.heap.size,i,none⟩=some v:=by
 have hb:(w.alloc (.cells cs t)).heap[w.heap.size]?=some (.cells cs t):=by show(w.heap.push (.cells cs t))[w.heap.size]?=_;exact Array.getElem?_push_size
 exact(Zk _ _ i _ _ (0,0) hb).trans h
end
section
open Go.Shelf Go.RowKit Go.Lib Go.Sort
theorem Vb (x y:Ord):ltc byB x y=true↔x.qd<y.qd∨(x.qd=y.qd∧(x.qe.toNat<y.qe.toNat∨(x.qe.toNat=y.qe.toNat∧((x.qe.toNat=66∧y.qc<x.qc)∨(x.qe.toNat≠66∧x.qc<y.qc))))):=by
 have h66:x.qe=66↔x.qe.toNat=66:=⟨λh=>by rw[h];rfl,λh=>YG.1 h⟩;unfold ltc byB or3 cmpI;simp only[decide_eq_true_eq];by_cases hs:x.qe=66
 ·have h:=h66.1 hs;rw[Zg hs];repeat' split
  all_goals omega
 ·have h:¬x.qe.toNat=66:=λh=>hs (h66.2 h);rw[Zj hs];repeat' split
  all_goals omega
theorem Zeq :Swo (ltc byB):=by
 have e:∀x y,ltc byB x y=false↔¬ltc byB x y=true:=λx y=>by cases ltc byB x y<;>simp
 refine⟨λx => ?_,λx y z => ?_,λx y z => ?_⟩
 ·rw[e,Vb];omega
 ·rw[Vb,Vb,Vb];omega
 ·rw[Vb,Vb,Vb];omega
theorem Zbk (c x:Ord):eqv (ltc byB) c x=true↔x.qd=c.qd∧x.qe=c.qe∧x.qc=c.qc:=by
 have e:∀x y,ltc byB x y=false↔¬ltc byB x y=true:=λx y=>by cases ltc byB x y<;>simp
 have hs:x.qe=c.qe↔x.qe.toNat=c.qe.toNat:=⟨λh=>by rw[h],λh=>YG.1 h⟩;unfold eqv;rw[YM,Bool.not_eq_true',Bool.not_eq_true',e,e,Vb,Vb,hs];omega
theorem map_all (st:St):st.all.map tok0=(VG st.qk st.qj).flatMap λc=>(st.get c).map tok0:=by rw[VW,List.map_flatMap]
def coLe (a b:Co):Prop:=a.1<b.1∨(a.1=b.1∧(a.2.1.toNat<b.2.1.toNat∨(a.2.1.toNat=b.2.1.toNat∧((a.2.1.toNat=66∧b.2.2≤a.2.2)∨(a.2.1.toNat≠66∧a.2.2≤b.2.2)))))
theorem Zf9 (n:Nat){β:Type}(f:Nat→β)(P:β→β→Prop)(h:∀i j,i<j→j<n→P (f i) (f j)):((List.range n).map f).Pairwise P:=by rw[List.pairwise_map,List.pairwise_iff_getElem];intro i j hi hj hij;simp at hi hj;simp;exact h i j hij hj
theorem co_book (n s:Nat):(Uj n s).Pairwise coLe:=by
 unfold Uj;rw[Yq];refine⟨Zf9 n _ _ λi j h1 h2 => ?_,Zf9 n _ _ λi j h1 h2 => ?_,?_⟩
 ·exact .inr ⟨rfl,.inr ⟨rfl,.inl ⟨rfl,by show n-j≤n-i;omega⟩⟩⟩
 ·exact .inr ⟨rfl,.inr ⟨rfl,.inr ⟨by show(83:UInt8).toNat≠66;decide,by show i+1≤j+1;omega⟩⟩⟩
 ·intro a ha b hb;simp only[Zdh,Zdq,ZP] at ha hb;obtain⟨r,_,rfl⟩:=ha;obtain⟨t,_,rfl⟩:=hb;exact .inr ⟨rfl,.inl (by show(66:UInt8).toNat<(83:UInt8).toNat;decide)⟩
theorem co_all (m n:Nat):(VG m n).Pairwise coLe:=by
 induction m with
 | zero=>simp[VG]
 | succ m ih=>
  have:VG (m+1) n=VG m n++Uj n m:=by simp[VG,List.range_succ]
  rw[this,Yq];refine⟨ih,co_book n m,?_⟩;intro a ha b hb;have h1:=(Ue m n a).1 ha;have h2:=(UU n m b).1 hb;exact .inl (by omega)
theorem srt_all {st:St}(hi:Inv st):Srt (ltc byB) (st.all.map tok0):=by
 rw[map_all];unfold Srt;have e:∀x y,ltc byB x y=false↔¬ltc byB x y=true:=λx y=>by cases ltc byB x y<;>simp
 rw[List.pairwise_flatMap];refine⟨?_,(co_all _ _).imp ?_⟩
 ·intro c hc;rw[List.pairwise_map];refine List.pairwise_iff_forall_sublist.2 ?_;intro a b hab;have ha:a∈st.get c:=hab.subset (by simp);have hb:b∈st.get c:=hab.subset (by simp);have fa:=hi.ord _ _ _ a ha;have fb:=hi.ord _ _ _ b hb;rw[e,Vb];have q1:(tok0 a).qd=(tok0 b).qd:=fa.qd.trans fb.qd.symm;have q2:(tok0 a).qe=(tok0 b).qe:=fa.qe.trans fb.qe.symm;have q3:(tok0 a).qc=(tok0 b).qc:=fa.qc.trans fb.qc.symm;rw[q1,q2,q3];omega
 ·intro c c' hcc x hx y hy;obtain⟨a,ha,rfl⟩:=ZP.1 hx;obtain⟨b,hb,rfl⟩:=ZP.1 hy;have fa:=hi.ord _ _ _ a ha;have fb:=hi.ord _ _ _ b hb;have q1:(tok0 a).qd=c.1:=fa.qd;have q2:(tok0 a).qe=c.2.1:=fa.qe;have q3:(tok0 a).qc=c.2.2:=fa.qc;have r1:(tok0 b).qd=c'.1:=fb.qd;have r2:(tok0 b).qe=c'.2.1:=fb.qe;have r3:(tok0 b).qc=c'.2.2:=fb.qc;rw[e,Vb,q1,q2,q3,r1,r2,r3];unfold coLe at hcc;omega
def Vt (x o:Ord):Bool:=!ltc byB o x
def insO (o:Ord):List Ord→List Ord
 | []=>[o]
 | x::l=>if Vt x o then x::insO o l else o::x::l
def rfind (S:List Ord)(t:Nat):Option Nat:=S.findIdx? (λo=>o.ref==t)
def VF (S:List Ord)(i:Option Nat)(n:Nat)(all:Bool):Option (List Ord):=
 match i with
 | none=>none
 | some i=>match S[i]? with
  | none=>none
  | some o=>if n=0∨o.qa<n∨(n=o.qa∧all=false) then none else if n=o.qa then some (S.eraseIdx i) else some (S.set i {o with qa:=o.qa-n})
def VX (S:List Ord)(i:Option Nat)(f:List UInt8):Option (List Ord):=
 match i with
 | none=>none
 | some i=>match S[i]? with
  | none=>none
  | some o=>if at_ f 8 2=0∨((rfind S (at_ f 4 4)).isSome∧rfind S (at_ f 4 4)≠some i) then none
   else if at_ f 10 2=o.qc∧at_ f 8 2≤o.qa then some (S.set i (fNew o f)) else some (insO (fNew o f) (S.eraseIdx i))
def XD (S:List Ord)(c:UInt8)(f:List UInt8):Option (List Ord):=
 if c=97 then (if (rfind S (at_ f 0 4)).isSome∨¬(Xa f 4=66∨Xa f 4=83)∨at_ f 6 2=0 then none else some (insO (fOrd f) S))
 else if c=101 then VF S (rfind S (at_ f 0 4)) (at_ f 4 2) true
 else if c=120 then VF S (rfind S (at_ f 0 4)) (at_ f 4 2) false
 else if c=117 then VX S (rfind S (at_ f 0 4)) f
 else (rfind S (at_ f 0 4)).map λi=>S.eraseIdx i
def rb :Nat→List Ord→List UInt8→Option (List Ord)×List UInt8
 | 0,S,b=>(some S,b)
 | k+1,S,b=>
  if b=[] then (some S,[]) else
  if Xn (Xa b 0)=0∨b.length<Xn (Xa b 0) then (none,b) else
  match XD S (Xa b 0) ((b.take (Xn (Xa b 0))).drop 7) with
  | none=>(none,b)
  | some S'=>rb k S' (b.drop (Xn (Xa b 0)))
instance:DecidableEq Ord:=λa b=>decidable_of_iff (a.ref=b.ref∧a.qf=b.qf∧a.qe=b.qe∧a.qd=b.qd∧a.qc=b.qc∧a.qa=b.qa) (by cases a;cases b;simp)
theorem Cls.perm (hw:Swo lt)(h:Cls lt L R):L.Perm R:=by
 rw[List.perm_iff_count];intro a;have he:eqv lt a a=true:=by simp[eqv,hw.irr]
 rw[←List.count_filter (p:=eqv lt a) (l:=L) he,←List.count_filter (p:=eqv lt a) (l:=R) he,h a]
structure Sm (L S:List Ord):Prop where
 srt:Srt (ltc byB) S
 cls:Cls (ltc byB) (L.filter alive) S
 nd:(S.map (·.ref)).Nodup
theorem Sm.perm (h:Sm L S):(L.filter alive).Perm S:=h.cls.perm Zeq
theorem Sm.live (h:Sm L S)(ho:o∈S):o∈L∧o.qa≠0:=by have:=h.perm.mem_iff.2 ho;rw[Yt] at this;exact⟨this.1,by simpa[alive] using this.2⟩
theorem Sm.mem (h:Sm L S)(ho:o∈L)(h0:o.qa≠0):o∈S:=h.perm.mem_iff.1 (Yt.2 ⟨ho,by simp[alive,h0]⟩)
theorem Sm.uq (h:Sm L S):((L.filter alive).map (·.ref)).Nodup:=(h.perm.map (·.ref)).nodup_iff.2 h.nd
theorem Qr (h:rfind S t=none):∀o∈S,o.ref≠t:=by intro o ho;have:=List.findIdx?_eq_none_iff.1 h o ho;simpa using this
theorem Vr (h:rfind S t=some i):∃o,S[i]?=some o∧o.ref=t∧∃S1 S2,S=S1++o::S2∧S1.length=i:=by obtain⟨hi,hp,-⟩:=Yy.1 h;refine⟨S[i],Zp hi,by simpa using hp,S.take i,S.drop (i+1),?_,by rw[ZD];omega⟩;rw[←YI hi,Yr]
theorem Sm.find (h:Sm L S)(t:Nat):(rfind S t=none∧liv L t=none)∨∃i o S1 S2 A B,rfind S t=some i∧S[i]?=some o∧S=S1++o::S2∧S1.length=i∧L=A++o::B∧liv L t=some o∧o.ref=t∧o.qa≠0∧(∀x∈A,isR t x=false)∧(∀x∈B,isR t x=false)∧(∀x∈S1,x.ref≠t)∧(∀x∈S2,x.ref≠t):=by
 cases hf:rfind S t with
 | none=>
  left
  refine⟨rfl,?_⟩;cases hl:liv L t with
  | none=>rfl
  | some o=>
   have hr:=(Xy _ _).1 (List.find?_some hl);exact absurd hr.1 (Qr hf o (h.mem (List.mem_of_find?_eq_some hl) hr.2))
 | some i=>
  right
  obtain⟨o,h1,h2,S1,S2,h3,h4⟩:=Vr hf;have hoS:o∈S:=ZW h1;obtain⟨hoL,h0⟩:=h.live hoS;obtain⟨A,B,rfl⟩:=YV hoL;have hal:alive o=true:=by simp[alive,h0]
  have hu:=h.uq;rw[ZS,Yc hal,ZH,ZV,Ya] at hu;obtain⟨u1,u2,u3⟩:=hu;rw[ZK] at u2;have hA:∀x∈A,isR t x=false:=by
   intro x hx;cases hr:isR t x with
   | false=>rfl
   | true=>
    rw[Xy] at hr;have m1:x.ref∈(A.filter alive).map (·.ref):=ZP.2 ⟨x,Yt.2 ⟨hx,by simp[alive,hr.2]⟩,rfl⟩;exact absurd (hr.1.trans h2.symm) (u3 _ m1 o.ref (by simp))
  have hB:∀x∈B,isR t x=false:=by
   intro x hx;cases hr:isR t x with
   | false=>rfl
   | true=>
    rw[Xy] at hr;have m1:x.ref∈(B.filter alive).map (·.ref):=ZP.2 ⟨x,Yt.2 ⟨hx,by simp[alive,hr.2]⟩,rfl⟩;rw[hr.1,←h2] at m1;exact absurd m1 u2.1
  have hn:=h.nd;rw[h3,ZH,ZV,Ya,ZK] at hn;refine⟨i,o,S1,S2,A,B,rfl,h1,h3,h4,rfl,liv_at hA ((Xy _ _).2 ⟨h2,h0⟩),h2,h0,hA,hB,?_,?_⟩
  ·intro x hx e;exact hn.2.2 x.ref (ZP.2 ⟨x,hx,rfl⟩) o.ref (by simp) (e.trans h2.symm)
  ·intro x hx e;exact hn.2.1.1 (ZP.2 ⟨x,hx,e.trans h2.symm⟩)
def sameP (x o:Ord):Prop:=x.qd=o.qd∧x.qe=o.qe∧x.qc=o.qc
theorem same_eqv (h:sameP x o)(c:Ord):eqv (ltc byB) c x=eqv (ltc byB) c o:=by have h1:=Zbk c x;have h2:=Zbk c o;rw[h.1,h.2.1,h.2.2] at h1;cases ha:eqv (ltc byB) c x<;>cases hb:eqv (ltc byB) c o<;>simp_all
theorem Zjm (h:sameP x o)(c:Ord):ltc byB c x=ltc byB c o∧ltc byB x c=ltc byB o c:=by have e1:=Vb c x;have e2:=Vb c o;have e3:=Vb x c;have e4:=Vb o c;rw[h.1,h.2.1,h.2.2] at e1 e3;exact⟨Bool.eq_iff_iff.2 (e1.trans e2.symm),Bool.eq_iff_iff.2 (e3.trans e4.symm)⟩
theorem Sm.turn (h:Sm (A++o::B) (S1++o::S2))(h0:o.qa≠0)(hA:∀x∈A,isR o.ref x=false)(hS:∀x∈S1,x.ref≠o.ref)(y:Ord)(hy:sameP y o)(hr:y.qa=0∨∀x∈S1++S2,x.ref≠y.ref):
  Sm (A++y::B) (S1++(XS y++S2)):=by
 have hal:alive o=true:=by simp[alive,h0]
 have hfy:(A++y::B).filter alive=A.filter alive++(XS y++B.filter alive):=by
  rw[ZS]
  congr 1
  by_cases e:y.qa=0
  ·rw[YE (by simp[alive,e]),XS,Zg e];rfl
  ·rw[Yc (by simp[alive,e]),XS,Zj e];rfl
 have hfo:(A++o::B).filter alive=A.filter alive++o::B.filter alive:=by rw[ZS,Yc hal]
 have hlv:∀c,(XS y).filter (eqv (ltc byB) c)=if eqv (ltc byB) c o then XS y else []:=by
  intro c;unfold XS;split
  ·simp
  ·rw[List.filter_cons,same_eqv hy c];simp
 have hnA:o∉A:=λhm=>by have:=hA o hm;rw[(Xy _ _).2 ⟨rfl,h0⟩] at this;cases this
 have hnS:o∉S1:=λhm=>hS o hm rfl;refine⟨?_,?_,?_⟩
 ·have hs:=h.srt;unfold Srt at hs ⊢;rw[Yq,Yn] at hs;obtain⟨s1,⟨s2,s3⟩,s4⟩:=hs;by_cases e:y.qa=0
  ·rw[XS,Zg e,Zr,Yq];exact⟨s1,s3,λa ha b hb=>s4 a ha b (by simp[hb])⟩
  ·rw[XS,Zj e,List.singleton_append,Yq,Yn];refine⟨s1,⟨λb hb => ?_,s3⟩,λa ha b hb => ?_⟩
   ·rw[(Zjm hy b).1];exact s2 b hb
   ·rcases ZL.1 hb with rfl|hb
    ·rw[(Zjm hy a).2];exact s4 a ha o (by simp)
    ·exact s4 a ha b (by simp[hb])
 ·intro c;have hc:=h.cls c;rw[hfo,ZS,ZS,List.filter_cons,List.filter_cons] at hc;rw[hfy,ZS,ZS,ZS,ZS,hlv c];by_cases e:eqv (ltc byB) c o=true
  ·rw[Zg e,Zg e] at hc;obtain⟨e1,e2⟩:=Zdr o _ _ _ _ hc (λhm=>hnA (Yt.1 (Yt.1 hm).1).1) (λhm=>hnS (Yt.1 hm).1);rw[e1,e2]
  ·rw[Zj e,Zj e] at hc;rw[Zj e,Zr,Zr,hc]
 ·have hn:=h.nd;rw[ZH,ZV,Ya,ZK] at hn;obtain⟨n1,⟨n2,n3⟩,n4⟩:=hn;by_cases e:y.qa=0
  ·rw[XS,Zg e,Zr,ZH,Ya];exact⟨n1,n3,λa ha b hb=>n4 a ha b (by simp[hb])⟩
  ·have hr':∀x∈S1++S2,x.ref≠y.ref:=hr.resolve_left e;rw[XS,Zj e,List.singleton_append,ZH,ZV,Ya,ZK];refine⟨n1,⟨λhm => ?_,n3⟩,λa ha b hb => ?_⟩
   ·obtain⟨x,hx,ex⟩:=ZP.1 hm;exact hr' x (by simp[hx]) ex
   ·rcases ZL.1 hb with rfl|hb
    ·obtain⟨x,hx,ex⟩:=ZP.1 ha;rw[←ex];exact hr' x (by simp[hx])
    ·exact n4 a ha b (by simp[hb])
theorem Zeh (o:Ord)(S:List Ord)(hs:Srt (ltc byB) S):∃P Q,S=P++Q∧insO o S=P++o::Q∧(∀x∈P,ltc byB o x=false)∧(∀x∈Q,ltc byB o x=true):=by
 induction S with
 | nil=>exact⟨[],[],rfl,rfl,λx hx=>(by cases hx),λx hx=>(by cases hx)⟩
 | cons x S ih=>
  unfold Srt at hs;rw[Yn] at hs;unfold insO;by_cases hx:ltc byB o x=true
  ·rw[Zj (by simp[Vt,hx])];refine⟨[],x::S,rfl,rfl,λy hy=>(by cases hy),?_⟩;intro y hy;rcases ZL.1 hy with rfl|hy
   ·exact hx
   ·exact Zeq.lt_le hx (hs.1 y hy)
  ·have hx':ltc byB o x=false:=by simpa using hx
   rw[Zg (by simp[Vt,hx'])];obtain⟨P,Q,e1,e2,e3,e4⟩:=ih hs.2;refine⟨x::P,Q,by rw[e1];rfl,by rw[e2];rfl,?_,e4⟩;intro y hy;rcases ZL.1 hy with rfl|hy
   ·exact hx'
   ·exact e3 y hy
theorem Sm.ins (h:Sm L S)(h0:o.qa≠0)(hr:∀x∈S,x.ref≠o.ref):Sm (L++[o]) (insO o S):=by
 obtain⟨P,Q,e1,e2,e3,e4⟩:=Zeh o S h.srt;have hs:=h.srt;have hn:=h.nd;have hc:=h.cls;rw[e1] at hs hn hc hr;rw[e2];unfold Srt at hs;rw[Yq] at hs;rw[ZH,Ya] at hn;refine⟨?_,?_,?_⟩
 ·unfold Srt;rw[Yq,Yn];refine⟨hs.1,⟨λy hy=>Zeq.asym (e4 y hy),hs.2.1⟩,λa ha b hb => ?_⟩;rcases ZL.1 hb with rfl|hb
  ·exact e3 a ha
  ·exact hs.2.2 a ha b hb
 ·intro c;have hfo:(L++[o]).filter alive=L.filter alive++[o]:=by rw[ZS,Yc (by simp[alive,h0])];rfl
  rw[hfo,ZS,hc c,ZS,ZS,List.filter_cons];by_cases e:eqv (ltc byB) c o=true
  ·have hq:Q.filter (eqv (ltc byB) c)=[]:=by rw[List.filter_eq_nil_iff];intro x hx he;have h1:=(Zbk c x).1 he;have h2:=(Zbk c o).1 e;have h3:=e4 x hx;rw[Vb,h1.1,h1.2.1,h1.2.2,h2.1,h2.2.1,h2.2.2] at h3;omega
   rw[Zg e,hq,ZG,Yc e,hq];rfl
  ·rw[Zj e];simp[e]
 ·rw[ZH,ZV,Ya,ZK];refine⟨hn.1,⟨λhm => ?_,hn.2.1⟩,λa ha b hb => ?_⟩
  ·obtain⟨x,hx,ex⟩:=ZP.1 hm;exact hr x (by simp[hx]) ex
  ·rcases ZL.1 hb with rfl|hb
   ·obtain⟨x,hx,ex⟩:=ZP.1 ha;rw[←ex];exact hr x (by simp[hx])
   ·exact hn.2.2 a ha b hb
theorem TK {α:Type}(A B:List α)(o y:α):(A++o::B).set A.length y=A++y::B:=by simp
theorem UQ {α:Type}(A B:List α)(o:α):(A++o::B).eraseIdx A.length=A++B:=by simp[List.eraseIdx_append_of_length_le]
theorem Sm.gone (h:Sm L S){n:Nat}(h3:S=S1++o::S2)(h4:S1.length=i)(h5:L=A++o::B)(h7:o.ref=t)(h0:o.qa≠0)(hA:∀x∈A,isR t x=false)(hB:∀x∈B,isR t x=false)(k1:∀x∈S1,x.ref≠t)(k2:∀x∈S2,x.ref≠t):
  Sm (XP t n L) (if o.qa≤n then S.eraseIdx i else S.set i {o with qa:=o.qa-n}):=by
 subst h3 h4 h5 h7;have ht:=h.turn h0 hA k1 {o with qa:=o.qa-n} ⟨rfl,rfl,rfl⟩ (.inr (by intro x hx;rcases ZE.1 hx with hx|hx;exact k1 x hx;exact k2 x hx));have hc:XP o.ref n (A++o::B)=A++{o with qa:=o.qa-n}::B:=ch_at _ hA hB ((Xy _ _).2 ⟨rfl,h0⟩);rw[hc];by_cases e:o.qa≤n
 ·rw[Zg e,UQ];rw[XS,Zg (by show o.qa-n=0;omega),Zr] at ht;exact ht
 ·rw[Zj e,TK];rw[XS,Zj (by show ¬o.qa-n=0;omega)] at ht;exact ht
theorem Sm.step (h:Sm L S)(c:UInt8)(hc:Xn c≠0)(f:List UInt8):(fol L c f=none∧XD S c f=none)∨∃L' S',fol L c f=some L'∧XD S c f=some S'∧Sm L' S':=by
 have hl:∀t,liv L t=none→Xz L t=0:=λt e=>by unfold Xz;rw[e]
 by_cases c1:c=97
 ·subst c1;show(Tz L f=none∧(if (rfind S (at_ f 0 4)).isSome∨¬(Xa f 4=66∨Xa f 4=83)∨at_ f 6 2=0 then none else some (insO (fOrd f) S))=none)∨∃L' S',Tz L f=some L'∧(if (rfind S (at_ f 0 4)).isSome∨¬(Xa f 4=66∨Xa f 4=83)∨at_ f 6 2=0 then none else some (insO (fOrd f) S))=some S'∧Sm L' S';unfold Tz;rcases h.find (at_ f 0 4) with⟨f1,f2⟩|⟨i,o,S1,S2,A,B,f1,f2,f3,f4,f5,f6,f7,f8,f9⟩
  ·rw[hl _ f2,f1];by_cases hb:¬(Xa f 4=66∨Xa f 4=83)∨at_ f 6 2=0
   ·left
    rw[Zg (Or.inr hb),Zg (Or.inr hb)];exact⟨rfl,rfl⟩
   ·right
    rw[Zj (by intro hh;rcases hh with hh|hh;exact hh rfl;exact hb hh),Zj (by intro hh;rcases hh with hh|hh;cases hh;exact hb hh)];exact⟨_,_,rfl,rfl,h.ins (o:=fOrd f) (λe=>hb (Or.inr e)) (Qr f1)⟩
  ·left
   rw[Zg (Or.inl (by rw[VD f6];exact f8)),Zg (Or.inl (by rw[f1];rfl))];exact⟨rfl,rfl⟩
 ·by_cases c2:c=101
  ·subst c2;show(Qy L f=none∧VF S (rfind S (at_ f 0 4)) (at_ f 4 2) true=none)∨∃L' S',Qy L f=some L'∧VF S (rfind S (at_ f 0 4)) (at_ f 4 2) true=some S'∧Sm L' S';unfold Qy;rcases h.find (at_ f 0 4) with⟨f1,f2⟩|⟨i,o,S1,S2,A,B,f1,f2,f3,f4,f5,f6,f7,f8,f9,f10,f11,f12⟩
   ·left
    rw[hl _ f2,f1,Zg (by omega)];exact⟨rfl,rfl⟩
   ·rw[VD f6,f1];simp only[VF,f2];by_cases hb:at_ f 4 2=0∨o.qa<at_ f 4 2
    ·left
     rw[Zg hb,Zg (by rcases hb with hb|hb;exact Or.inl hb;exact Or.inr (Or.inl hb))];exact⟨rfl,rfl⟩
    ·right
     rw[Zj hb,Zj (by rintro(hh|hh|hh);exact hb (Or.inl hh);exact hb (Or.inr hh);cases hh.2)];have hg:=h.gone (n:=at_ f 4 2) f3 f4 f5 f7 f8 f9 f10 f11 f12;by_cases e:at_ f 4 2=o.qa
     ·rw[Zg e];rw[Zg (by omega)] at hg;exact⟨_,_,rfl,rfl,hg⟩
     ·rw[Zj e];rw[Zj (by omega)] at hg;exact⟨_,_,rfl,rfl,hg⟩
  ·by_cases c3:c=120
   ·subst c3;show(QA L f=none∧VF S (rfind S (at_ f 0 4)) (at_ f 4 2) false=none)∨∃L' S',QA L f=some L'∧VF S (rfind S (at_ f 0 4)) (at_ f 4 2) false=some S'∧Sm L' S';unfold QA;rcases h.find (at_ f 0 4) with⟨f1,f2⟩|⟨i,o,S1,S2,A,B,f1,f2,f3,f4,f5,f6,f7,f8,f9,f10,f11,f12⟩
    ·left
     rw[hl _ f2,f1,Zg (by omega)];exact⟨rfl,rfl⟩
    ·rw[VD f6,f1];simp only[VF,f2];by_cases hb:at_ f 4 2=0∨o.qa≤at_ f 4 2
     ·left
      rw[Zg hb,Zg (by rcases hb with hb|hb;exact Or.inl hb;by_cases e:o.qa=at_ f 4 2;exact Or.inr (Or.inr ⟨e.symm,trivial⟩);exact Or.inr (Or.inl (by omega)))];exact⟨rfl,rfl⟩
     ·right
      rw[Zj hb,Zj (by rintro(hh|hh|hh);exact hb (Or.inl hh);exact hb (Or.inr (by omega));exact hb (Or.inr (by omega)))];have hg:=h.gone (n:=at_ f 4 2) f3 f4 f5 f7 f8 f9 f10 f11 f12;rw[Zj (by omega)];rw[Zj (by omega)] at hg;exact⟨_,_,rfl,rfl,hg⟩
   ·by_cases c4:c=100
    ·subst c4;show(QH L f=none∧(rfind S (at_ f 0 4)).map (λi=>S.eraseIdx i)=none)∨∃L' S',QH L f=some L'∧(rfind S (at_ f 0 4)).map (λi=>S.eraseIdx i)=some S'∧Sm L' S';unfold QH;rcases h.find (at_ f 0 4) with⟨f1,f2⟩|⟨i,o,S1,S2,A,B,f1,f2,f3,f4,f5,f6,f7,f8,f9,f10,f11,f12⟩
     ·left
      rw[hl _ f2,f1];exact⟨rfl,rfl⟩
     ·right
      rw[VD f6,f1,Zj f8];have hg:=h.gone (n:=o.qa) f3 f4 f5 f7 f8 f9 f10 f11 f12;rw[Zg (Zh _)] at hg;exact⟨_,_,rfl,rfl,hg⟩
    ·by_cases c5:c=117
     ·subst c5;show(Za1 L f=none∧VX S (rfind S (at_ f 0 4)) f=none)∨∃L' S',Za1 L f=some L'∧VX S (rfind S (at_ f 0 4)) f=some S'∧Sm L' S';unfold Za1;rcases h.find (at_ f 0 4) with⟨f1,f2⟩|⟨i,o,S1,S2,A,B,f1,f2,f3,f4,f5,f6,f7,f8,f9,f10,f11,f12⟩
      ·left
       rw[f1,f2];exact⟨rfl,rfl⟩
      ·rw[f1,f6];simp only[VX,f2];have hcond:((at_ f 4 4≠at_ f 0 4∧Xz L (at_ f 4 4)≠0)∨at_ f 8 2=0)↔(at_ f 8 2=0∨((rfind S (at_ f 4 4)).isSome=true∧rfind S (at_ f 4 4)≠some i)):=by
        rcases h.find (at_ f 4 4) with⟨g1,g2⟩|⟨j,p,-,-,-,-,g1,g2,-,-,-,g6,g7,g8,-⟩
        ·rw[hl _ g2,g1];simp
        ·rw[VD g6,g1];have:(at_ f 4 4≠at_ f 0 4)↔some j≠some i:=by
          constructor
          ·intro hne e;cases e;rw[f2] at g2;cases g2;exact hne (g7.symm.trans f7)
          ·intro hne e;rw[e,f1] at g1;exact hne g1.symm
         rw[this];simp[g8];exact Or.comm
       by_cases hb:at_ f 8 2=0∨((rfind S (at_ f 4 4)).isSome=true∧rfind S (at_ f 4 4)≠some i)
       ·left
        rw[Zg (hcond.2 hb),Zg hb];exact⟨rfl,rfl⟩
       ·right
        rw[Zj (λhh=>hb (hcond.1 hh)),Zj hb];have hsh:(fNew o f).qa≠0:=λe=>hb (Or.inl e);have hfr:∀x∈S1++S2,x.ref≠(fNew o f).ref:=by
         intro x hx e;have e':x.ref=at_ f 4 4:=e;have hxS:x∈S:=by
          rw[f3];rcases ZE.1 hx with hx|hx
          ·simp[hx]
          ·simp[hx]
         have hxt:x.ref≠at_ f 0 4:=by
          rcases ZE.1 hx with hx|hx
          ·exact f11 x hx
          ·exact f12 x hx
         refine hb (Or.inr ⟨?_,?_⟩)
         ·cases hq:rfind S (at_ f 4 4) with
          | none=>exact absurd e' (Qr hq x hxS)
          | some j=>rfl
         ·intro hq;obtain⟨p,p1,p2,-⟩:=Vr hq;rw[f2] at p1;cases p1;exact hxt (e'.trans (p2.symm.trans f7))
        by_cases hk:at_ f 10 2=o.qc∧at_ f 8 2≤o.qa
        ·rw[Zg hk,Zg hk];refine⟨_,_,rfl,rfl,?_⟩;subst f3 f4 f5;have ht:=Sm.turn h f8 (by rw[f7];exact f9) (by rw[f7];exact f11) (fNew o f) ⟨rfl,rfl,hk.1⟩ (.inr hfr);rw[XS,Zj hsh] at ht;rw[TK];have hch:chL (at_ f 0 4) (λ_=>fNew o f) (A++o::B)=A++fNew o f::B:=ch_at _ f9 f10 ((Xy _ _).2 ⟨f7,f8⟩);rw[hch];exact ht
        ·rw[Zj hk,Zj hk];refine⟨_,_,rfl,rfl,?_⟩;have hg:=h.gone (n:=o.qa) f3 f4 f5 f7 f8 f9 f10 f11 f12;rw[Zg (Zh _)] at hg;refine hg.ins hsh ?_;intro x hx;refine hfr x ?_;rw[f3,←f4,UQ] at hx;exact hx
     ·exfalso;apply hc;unfold Xn;rw[Zj c1,Zj c2,Zj c3,Zj c4,Zj c5]
theorem Sm.nil :Sm [] []:=⟨List.Pairwise.nil,Cls.refl _ _,List.nodup_nil⟩
theorem Sm.tb (k:Nat):∀(L S:List Ord) (b:List UInt8),Sm L S→((tb k L b).1=none∧(rb k S b).1=none∧(tb k L b).2=(rb k S b).2)∨∃L' S',(Go.Proofs.YtphkchjejbffeaaGreat.tb k L b).1=some L'∧(rb k S b).1=some S'∧Sm L' S':=by
 induction k with
 | zero=>intro L S b h;exact .inr ⟨L,S,rfl,rfl,h⟩
 | succ k ih=>
  intro L S b h;by_cases hb:b=[]
  ·subst hb;exact .inr ⟨L,S,rfl,rfl,h⟩
  ·by_cases hs:Xn (Xa b 0)=0∨b.length<Xn (Xa b 0)
   ·left
    have e1:Go.Proofs.YtphkchjejbffeaaGreat.tb (k+1) L b=(none,b):=by show(if _ then _ else _)=_;rw[Zj hb,Zg hs]
    have e2:rb (k+1) S b=(none,b):=by show(if _ then _ else _)=_;rw[Zj hb,Zg hs]
    rw[e1,e2];exact⟨rfl,rfl,rfl⟩
   ·have e1:Go.Proofs.YtphkchjejbffeaaGreat.tb (k+1) L b=match fol L (Xa b 0) ((b.take (Xn (Xa b 0))).drop 7) with
     | none=>(none,b)
     | some L'=>Go.Proofs.YtphkchjejbffeaaGreat.tb k L' (b.drop (Xn (Xa b 0))):=by
     show(if _ then _ else _)=_;rw[Zj hb,Zj hs];rfl
    have e2:rb (k+1) S b=match XD S (Xa b 0) ((b.take (Xn (Xa b 0))).drop 7) with
     | none=>(none,b)
     | some L'=>rb k L' (b.drop (Xn (Xa b 0))):=by
     show(if _ then _ else _)=_;rw[Zj hb,Zj hs]
    rcases h.step (Xa b 0) (λe=>hs (Or.inl e)) ((b.take (Xn (Xa b 0))).drop 7) with⟨g1,g2⟩|⟨L',S',g1,g2,g3⟩
    ·left
     rw[e1,e2,g1,g2];exact⟨rfl,rfl,rfl⟩
    ·rw[e1,e2,g1,g2];exact ih L' S' _ g3
end
end Go.Proofs.YtphkchjejbffeaaGreat
